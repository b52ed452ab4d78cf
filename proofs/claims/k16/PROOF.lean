import PyProof.Rows.All
import Wide.All
import OpenK.AllK
import Wide.FinOn
import Lean
import PyProof.EqAt
import PyProof.EqKinds
import PyProof.TupleCall
import PySem.Syntax
import PySem.Str
import PySem.Sem
import PySem.Builtin.Int.W1All
import PySem.Builtin.Str.Common
import PySem.Builtin.Range.Common
import KE.IntText
import KE.KSortAsk
import PyProof.IsRules
import PyProof.NeKinds
import PyProof.DictWalks
import PyProof.EnumMake
import PyProof.EnumFor
import PyProof.ZipIter
import PyProof.Rows.EnumRows
import PyProof.Rows.FactsT2
import KE.KRevIter
import PyProof.CompFree
import PyProof.CompUse
import PyProof.Cells
import PyProof.ConsumeWalk
import PyProof.IsInstanceH
import PyProof.IsiNone
import PyProof.SumWalkG
import PyProof.Rows.SumGenD
import PyProof.ListRange
import PyProof.MinMaxWalk
import PyProof.WalkInts
import PyProof.Conv_int_bool
import PyProof.Rows.CallKwBuiltin
import KE.KDictList
import KE.KSortTup
import KE.KSorted
import KE.KSort
import KE.KIntText
import PyProof.Rows.SeqMore
import PyProof.Rows.StrJoin2
import PyProof.Rows.StrSplitAre
import PyProof.Rows.StrSplitJoin
import PySem.Challenge.RW_patchsquare_k16_whole_rows_mended
set_option Elab.async false
set_option linter.all false
set_option maxRecDepth 100000
set_option maxHeartbeats 0
abbrev aa:=@List.mem_cons_of_mem
abbrev ab:=@Option.map_eq_some_iff
abbrev ae:=@List.mem_cons_self
abbrev ag:=@List.getD_eq_getElem?_getD
abbrev ah:=@Option.bind_eq_some_iff
abbrev ai:=@List.getElem?_set_ne
abbrev aj:=@List.length_map
abbrev ak:=@List.getElem?_eq_some_iff
abbrev ao:=@List.getElem?_set_self
abbrev aq:=@List.mem_append_right
abbrev au:=@List.mem_map
abbrev av:=@List.getElem?_map
abbrev aw:=@Nat.le_refl
abbrev ax:=@Bool.and_eq_true
abbrev ay:=@List.length_set
abbrev az:=@List.mem_cons
abbrev ba:=@List.map_cons
abbrev bc:=@List.getElem?_eq_getElem
abbrev bf:=@List.mem_append_left
abbrev bg:=@Nat.lt_of_lt_of_le
abbrev bh:=@List.size_toArray
abbrev bj:=@Bool.false_ne_true
abbrev bo:=@List.mem_append
abbrev bq:=@List.map_map
abbrev br:=@Nat.xor_assoc
abbrev bt:=@List.nodup_append
abbrev bu:=@List.mem_of_getElem?
abbrev bw:=@List.length_append
abbrev bz:=@Option.some.inj
abbrev cg:=@List.append_nil
abbrev cj:=@Nat.ne_of_lt
abbrev cm:=@List.mem_filter
abbrev cq:=@PySem.mem_of_lookup
abbrev cu:=@Nat.zero_xor
abbrev cv:=@Nat.le_trans
abbrev cx:=@List.getElem?_mapIdx
abbrev cy:=@List.all_eq_true
abbrev cz:=@Int.toNat_natCast
abbrev c7:=@List.nodup_nil
abbrev c9:=@List.length_replicate
abbrev da:=@PyProof.Rows.callWith_type1
abbrev de:=@Nat.zero_le
abbrev df:=@List.replicate_succ
abbrev dg:=@List.length_range
abbrev dh:=@List.mem_singleton
abbrev dk:=@List.nodup_cons
abbrev dm:=@List.getElem?_append_left
abbrev dn:=@List.map_congr_left
abbrev dq:=@List.append_assoc
abbrev dt:=@List.pairwise_cons
abbrev du:=@List.length_cons
abbrev dw:=@List.getElem?_append_right
abbrev dz:=@List.all_cons
abbrev ef:=@List.contains_iff_mem
abbrev eh:=@List.length_take
abbrev en:=@PySem.F.plainAttrs_list
abbrev eo:=@List.getElem?_replicate
abbrev eu:=@List.any_cons
abbrev fb:=@List.mem_range
abbrev fe:=@List.flatten_cons
abbrev ff:=@Nat.lt_irrefl
abbrev fh:=@List.length_filter_le
abbrev fi:=@Int.natCast_nonneg
abbrev fk:=@Int.emod_lt_of_pos
abbrev fm:=@List.map_append
abbrev fq:=@Nat.xor_self
abbrev ft:=@List.getElem?_range
abbrev fu:=@List.length_drop
section
namespace L2
open PySem PySem.Spec PyProof.Rows
noncomputable abbrev Key:=Sum Int Str
noncomputable def lB:Key→Value→Bool
 |.inl k,v=>Value.isInt k v
 |.inr x,v=>Value.isStrOf x v
noncomputable def keyH (w:World):Key→Int
 |.inl k=>hashInt k
 |.inr x=>hashStr w x
theorem bU:∀{k:Key}{v:Value},lB k v=true→(∃ i t,k=Sum.inl i∧v=Value.int i t)∨(∃ x t,k=Sum.inr x∧v=Value.str x t)
 | .inl i,v,h=>by
  obtain⟨t,e⟩:=Value.isInt_shape (k:=i) (v:=v) h;exact .inl ⟨i,t,rfl,e⟩
 | .inr x,v,h=>by
  obtain⟨t,e⟩:=Value.isStrOf_shape (x:=x) (v:=v) h;exact .inr ⟨x,t,rfl,e⟩
theorem uW (i:Int) (t:Tok):lB (.inl i) (.int i t)=true:=by simp[lB,Value.isInt]
theorem vc (x:Str) (t:Tok):lB (.inr x) (.str x t)=true:=by simp[lB,Value.isStrOf]
theorem B1 (a b:Int):decide ((Sum.inl a:Key)=Sum.inl b)=(a==b):=by
 by_cases e:a=b
 ·subst e;simp
 ·have h:¬ (Sum.inl a:Key)=Sum.inl b:=fun q=>e (Sum.inl.inj q)
  rw[decide_eq_false h];exact (beq_eq_false_iff_ne.mpr e).symm
theorem Dg (a b:Str):decide ((Sum.inr a:Key)=Sum.inr b)=decide (a=b):=by
 by_cases e:a=b
 ·subst e;simp
 ·have h:¬ (Sum.inr a:Key)=Sum.inr b:=fun q=>e (Sum.inr.inj q)
  rw[decide_eq_false h,decide_eq_false e]
theorem Et (a:Int) (b:Str):decide ((Sum.inl a:Key)=Sum.inr b)=false:=decide_eq_false (fun q=>nomatch q)
theorem C8 (a:Str) (b:Int):decide ((Sum.inr a:Key)=Sum.inl b)=false:=decide_eq_false (fun q=>nomatch q)
noncomputable def cK (prog:Program) (w:World):PySem.KeyKind prog w Key where
 is:=lB
 hash:=keyH w
 inj:=fun v a b ha hb=>by
  rcases bU ha with ⟨i,t,rfl,rfl⟩ | ⟨x,t,rfl,rfl⟩
  ·rcases bU hb with ⟨j,u,rfl,e⟩ | ⟨y,u,rfl,e⟩
   ·injection e with e1 _;rw[e1]
   ·exact nomatch e
  ·rcases bU hb with ⟨j,u,rfl,e⟩ | ⟨y,u,rfl,e⟩
   ·exact nomatch e
   ·injection e with e1 _;rw[e1]
 byValue:=fun k v h=>by
  rcases bU h with ⟨i,t,rfl,rfl⟩ | ⟨x,t,rfl,rfl⟩<;>rfl
 pyHash:=fun hv h=>by
  rcases bU hv with ⟨i,t,rfl,rfl⟩ | ⟨x,t,rfl,rfl⟩
  ·exact wpAny_pyHash_int h
  ·exact wpAny_pyHash_str h
 eqBool:=fun hu hv h=>by
  rcases bU hu with ⟨i,t,rfl,rfl⟩ | ⟨x,t,rfl,rfl⟩
  ·rcases bU hv with ⟨j,u,rfl,rfl⟩ | ⟨y,u,rfl,rfl⟩
   ·rw[B1] at h;exact wpAny_eqBool_int h
   ·rw[Et] at h;exact SeqAt.EqAt.int_str i t y u _ _ _ _ h
  ·rcases bU hv with ⟨j,u,rfl,rfl⟩ | ⟨y,u,rfl,rfl⟩
   ·rw[C8] at h;exact SeqAt.EqAt.str_int x t j u _ _ _ _ h
   ·rw[Dg] at h;exact wpAny_eqBool_str h
 «strs»:=fun k x t v h=>by
  rcases bU h with ⟨i,u,rfl,e⟩ | ⟨y,u,rfl,e⟩
  ·exact nomatch e
  ·injection e with e1 _
   subst e1;cases v<;>rfl
theorem kK (prog:Program) (w:World) (i:Int) (t:Tok):(cK prog w).is (.inl i) (.int i t)=true:=uW i t
theorem qL (prog:Program) (w:World) (x:Str) (t:Tok):(cK prog w).is (.inr x) (.str x t)=true:=vc x t
end L2
namespace L2
open PySem PySem.Spec PyProof.Rows
inductive V where
 | non | bl (b:Bool) | int (i:Int) | str (x:Str) | byt (b:Array UInt8) | flt (b:UInt64) | ref (a:Addr) | ty (n:String)
 deriving DecidableEq
noncomputable def RelV:V→Value→Prop
 |.non,u=>u=Value.none
 |.bl b,u=>u=Value.bool b
 |.int i,u=>∃ t,u=Value.int i t
 |.str x,u=>∃ t,u=Value.str x t
 |.byt b,u=>∃ t,u=Value.bytes b t
 |.flt b,u=>∃ t,u=Value.float b t
 |.ref a,u=>u=Value.ref a
 |.ty n,u=>u=Value.type n
noncomputable abbrev aQ:List V→List Value→Prop:=Paired RelV
theorem aQ.length {xs:List V}{us:List Value}(r:aQ xs us):xs.length=us.length:=Paired.length r
theorem aQ.get:∀{xs:List V}{us:List Value}{i:Nat}{x:V},aQ xs us→xs[i]? = some x→∃ u,us[i]? = some u∧RelV x u
 |_,_,_,_,.nil,e=>by simp at e
 |_,_,0,_,.cons r _,e=>by simp at e;subst e;exact⟨_,rfl,r⟩
 | _,_,i+1,x,.cons _ t,e=>by
  obtain⟨u,h1,h2⟩:=aQ.get (i:=i) (x:=x) t (by simpa using e);exact⟨u,by simpa using h1,h2⟩
theorem aQ.set {x:V}{u:Value}(r:RelV x u):∀{xs:List V}{us:List Value}(i:Nat),aQ xs us→aQ (xs.set i x) (us.set i u)
 |_,_,_,.nil=>.nil
 |_,_,0,.cons _ t=>.cons r t
 |_,_,i+1,.cons q t=>.cons q (aQ.set r i t)
theorem aQ.append:∀{xs ys:List V}{us ws:List Value},aQ xs us→aQ ys ws→aQ (xs++ys) (us++ws)
 |_,_,_,_,.nil,s=>s
 |_,_,_,_,.cons r t,s=>.cons r (aQ.append t s)
theorem aQ.take:∀{xs:List V}{us:List Value}(n:Nat),aQ xs us→aQ (xs.take n) (us.take n)
 |_,_,0,_=>.nil
 |_,_,_+1,.nil=>.nil
 |_,_,n+1,.cons r t=>.cons r (aQ.take n t)
theorem aQ.drop:∀{xs:List V}{us:List Value}(n:Nat),aQ xs us→aQ (xs.drop n) (us.drop n)
 |_,_,0,r=>r
 |_,_,_+1,.nil=>.nil
 |_,_,n+1,.cons _ t=>aQ.drop n t
noncomputable def uT:Option V→Option Value→Prop
 |some v,some u=>RelV v u
 |none,none=>True
 |_,_=>False
noncomputable def KV {κ:Type}:List (κ×V)→List (κ×Value)→Prop:=Paired fun (p:κ×V) (q:κ×Value)=>p.1=q.1∧RelV p.2 q.2
noncomputable def kV:Key→V
 |.inl i=>.int i
 |.inr x=>.str x
inductive HO where
 | lst (xs:List V)
 | tup (xs:List V)
 | dK (kvs:List (Key×V)) | dT (kvs:List (List Key×V))
 | set (S:Int→Bool) (n:Nat)
 | ins (C dx:Addr) (fs:List (Str×V))
 | own (x:Addr)
 | xd (fs:List (Str×V))
 | met (f x:Addr)
 | rng (lo hi:Int)
 | frz (o:Obj) (u:HO)
 | tbl (ps:Array Value)
 | ext (φ:Heap→Prop)
noncomputable abbrev Hp:=Addr→Option HO
noncomputable def upd (H:Hp) (a:Addr) (o:HO):Hp:=fun b=>if b=a then some o else H b
theorem aW {H:Hp}{a:Addr}{o:HO}:upd H a o a=some o:=by unfold upd;rw[if_pos rfl]
theorem aP {H:Hp}{a b:Addr}{o:HO}(h:b≠a):upd H a o b=H b:=by unfold upd;rw[if_neg h]
theorem FQ {H:Hp}{a b:Addr}{o u:HO}(h:H a=some o) (h':H b=some u) (d:o≠u):a≠b:=by
 intro e;subst e;rw[h] at h';exact d (bz h')
theorem cD {H:Hp}{a b:Addr}{o:HO}(h:H a=some o) (h':H b=none):a≠b:=by
 intro e;subst e;rw[h] at h';cases h'
section
variable (P:Program) (w:World)
noncomputable def cG (H:Hp) (h:Heap) (a:Addr):HO→Prop
 |.lst xs=>xs.length≤sizeLine∧∃(its:List Value) (n:Nat),aQ xs its∧h.get? a=some { cls:=.type "list",data:=.seq its.toArray n }
 |.tup xs=>xs.length≤sizeLine∧∃ its:List Value,aQ xs its∧IsTup h a its.toArray
 |.dK kvs=>kvs.length≤sizeLine∧(a==sysModules)=false∧∃ vs,KV kvs vs∧h.DictOf (cK P w) a vs
 | .dT kvs=>kvs.length≤sizeLine∧(a==sysModules)=false∧∃ xs:List (List Key×Addr×Value),
   Paired (fun (p:List Key×V) (q:List Key×Addr×Value)=>p.1=q.1∧H q.2.1=some (.tup (p.1.map kV))∧RelV p.2 q.2.2) kvs xs ∧
   ∃ o es ep,h.get? a=some o∧o.ExactDict∧o.data = .dict es ep∧es.toList=xs.map (entryOfKey (tupleKind (cK P w)))∧(xs.map (·.1)).Nodup
 |.set S n=>h.SetOf (intKind P w) a S n
 | .ins C dx fs=>H dx=some (.own a)∧fs.length≤1000∧dx≠a∧h.get? a=some (PySem.W.instObj C dx) ∧
   ∃ mA,h.Ns1 dx mA∧(∀ f,uT (fs.lookup f) (mA f))∧PySem.Within mA (fs.map (·.1))
 |.own _=>∃ o,h.get? a=some o
 |.xd fs=>∃ mA,h.Ns1 a mA∧∀ f,uT (fs.lookup f) (mA f)
 |.rng lo hi=>∃ t u v,h.get? a=some { cls:=.type "range",data:=.fields #[.int lo t,.int hi u,.int 1 v] }
 |.frz o u=>h.get? a=some o∧cG H h a u
 |.tbl ps=>h.get? a=some { cls:=.none,data:=.fields ps }
 |.met f x=>h.get? a=some (PySem.W.methodObj (.ref f) (.ref x))
 |.ext φ=>φ h∧(∃ o,h.get? a=some o)∧∀ h1 h2:Heap,φ h1→(∀ o,h1.get? a=some o→h2.get? a=some o)→φ h2
noncomputable def jS (H:Hp) (h:Heap):Prop:=∀ a o,H a=some o→cG P w H h a o
end
section
variable {P:Program}{w:World}{H H':Hp}{h h':Heap}{a:Addr}{o:HO}
theorem cG.lt (x:cG P w H h a o):a<h.objs.size:=by
 cases o with
 |lst xs=>obtain⟨_,_,_,_,e⟩:=x;exact Heap.lt_size e
 |tup xs=>obtain⟨_,_,_,p⟩:=x;exact p.lt
 |dK kvs=>obtain⟨_,_,_,_,o,_,_,e,_⟩:=x;exact Heap.lt_size e
 |dT kvs=>obtain⟨_,_,_,_,o,_,_,e,_⟩:=x;exact Heap.lt_size e
 |set S n=>obtain⟨o,_,_,_,e,_⟩:=x;exact Heap.lt_size e
 |ins C dx fs=>obtain⟨_,_,_,e,_⟩:=x;exact Heap.lt_size e
 |own y=>obtain⟨_,e⟩:=x;exact Heap.lt_size e
 |xd fs=>obtain⟨_,⟨_,_,_,e,_⟩,_⟩:=x;exact Heap.lt_size e
 |rng lo hi=>obtain⟨_,_,_,e⟩:=x;exact Heap.lt_size e
 |frz ob u=>obtain⟨e,_⟩:=x;exact Heap.lt_size e
 |tbl ps=>exact Heap.lt_size (show h.get? a=some _ from x)
 |met f y=>exact Heap.lt_size (show h.get? a=some _ from x)
 |ext φ=>obtain⟨_,⟨_,e⟩,_⟩:=x;exact Heap.lt_size e
theorem Paired.mapP {α β:Type}{F G:α→β→Prop}:∀{l₁:List α}{l₂:List β},Paired F l₁ l₂→(∀ a b,F a b→G a b)→Paired G l₁ l₂
 |_,_,.nil,_=>.nil
 |_,_,.cons r t,f=>.cons (f _ _ r) (Paired.mapP t f)
theorem cG.stay (x:cG P w H h a o) (k:∀ b u,(b=a∨H b=some (.own a))→h.get? b=some u→h'.get? b=some u)
  (ho:∀ b,H b=some (.own a)→H' b=some (.own a)) (ht:∀ b xs,H b=some (.tup xs)→H' b=some (.tup xs)):cG P w H' h' a o:=by
 induction o with
 |lst xs=>obtain⟨z,its,n,r,e⟩:=x;exact⟨z,its,n,r,k _ _ (.inl rfl) e⟩
 |tup xs=>obtain⟨z,its,r,ob,e,c⟩:=x;exact⟨z,its,r,ob,k _ _ (.inl rfl) e,c⟩
 |dK kvs=>obtain⟨z,y,vs,r,ob,es,ep,e,c⟩:=x;exact⟨z,y,vs,r,ob,es,ep,k _ _ (.inl rfl) e,c⟩
 |dT kvs =>
  obtain⟨z,y,xs,r,ob,es,ep,e,c⟩:=x;exact⟨z,y,xs,Paired.mapP r fun p q z=>⟨z.1,ht _ _ z.2.1,z.2.2⟩,ob,es,ep,k _ _ (.inl rfl) e,c⟩
 |set S n=>obtain⟨ob,es,ep,t,e,c⟩:=x;exact⟨ob,es,ep,t,k _ _ (.inl rfl) e,c⟩
 |ins C dx fs =>
  obtain⟨d,z,ne,e,mA,⟨od,es,ep,e2,c⟩,r⟩:=x;exact⟨ho _ d,z,ne,k _ _ (.inl rfl) e,mA,⟨od,es,ep,k _ _ (.inr d) e2,c⟩,r⟩
 |own y=>obtain⟨ob,e⟩:=x;exact⟨ob,k _ _ (.inl rfl) e⟩
 |xd fs=>obtain⟨mA,⟨od,es,ep,e,c⟩,r⟩:=x;exact⟨mA,⟨od,es,ep,k _ _ (.inl rfl) e,c⟩,r⟩
 |rng lo hi=>obtain⟨t,u,v,e⟩:=x;exact⟨t,u,v,k _ _ (.inl rfl) e⟩
 |frz ob u ih=>obtain⟨e,q⟩:=x;exact⟨k _ _ (.inl rfl) e,ih q⟩
 |tbl ps =>
  have e:h.get? a=some { cls:=.none,data:=.fields ps }:=x;show h'.get? a=some { cls:=.none,data:=.fields ps };exact k a _ (.inl rfl) e
 |met f y =>
  have e:h.get? a=some (PySem.W.methodObj (.ref f) (.ref y)):=x;show h'.get? a=some (PySem.W.methodObj (.ref f) (.ref y));exact k a _ (.inl rfl) e
 |ext φ=>obtain⟨p,⟨o,e⟩,st⟩:=x;exact⟨st _ _ p fun o q=>k _ _ (.inl rfl) q,⟨o,k _ _ (.inl rfl) e⟩,st⟩
theorem jS.lt (x:jS P w H h) (e:H a=some o):a<h.objs.size:=(x a o e).lt
theorem jS.fresh (x:jS P w H h) (e:h.objs.size≤a):H a=none:=by
 cases q:H a with
 |none=>rfl
 |some u=>exact absurd (bg (x.lt q) e) (ff _)
theorem jS.kept (x:jS P w H h) (k:∀ b u,h.get? b=some u→h'.get? b=some u):jS P w H h':=fun a o e =>
 (x a o e).stay (fun b u _ q=>k b u q) (fun _ q=>q) fun _ _ q=>q
theorem jS.laid (x:jS P w H h) (k:∀ b u,h.get? b=some u→h'.get? b=some u) (hp:h.objs.size≤a) (new:cG P w (upd H a o) h' a o):jS P w (upd H a o) h':=fun b u e=>by
 have hn:=x.fresh hp;by_cases hb:b=a
 ·subst hb;rw[aW] at e;cases e;exact new
 ·rw[aP hb] at e;exact (x b u e).stay (fun c v _ q=>k c v q) (fun c q=>by rw[aP (cD q hn)];exact q) fun c xs q=>by rw[aP (cD q hn)];exact q
end
noncomputable def Rd (H:Hp) (a:Addr) (u:HO):Prop:=H a=some u∨∃ o,H a=some (.frz o u)
theorem Rd.ok {P:Program}{w:World}{H:Hp}{h:Heap}{a:Addr}{u:HO}(r:Rd H a u) (x:jS P w H h):cG P w H h a u:=by
 rcases r with r | ⟨o,r⟩
 ·exact x a u r
 ·obtain⟨_,q⟩:=x a _ r;exact q
noncomputable def rb:Option HO→Prop
 | some (.lst _)=>True
 | some (.dK _)=>True
 | some (.dT _)=>True
 | some (.set _ _)=>True
 | some (.ins _ _ _)=>True
 | some (.ext _)=>True
 |_=>False
section
variable {P:Program}{w:World}{H:Hp}{h h':Heap}{x e:Addr}{o':HO}
theorem jS.write (ok:jS P w H h) (mu:rb (H x)) (he:e=x∨H e=some (.own x)) (k:∀ b u,b≠e→h.get? b=some u→h'.get? b=some u) (heo:∃ u,h'.get? e=some u)
  (new:cG P w (upd H x o') h' x o'):jS P w (upd H x o') h':=fun b u q=>by
 have nown:∀ c y,H c=some (.own y)→c≠x:=fun c y r z=>by subst z;rw[r] at mu;exact mu
 have ntup:∀ c xs,H c=some (.tup xs)→c≠x:=fun c xs r z=>by subst z;rw[r] at mu;exact mu
 by_cases hb:b=x
 ·subst hb;rw[aW] at q;cases q;exact new
 ·rw[aP hb] at q;by_cases hbe:b=e
  ·have q':H b=some (.own x):=by
    rcases he with z | z
    ·exact absurd (hbe.trans z) hb
    ·rw[hbe];exact z
   rw[q] at q';cases q';obtain⟨v,hv⟩:=heo;exact⟨v,by rw[hbe];exact hv⟩
  ·refine (ok b u q).stay (fun c v hc r=>k c v ?_ r) (fun c r=>by rw[aP (nown c b r)];exact r) fun c xs r=>by rw[aP (ntup c xs r)];exact r
   rcases hc with rfl | hc
   ·exact hbe
   ·rintro rfl;rcases he with z | z
    ·exact nown c b hc z
    ·rw[hc] at z;cases z;exact hb rfl
end
structure Un (fs ex:List Addr) (H H':Hp) (h h':Heap):Prop where
 keep:∀ b o,h.get? b=some o→H b=none→b∉fs→b∉ex→h'.get? b=some o
 slot:∀ b o,h.get? b=some o→H b=none→b∈fs→b∉ex→∃ sl,h'.get? b=some { o with slots:=sl }
 free:∀ b o,h.get? b=some o→H b=none→b∉ex→H' b=none
 there:∀ b o,h.get? b=some o→b∉ex→∃ o',h'.get? b=some o'
 tups:∀ b xs,H b=some (.tup xs)→H' b=some (.tup xs)
 frzs:∀ b o u,H b=some (.frz o u)→H' b=some (.frz o u)
 tbls:∀ b ps,H b=some (.tbl ps)→∃ more,H' b=some (.tbl (ps++more))
section
variable {fs fs' ex ex':List Addr}{H H1 H2:Hp}{h h1 h2 h':Heap}{a x e:Addr}{o:HO}
theorem Un.any (u:Un fs ex H H1 h h1) {b:Addr}{ob:Obj}(q:h.get? b=some ob) (n:H b=none) (hx:b∉ex):∃ sl,h1.get? b=some { ob with slots:=sl }:=by
 by_cases hb:b∈fs
 ·exact u.slot b ob q n hb hx
 ·exact⟨ob.slots,u.keep b ob q n hb hx⟩
theorem Un.kept (k:∀ b u,h.get? b=some u→h'.get? b=some u):Un fs ex H H h h' :=
 ⟨fun b ob q _ _ _=>k b ob q,fun b ob q _ _ _=>⟨ob.slots,k b ob q⟩,fun _ _ _ n _=>n,fun b ob q _=>⟨ob,k b ob q⟩,fun _ _ q=>q,fun _ _ _ q=>q,fun _ ps q=>⟨#[],by rw[q];simp⟩⟩
theorem Un.refl:Un fs ex H H h h:=Un.kept fun _ _ q=>q
theorem Un.laid (k:∀ b u,h.get? b=some u→h'.get? b=some u) (hp:h.objs.size≤a) (hn:H a=none):Un fs ex H (upd H a o) h h' where
 keep:=fun b u q _ _ _=>k b u q
 slot:=fun b u q _ _ _=>⟨u.slots,k b u q⟩
 free:=fun b u q n _=>by rw[aP (cj (bg (Heap.lt_size q) hp))];exact n
 there:=fun b u q _=>⟨u,k b u q⟩
 tups:=fun b xs q=>by rw[aP (cD q hn)];exact q
 frzs:=fun b u xs q=>by rw[aP (cD q hn)];exact q
 tbls:=fun b ps q=>⟨#[],by rw[aP (cD q hn),q];simp⟩
theorem Un.write (mu:rb (H x)) (he:e=x∨H e=some (.own x)) (k:∀ b u,b≠e→h.get? b=some u→h'.get? b=some u) (heo:∃ u,h'.get? e=some u):Un fs ex H (upd H x o) h h':=by
 have hx:∀ b,H b=none→b≠x:=fun b n z=>by subst z;rw[n] at mu;exact mu
 have hb:∀ b,H b=none→b≠e:=fun b n z=>by
  subst z;rcases he with r | r
  ·exact hx b n r
  ·rw[n] at r;cases r
 have hm:∀ b u,H b=some u→¬ rb (some u)→b≠x:=fun b u q nm z=>by subst z;rw[q] at mu;exact nm mu
 refine⟨fun b u q n _ _=>k b u (hb b n) q,fun b u q n _ _=>⟨u.slots,k b u (hb b n) q⟩,fun b u q n _=>by rw[aP (hx b n)];exact n,fun b u q _=>?_,
  fun b xs q=>by rw[aP (hm b _ q fun z=>z)];exact q,fun b u xs q=>by rw[aP (hm b _ q fun z=>z)];exact q,fun b ps q=>⟨#[],by rw[aP (hm b _ q fun z=>z),q];simp⟩⟩
 by_cases hbe:b=e
 ·subst hbe;exact heo
 ·exact⟨u,k b u hbe q⟩
end
noncomputable def trk (h:Heap) (H:Hp):List Addr:=(List.range h.objs.size).filter fun a=>(H a).isSome
noncomputable def oU (h:Heap) (H:Hp):Heap:=PySem.W.hideAll h (trk h H)
theorem vF (h:Heap) (H:Hp):(oU h H).objs.size=h.objs.size:=PySem.W.hideAll_size _ _
theorem wO {h:Heap}{H:Hp}{b:Addr}{o:Obj}(e:h.get? b=some o) (n:H b=none):(oU h H).get? b=some o :=
 PySem.W.hideAll_get _ e fun hm=>by
  have q:(H b).isSome=true:=(cm.mp hm).2;rw[n] at q;simp at q
theorem zV {h:Heap}{H:Hp}{b:Addr}{o:Obj}(e:(oU h H).get? b=some o):h.get? b=some o∧H b=none:=by
 have e':h.get? b=some o:=PySem.W.of_hideAll (trk h H) e;refine⟨e',?_⟩;cases q:H b with
 |none=>rfl
 |some x =>
  have hm:b∈trk h H:=List.mem_filter.mpr ⟨List.mem_range.mpr (Heap.lt_size e'),by simp[q]⟩;have z:(oU h H).get? b=none:=PySem.W.hideAll_none (trk h H) hm;rw[z] at e;cases e
noncomputable def Bj (g h:Heap) (L:Addr):List (Addr×Obj):=(List.range h.objs.size).filterMap fun a=>if a=L∨(g.get? a).isSome=true then none else (h.get? a).map fun o=>(a,o)
noncomputable def rest (g h:Heap) (L d:Addr):List (Addr×Obj):=(Bj g h L).filter fun p=>decide (p.1≠d)
end L2
namespace L2
open PySem PySem.Spec PyProof.Rows
structure Mod (K:PySem.W.Frag) (mg:Str→Option Value) (base:Heap):Prop where
 kin:K.In base
 glob:base.Ns mainGlobals mg
 blt:∃ mb,base.Ns builtinsNs mb∧∀ x:Str,x≠"__name__"→mb x=bootBuiltins x
 nolimit:base.NoLimit
structure Cx where
 prog:Program
 w:World
 K:PySem.W.Frag
 mg:Str→Option Value
 base:Heap
 A:Around
 N:List Str
 s₀:Shared
 H₀:Hp
 env:Env
 outer:List Env
 stack:List Env
 ex:List Addr
 fn:Str→Bool
 calm:Bool
 pn:List (Addr×Obj)
 xe:Value→Shared→Prop
noncomputable def yG (l:List Env):List Addr:=l.filterMap (·.frame)
noncomputable abbrev Cx.fs (X:Cx):List Addr:=yG X.outer
noncomputable def Bv (sc:Scope) (x:Str):Prop:=sc.names.lookup x=some .local∨sc.names.lookup x=some .cell∨sc.names.lookup x=some .free
noncomputable def Loc (sc:Scope) (x:Str):Prop:=sc.names.lookup x=some .local∨sc.names.lookup x=some .cell
noncomputable def Look (env:Env) (h:Heap) (m:Str→Option Value) (x:Str) (u:Value):Prop :=
 (env.kindOf x=some .local∧m x=some u)∨((env.kindOf x=some .cell∨env.kindOf x=some .free)∧∃ c,env.cells.lookup x=some c∧h.IsCell c (some u))
structure Cx.Ok (X:Cx):Prop where
 mod:Mod X.K X.mg X.base
 kind:X.env.scope.kind = .function
 glob:X.env.globals=mainGlobals
 blt:X.env.builtins=builtinsNs
 above:X.s₀.heap.objs.size≤X.env.locals
 inj:∀ x y c,X.env.cells.lookup x=some c→X.env.cells.lookup y=some c→x=y
 has:∀ x,(X.env.kindOf x=some .cell∨X.env.kindOf x=some .free)→∃ c,X.env.cells.lookup x=some c
 cab:∀ x c,X.fn x=true→X.env.cells.lookup x=some c→X.s₀.heap.objs.size≤c
 hd:X.calm=true→X.A.handled=none
 frames:X.A.frames=some X.stack
 stk:X.stack=X.outer∨(X.stack=X.env::X.outer∧X.env.frame=some X.env.locals)
 exf:∀ b∈X.ex,b≠X.env.locals∧∀ x c,X.env.cells.lookup x=some c→c≠b
 bs:∀ b o,X.base.get? b=some o→X.s₀.heap.get? b=some o∧X.H₀ b=none
 bsz:X.base.objs.size≤X.s₀.heap.objs.size
 noex:∀ b o,X.base.get? b=some o→b∉X.ex
 exfs:∀ b∈X.ex,b∉X.fs
 funs:X.s₀.heap.FunFrames X.base X.outer
 frf:∀ b∈X.fs,X.H₀ b=none
structure Inv (X:Cx) (pins:List (Addr×Obj)) (σ:List (Option V)) (H:Hp) (s:Shared):Prop where
 ok:X.Ok
 os:s.os=X.s₀.os
 bare:AllBare s.gens
 base:Un X.fs X.ex X.H₀ H X.s₀.heap s.heap
 loc:∃ m,s.heap.Ns X.env.locals m∧∀(i:Nat) (x:Str) (v:V),X.N[i]? = some x→σ[i]? = some (some v)→Bv X.env.scope x→∃ u,RelV v u∧Look X.env s.heap m x u
 cell:∀ x c,X.env.cells.lookup x=some c→∃ v,s.heap.IsCell c v
 free:H X.env.locals=none
 freeC:∀ x c,X.env.cells.lookup x=some c→H c=none
 pin:∀ p∈X.pn++pins,s.heap.get? p.1=some p.2∧H p.1=none∧p.1≠X.env.locals∧p.1∉X.fs∧∀ v,p.2.data≠.cell v
 hok:jS X.prog X.w H s.heap
 len:σ.length=X.N.length
section
variable {X:Cx}{pins:List (Addr×Obj)}{σ:List (Option V)}{H H':Hp}{s:Shared}{h':Heap}
theorem Cx.Ok.nofr (ok:X.Ok) {b:Addr}{o:Obj}(e:X.base.get? b=some o):b∉X.fs:=fun hb=>by
 have:=(ok.funs.mem hb).1;rw[e] at this;cases this
theorem Inv.bs (I:Inv X pins σ H s):∀ b o,X.base.get? b=some o→s.heap.get? b=some o∧H b=none:=fun b o e =>
 ⟨I.base.keep b o (I.ok.bs b o e).1 (I.ok.bs b o e).2 (I.ok.nofr e) (I.ok.noex b o e),I.base.free b o (I.ok.bs b o e).1 (I.ok.bs b o e).2 (I.ok.noex b o e)⟩
theorem Inv.bk (I:Inv X pins σ H s):∀ b o,X.base.get? b=some o→s.heap.get? b=some o:=fun b o e=>(I.bs b o e).1
theorem Inv.mod (I:Inv X pins σ H s):Mod X.K X.mg X.base:=I.ok.mod
theorem Inv.kIn (I:Inv X pins σ H s):X.K.In s.heap:=I.ok.mod.kin.keeps I.bk
theorem Inv.lt (I:Inv X pins σ H s):X.env.locals<s.heap.objs.size:=let ⟨_,hn,_⟩:=I.loc;hn.lt
theorem Inv.sz (I:Inv X pins σ H s):X.s₀.heap.objs.size≤s.heap.objs.size:=cv I.ok.above (Nat.le_of_lt I.lt)
theorem Inv.nofs (I:Inv X pins σ H s) {a:Addr}(h:s.heap.objs.size≤a):a∉X.fs:=fun hb=>by
 obtain⟨_,o,ho,_⟩:=I.ok.funs.mem hb;exact absurd (bg (Heap.lt_size ho) (cv I.sz h)) (ff _)
theorem Inv.cne (I:Inv X pins σ H s):∀ x c,X.env.cells.lookup x=some c→c≠X.env.locals:=fun x c e z=>by
 obtain⟨v,o,ho,hd⟩:=I.cell x c e;obtain⟨m,⟨o',es,ep,ho',hd',_⟩,_⟩:=I.loc;rw[z,ho'] at ho;cases ho;rw[hd'] at hd;cases hd
theorem Inv.funs (I:Inv X pins σ H s):s.heap.FunFrames X.base X.outer:=by
 have all:∀(l:List Env),(∀ b∈yG l,b∈X.fs)→X.s₀.heap.FunFrames X.base l→s.heap.FunFrames X.base l:=by
  intro l
  induction l with
  |nil=>intro _ _;trivial
  |cons env r ih =>
   intro hs hl;obtain⟨hk,⟨L,o,hf,hn,ho,hd⟩,hr⟩:=hl;have hL:L∈X.fs:=hs L (by unfold yG;rw[List.filterMap_cons,hf];exact ae);obtain⟨sl,e⟩:=I.base.slot L o ho (I.ok.frf L hL) hL fun z=>I.ok.exfs L z hL
   exact⟨hk,⟨L,_,hf,hn,e,hd⟩,ih (fun b hb=>hs b (by unfold yG;rw[List.filterMap_cons,hf];exact aa _ hb)) hr⟩
 exact all X.outer (fun _ hb=>hb) I.ok.funs
theorem Inv.stack (I:Inv X pins σ H s):s.heap.FunFrames X.base X.stack:=by
 rcases I.ok.stk with e | ⟨e,hf⟩
 ·rw[e];exact I.funs
 ·rw[e];obtain⟨m,hn,_⟩:=I.loc;refine .cons (by rw[I.ok.kind];decide) hf hn ?_ I.funs;exact Heap.get?_none_of_le (cv I.ok.bsz I.ok.above)
theorem Inv.stkSub (I:Inv X pins σ H s):∀ b∈yG X.stack,b∈X.env.locals::X.fs:=fun b hb=>by
 rcases I.ok.stk with e | ⟨e,hf⟩
 ·rw[e] at hb;exact aa _ hb
 ·rw[e] at hb;unfold yG at hb;rw[List.filterMap_cons,hf] at hb;exact hb
theorem Inv.stkFree (I:Inv X pins σ H s):∀ b∈yG X.stack,H b=none:=fun b hb=>by
 rcases az.mp (I.stkSub b hb) with e | hb
 ·rw[e];exact I.free
 ·obtain⟨_,o,ho,_⟩:=I.ok.funs.mem hb;exact I.base.free b o ho (I.ok.frf b hb) fun z=>I.ok.exfs b z hb
theorem Inv.step {g':Array GenState}{t':Nat}{d':Drawn}{ch:List Addr}(I:Inv X pins σ H s)
  (hch:∀ b∈ch,(b∈X.ex∨X.s₀.heap.objs.size≤b)∧b≠X.env.locals∧(∀ x c,X.env.cells.lookup x=some c→c≠b)∧∀ p∈X.pn++pins,p.1≠b)
  (keep:∀ b o,b≠X.env.locals→b∉X.fs→b∉ch→s.heap.get? b=some o→H b=none→h'.get? b=some o)
  (slot:∀ b o,b≠X.env.locals→b∈X.fs→b∉ch→s.heap.get? b=some o→H b=none→∃ sl,h'.get? b=some { o with slots:=sl }) (free:∀ b o,b∉ch→s.heap.get? b=some o→H b=none→H' b=none)
  (there:∀ b o,b∉ch→s.heap.get? b=some o→∃ o',h'.get? b=some o')
  (tups:∀ b xs,H b=some (.tup xs)→H' b=some (.tup xs)) (frzs:∀ b o u,H b=some (.frz o u)→H' b=some (.frz o u)) (tbls:∀ b ps,H b=some (.tbl ps)→∃ more,H' b=some (.tbl (ps++more)))
  (ns:∀ m,s.heap.Ns X.env.locals m→h'.Ns X.env.locals m) (hok:jS X.prog X.w H' h') (hg:AllBare g') :
  Inv X pins σ H' { s with heap:=h',gens:=g',drawn:=d',toks:=t' }:=by
 have neL:∀ b o,X.s₀.heap.get? b=some o→b≠X.env.locals:=fun b o e=>cj (bg (Heap.lt_size e) I.ok.above)
 have neC:∀ b o,X.s₀.heap.get? b=some o→b∉X.ex→b∉ch:=fun b o e hx hb=>by
  rcases (hch b hb).1 with z | z
  ·exact hx z
  ·exact absurd (bg (Heap.lt_size e) z) (ff _)
 have cellK:∀ x c,X.env.cells.lookup x=some c→∀ v,s.heap.IsCell c v→h'.IsCell c v:=fun x c e v ⟨o,ho,hd⟩=>by
  have nch:c∉ch:=fun z=>(hch c z).2.2.1 x c e rfl
  by_cases hc:c∈X.fs
  ·obtain⟨sl,q⟩:=slot c o (I.cne x c e) hc nch ho (I.freeC x c e);exact⟨_,q,hd⟩
  ·exact⟨o,keep c o (I.cne x c e) hc nch ho (I.freeC x c e),hd⟩
 refine⟨I.ok,I.os,hg,⟨fun b o e n hb hx=>?_,fun b o e n hb hx=>?_,fun b o e n hx=>?_,fun b o e hx=>?_,fun b xs e=>tups b xs (I.base.tups b xs e),fun b o xs e=>frzs b o xs (I.base.frzs b o xs e),fun b ps e=>?_⟩,?_,fun x c e=>?_,?_,fun x c e=>?_,fun p hp=>?_,hok,I.len⟩
 ·exact keep b o (neL b o e) hb (neC b o e hx) (I.base.keep b o e n hb hx) (I.base.free b o e n hx)
 ·obtain⟨sl,e1⟩:=I.base.slot b o e n hb hx;obtain⟨sl',e2⟩:=slot b _ (neL b o e) hb (neC b o e hx) e1 (I.base.free b o e n hx);exact⟨sl',e2⟩
 ·obtain⟨o',e1⟩:=I.base.there b o e hx;exact free b o' (neC b o e hx) e1 (I.base.free b o e n hx)
 ·obtain⟨o',e1⟩:=I.base.there b o e hx;exact there b o' (neC b o e hx) e1
 ·obtain⟨m1,e1⟩:=I.base.tbls b ps e;obtain⟨m2,e2⟩:=tbls b _ e1;exact⟨m1++m2,by rw[e2,Array.append_assoc]⟩
 ·obtain⟨m,hn,hl⟩:=I.loc;refine⟨m,ns m hn,fun i x v e1 e2 e3=>?_⟩;obtain⟨u,r,l⟩:=hl i x v e1 e2 e3;refine⟨u,r,?_⟩;rcases l with l | ⟨k,c,e,z⟩
  ·exact .inl l
  ·exact .inr ⟨k,c,e,cellK x c e _ z⟩
 ·obtain⟨v,z⟩:=I.cell x c e;exact⟨v,cellK x c e v z⟩
 ·obtain⟨m,⟨o,_,_,ho,_⟩,_⟩:=I.loc;exact free _ o (fun z=>(hch _ z).2.1 rfl) ho I.free
 ·obtain⟨v,o,ho,hd⟩:=I.cell x c e;exact free c o (fun z=>(hch c z).2.2.1 x c e rfl) ho (I.freeC x c e)
 ·obtain⟨e,n,ne,nf,d⟩:=I.pin p hp;have nch:p.1∉ch:=fun z=>(hch p.1 z).2.2.2 p hp rfl
  exact⟨keep p.1 p.2 ne nf nch e n,free p.1 p.2 nch e n,ne,nf,d⟩
theorem Inv.un {t':Nat}(I:Inv X pins σ H s) (u:Un X.fs [] H H' s.heap h') (hok:jS X.prog X.w H' h'):Inv X pins σ H' { s with heap:=h',toks:=t' }:=by
 obtain⟨m,⟨o,es,ep,ho,r⟩,_⟩:=id I.loc;obtain⟨sl,hL⟩:=u.any ho I.free (by simp);exact I.step (g':=s.gens) (d':=s.drawn) (ch:=[]) (fun _ z=>nomatch z) (fun b o _ hb _ e n=>u.keep b o e n hb (by simp)) (fun b o _ hb _ e n=>u.slot b o e n hb (by simp)) (fun b o _ e n=>u.free b o e n (by simp)) (fun b o _ e=>u.there b o e (by simp)) u.tups u.frzs u.tbls (fun m' hm=>by
  obtain⟨o',es',ep',ho',r'⟩:=hm;rw[ho] at ho';cases ho';exact⟨_,es',ep',hL,r'⟩) hok I.bare
theorem Inv.call {g':Array GenState}{t':Nat}{d':Drawn}{ch:List Addr}(I:Inv X pins σ H s) (u:Un (yG X.stack) ch H H' s.heap h') (hok:jS X.prog X.w H' h') (hg:AllBare g')
  (hch:∀ b∈ch,(b∈X.ex∨X.s₀.heap.objs.size≤b)∧b≠X.env.locals∧(∀ x c,X.env.cells.lookup x=some c→c≠b)∧∀ p∈X.pn++pins,p.1≠b) :
  Inv X pins σ H' { s with heap:=h',gens:=g',drawn:=d',toks:=t' }:=by
 obtain⟨m,⟨o,es,ep,ho,r⟩,_⟩:=id I.loc;obtain⟨sl,hL⟩:=u.any ho I.free fun z=>(hch _ z).2.1 rfl
 exact I.step (ch:=ch) hch (fun b o hL hb hc e n=>u.keep b o e n (fun z=>(az.mp (I.stkSub b z)).elim hL hb) hc) (fun b o _ _ hc e n=>u.any e n hc) (fun b o hc e n=>u.free b o e n hc) (fun b o hc e=>u.there b o e hc) u.tups u.frzs u.tbls (fun m' hm=>by
  obtain⟨o',es',ep',ho',r'⟩:=hm;rw[ho] at ho';cases ho';exact⟨_,es',ep',hL,r'⟩) hok hg
theorem Inv.turned {t':Nat}{it:Addr}(I:Inv X pins σ H s) (k:∀ b o,b≠it→s.heap.get? b=some o→h'.get? b=some o) (hn:H it=none) (hL:it≠X.env.locals)
  (h1:it∈X.ex∨X.s₀.heap.objs.size≤it) (h2:∀ x c,X.env.cells.lookup x=some c→c≠it) (h3:∀ p∈X.pn++pins,p.1≠it):Inv X pins σ H { s with heap:=h',toks:=t' }:=by
 have nit:∀ b u,H b=some u→b≠it:=fun b u e z=>by rw[z,hn] at e;cases e
 refine I.step (g':=s.gens) (d':=s.drawn) (ch:=[it]) (fun b hb=>?_) (fun b o _ _ hc e _=>k b o (fun z=>hc (by simp[z])) e) (fun b o _ _ hc e _=>⟨o.slots,k b o (fun z=>hc (by simp[z])) e⟩) (fun _ _ _ _ n=>n)
  (fun b o hc e=>⟨o,k b o (fun z=>hc (by simp[z])) e⟩) (fun _ _ e=>e) (fun _ _ _ e=>e) (fun b ps e=>⟨#[],by rw[e];simp⟩) (fun m hm=>?_) (fun b u e=>?_) I.bare
 ·have e:b=it:=by simpa using hb
  subst e;exact⟨h1,hL,h2,h3⟩
 ·obtain⟨o,es,ep,ho,r⟩:=hm;exact⟨o,es,ep,k _ o (Ne.symm hL) ho,r⟩
 ·refine (I.hok b u e).stay (fun c v hc q=>k c v ?_ q) (fun _ q=>q) fun _ _ q=>q
  rcases hc with z | z
  ·rw[z];exact nit b u e
  ·exact nit c _ z
theorem Inv.tok (I:Inv X pins σ H s) (t:Nat):Inv X pins σ H { s with toks:=t }:=I.un (h':=s.heap) (t':=t) Un.refl I.hok
theorem Inv.kept {t':Nat}(I:Inv X pins σ H s) (k:∀ b u,s.heap.get? b=some u→h'.get? b=some u):Inv X pins σ H { s with heap:=h',toks:=t' }:=I.un (Un.kept k) (I.hok.kept k)
theorem Inv.laid {a:Addr}{o:HO}{t':Nat}(I:Inv X pins σ H s) (k:∀ b u,s.heap.get? b=some u→h'.get? b=some u) (hp:s.heap.objs.size≤a) (new:cG X.prog X.w (upd H a o) h' a o) :
  Inv X pins σ (upd H a o) { s with heap:=h',toks:=t' }:=I.un (Un.laid k hp (I.hok.fresh hp)) (I.hok.laid k hp new)
theorem Inv.write {x e:Addr}{o:HO}{t':Nat}(I:Inv X pins σ H s) (mu:rb (H x)) (he:e=x∨H e=some (.own x)) (k:∀ b u,b≠e→s.heap.get? b=some u→h'.get? b=some u) (heo:∃ u,h'.get? e=some u)
  (new:cG X.prog X.w (upd H x o) h' x o):Inv X pins σ (upd H x o) { s with heap:=h',toks:=t' }:=I.un (Un.write mu he k heo) (I.hok.write mu he k heo new)
theorem Inv.weak {σ':List (Option V)}(I:Inv X pins σ H s) (hl:σ'.length=σ.length) (w:∀(i:Nat) v,σ'[i]? = some (some v)→σ[i]? = some (some v)):Inv X pins σ' H s :=
 ⟨I.ok,I.os,I.bare,I.base,let ⟨m,hn,hl'⟩:=I.loc;⟨m,hn,fun i x v e1 e2 e3=>hl' i x v e1 (w i v e2) e3⟩,I.cell,I.free,I.freeC,I.pin,I.hok,hl.trans I.len⟩
theorem Inv.pins_of {pins':List (Addr×Obj)}(I:Inv X pins σ H s) (h:∀ p∈pins',s.heap.get? p.1=some p.2∧H p.1=none∧p.1≠X.env.locals∧p.1∉X.fs∧∀ v,p.2.data≠.cell v):Inv X pins' σ H s :=
 ⟨I.ok,I.os,I.bare,I.base,I.loc,I.cell,I.free,I.freeC,fun p hp=>(bo.mp hp).elim (fun z=>I.pin p (bf _ z)) (h p),I.hok,I.len⟩
theorem qR {N:List Str}(hN:N.Nodup) {i j:Nat}{x:Str}(a:N[i]? = some x) (b:N[j]? = some x):i=j:=by
 obtain⟨h1,e1⟩:=ak.mp a;obtain⟨h2,e2⟩:=ak.mp b;exact (List.getElem_inj hN).mp (e1.trans e2.symm)
theorem uV {M:Model}{A:Around}{E:Value→Shared→Prop}{i:Nat}{x:Str}{v:V}{u:Value}{Q:Unit→Shared→Prop}(I:Inv X pins σ H s) (hN:X.N.Nodup) (hi:X.N[i]? = some x) (hx:Loc X.env.scope x) (r:RelV v u)
  (h:∀ s',Inv X pins (σ.set i (some v)) H s'→(∃ a,Heap.SameBut a s.heap s'.heap∧(a=X.env.locals∨X.env.cells.lookup x=some a))→Q () s') (hf:X.fn x=true∨X.env.scope.names.lookup x=some .local:=by first | exact .inl rfl | exact .inr rfl | assumption):wpAny M A (storeName X.env x u) Q E s:=by
 obtain⟨m,hn,hl⟩:=id I.loc;have hcls:(X.env.scope.kind == .class || (X.env.scope.kind == .module&&X.env.locals != X.env.globals))=false:=by rw[I.ok.kind];rfl
 have hiσ:i<σ.length:=by rw[I.len];exact (ak.mp hi).1
 have cne:=I.cne;have tracked:∀{a:Addr}{h':Heap},(∃ o,s.heap.get? a=some o∧H a=none)→Heap.SameBut a s.heap h'→jS X.prog X.w H h':=fun {a h'} ha hs b ob e=>by
  obtain⟨_,_,hfree⟩:=ha;refine (I.hok b ob e).stay (fun c w' hc q=>(hs.2 c ?_).trans q) (fun _ q=>q) fun _ _ q=>q
  rintro rfl;rcases hc with rfl | hc
  ·rw[hfree] at e;cases e
  ·rw[hfree] at hc;cases hc
 rcases hx with hk | hk
 ·refine wpAny_storeName_local hk hn (fun h' hn' hs=>?_) hcls;obtain⟨oL,_,_,hoL,_⟩:=id hn;refine h _ ⟨I.ok,I.os,I.bare,⟨fun b o e n hb hx=>?_,fun b o e n hb hx=>?_,I.base.free,fun b o e hx=>?_,I.base.tups,I.base.frzs,I.base.tbls⟩,⟨_,hn',fun j y v' e1 e2 e3=>?_⟩,fun y c e=>?_,I.free,I.freeC,fun p hp=>?_,tracked ⟨oL,hoL,I.free⟩ hs,by simpa using I.len⟩ ⟨_,hs,.inl rfl⟩
  ·exact (hs.2 b (cj (bg (Heap.lt_size e) I.ok.above))).trans (I.base.keep b o e n hb hx)
  ·obtain⟨sl,e1⟩:=I.base.slot b o e n hb hx;exact⟨sl,(hs.2 b (cj (bg (Heap.lt_size e) I.ok.above))).trans e1⟩
  ·obtain⟨o',e1⟩:=I.base.there b o e hx;exact⟨o',(hs.2 b (cj (bg (Heap.lt_size e) I.ok.above))).trans e1⟩
  ·by_cases hj:j=i
   ·subst hj;rw[hi] at e1;cases e1;rw[ao hiσ] at e2;cases e2;exact⟨u,r,.inl ⟨hk,by simp⟩⟩
   ·rw[ai (Ne.symm hj)] at e2;obtain⟨u',r',q⟩:=hl j y v' e1 e2 e3;refine⟨u',r',?_⟩;rcases q with ⟨k,e⟩ | ⟨k,c,e,z⟩
    ·refine .inl ⟨k,?_⟩;have:y≠x:=fun e=>hj (qR hN e1 (e ▸ hi))
     simp[this,e]
    ·exact .inr ⟨k,c,e,z.sameBut hs (cne y c e)⟩
  ·obtain⟨w',z⟩:=I.cell y c e;exact⟨w',z.sameBut hs (cne y c e)⟩
  ·obtain⟨e,n,ne,nf,d⟩:=I.pin p hp;exact⟨(hs.2 p.1 ne).trans e,n,ne,nf,d⟩
 ·have hfn:X.fn x=true:=by
   rcases hf with z | z
   ·exact z
   ·rw[z] at hk;cases hk
  obtain⟨c,hc⟩:=I.ok.has x (.inl hk);obtain⟨w',z⟩:=I.cell x c hc;refine wpAny_storeName_cell I.ok.kind hk hc z (fun h' hc' hs=>?_);obtain⟨oc,hoc,hocd⟩:=id z;refine h { s with heap:=h' } ⟨I.ok,I.os,I.bare,⟨fun b o e n hb hx=>?_,fun b o e n hb hx=>?_,I.base.free,fun b o e hx=>?_,I.base.tups,I.base.frzs,I.base.tbls⟩,⟨m,hn.sameBut hs (Ne.symm (cne x c hc)),fun j y v' e1 e2 e3=>?_⟩,fun y c' e=>?_,I.free,I.freeC,fun p hp=>?_,tracked ⟨oc,hoc,I.freeC x c hc⟩ hs,by simpa using I.len⟩ ⟨c,hs,.inr hc⟩
  ·exact (hs.2 b (cj (bg (Heap.lt_size e) (I.ok.cab x c hfn hc)))).trans (I.base.keep b o e n hb hx)
  ·obtain⟨sl,e1⟩:=I.base.slot b o e n hb hx;exact⟨sl,(hs.2 b (cj (bg (Heap.lt_size e) (I.ok.cab x c hfn hc)))).trans e1⟩
  ·obtain⟨o',e1⟩:=I.base.there b o e hx;exact⟨o',(hs.2 b (cj (bg (Heap.lt_size e) (I.ok.cab x c hfn hc)))).trans e1⟩
  ·by_cases hj:j=i
   ·subst hj;rw[hi] at e1;cases e1;rw[ao hiσ] at e2;cases e2;exact⟨u,r,.inr ⟨.inl hk,c,hc,hc'⟩⟩
   ·rw[ai (Ne.symm hj)] at e2;obtain⟨u',r',q⟩:=hl j y v' e1 e2 e3;refine⟨u',r',?_⟩;rcases q with q | ⟨k,c',e,z'⟩
    ·exact .inl q
    ·refine .inr ⟨k,c',e,z'.sameBut hs ?_⟩;rintro rfl;exact hj (qR hN e1 (I.ok.inj _ _ _ e hc ▸ hi))
  ·by_cases hcc:c'=c
   ·subst hcc;exact⟨_,hc'⟩
   ·obtain⟨w2,z2⟩:=I.cell y c' e;exact⟨w2,z2.sameBut hs hcc⟩
  ·obtain⟨e,n,ne,nf,d⟩:=I.pin p hp;refine⟨(hs.2 p.1 ?_).trans e,n,ne,nf,d⟩;intro q;rw[q,hoc] at e;have q':oc=p.2:=bz e;exact d w' (by rw[←q'];exact hocd)
theorem lY {M:Model}{A:Around}{E:Value→Shared→Prop}{i:Nat}{x:Str}{v:V}{u:Value}{Q:Unit→Shared→Prop}(I:Inv X pins σ H s) (hN:X.N.Nodup) (hi:X.N[i]? = some x) (hx:Loc X.env.scope x) (r:RelV v u)
  (h:∀ s',Inv X pins (σ.set i (some v)) H s'→Q () s') (hf:X.fn x=true∨X.env.scope.names.lookup x=some .local:=by first | exact .inl rfl | exact .inr rfl | assumption):wpAny M A (storeName X.env x u) Q E s :=
 uV I hN hi hx r (fun s' I' _=>h s' I') hf
theorem Inv.call' {s':Shared}{ch:List Addr}(I:Inv X pins σ H s) (ho:s'.os=s.os) (u:Un (yG X.stack) ch H H' s.heap s'.heap) (hok:jS X.prog X.w H' s'.heap) (hg:AllBare s'.gens)
  (hch:∀ b∈ch,(b∈X.ex∨X.s₀.heap.objs.size≤b)∧b≠X.env.locals∧(∀ x c,X.env.cells.lookup x=some c→c≠b)∧∀ p∈X.pn++pins,p.1≠b):Inv X pins σ H' s':=by
 obtain⟨h',g',d',t',o'⟩:=s';have e:o'=s.os:=ho;subst e;exact I.call (g':=g') (t':=t') (d':=d') u hok hg hch
end
noncomputable abbrev XK:=Value→Option Addr→Hp→Prop
noncomputable abbrev St:=List (Option V)
noncomputable abbrev VK:=V→Hp→Prop
noncomputable abbrev TE:=St→Hp→VK→Prop
noncomputable abbrev TT:=St→Hp→(Bool→Hp→Prop)→Prop
noncomputable abbrev TA:=St→Hp→(List V→Hp→Prop)→Prop
structure Ends where
 nx:St→Hp→Prop
 rt:VK
 bk:St→Hp→Prop:=fun _ _=>False
 ct:St→Hp→Prop:=fun _ _=>False
noncomputable abbrev TS:=Ends→St→Hp→Prop
noncomputable def EP (X:Cx) (pins:List (Addr×Obj)) (σ:St) (Q:VK) (u:Value) (s':Shared):Prop:=∃ v H',Inv X pins σ H' s'∧RelV v u∧Q v H'
noncomputable def TP (X:Cx) (pins:List (Addr×Obj)) (σ:St) (Q:Bool→Hp→Prop) (b:Bool) (s':Shared):Prop:=∃ H',Inv X pins σ H' s'∧Q b H'
noncomputable def AP (X:Cx) (pins:List (Addr×Obj)) (σ:St) (Q:List V→Hp→Prop) (us:List Value) (s':Shared):Prop:=∃ vs H',Inv X pins σ H' s'∧aQ vs us∧Q vs H'
noncomputable def SP (X:Cx) (pins:List (Addr×Obj)) (D:Ends) (f:Flow) (s':Shared):Prop :=
 match f with
 |.next=>∃ σ' H',Inv X pins σ' H' s'∧D.nx σ' H'
 |.brk=>∃ σ' H',Inv X pins σ' H' s'∧D.bk σ' H'
 |.cont=>∃ σ' H',Inv X pins σ' H' s'∧D.ct σ' H'
 |.ret u=>∃ v σ' H',Inv X pins σ' H' s'∧RelV v u∧D.rt v H'
noncomputable def PE (X:Cx) (e:Expr) (t:TE):Prop :=
 ∀(pins:List (Addr×Obj)) (s:Shared) (σ:St) (H:Hp) (Q:VK),Inv X pins σ H s→t σ H Q→wpAny (model X.prog X.w) X.A (eval e X.env) (EP X pins σ Q) X.xe s
noncomputable def PT (X:Cx) (e:Expr) (t:TT):Prop :=
 ∀(pins:List (Addr×Obj)) (s:Shared) (σ:St) (H:Hp) (Q:Bool→Hp→Prop),Inv X pins σ H s→t σ H Q→wpAny (model X.prog X.w) X.A (isTrue e X.env (eval e X.env)) (TP X pins σ Q) X.xe s
noncomputable def PW (X:Cx) (e:Expr) (t:TT):Prop :=
 ∀(whole:Sem Value) (pins:List (Addr×Obj)) (s:Shared) (σ:St) (H:Hp) (Q:Bool→Hp→Prop),Inv X pins σ H s→t σ H Q→wpAny (model X.prog X.w) X.A (isTrue e X.env whole) (TP X pins σ Q) X.xe s
theorem PW.pt {X:Cx}{e:Expr}{t:TT}(h:PW X e t):PT X e t:=h _
noncomputable def PA (X:Cx) (es:List Expr) (t:TA):Prop :=
 ∀(pos:Pos) (pins:List (Addr×Obj)) (s:Shared) (σ:St) (H:Hp) (Q:List V→Hp→Prop),Inv X pins σ H s→t σ H Q→wpAny (model X.prog X.w) X.A (spliced (backTo pos (starEach es X.env))) (AP X pins σ Q) X.xe s
noncomputable def PS (X:Cx) (st:Stmt) (t:TS):Prop :=
 ∀(pins:List (Addr×Obj)) (s:Shared) (σ:St) (H:Hp) (D:Ends),Inv X pins σ H s→t D σ H→wpAny (model X.prog X.w) X.A (exec st X.env) (SP X pins D) X.xe s
noncomputable def mT (X:Cx) (st:List Stmt) (t:TS):Prop :=
 ∀(pins:List (Addr×Obj)) (s:Shared) (σ:St) (H:Hp) (D:Ends),Inv X pins σ H s→t D σ H→wpAny (model X.prog X.w) X.A (execs st X.env) (SP X pins D) X.xe s
theorem dD {α:Type}{t:Sem α}{Q Q':α→Shared→Prop}{M:Model}{A:Around}{E:Value→Shared→Prop}{s:Shared}(h:wpAny M A t Q E s) (hQ:∀ a s,Q a s→Q' a s):wpAny M A t Q' E s:=wpAny_mono h hQ fun _ _ x=>x
end L2
namespace L2
open PySem PySem.Spec PyProof.Rows
section
variable {X:Cx}
noncomputable def tVar (i:Nat):TE:=fun σ H Q=>∃ v,σ[i]? = some (some v)∧Q v H
noncomputable def tC (v:V):TE:=fun _ H Q=>Q v H
theorem sH {i:Nat}{x:Str}{pos:Pos}(hN:X.N[i]? = some x) (hv:Bv X.env.scope x) (hd:(x==("__debug__" : Str))=false:=by decide) (hcd:(x==("__classdict__" : Str))=false:=by decide):PE X (.Name x pos) (tVar i):=by
 intro pins s σ H Q I h;obtain⟨v,e,h⟩:=h;obtain⟨m,hn,hl⟩:=I.loc;obtain⟨u,r,l⟩:=hl i x v hN e hv;have fin:EP X pins σ Q u s:=⟨v,H,I,r,h⟩;rcases l with ⟨hk,hm⟩ | ⟨hk,c,hc,hcell⟩
 ·exact wpAny_Name (wpAny_loadName_local I.ok.kind hk hn hm fin) hd
 ·rcases hk with hk | hk
  ·exact wpAny_Name (wpAny_loadName_cell I.ok.kind hk hc hcell fin) hd
  ·exact wpAny_Name (wpAny_loadName_free I.ok.kind hk hc hcell fin hcd) hd
theorem xu {i j pos}:PE X (.Constant (.int i) j pos) (tC (.int i)):=fun _ _ _ H _ I h=>wpAny_Constant_int ⟨.int i,H,I.tok _,⟨_,rfl⟩,h⟩
theorem BN {b j pos}:PE X (.Constant (.bool b) j pos) (tC (.bl b)):=fun _ _ _ H _ I h=>Constant_bool ⟨.bl b,H,I,rfl,h⟩
theorem xp {j pos}:PE X (.Constant .none j pos) (tC .non):=fun _ _ _ H _ I h=>Constant_none ⟨.non,H,I,rfl,h⟩
theorem wF {x j pos}:PE X (.Constant (.str x) j pos) (tC (.str x)):=fun _ _ _ H _ I h=>Calls.Constant_str ⟨.str x,H,I.tok _,⟨_,rfl⟩,h⟩
noncomputable def Gl (X:Cx) (x:Str):Prop:=X.env.kindOf x=some .globalImplicit
theorem pJ {E:Value→Shared→Prop}{pins:List (Addr×Obj)}{s:Shared}{σ:St}{H:Hp}{x:Str}{u:Value}{pos:Pos}{Q:Value→Shared→Prop}(I:Inv X pins σ H s) (hg:Gl X x) (hm:X.mg x=some u) (h:Q u s)
  (hd:(x==("__debug__" : Str))=false:=by decide):wpAny (model X.prog X.w) X.A (eval (.Name x pos) X.env) Q E s :=
 Calls.Name_function_global I.ok.kind hg (Calls.loadGlobal_global (by rw[I.ok.glob];exact I.mod.glob.keeps I.bk) hm h) hd
theorem iL {E:Value→Shared→Prop}{pins:List (Addr×Obj)}{s:Shared}{σ:St}{H:Hp}{x:Str}{u:Value}{pos:Pos}{Q:Value→Shared→Prop}(I:Inv X pins σ H s) (hg:Gl X x) (hm:X.mg x=none) (hv:bootBuiltins x=some u) (h:Q u s)
  (hn:x≠"__name__":=by decide) (hd:(x==("__debug__" : Str))=false:=by decide):wpAny (model X.prog X.w) X.A (eval (.Name x pos) X.env) Q E s:=by
 obtain⟨mb,h1,h2⟩:=I.mod.blt;exact Calls.Name_function_global I.ok.kind hg (Calls.loadGlobal_builtin (by rw[I.ok.glob];exact I.mod.glob.keeps I.bk) hm (by rw[I.ok.blt];exact h1.keeps I.bk) ((h2 x hn).trans hv) h) hd
theorem A2 {x:Str}{v:V}{u:Value}{pos:Pos}(hg:Gl X x) (hm:X.mg x=some u) (r:RelV v u) (hd:(x==("__debug__" : Str))=false:=by decide):PE X (.Name x pos) (tC v) :=
 fun _ _ _ H _ I h=>pJ I hg hm ⟨v,H,I,r,h⟩ hd
theorem AV {x:Str}{v:V}{u:Value}{pos:Pos}(hg:Gl X x) (hm:X.mg x=none) (hv:bootBuiltins x=some u) (r:RelV v u) (hn:x≠"__name__":=by decide) (hd:(x==("__debug__" : Str))=false:=by decide):PE X (.Name x pos) (tC v) :=
 fun _ _ _ H _ I h=>iL I hg hm hv ⟨v,H,I,r,h⟩ hn hd
variable {a b:Expr}{ta tb:TE}{pos:Pos}
variable {tA tB':TT}{rest:List Expr}
noncomputable def tAnd (t u:TT):TT:=fun σ H Q=>t σ H fun c H1=>if c=true then u σ H1 Q else Q false H1
noncomputable def tOr (t u:TT):TT:=fun σ H Q=>t σ H fun c H1=>if c=true then Q true H1 else u σ H1 Q
noncomputable def tNot (t:TT):TT:=fun σ H Q=>t σ H fun c H1=>Q (!c) H1
theorem Af (ha:PT X a tA):PW X (.BoolOp .And [a] pos) tA:=by
 intro wh pins s σ H Q I h;refine isTrue_and (dD (ha pins s σ H Q I h) fun c s1 e=>?_);cases c with
 |true=>exact isTrue_and_nil e
 |false=>exact e
theorem DT (ha:PT X a tA):PW X (.BoolOp .Or [a] pos) tA:=by
 intro wh pins s σ H Q I h;refine isTrue_or (dD (ha pins s σ H Q I h) fun c s1 e=>?_);cases c with
 |false=>exact isTrue_or_nil e
 |true=>exact e
theorem DB (ha:PT X a tA) (hb:PW X (.BoolOp .And (b::rest) pos) tB'):PW X (.BoolOp .And (a::b::rest) pos) (tAnd tA tB'):=by
 intro wh pins s σ H Q I h;refine isTrue_and (dD (ha pins s σ H _ I h) fun c s1 ⟨H1,I1,q1⟩=>?_);cases c with
 |true=>exact hb wh pins s1 σ H1 Q I1 q1
 |false=>exact⟨H1,I1,q1⟩
theorem FT (ha:PT X a tA) (hb:PW X (.BoolOp .Or (b::rest) pos) tB'):PW X (.BoolOp .Or (a::b::rest) pos) (tOr tA tB'):=by
 intro wh pins s σ H Q I h;refine isTrue_or (dD (ha pins s σ H _ I h) fun c s1 ⟨H1,I1,q1⟩=>?_);cases c with
 |true=>exact⟨H1,I1,q1⟩
 |false=>exact hb wh pins s1 σ H1 Q I1 q1
theorem DS (ha:PT X a tA):PT X (.UnaryOp .Not a pos) (tNot tA):=by
 intro pins s σ H Q I h;exact isTrue_not (ha pins s σ H (fun c H1=>Q (!c) H1) I h)
noncomputable def GN (ta tb:TE):TE:=fun σ H Q=>ta σ H fun x H1=>∃ c,x = .bl c∧if c=true then tb σ H1 Q else Q (.bl false) H1
noncomputable def tOrV (ta tb:TE):TE:=fun σ H Q=>ta σ H fun x H1=>∃ c,x = .bl c∧if c=true then Q (.bl true) H1 else tb σ H1 Q
noncomputable def GL (ta:TE):TE:=fun σ H Q=>ta σ H fun x H1=>∃ c,x = .bl c∧Q (.bl (!c)) H1
theorem Cg {op} {t:TE}(h:PE X a t):PE X (.BoolOp op [a] pos) t:=fun pins s σ H Q I hw=>BoolOp_one (h pins s σ H Q I hw)
theorem Ec (ha:PE X a ta) (hb:PE X (.BoolOp .And (b::rest) pos) tb):PE X (.BoolOp .And (a::b::rest) pos) (GN ta tb):=by
 intro pins s σ H Q I h;refine BoolOp_and (dD (ha pins s σ H _ I h) fun v s1 ⟨x,H1,I1,r1,q1⟩=>?_);obtain⟨c,rfl,q1⟩:=q1;cases r1;refine wpAny_truthy_bool ?_;cases c with
 |true=>exact hb pins s1 σ H1 Q I1 q1
 |false=>exact⟨.bl false,H1,I1,rfl,q1⟩
theorem Gj (ha:PE X a ta) (hb:PE X (.BoolOp .Or (b::rest) pos) tb):PE X (.BoolOp .Or (a::b::rest) pos) (tOrV ta tb):=by
 intro pins s σ H Q I h;refine BoolOp_or (dD (ha pins s σ H _ I h) fun v s1 ⟨x,H1,I1,r1,q1⟩=>?_);obtain⟨c,rfl,q1⟩:=q1;cases r1;refine wpAny_truthy_bool ?_;cases c with
 |false=>exact hb pins s1 σ H1 Q I1 q1
 |true=>exact⟨.bl true,H1,I1,rfl,q1⟩
theorem Eu (ha:PE X a ta):PE X (.UnaryOp .Not a pos) (GL ta):=by
 intro pins s σ H Q I h;refine UnaryOp_ (dD (ha pins s σ H _ I h) fun v s1 ⟨x,H1,I1,r1,q1⟩=>?_);obtain⟨c,rfl,q1⟩:=q1;cases r1;exact not_of (wpAny_truthy_bool ⟨.bl (!c),H1,I1,rfl,q1⟩)
noncomputable def tIf (t:TT) (ta tb:TE):TE:=fun σ H Q=>t σ H fun c H1=>if c=true then ta σ H1 Q else tb σ H1 Q
theorem xi {c:Expr}(hc:PT X c tA) (ha:PE X a ta) (hb:PE X b tb):PE X (.IfExp c a b pos) (tIf tA ta tb):=by
 intro pins s σ H Q I h;refine wpAny_IfExp (dD (hc pins s σ H _ I h) fun d s1 ⟨H1,I1,q1⟩=>?_);cases d with
 |true=>exact ha pins s1 σ H1 Q I1 q1
 |false=>exact hb pins s1 σ H1 Q I1 q1
end
end L2
namespace L2
open PySem PySem.Spec PyProof.Rows
noncomputable def j8 (K:PySem.W.Frag) (H:Hp) (a:Addr) (xs:List V):Prop :=
 Rd H a (.lst xs) ∨
  ∃(o:Obj) (its:Array Value) (n:Nat),K.lookup a=some o∧o.cls = .type "list"∧o.dict=none∧o.data = .seq its n∧its.size≤sizeLine∧aQ xs its.toList
noncomputable def j6 (K:PySem.W.Frag) (H:Hp) (a:Addr) (xs:List V):Prop :=
 Rd H a (.tup xs) ∨
  ∃(o:Obj) (its:Array Value) (n:Nat),K.lookup a=some o∧o.cls = .type "tuple"∧o.data = .seq its n∧its.size≤sizeLine∧aQ xs its.toList
noncomputable def absV:Value→Option V
 |.none=>some .non
 |.bool b=>some (.bl b)
 |.int i _=>some (.int i)
 |.str x _=>some (.str x)
 |.bytes b _=>some (.byt b)
 |.float b _=>some (.flt b)
 |.ref a=>some (.ref a)
 |.type n=>some (.ty n)
 |_=>none
theorem RelV.abs {x:V}{u:Value}(r:RelV x u):absV u=some x:=by
 cases x with
 |non=>cases r;rfl
 |bl _=>cases r;rfl
 |int _=>obtain⟨t,rfl⟩:=r;rfl
 |str _=>obtain⟨t,rfl⟩:=r;rfl
 |byt _=>obtain⟨t,rfl⟩:=r;rfl
 |flt _=>obtain⟨t,rfl⟩:=r;rfl
 |ref _=>cases r;rfl
 |ty _=>cases r;rfl
theorem RelV.inj {x y:V}{u:Value}(r:RelV x u) (q:RelV y u):x=y:=bz (r.abs.symm.trans q.abs)
theorem aQ.inj:∀{xs ys:List V}{us:List Value},aQ xs us→aQ ys us→xs=ys
 |_,_,_,.nil,.nil=>rfl
 |_,_,_,.cons r t,.cons r' t'=>by rw[r.inj r',aQ.inj t t']
section
variable {X:Cx}{pins:List (Addr×Obj)}{σ:St}{H:Hp}{s:Shared}{a:Addr}{xs ys:List V}
theorem Inv.list (I:Inv X pins σ H s) (h:j8 X.K H a xs):∃ its:List Value,aQ xs its∧PlainL s.heap a its.toArray∧xs.length≤sizeLine:=by
 rcases h with h | ⟨o,its,n,hk,hc,hd,hs,hz,r⟩
 ·obtain⟨z,its,n,r,e⟩:=h.ok I.hok;exact⟨its,r,⟨_,n,e,rfl,rfl,rfl⟩,z⟩
 ·refine⟨its.toList,r,⟨o,n,I.kIn a o hk,hc,hd,by simpa using hs⟩,?_⟩;have e:=r.length;simp only[Array.length_toList] at e;omega
theorem Inv.tuple (I:Inv X pins σ H s) (h:j6 X.K H a xs):∃ its:List Value,aQ xs its∧IsTup s.heap a its.toArray∧xs.length≤sizeLine:=by
 rcases h with h | ⟨o,its,n,hk,hc,hs,hz,r⟩
 ·obtain⟨z,its,r,p⟩:=h.ok I.hok;exact⟨its,r,p,z⟩
 ·refine⟨its.toList,r,⟨o,I.kIn a o hk,hc,n,by simpa using hs⟩,?_⟩;have e:=r.length;simp only[Array.length_toList] at e;omega
theorem Inv.list_inj (I:Inv X pins σ H s) (h:j8 X.K H a xs) (h':j8 X.K H a ys):xs=ys:=by
 obtain⟨its,r,⟨o,n,e,_,_,d⟩,_⟩:=I.list h;obtain⟨its',r',⟨o',n',e',_,_,d'⟩,_⟩:=I.list h';rw[e] at e';cases e';rw[d] at d';injection d' with d1 _
 have:its=its':=by simpa using congrArg Array.toList d1
 subst this;exact r.inj r'
theorem Inv.tuple_inj (I:Inv X pins σ H s) (h:j6 X.K H a xs) (h':j6 X.K H a ys):xs=ys:=by
 obtain⟨its,r,⟨o,e,_,n,d⟩,_⟩:=I.tuple h;obtain⟨its',r',⟨o',e',_,n',d'⟩,_⟩:=I.tuple h';rw[e] at e';cases e';rw[d] at d';injection d' with d1 _
 have:its=its':=by simpa using congrArg Array.toList d1
 subst this;exact r.inj r'
end
noncomputable abbrev Cx.wish (X:Cx) (E:Value→Shared→Prop):Cx:={ X with xe:=E }
noncomputable abbrev Cx.nox (X:Cx):Cx:=X.wish fun _ _=>False
theorem Cx.Ok.wish {X:Cx}(ok:X.Ok) (E:Value→Shared→Prop):(X.wish E).Ok :=
 ⟨ok.mod,ok.kind,ok.glob,ok.blt,ok.above,ok.inj,ok.has,ok.cab,ok.hd,ok.frames,ok.stk,ok.exf,ok.bs,ok.bsz,ok.noex,ok.exfs,ok.funs,ok.frf⟩
theorem Cx.Ok.unwish {X:Cx}{E:Value→Shared→Prop}(ok:(X.wish E).Ok):X.Ok :=
 ⟨ok.mod,ok.kind,ok.glob,ok.blt,ok.above,ok.inj,ok.has,ok.cab,ok.hd,ok.frames,ok.stk,ok.exf,ok.bs,ok.bsz,ok.noex,ok.exfs,ok.funs,ok.frf⟩
section
variable {X:Cx}{pins:List (Addr×Obj)}{σ:St}{H:Hp}{s:Shared}{E:Value→Shared→Prop}
theorem Inv.wish (I:Inv X pins σ H s) (E:Value→Shared→Prop):Inv (X.wish E) pins σ H s:=⟨I.ok.wish E,I.os,I.bare,I.base,I.loc,I.cell,I.free,I.freeC,I.pin,I.hok,I.len⟩
theorem Inv.unwish (I:Inv (X.wish E) pins σ H s):Inv X pins σ H s:=⟨I.ok.unwish,I.os,I.bare,I.base,I.loc,I.cell,I.free,I.freeC,I.pin,I.hok,I.len⟩
theorem SP.unwish {D:Ends}{f:Flow}{s':Shared}(h:SP (X.wish E) pins D f s'):SP X pins D f s':=by
 cases f with
 |next=>obtain⟨σ',H',I,q⟩:=h;exact⟨σ',H',I.unwish,q⟩
 |brk=>obtain⟨σ',H',I,q⟩:=h;exact⟨σ',H',I.unwish,q⟩
 |cont=>obtain⟨σ',H',I,q⟩:=h;exact⟨σ',H',I.unwish,q⟩
 |ret u=>obtain⟨v,σ',H',I,r,q⟩:=h;exact⟨v,σ',H',I.unwish,r,q⟩
theorem mT.nox {st:List Stmt}{t:TS}(h:mT X.nox st t):mT X st t:=fun pins s σ H D I hw =>
 wpAny_mono (h pins s σ H D (I.wish _) hw) (fun _ _ q=>q.unwish) fun _ _ z=>False.elim z
end
section
variable {X:Cx}{st:Stmt}{rest:List Stmt}{t u:TS}{e:Expr}{te:TE}{pos:Pos}
noncomputable def xC:TS:=fun D σ H=>D.nx σ H
noncomputable def tSeq (t u:TS):TS:=fun D σ H=>t { D with nx:=u D } σ H
theorem AE:mT X [] xC:=fun _ _ σ H _ I h=>wpAny_execs_nil ⟨σ,H,I,h⟩
theorem yH (h1:PS X st t) (h2:mT X rest u):mT X (st::rest) (tSeq t u):=by
 intro pins s σ H D I h;refine wpAny_execs_cons (dD (h1 pins s σ H { D with nx:=u D } I h) fun f s1 q=>?_);cases f with
 |next =>
  obtain⟨σ',H',I',q⟩:=q;exact h2 pins s1 σ' H' D I' q
 |ret v=>exact q
 |brk=>exact q
 |cont=>exact q
noncomputable def D8:TS:=fun D σ H=>D.bk σ H
noncomputable def Fk:TS:=fun D σ H=>D.ct σ H
theorem Bf:PS X (.Pass pos) xC:=fun _ _ σ H _ I h=>wpAny_Pass ⟨σ,H,I,h⟩
theorem wH:PS X (.Break pos) D8:=fun _ _ σ H _ I h=>wpAny_Break ⟨σ,H,I,h⟩
theorem qb:PS X (.Continue pos) Fk:=fun _ _ σ H _ I h=>wpAny_Continue ⟨σ,H,I,h⟩
theorem Inv.quiet {pins:List (Addr×Obj)}{σ:St}{H:Hp}{s:Shared}(I:Inv X pins σ H s):interactive X.env=false:=by simp[interactive,I.ok.kind]
theorem Cf {x j pos pos'}:PS X (.Expr (.Constant (.str x) j pos) pos') xC:=fun _ s σ H _ I h=>wpAny_Expr (Calls.Constant_str (show SP X _ _ .next { s with toks:=s.toks+1 } from ⟨σ,H,I.tok _,h⟩)) I.quiet
noncomputable def uC (te:TE):TS:=fun D σ H=>te σ H fun _ H1=>D.nx σ H1
theorem jz (he:PE X e te) (hs:swapsWith e none pos.line X.env=pure false:=by rfl):PS X (.Expr e pos) (uC te):=by
 intro pins s σ H D I h;exact wpAny_Expr_any (dD (he pins s σ H _ I h) fun v s1 ⟨x,H1,I1,r1,q1⟩=>⟨σ,H1,I1,q1⟩) I.quiet hs
noncomputable def tRet (te:TE):TS:=fun D σ H=>te σ H D.rt
theorem DH (he:PE X e te):PS X (.Return (some e) pos) (tRet te):=by
 intro pins s σ H D I h;exact wpAny_Return_some (dD (he pins s σ H _ I h) fun v s1 ⟨x,H1,I1,r1,q1⟩=>⟨x,σ,H1,I1,r1,q1⟩)
noncomputable def EZ:TS:=fun D _ H=>D.rt .non H
theorem A7:PS X (.Return none pos) EZ:=fun _ _ σ H _ I h=>wpAny_Return_none ⟨.non,σ,H,I,rfl,h⟩
noncomputable def tIfS (c:TT) (t u:TS):TS:=fun D σ H=>c σ H fun b H1=>if b=true then t D σ H1 else u D σ H1
theorem E9 {c:Expr}{a b:List Stmt}{tc:TT}(hc:PT X c tc) (ha:mT X a t) (hb:mT X b u):PS X (.If c a b pos) (tIfS tc t u):=by
 intro pins s σ H D I h;refine wpAny_If (dD (hc pins s σ H _ I h) fun d s1 ⟨H1,I1,q1⟩=>?_);cases d with
 |true=>exact ha pins s1 σ H1 D I1 q1
 |false=>exact hb pins s1 σ H1 D I1 q1
end
noncomputable abbrev TG:=V→St→Hp→(St→Hp→Prop)→Prop
noncomputable abbrev BO:=List V→St→Hp→(St→Hp→Prop)→Prop
noncomputable def PG (X:Cx) (target:Expr) (t:TG):Prop :=
 ∀(pins:List (Addr×Obj)) (s:Shared) (σ:St) (H:Hp) (v:V) (u:Value) (Q:St→Hp→Prop),Inv X pins σ H s→RelV v u→t v σ H Q →
  wpAny (model X.prog X.w) X.A (assign target X.env u) (fun _ s'=>∃ σ' H',Inv X pins σ' H' s'∧Q σ' H') X.xe s
noncomputable def EK (X:Cx) (ts:List Expr) (t:BO):Prop :=
 ∀(pins:List (Addr×Obj)) (s:Shared) (σ:St) (H:Hp) (vs:List V) (us:List Value) (Q:St→Hp→Prop),Inv X pins σ H s→aQ vs us→t vs σ H Q →
  wpAny (model X.prog X.w) X.A (assignInOrder ((assignEach ts X.env).map (·.2)) us) (fun _ s'=>∃ σ' H',Inv X pins σ' H' s'∧Q σ' H') X.xe s
noncomputable abbrev DO:=V→V→V→Hp→(Hp→Prop)→Prop
noncomputable def EX (X:Cx) (t:DO):Prop :=
 ∀(pins:List (Addr×Obj)) (s:Shared) (σ:St) (H:Hp) (o i v:V) (ov iv u:Value) (Q:Hp→Prop),Inv X pins σ H s→RelV o ov→RelV i iv→RelV v u→t o i v H Q →
  wpAny (model X.prog X.w) X.A (setItem ov iv u) (fun _ s'=>∃ H',Inv X pins σ H' s'∧Q H') X.xe s
section
variable {X:Cx}{pos:Pos}
noncomputable def nu (i:Nat):TG:=fun v σ H Q=>Q (σ.set i (some v)) H
theorem uF {i:Nat}{x:Str}(hN:X.N.Nodup) (hi:X.N[i]? = some x) (hx:Loc X.env.scope x) (hf:X.fn x=true∨X.env.scope.names.lookup x=some .local:=by first | exact .inl rfl | exact .inr rfl | assumption):PG X (.Name x pos) (nu i):=by
 intro pins s σ H v u Q I r h;exact wpAny_assign_Name (lY I hN hi hx r (fun s' I'=>⟨_,H,I',h⟩) hf)
noncomputable def GD:BO:=fun vs σ H Q=>vs=[]∧Q σ H
noncomputable def BG (t:TG) (u:BO):BO:=fun vs σ H Q=>∃ v r,vs=v::r∧t v σ H fun σ' H'=>u r σ' H' Q
theorem Al:EK X [] GD:=by
 intro pins s σ H vs us Q I r h;obtain⟨e,h⟩:=h;subst e;cases r;exact assignInOrder_nil ⟨σ,H,I,h⟩
theorem zc {e:Expr}{es:List Expr}{t:TG}{u:BO}(h1:PG X e t) (h2:EK X es u)
  (hs:(assignEach (e::es) X.env).map (·.2)=assign e X.env::(assignEach es X.env).map (·.2):=by rfl):EK X (e::es) (BG t u):=by
 intro pins s σ H vs us Q I r h;obtain⟨v,vr,e1,h⟩:=h;subst e1;cases r with
 |cons r rr =>
  rw[hs];refine assignInOrder_cons (dD (h1 pins s σ H _ _ _ I r h) fun _ s1 ⟨σ1,H1,I1,q1⟩=>?_);exact h2 pins s1 σ1 H1 _ _ Q I1 rr q1
noncomputable def zo (K:PySem.W.Frag) (n:Nat) (t:BO):TG:=fun v σ H Q=>∃ a xs,v = .ref a∧j6 K H a xs∧xs.length=n∧t xs σ H Q
theorem zl {es:List Expr}{k:Nat}{t:BO}{n:Nat}(hc:X.calm=true) (h:EK X es t)
  (hn:(assignEach es X.env).length=n:=by rfl) (hst:(assignEach es X.env).findIdx? (·.1)=none:=by rfl):PG X (.Tuple es k pos) (zo X.K n t):=by
 intro pins s σ H v u Q I r hw;obtain⟨a,xs,e1,hq,hl,hw⟩:=hw;subst e1;cases r;obtain⟨its,rv,ht,hz⟩:=I.tuple hq;refine assign_Tuple_tuple (I.ok.hd hc) ht (by simp[hn,←hl,rv.length]) hst fun h' hx=>?_
 have I1:Inv X pins σ H { s with heap:=h' }:=I.kept (t':=s.toks) fun b o e=>hx b o (cj (Heap.lt_size e)) e
 exact h pins _ σ H xs _ Q I1 (by simpa using rv) hw
noncomputable def FG (to ti:TE) (t:DO):TG:=fun v σ H Q=>to σ H fun o H1=>ti σ H1 fun i H2=>t o i v H2 fun H3=>Q σ H3
theorem CL {o i:Expr}{to ti:TE}{t:DO}(ho:PE X o to) (hi:PE X i ti) (hs:EX X t)
  (ha:∀ v,assign (.Subscript o i pos) X.env v=(do
   let ov ← holding [v] (eval o X.env);let iv ← holding [v,ov] (eval i X.env)
   standAt pos
   holding [v,ov,iv] (setItem ov iv v)
   release [v,ov,iv] []):=by intro _;rfl):PG X (.Subscript o i pos) (FG to ti t):=by
 intro pins s σ H v u Q I r h;rw[ha];refine wpAny_bind (wpAny_holding (dD (ho pins s σ H _ I h) fun ov s1 ⟨x,H1,I1,r1,q1⟩=>?_));refine wpAny_bind (wpAny_holding (dD (hi pins s1 σ H1 _ I1 q1) fun iv s2 ⟨y,H2,I2,r2,q2⟩=>?_));refine wpAny_bind (wpAny_standAt (wpAny_bind (wpAny_holding (dD (hs pins s2 σ H2 x y v ov iv u _ I2 r1 r2 r q2) fun _ s3 ⟨H3,I3,q3⟩=>?_))));exact wpAny_release ⟨σ,H3,I3,q3⟩
noncomputable def zX (te:TE) (g:TG):TS:=fun D σ H=>te σ H fun x H1=>g x σ H1 D.nx
theorem wY {tg e:Expr}{te:TE}{g:TG}(he:PE X e te) (hg:PG X tg g) (hs:swapsWithSole [tg] e pos.line X.env=pure false:=by rfl) (hw:swappedStores [tg] e X.env=pure none:=by rfl)
  (h1:(assignEach [tg] X.env).map (·.2)=[assign tg X.env]:=by rfl):PS X (.Assign [tg] e pos) (zX te g):=by
 intro pins s σ H D I h;refine wpAny_Assign_stores (dD (he pins s σ H _ I h) fun v s1 ⟨x,H1,I1,r1,q1⟩=>?_) hs hw;rw[h1];exact dD (hg pins s1 σ H1 x v _ I1 r1 q1) fun _ s2 q=>q
theorem DM {i:Nat}{x:Str}{e:Expr}{te:TE}{pos':Pos}(hN:X.N.Nodup) (hi:X.N[i]? = some x) (hx:Loc X.env.scope x) (he:PE X e te) (hs:swapsWith e (some (.Name x pos')) pos.line X.env=pure false:=by rfl) (hf:X.fn x=true∨X.env.scope.names.lookup x=some .local:=by first | exact .inl rfl | exact .inr rfl | assumption) :
  PS X (.Assign [.Name x pos'] e pos) (zX te (nu i)):=by
 intro pins s σ H D I h;refine wpAny_Assign_Name (dD (he pins s σ H _ I h) fun v s1 ⟨y,H1,I1,r1,q1⟩=>?_) hs;exact lY I1 hN hi hx r1 (fun s2 I2=>⟨_,H1,I2,q1⟩) hf
end
section
variable {X:Cx}{pos:Pos}
noncomputable def B4 (c:TT) (tb:TS):TS:=fun D σ H=>∃ W:Nat→St→Hp→Prop,(∃ m,W m σ H)∧∀ m σ H,W m σ H →
 c σ H fun b H1=>if b=true then ∃ N:St→Hp→Prop,(∀ σ' H',N σ' H'→∃ m',m'<m∧W m' σ' H')∧tb { D with nx:=N,ct:=N,bk:=D.nx } σ H1 else D.nx σ H1
theorem yT {c:Expr}{body:List Stmt}{tc:TT}{tb:TS}(hp:PassesOwn (model X.prog X.w) X.A X.env X.xe) (hc:PT X c tc) (hb:mT X body tb):PS X (.While c body [] pos) (B4 tc tb):=by
 intro pins s σ H D I h;obtain⟨W,⟨m0,w0⟩,turn⟩:=h;refine wpAny_While (codeAny_whileLoop (fun n s'=>∃ σ' H',Inv X pins σ' H' s'∧W n σ' H') ?_ m0 ⟨σ,H,I,w0⟩);rintro n s1 ⟨σ1,H1,I1,w1⟩;refine wpAny_passesOwn hp (dD (hc pins s1 σ1 H1 _ I1 (turn n σ1 H1 w1)) fun b s2 ⟨H2,I2,q2⟩=>?_);cases b with
 |true =>
  obtain⟨N,hN,q2⟩:=q2;rw[if_pos rfl];refine wpAny_passesOwn hp (dD (hb pins s2 σ1 H2 _ I2 q2) fun f s3 q3=>?_);cases f with
  |next =>
   obtain⟨σ3,H3,I3,n3⟩:=q3;obtain⟨m',hm,w3⟩:=hN σ3 H3 n3;exact⟨m',hm,σ3,H3,I3,w3⟩
  |cont =>
   obtain⟨σ3,H3,I3,n3⟩:=q3;obtain⟨m',hm,w3⟩:=hN σ3 H3 n3;exact⟨m',hm,σ3,H3,I3,w3⟩
  |brk=>exact q3
  |ret v=>exact q3
 |false =>
  rw[if_neg bj];exact wpAny_execs_nil ⟨σ1,H2,I2,q2⟩
end
structure It where
 go:Nat→Hp→Prop
 yld:Nat→Hp→V→Hp→Prop
 stop:Nat→Hp→Prop
noncomputable def i7 (X:Cx) (pins:List (Addr×Obj)) (H:Hp) (b:Addr):Prop :=
 H b=none∧b≠X.env.locals∧b∉X.fs∧(b∈X.ex∨X.s₀.heap.objs.size≤b)∧(∀ x c,X.env.cells.lookup x=some c→c≠b)∧∀ p∈X.pn++pins,p.1≠b
theorem Inv.fpOk {X:Cx}{pins:List (Addr×Obj)}{σ:St}{H H':Hp}{s:Shared}{b:Addr}(I:Inv X pins σ H s) (hb:s.heap.objs.size≤b) (hn:H' b=none):i7 X pins H' b:=by
 refine⟨hn,Nat.ne_of_gt (bg I.lt hb),I.nofs hb,.inr (cv I.sz hb),fun x c e z=>?_,fun p hp z=>?_⟩
 ·obtain⟨v,q⟩:=I.cell x c e;exact absurd (bg q.lt (by rw[z];exact hb)) (ff _)
 ·exact absurd (bg (Heap.lt_size (I.pin p hp).1) (by rw[z];exact hb)) (ff _)
structure Turn (P:Program) (w:World) (K:PySem.W.Frag) (tg:Expr) (J:It) (fp:List Addr) (it:Addr) (tn:Nat→Heap→Prop):Prop where
 mem:it∈fp
 obj:∀ i h,tn i h→∀ b∈fp,∃ o,h.get? b=some o∧∀ v,o.data≠.cell v
 keep:∀ i h h',tn i h→(∀ b∈fp,∀ o,h.get? b=some o→h'.get? b=some o)→tn i h'
 item:∀(X:Cx),X.prog=P→X.w=w→X.K=K→X.calm=true→∀(i:Nat) (pins:List (Addr×Obj)) (s:Shared) (σ:St) (H:Hp) (E:Value→Shared→Prop),Inv X pins σ H s→(∀ b∈fp,i7 X pins H b)→tn i s.heap→J.go i H →
  wpAny (model P w) X.A (pyNext (.ref it)) (fun r s1=>∃ u,r=some u ∧
   wpAny (model P w) X.A (letOwnedTupleGo tg (.ref it) u) (fun _ s2=>∃ x H',Inv X pins σ H' s2∧RelV x u∧J.yld i H x H'∧tn (i+1) s2.heap∧∀ b∈fp,H' b=none) E s1) E s
 done:∀(X:Cx),X.prog=P→X.w=w→X.K=K→X.calm=true→∀(i:Nat) (pins:List (Addr×Obj)) (s:Shared) (σ:St) (H:Hp) (E:Value→Shared→Prop),Inv X pins σ H s→(∀ b∈fp,i7 X pins H b)→tn i s.heap→J.stop i H →
  wpAny (model P w) X.A (pyNext (.ref it)) (fun r s1=>r=none∧Inv X pins σ H s1) E s
 self:∀(A:Around) (i:Nat) (s:Shared) (Q:Value→Shared→Prop) (E:Value→Shared→Prop),tn i s.heap→Q (.ref it) s→wpAny (model P w) A (pyIter (.ref it)) Q E s
noncomputable abbrev TI:=St→Hp→(It→Hp→Prop)→Prop
noncomputable def Ct (X:Cx) (pins:List (Addr×Obj)) (σ:St) (tg:Expr) (R:It→Hp→Prop) (itv:Value) (s2:Shared):Prop :=
 ∃(it:Addr) (fp:List Addr) (tn:Nat→Heap→Prop) (J:It) (H':Hp),itv = .ref it∧Inv X pins σ H' s2∧Turn X.prog X.w X.K tg J fp it tn∧tn 0 s2.heap∧(∀ b∈fp,i7 X pins H' b)∧R J H'
noncomputable def PI (X:Cx) (tg iter:Expr) (wi:TI):Prop :=
 ∀(pins:List (Addr×Obj)) (s:Shared) (σ:St) (H:Hp) (R:It→Hp→Prop),Inv X pins σ H s→wi σ H R →
  wpAny (model X.prog X.w) X.A (eval iter X.env) (fun v s1=>wpAny (model X.prog X.w) X.A (pyIter v) (Ct X pins σ tg R) X.xe s1) X.xe s
theorem uh {M:Model}{A:Around}{E:Value→Shared→Prop}{s:Shared}{tg:Expr}{it:Addr}{u:Value}{o:Obj}{n:String}{vs:Array Value}{Q:Unit→Shared→Prop}(ho:s.heap.get? it=some o) (hc:o.cls = .type n) (hd:o.data = .fields vs)
  (hn:["enumerate","zip","dict_itemiterator","dict_reverseitemiterator","odict_iterator","itertools.zip_longest","itertools.pairwise"].contains n=false) (hQ:Q () s):wpAny M A (letOwnedTupleGo tg (.ref it) u) Q E s:=by
 unfold letOwnedTupleGo;cases tg<;>first
  | exact wpAny_pure hQ
  | (cases u<;>first
    | exact wpAny_pure hQ
    | (refine wpAny_bind (wpAny_load ho ?_)
       rw[hc,hd];show wpAny M A (if (["enumerate","zip","dict_itemiterator","dict_reverseitemiterator","odict_iterator","itertools.zip_longest","itertools.pairwise"].contains n&&vs[0]?==some (rawInt _))=true then _ else _) Q E s;rw[if_neg (by intro h;rw[hn,Bool.false_and] at h;cases h)];exact wpAny_pure hQ))
noncomputable def Itl (K:PySem.W.Frag) (a:Addr):It :=
 ⟨fun i H=>∃ xs x,j8 K H a xs∧xs[i]? = some x,fun i H x H'=>H'=H∧∀ xs,j8 K H a xs→xs[i]? = some x,fun i H=>∃ xs,j8 K H a xs∧xs.length≤i⟩
noncomputable def Itt (K:PySem.W.Frag) (a:Addr):It :=
 ⟨fun i H=>∃ xs x,j6 K H a xs∧xs[i]? = some x,fun i H x H'=>H'=H∧∀ xs,j6 K H a xs→xs[i]? = some x,fun i H=>∃ xs,j6 K H a xs∧xs.length≤i⟩
theorem vh {P:Program}{w:World}{K:PySem.W.Frag}{tg:Expr}(a it:Addr):Turn P w K tg (Itl K a) [it] it (fun i h=>h.IsListIter it a i) where
 mem:=by simp
 obj:=fun i h st b hb=>by
  have e:b=it:=by simpa using hb
  subst e;obtain⟨o,e,c,d⟩:=st;exact⟨o,e,fun v z=>by rw[d] at z;cases z⟩
 keep:=fun i h h' st k=>st.at fun o e=>k it (by simp) o e
 item:=by
  intro X hP hw hK hc i pins s σ H E I hf st hg;subst hP hw hK;obtain⟨xs,x,hq,hx⟩:=hg;obtain⟨its,rv,p,hz⟩:=I.list hq;obtain⟨u,hu,ru⟩:=rv.get hx;obtain⟨f0,f1,f2,f3,f4,f5⟩:=hf it (by simp);refine wpAny_pyNext_list_item st p.isList (x:=u) (by simpa using hu) fun h' st' sb=>?_
  have I1:Inv X pins σ H { s with heap:=h' }:=I.turned (t':=s.toks) (fun b o hb e=>(sb.2 b hb).trans e) f0 f1 f3 f4 f5;obtain⟨o,e,c,d⟩:=id st';exact⟨u,rfl,uh (s:={ s with heap:=h' }) e c d (by decide) ⟨x,H,I1,ru,⟨rfl,fun ys hy=>by rw[I.list_inj hy hq];exact hx⟩,st',fun b hb=>(hf b hb).1⟩⟩
 done:=by
  intro X hP hw hK hc i pins s σ H E I hf st hg;subst hP hw hK;obtain⟨xs,hq,hx⟩:=hg;obtain⟨its,rv,p,hz⟩:=I.list hq;obtain⟨f0,f1,f2,f3,f4,f5⟩:=hf it (by simp);have hl:=rv.length;exact wpAny_pyNext_list_end (I.ok.hd hc) st p.isList (by simp;omega) fun h' eb=>⟨rfl,I.turned (t':=s.toks) (fun b o hb e=>eb b o hb e) f0 f1 f3 f4 f5⟩
 self:=fun _ _ _ _ _ st h=>wpAny_pyIter_listiter st h
theorem rz {P:Program}{w:World}{K:PySem.W.Frag}{tg:Expr}(a it:Addr):Turn P w K tg (Itt K a) [it] it (fun i h=>h.IsTupleIter it a i) where
 mem:=by simp
 obj:=fun i h st b hb=>by
  have e:b=it:=by simpa using hb
  subst e;obtain⟨o,e,c,d⟩:=st;exact⟨o,e,fun v z=>by rw[d] at z;cases z⟩
 keep:=fun i h h' st k=>st.at fun o e=>k it (by simp) o e
 item:=by
  intro X hP hw hK hc i pins s σ H E I hf st hg;subst hP hw hK;obtain⟨xs,x,hq,hx⟩:=hg;obtain⟨its,rv,p,hz⟩:=I.tuple hq;obtain⟨u,hu,ru⟩:=rv.get hx;obtain⟨f0,f1,f2,f3,f4,f5⟩:=hf it (by simp);refine wpAny_pyNext_tuple_item st (show s.heap.IsTuple a its.toArray from p) (x:=u) (by simpa using hu) fun h' st' sb=>?_
  have I1:Inv X pins σ H { s with heap:=h' }:=I.turned (t':=s.toks) (fun b o hb e=>(sb.2 b hb).trans e) f0 f1 f3 f4 f5;obtain⟨o,e,c,d⟩:=id st';exact⟨u,rfl,uh (s:={ s with heap:=h' }) e c d (by decide) ⟨x,H,I1,ru,⟨rfl,fun ys hy=>by rw[I.tuple_inj hy hq];exact hx⟩,st',fun b hb=>(hf b hb).1⟩⟩
 done:=by
  intro X hP hw hK hc i pins s σ H E I hf st hg;subst hP hw hK;obtain⟨xs,hq,hx⟩:=hg;obtain⟨its,rv,p,hz⟩:=I.tuple hq;obtain⟨f0,f1,f2,f3,f4,f5⟩:=hf it (by simp);have hl:=rv.length;exact wpAny_pyNext_tuple_end (I.ok.hd hc) st (show s.heap.IsTuple a its.toArray from p) (by simp;omega) fun h' eb=>⟨rfl,I.turned (t':=s.toks) (fun b o hb e=>eb b o hb e) f0 f1 f3 f4 f5⟩
 self:=fun _ _ _ _ _ st h=>wpAny_pyIter_tupleiter st h
end L2
namespace L2
open PySem PySem.Spec PyProof.Rows
section
variable {X:Cx}{tg:Expr}
noncomputable def tFor (wi:TI) (g:TG) (tb:TS):TS:=fun D σ H=>wi σ H fun J H1=>∃ W:Nat→Nat→St→Hp→Prop,(∃ m,W 0 m σ H1)∧∀ i m σ H,W i m σ H →
 (J.stop i H∧D.nx σ H)∨(J.go i H∧∃ N:St→Hp→Prop,(∀ σ' H',N σ' H'→∃ m',m'<m∧W (i+1) m' σ' H')∧∀ x H',J.yld i H x H'→g x σ H' fun σ2 H2=>tb { D with nx:=N,ct:=N,bk:=D.nx } σ2 H2)
noncomputable def lQ (fp:List Addr) (h:Heap):List (Addr×Obj):=fp.filterMap fun b=>(h.get? b).map fun o=>(b,o)
theorem fN {fp:List Addr}{h:Heap}{b:Addr}{o:Obj}(hb:b∈fp) (e:h.get? b=some o):(b,o)∈lQ fp h:=List.mem_filterMap.mpr ⟨b,hb,by rw[e];rfl⟩
theorem vJ {fp:List Addr}{h:Heap}{p:Addr×Obj}(hp:p∈lQ fp h):p.1∈fp∧h.get? p.1=some p.2:=by
 obtain⟨b,hb,e⟩:=List.mem_filterMap.mp hp;cases q:h.get? b with
 |none=>rw[q] at e;cases e
 |some o =>
  rw[q] at e;have e':(b,o)=p:=bz e;subst e';exact⟨hb,q⟩
theorem Inv.pinned {pins:List (Addr×Obj)}{σ:St}{H:Hp}{s:Shared}{fp:List Addr}(I:Inv X pins σ H s) (hf:∀ b∈fp,i7 X pins H b) (ho:∀ b∈fp,∃ o,s.heap.get? b=some o∧∀ v,o.data≠.cell v):Inv X (pins++lQ fp s.heap) σ H s :=
 I.pins_of fun p hp=>(bo.mp hp).elim (fun z=>I.pin p (aq _ z)) fun z=>by
  obtain⟨hb,e⟩:=vJ z;obtain⟨f0,f1,f2,_⟩:=hf p.1 hb;obtain⟨o,e',d⟩:=ho p.1 hb;rw[e] at e';cases e';exact⟨e,f0,f1,f2,d⟩
theorem Inv.unpinned {pins pl:List (Addr×Obj)}{σ:St}{H:Hp}{s:Shared}(I:Inv X (pins++pl) σ H s):Inv X pins σ H s:=I.pins_of fun p hp=>I.pin p (aq _ (bf _ hp))
theorem Eo {iter:Expr}{body:List Stmt}{wi:TI}{g:TG}{tb:TS}{pos:Pos}(hp:PassesOwn (model X.prog X.w) X.A X.env X.xe) (hc:X.calm=true) (hi:PI X tg iter wi) (hg:PG X tg g) (hb:mT X body tb)
  (hs:∀ x,foldedSetIterable iter X.env x=pure x:=by intro _;rfl):PS X (.For tg iter body [] pos) (tFor wi g tb):=by
 intro pins s σ H D I h;refine wpAny_For (dD (hi pins s σ H _ I h) fun v s1 h1=>dD h1 fun itv s2 h2=>?_) hs;obtain⟨it,fp,tn,J,H2,e,I2,T,st2,f2,W,⟨m0,w0⟩,turn⟩:=h2;subst e;have stat:∀{H':Hp},(∀ b∈fp,H' b=none)→∀ b∈fp,i7 X pins H' b:=fun hn b hb=>⟨hn b hb,(f2 b hb).2⟩
 refine codeAny_forLoop_any (fun n s'=>∃ i σ' H',Inv X pins σ' H' s'∧tn i s'.heap∧(∀ b∈fp,H' b=none)∧W i n σ' H') ?_ m0 ⟨0,σ,H2,I2,st2,fun b hb=>(f2 b hb).1,w0⟩;rintro n s3 ⟨i,σ3,H3,I3,st3,fr3,w3⟩;rcases turn i n σ3 H3 w3 with ⟨stop,qn⟩ | ⟨go,N,hN,step⟩
 ·refine wpAny_passesOwn hp (dD (T.done X rfl rfl rfl hc i pins s3 σ3 H3 X.xe I3 (stat fr3) st3 stop) fun r s4 ⟨hr,I4⟩=>?_);subst hr;exact wpAny_execs_nil ⟨σ3,H3,I4,qn⟩
 ·refine wpAny_passesOwn hp (dD (T.item X rfl rfl rfl hc i pins s3 σ3 H3 X.xe I3 (stat fr3) st3 go) fun r s4 ⟨u,hr,h4⟩=>?_);subst hr;refine wpAny_passesOwn hp (dD h4 fun _ s5 ⟨x,H5,I5,r5,y5,st5,fr5⟩=>?_);have I5':=I5.pinned (stat fr5) (T.obj _ _ st5);refine wpAny_passesOwn hp (dD (hg _ s5 σ3 H5 x u _ I5' r5 (step x H5 y5)) fun _ s6 ⟨σ6,H6,I6,q6⟩=>?_);refine wpAny_passesOwn hp (dD (hb _ s6 σ6 H6 _ I6 q6) fun f s7 q7=>?_);have again:∀{σ7:St}{H7:Hp},Inv X (pins++lQ fp s5.heap) σ7 H7 s7→N σ7 H7→∃ m,m<n∧∃ i σ' H',Inv X pins σ' H' s7∧tn i s7.heap∧(∀ b∈fp,H' b=none)∧W i m σ' H':=fun {σ7 H7} I7 n7=>by
   obtain⟨m',hm,w7⟩:=hN σ7 H7 n7;refine⟨m',hm,i+1,σ7,H7,I7.unpinned,T.keep _ _ _ st5 fun b hb o e=>(I7.pin (b,o) (aq _ (aq _ (fN hb e)))).1,fun b hb=>?_,w7⟩;obtain⟨o,e,d⟩:=T.obj _ _ st5 b hb;exact (I7.pin (b,o) (aq _ (aq _ (fN hb e)))).2.1
  cases f with
  |next=>obtain⟨σ7,H7,I7,n7⟩:=q7;exact again I7 n7
  |cont=>obtain⟨σ7,H7,I7,n7⟩:=q7;exact again I7 n7
  |brk=>obtain⟨σ7,H7,I7,q7⟩:=q7;exact⟨σ7,H7,I7.unpinned,q7⟩
  |ret v=>obtain⟨x7,σ7,H7,I7,r7,q7⟩:=q7;exact⟨x7,σ7,H7,I7.unpinned,r7,q7⟩
end
end L2
namespace L2
open PySem PySem.Spec PyProof.Rows
noncomputable abbrev R2:=V→V→Hp→VK→Prop
noncomputable def jx (X:Cx) (f:Value→Value→Sem Value) (r:R2):Prop :=
 ∀(pins:List (Addr×Obj)) (s:Shared) (σ:St) (H:Hp) (x y:V) (v u:Value) (Q:VK),Inv X pins σ H s→RelV x v→RelV y u→r x y H Q →
  wpAny (model X.prog X.w) X.A (f v u) (EP X pins σ Q) X.xe s
noncomputable def UnR (X:Cx) (f:Value→Sem Value) (r:V→Hp→VK→Prop):Prop :=
 ∀(pins:List (Addr×Obj)) (s:Shared) (σ:St) (H:Hp) (x:V) (v:Value) (Q:VK),Inv X pins σ H s→RelV x v→r x H Q →
  wpAny (model X.prog X.w) X.A (f v) (EP X pins σ Q) X.xe s
noncomputable def fV (X:Cx) (f:Value) (r:List V→Hp→VK→Prop):Prop :=
 ∀(pins:List (Addr×Obj)) (s:Shared) (σ:St) (H:Hp) (xs:List V) (us:List Value) (Q:VK),Inv X pins σ H s→aQ xs us→r xs H Q →
  wpAny (model X.prog X.w) X.A (call f us) (EP X pins σ Q) X.xe s
noncomputable def TruR (X:Cx) (r:V→Hp→(Bool→Hp→Prop)→Prop):Prop :=
 ∀(pins:List (Addr×Obj)) (s:Shared) (σ:St) (H:Hp) (x:V) (v:Value) (Q:Bool→Hp→Prop),Inv X pins σ H s→RelV x v→r x H Q →
  wpAny (model X.prog X.w) X.A (truthy v) (TP X pins σ Q) X.xe s
noncomputable def FW (r:R2) (ta tb:TE):TE:=fun σ H Q=>ta σ H fun x H1=>tb σ H1 fun y H2=>r x y H2 Q
noncomputable def tUn (r:V→Hp→VK→Prop) (ta:TE):TE:=fun σ H Q=>ta σ H fun x H1=>r x H1 Q
noncomputable def rI (C:Int→Int→Prop) (g:Int→Int→V):R2:=fun x y H Q=>∃ i j,x = .int i∧y = .int j∧C i j∧Q (g i j) H
noncomputable def vR (g:Int→Int→V):R2:=fun x y H Q=>∃ i j,x = .int i∧y = .int j∧Q (g i j) H
noncomputable def rU (g:Int→V):V→Hp→VK→Prop:=fun x H Q=>∃ i,x = .int i∧Q (g i) H
section
variable {X:Cx}{a b c:Expr}{ta tb tc:TE}{pos:Pos}
theorem B3 (ha:PE X a ta) (hb:PE X b tb) {pins:List (Addr×Obj)}{s:Shared}{σ:St}{H:Hp}{R:V→V→Hp→Prop}(I:Inv X pins σ H s)
  (h:ta σ H fun x H1=>tb σ H1 fun y H2=>R x y H2) {Q:Value→Shared→Prop}{f:Value→Value→Sem Value}
  (hf:∀ v u s2 x y H2,Inv X pins σ H2 s2→RelV x v→RelV y u→R x y H2→wpAny (model X.prog X.w) X.A (f v u) Q X.xe s2) :
  wpAny (model X.prog X.w) X.A (eval a X.env) (fun v s₁=>wpAny (model X.prog X.w) X.A (eval b X.env) (fun u s₂=>wpAny (model X.prog X.w) X.A (f v u) Q X.xe s₂) X.xe s₁) X.xe s:=by
 refine dD (ha pins s σ H _ I h) fun v s1 ⟨x,H1,I1,r1,q1⟩=>?_
 refine dD (hb pins s1 σ H1 _ I1 q1) fun u s2 ⟨y,H2,I2,r2,q2⟩=>?_
 exact hf v u s2 x y H2 I2 r1 r2 q2
theorem Gu {op:Operator}{r:R2}(ho:jx X (binaryOp op) r) (ha:PE X a ta) (hb:PE X b tb):PE X (.BinOp a op b pos) (FW r ta tb):=by
 intro pins s σ H Q I h;exact wpAny_BinOp (B3 ha hb I h fun v u s2 x y H2 I2 rx ry q=>ho pins s2 σ H2 x y v u Q I2 rx ry q)
theorem E8 {op:UnaryOp}{r:V→Hp→VK→Prop}(ho:UnR X (unaryOp op) r) (ha:PE X a ta):PE X (.UnaryOp op a pos) (tUn r ta):=by
 intro pins s σ H Q I h;exact UnaryOp_ (dD (ha pins s σ H _ I h) fun v s1 ⟨x,H1,I1,r1,q1⟩=>ho pins s1 σ H1 x v Q I1 r1 q1)
theorem ED {f:Value→Value→Sem Value}{C:Int→Int→Prop}{g:Int→Int→Int}
  (rule:∀(i j:Int) (t u:Tok) (s:Shared) (Q:Value→Shared→Prop) (E:Value→Shared→Prop),C i j→Q (.int (g i j) s.toks) { s with toks:=s.toks+1 }→wpAny (model X.prog X.w) X.A (f (.int i t) (.int j u)) Q E s) :
  jx X f (rI C fun i j=>.int (g i j)):=by
 intro pins s σ H x y v u Q I rx ry h;obtain⟨i,j,rfl,rfl,hc,q⟩:=h;obtain⟨t,rfl⟩:=rx;obtain⟨t',rfl⟩:=ry;exact rule i j t t' s _ _ hc ⟨.int (g i j),H,I.tok _,⟨_,rfl⟩,q⟩
theorem yY {f:Value→Value→Sem Value}{g:Int→Int→Int}
  (rule:∀(i j:Int) (t u:Tok) (s:Shared) (Q:Value→Shared→Prop) (E:Value→Shared→Prop),Q (.int (g i j) s.toks) { s with toks:=s.toks+1 }→wpAny (model X.prog X.w) X.A (f (.int i t) (.int j u)) Q E s) :
  jx X f (vR fun i j=>.int (g i j)):=by
 intro pins s σ H x y v u Q I rx ry h;obtain⟨i,j,rfl,rfl,q⟩:=h;obtain⟨t,rfl⟩:=rx;obtain⟨t',rfl⟩:=ry;exact rule i j t t' s _ _ ⟨.int (g i j),H,I.tok _,⟨_,rfl⟩,q⟩
theorem zU {f:Value→Value→Sem Value}{g:Int→Int→Bool}
  (rule:∀(i j:Int) (t u:Tok) (s:Shared) (Q:Value→Shared→Prop) (E:Value→Shared→Prop),Q (.bool (g i j)) s→wpAny (model X.prog X.w) X.A (f (.int i t) (.int j u)) Q E s) :
  jx X f (vR fun i j=>.bl (g i j)):=by
 intro pins s σ H x y v u Q I rx ry h;obtain⟨i,j,rfl,rfl,q⟩:=h;obtain⟨t,rfl⟩:=rx;obtain⟨t',rfl⟩:=ry;exact rule i j t t' s _ _ ⟨.bl (g i j),H,I,rfl,q⟩
noncomputable def CDiv (i j:Int):Prop:=0<j∧j<1073741824
noncomputable def Fo (i j:Int):Prop:=0≤j∧j≤1000000∧i.natAbs<2 ^ 64
noncomputable def Cs (i j:Int):Prop:=(-(2 ^ 64)<i∧i<2 ^ 64)∨(-(2 ^ 64)<j∧j<2 ^ 64)
theorem Cs.ok {i j:Int}(h:Cs i j):IntMulOk i j:=by
 rcases h with ⟨h1,h2⟩ | ⟨h1,h2⟩
 ·exact .of_left (intBits_le_64 h1 h2)
 ·exact .of_right (intBits_le_64 h1 h2)
theorem sy (k:Nat):(0:Int)≤2 ^ k:=by
 rw[two_pow_cast];exact fi _
theorem Ce:jx X (binaryOp .Add) (vR fun i j=>.int (i+j)):=yY fun _ _ _ _ _ _ _ q=>add_int q
theorem Dl:jx X (binaryOp .Sub) (vR fun i j=>.int (i - j)):=yY fun _ _ _ _ _ _ _ q=>sub_int q
theorem DJ:jx X (binaryOp .Mult) (rI Cs fun i j=>.int (i*j)):=ED fun _ _ _ _ _ _ _ hc q=>mul_int q hc.ok
theorem Bl:jx X (binaryOp .FloorDiv) (rI CDiv fun i j=>.int (i / j)):=ED fun i j _ _ _ _ _ hc q=>by
 have h1:(0:Int)<j:=hc.1;have h2:j<1073741824:=hc.2;exact floordiv_int (by omega) (by rw[Int.fdiv_eq_ediv_of_nonneg i (by omega)];exact q) (.inl (PyProof.noPylong_small (by omega)))
theorem Ew:jx X (binaryOp .Mod) (rI (fun _ j=>0<j) fun i j=>.int (i%j)):=ED fun i j _ _ _ _ _ hc q=>by
 have h1:(0:Int)<j:=hc;exact mod_int' (by omega) (by rw[Int.fmod_eq_emod_of_nonneg i (by omega)];exact q)
theorem DX:jx X (binaryOp .Pow) (rI Fo fun i j=>.int (i ^ j.toNat)):=ED fun _ _ _ _ _ _ _ hc q=>pow_int_small hc.1 hc.2.1 hc.2.2 q
theorem Ck:jx X (binaryOp .LShift) (rI Fo fun i j=>.int (i*2 ^ j.toNat)):=ED fun _ _ _ _ _ _ _ hc q=>lshift_int_small hc.1 hc.2.1 hc.2.2 q
theorem Cv:jx X (binaryOp .RShift) (rI (fun _ j=>0≤j) fun i j=>.int (i / 2 ^ j.toNat)):=ED fun i j _ _ _ _ _ hc q =>
 rshift_int hc (by rw[Int.fdiv_eq_ediv_of_nonneg i (sy _)];exact q)
theorem Dd:jx X (binaryOp .BitAnd) (vR fun i j=>.int (Builtin.bitAnd i j)):=yY fun _ _ _ _ _ _ _ q=>and_int q
theorem EM:jx X (binaryOp .BitOr) (vR fun i j=>.int (Builtin.bitOr i j)):=yY fun _ _ _ _ _ _ _ q=>or_int q
theorem B5:jx X (binaryOp .BitXor) (vR fun i j=>.int (Builtin.bitXor i j)):=yY fun _ _ _ _ _ _ _ q=>xor_int q
theorem unI {f:Value→Sem Value}{g:Int→Int}
  (rule:∀(i:Int) (t:Tok) (s:Shared) (Q:Value→Shared→Prop) (E:Value→Shared→Prop),Q (.int (g i) s.toks) { s with toks:=s.toks+1 }→wpAny (model X.prog X.w) X.A (f (.int i t)) Q E s) :
  UnR X f (rU fun i=>.int (g i)):=by
 intro pins s σ H x v Q I rx h;obtain⟨i,rfl,q⟩:=h;obtain⟨t,rfl⟩:=rx;exact rule i t s _ _ ⟨.int (g i),H,I.tok _,⟨_,rfl⟩,q⟩
theorem D0:UnR X (unaryOp .USub) (rU fun i=>.int (-i)):=unI fun _ _ _ _ _ q=>neg_int q
end
noncomputable def jb:V→V→Bool
 |.non,.non=>true | .non,.int _=>true | .int _,.non=>true | .non,.bl _=>true | .bl _,.non=>true | .non,.str _=>true | .str _,.non=>true
 |.int _,.int _=>true | .bl _,.bl _=>true | .str _,.str _=>true | .byt _,.byt _=>true
 |.int _,.str _=>true | .str _,.int _=>true | .bl _,.str _=>true | .str _,.bl _=>true
 |_,_=>false
section
variable {X:Cx}{a b c:Expr}{ta tb tc:TE}{pos:Pos}
theorem GP:jx X (compareOp .Lt) (vR fun i j=>.bl (decide (i<j))):=zU fun _ _ _ _ _ _ _ q=>lt_int q
theorem E7:jx X (compareOp .LtE) (vR fun i j=>.bl (decide (i≤j))):=zU fun _ _ _ _ _ _ _ q=>le_int q
theorem E5:jx X (compareOp .Gt) (vR fun i j=>.bl (decide (j<i))):=zU fun _ _ _ _ _ _ _ q=>gt_int q
theorem EY:jx X (compareOp .GtE) (vR fun i j=>.bl (decide (j≤i))):=zU fun _ _ _ _ _ _ _ q=>ge_int q
theorem zw {op:CmpOp}{r:R2}(ho:jx X (compareOp op) r) (ha:PE X a ta) (hb:PE X b tb) (hm:behindInMarks op b=false):PE X (.Compare a [op] [b] pos) (FW r ta tb):=by
 intro pins s σ H Q I h;exact wpAny_Compare1 (B3 ha hb I h fun v u s2 x y H2 I2 rx ry q=>ho pins s2 σ H2 x y v u Q I2 rx ry q) hm
noncomputable def GC (t:TE):TT:=fun σ H Q=>t σ H fun x H'=>∃ k,x = .bl k∧Q k H'
theorem zZ {op:CmpOp}{r:R2}(ho:jx X (compareOp op) r) (ha:PE X a ta) (hb:PE X b tb) (hm:behindInMarks op b=false):PT X (.Compare a [op] [b] pos) (GC (FW r ta tb)):=by
 intro pins s σ H Q I h;refine wpAny_isTrue_Compare1 (dD (ha pins s σ H _ I h) fun v s1 ⟨x,H1,I1,r1,q1⟩=>dD (hb pins s1 σ H1 _ I1 q1) fun u s2 ⟨y,H2,I2,r2,q2⟩ =>
  dD (ho pins s2 σ H2 x y v u _ I2 r1 r2 q2) fun c s3 ⟨z,H3,I3,r3,k,e,q3⟩=>?_) hm
 subst e;cases r3;exact wpAny_truthy_bool ⟨H3,I3,q3⟩
noncomputable def CM (K:PySem.W.Frag) (x:V) (H:Hp) (k:Bool):Prop :=
 match x with
 |.non=>k=false
 |.bl b=>k=b
 |.int i=>k=(i != 0)
 |.str y=>y.length≤sizeLine∧k=((y.length:Int) != 0)
 |.byt y=>y.size≤sizeLine∧k=((y.size:Int) != 0)
 |.ref p=>(∃ xs,j8 K H p xs∧k = !xs.isEmpty)∨(∃ xs,j6 K H p xs∧k = !xs.isEmpty)∨∃ kvs,H p=some (.dK kvs)∧k = !kvs.isEmpty
 |_=>False
theorem rE {κ:Type}{kvs:List (κ×V)}{vs:List (κ×Value)}(r:KV kvs vs):(!vs.isEmpty) = !kvs.isEmpty:=by
 cases r<;>rfl
theorem lI {xs:List V}{its:List Value}(r:aQ xs its):(!its.toArray.isEmpty) = !xs.isEmpty:=by
 cases r<;>simp
theorem kd:(sizeLine:Nat)<2 ^ 63:=by rw[sizeLine_eq];decide
theorem Di:TruR X (fun x H Q=>∃ k,CM X.K x H k∧Q k H):=by
 intro pins s σ H x v Q I rx h;obtain⟨k,e,q⟩:=h;have hl:=kd;have hs:sizeLine=16777216:=sizeLine_eq;cases x with
 |non =>
  cases rx;have e':k=false:=e;subst e';exact truthy_none ⟨H,I,q⟩
 |bl b =>
  cases rx;have e':k=b:=e;subst e';exact wpAny_truthy_bool ⟨H,I,q⟩
 |int i =>
  obtain⟨t,rfl⟩:=rx;have e':k=(i != 0):=e;subst e';exact PySem.P.truthy_int ⟨H,I,q⟩
 |str y =>
  obtain⟨t,rfl⟩:=rx;obtain⟨hy,e'⟩:y.length≤sizeLine∧k=((y.length:Int) != 0):=e;subst e';exact PySem.P.truthy_str (by omega) ⟨H,I.tok _,q⟩
 |byt y =>
  obtain⟨t,rfl⟩:=rx;obtain⟨hy,e'⟩:y.size≤sizeLine∧k=((y.size:Int) != 0):=e;subst e';exact PySem.W.truthy_bytes (by omega) ⟨H,I.tok _,q⟩
 |ref p =>
  cases rx;have e':(∃ xs,j8 X.K H p xs∧k = !xs.isEmpty)∨(∃ xs,j6 X.K H p xs∧k = !xs.isEmpty)∨∃ kvs,H p=some (.dK kvs)∧k = !kvs.isEmpty:=e;rcases e' with ⟨xs,hx,e'⟩ | ⟨xs,hx,e'⟩ | ⟨kvs,hx,e'⟩
  ·subst e';obtain⟨its,r,pl,hz⟩:=I.list hx;have hlen:=r.length;exact wpAny_truthy_list pl.isList (by simp only[List.size_toArray];omega) ⟨H,I.tok _,by rw[lI r];exact q⟩
  ·subst e';obtain⟨its,r,pl,hz⟩:=I.tuple hx;have hlen:=r.length;exact truthy_tuple pl (by simp only[List.size_toArray];omega) ⟨H,I.tok _,by rw[lI r];exact q⟩
  ·subst e';obtain⟨hz,hS,vs,r,m⟩:kvs.length≤sizeLine∧(p==sysModules)=false∧∃ vs,KV kvs vs∧s.heap.DictOf (cK X.prog X.w) p vs:=I.hok p _ hx;have hlen:kvs.length=vs.length:=Paired.length r;exact wpAny_truthy_dict hS m (by omega) ⟨H,I.tok _,by rw[rE r];exact q⟩
 |_=>exact (show False from e).elim
theorem xv (ha:PE X a ta) (he:∀ whole,isTrue a X.env whole=(do let v ← whole;standAt a.pos;holding [v] (truthy v))) :
  PT X a (fun σ H Q=>ta σ H fun x H'=>∃ k,CM X.K x H' k∧Q k H'):=by
 intro pins s σ H Q I h;exact isTrue_plain (dD (ha pins s σ H _ I h) fun v s1 ⟨x,H1,I1,r1,q1⟩=>Di pins s1 σ H1 x v Q I1 r1 q1) (he _)
theorem vals1 {x:V}{us:List Value}(r:aQ [x] us):∃ u,us=[u]∧RelV x u:=by
 cases r with
 |cons r1 r2=>cases r2;exact⟨_,rfl,r1⟩
theorem xU:fV X (.builtin "abs") (fun xs H Q=>∃ i,xs=[.int i]∧Q (.int (if i<0 then -i else i)) H):=by
 intro pins s σ H xs us Q I r h;obtain⟨i,rfl,q⟩:=h;obtain⟨u,rfl,t,rfl⟩:=vals1 r;exact call_abs_int fun u tk=>⟨.int (if i<0 then -i else i),H,I.tok _,⟨_,rfl⟩,q⟩
end
end L2
namespace L2
open PySem PySem.Spec PyProof.Rows
structure ObjM (h:Heap) (x dx C:Addr) (mA:Str→Option Value):Prop where
 obj:h.get? x=some (PySem.W.instObj C dx)
 ns:h.Ns1 dx mA
 ne:dx≠x
section
variable {prog:Program}{w:World}{A:Around}{E:Value→Shared→Prop}{s:Shared}{K:PySem.W.Frag}{x dx C f:Addr}{mA:Str→Option Value}{name:Str}{v:Value}
end
section
variable {P:Program}{w:World}{H H':Hp}{h h':Heap}{a C dx:Addr}{fs fs':List (Str×V)}
end
structure Cls (K:PySem.W.Frag) (C:Addr):Prop where
 pg:PySem.W.plainGet K C Str.empty=true
 hd:PySem.W.hasDictIn K C=true
 po:PySem.W.plainOver K C=true
 sa:PySem.W.findIn K (.ref C) "__setattr__" = some (some (.builtin "object.__setattr__"))
structure Con (K:PySem.W.Frag) (C:Addr) (f:Str) (v:V) (u:Value):Prop where
 at_:PySem.W.findIn K (.ref C) f=some (some u)
 rel:RelV v u
 get:PySem.W.specialIn K u "__get__" = some none
 cp:PySem.W.copiedNames.contains f=false
structure Meth (K:PySem.W.Frag) (C:Addr) (m:Str) (f:Addr):Prop where
 at_:PySem.W.findIn K (.ref C) m=some (some (.ref f))
 fn:PySem.W.isFn K (.ref f)=true
 kp:PySem.W.keepIn K (.ref f)=true
section
variable {X:Cx}{pins:List (Addr×Obj)}{σ:St}{H:Hp}{s:Shared}{a C dx:Addr}{fs:List (Str×V)}{f:Str}{v:V}{A:Around}{E:Value→Shared→Prop}
end
section
variable {X:Cx}{o e value:Expr}{f:Str}{pos pos' tpos:Pos}{ta tv:TE}
end
section
variable {X:Cx}{pins:List (Addr×Obj)}{σ:St}{H:Hp}{s:Shared}{A:Around}{E:Value→Shared→Prop}{Q:Value→Shared→Prop}{c:Value}{b:Bool}
inductive mz (K:PySem.W.Frag) (H:Hp):V→Value→Prop where
 | non:mz K H .non (.type "NoneType")
 | bl (x:Bool):mz K H (.bl x) (.type "bool")
 | int (i:Int):mz K H (.int i) (.type "int")
 | str (x:Str):mz K H (.str x) (.type "str")
 | flt (x:UInt64):mz K H (.flt x) (.type "float")
 | lst {a:Addr}{xs:List V}(e:H a=some (.lst xs)):mz K H (.ref a) (.type "list")
 | frz {a:Addr}{o:Obj}{xs:List V}(e:H a=some (.frz o (.lst xs))):mz K H (.ref a) (.type "list")
 | tup {a:Addr}{xs:List V}(e:H a=some (.tup xs)):mz K H (.ref a) (.type "tuple")
 | dK {a:Addr}{kvs:List (Key×V)}(e:H a=some (.dK kvs)):mz K H (.ref a) (.type "dict")
 | dT {a:Addr}{kvs:List (List Key×V)}(e:H a=some (.dT kvs)):mz K H (.ref a) (.type "dict")
 | ins {a C dx:Addr}{fs:List (Str×V)}(e:H a=some (.ins C dx fs)) (cl:Cls K C) (ha:PySem.W.findIn K (.ref C) "__class__" = some (some (.builtin "object.__class__")))
   (hn:PySem.W.specialIn K (.builtin "object.__class__") "__get__" = some (some (.builtin "getset_descriptor.__get__"))) (htk:PySem.W.takesIn K (.builtin "object.__class__")=some true)
   (hm:PySem.W.mroIn K C (.type "object")=some true):mz K H (.ref a) (.ref C)
end
end L2
namespace L2
open PySem PySem.Spec PyProof.Rows
structure iE (k:Nat) (A:Around):Prop where
 hd:A.handled=none
 dp:A.depth+3*k+5<recursionLimit
 un:A.units+16*k+200<cLine
theorem iE.deeper {k:Nat}{A:Around}(r:iE (k+1) A) (env:Env):iE k (A.deeper env) :=
 ⟨r.hd,by have:=r.dp;show A.depth+1+3*k+5<_;omega,by have:=r.un;show A.units+3+16*k+200<_;omega⟩
theorem iE.depth {k:Nat}{A:Around}(r:iE k A):A.depth<recursionLimit:=by have:=r.dp;omega
theorem iE.units {k:Nat}{A:Around}(r:iE k A):A.units+64<cLine:=by have:=r.un;omega
noncomputable def Ae:TA:=fun _ H Q=>Q [] H
noncomputable def ub (ta:TE) (tr:TA):TA:=fun σ H Q=>ta σ H fun x H1=>tr σ H1 fun xs H2=>Q (x::xs) H2
section
variable {X:Cx}{e:Expr}{es:List Expr}{te:TE}{t:TA}{pos:Pos}
theorem rD:PA X [] Ae:=fun _ _ _ _ H Q I h=>Calls.spliced_nil ⟨[],H,I,.nil,h⟩
theorem lq (ha:PE X e te) (hr:PA X es t) (hs:starEach (e::es) X.env=(false,eval e X.env)::starEach es X.env:=by rfl):PA X (e::es) (ub te t):=by
 intro pos pins s σ H Q I h;rw[hs];show wpAny _ _ (spliced ((false,eval e X.env)::backTo pos (starEach es X.env))) _ _ s;refine Calls.spliced_cons (dD (ha pins s σ H _ I h) fun u s1 ⟨x,H1,I1,r1,q1⟩=>?_);exact dD (hr pos pins s1 σ H1 _ I1 q1) fun us s2 ⟨xs,H2,I2,r2,q2⟩=>⟨x::xs,H2,I2,.cons r1 r2,q2⟩
noncomputable def tTup (t:TA):TE:=fun σ H Q=>t σ H fun xs H1=>xs.length≤sizeLine∧∀ p,H1 p=none→Q (.ref p) (upd H1 p (.tup xs))
noncomputable def tLst (t:TA):TE:=fun σ H Q=>t σ H fun xs H1=>xs.length≤sizeLine∧∀ p,H1 p=none→Q (.ref p) (upd H1 p (.lst xs))
theorem Ei {x1} (h:PA X es t):PE X (.Tuple es x1 pos) (tTup t):=by
 intro pins s σ H Q I hq;refine wpAny_Tuple_spliced (dD (h pos pins s σ H _ I hq) fun us s1 ⟨xs,H1,I1,r,z,q⟩=>⟨by rw[←r.length];exact z,?_⟩);have hf:H1 s1.heap.objs.size=none:=I1.hok.fresh (aw _);refine⟨.ref s1.heap.objs.size,upd H1 s1.heap.objs.size (.tup xs),I1.laid (t':=s1.toks) (fun b u e=>Heap.get?_push_of_some _ e) (aw _) ?_,rfl,q _ hf⟩;exact⟨z,us,r,⟨_,Heap.get?_push_size _ rfl,rfl,_,rfl⟩⟩
theorem DA (h:PA X es t):PE X (.List es pos) (tLst t):=by
 intro pins s σ H Q I hq;refine wpAny_List_spliced (dD (h pos pins s σ H _ I hq) fun us s1 ⟨xs,H1,I1,r,z,q⟩=>⟨by rw[←r.length];exact z,?_⟩);have hf:H1 s1.heap.objs.size=none:=I1.hok.fresh (aw _);refine⟨.ref s1.heap.objs.size,upd H1 s1.heap.objs.size (.lst xs),I1.laid (t':=s1.toks) (fun b u e=>Heap.get?_push_of_some _ e) (aw _) ?_,rfl,q _ hf⟩;exact⟨z,us,0,r,Heap.get?_push_size _ rfl⟩
end
noncomputable abbrev Sp:=List V→Hp→VK→XK→Prop
noncomputable abbrev vW:=List Env→Hp→Shared→XK→Value→Shared→Prop
structure zL (P:Program) (w:World) (K:PySem.W.Frag) (mg:Str→Option Value) (base:Heap) (A:Around) (outer:List Env) (s:Shared) (H:Hp):Prop where
 frames:A.frames=some outer
 mod:Mod K mg base
 bs:∀ b o,base.get? b=some o→s.heap.get? b=some o∧H b=none
 bsz:base.objs.size≤s.heap.objs.size
 funs:s.heap.FunFrames base outer
 frf:∀ b∈yG outer,H b=none
 hok:jS P w H s.heap
 bare:AllBare s.gens
noncomputable def CE (outer:List Env) (P:Program) (w:World) (H:Hp) (s:Shared) (Q:VK) (u:Value) (s':Shared):Prop :=
 ∃ v H',s'.os=s.os∧AllBare s'.gens∧Un (yG outer) [] H H' s.heap s'.heap∧jS P w H' s'.heap∧RelV v u∧Q v H'
noncomputable def CR (CX:vW) (outer:List Env) (P:Program) (w:World) (H:Hp) (s:Shared) (Q:VK) (E:XK) (r:Result) (s':Shared):Prop :=
 match r with
 | .ok (.ret u)=>CE outer P w H s Q u s'
 |.ok _=>False
 |.error e=>CX outer H s E e s'
structure oT (P:Program) (w:World) (K:PySem.W.Frag) (mg:Str→Option Value) (base:Heap) (CX:vW) (k:Nat) (f:Addr) (fd:FuncData) (ps:List Str) (sp:Sp):Prop where
 len:∀ vs H Q E,sp vs H Q E→vs.length=ps.length
 run:∀(A:Around) (outer:List Env) (s:Shared) (H:Hp) (args:Args) (us:List Value) (vs:List V) (Q:VK) (E:XK),iE k A→zL P w K mg base A outer s H→BindsTo s fd args (ps.zip us)→aQ vs us→sp vs H Q E →
  codeAny (model P w) A (.call (.ref f) args) (CR CX outer P w H s Q E) s
section
variable {X:Cx}{pins:List (Addr×Obj)}{σ:St}{H:Hp}{s s':Shared}
theorem Inv.env0 (I:Inv X pins σ H s):zL X.prog X.w X.K X.mg X.base X.A X.stack s H :=
 ⟨I.ok.frames,I.ok.mod,I.bs,cv I.ok.bsz I.sz,I.stack,I.stkFree,I.hok,I.bare⟩
theorem Inv.after {Q:VK}{u:Value}(I:Inv X pins σ H s) (h:CE X.stack X.prog X.w H s Q u s'):EP X pins σ Q u s':=by
 obtain⟨v,H',os,bare,un,hok,r,q⟩:=h;obtain⟨hh,g,d,t,os'⟩:=s';obtain rfl:os'=s.os:=os;exact⟨v,H',I.call (h':=hh) (g':=g) (d':=d) (t':=t) (ch:=[]) un hok bare (fun b z=>absurd z (by simp)),r,q⟩
end
noncomputable def wD (sp:Sp) (dvs:List V) (E:XK) (t:TA):TE:=fun σ H Q=>t σ H fun vs H1=>sp (vs++dvs) H1 Q E
noncomputable def Binds (K:PySem.W.Frag) (fd:FuncData) (ps:List Str) (ds:List Value):Prop :=
 ∀(s:Shared) (us:List Value),K.In s.heap→(us++ds).length=ps.length→BindsTo s fd ⟨us,[]⟩ (ps.zip (us++ds))
theorem Binds.all {K:PySem.W.Frag}{fd:FuncData}{ps:List Str}(h:∀ us:List Value,us.length=ps.length→bindArgs fd ⟨us,[]⟩=pure (ps.zip us)):Binds K fd ps []:=fun s us _ hl=>by
 rw[cg] at hl ⊢;exact .of_eq (h us hl)
noncomputable def oV (CX:vW) (X:Cx) (E:XK):Prop:=∀(pins:List (Addr×Obj)) (σ:St) (H:Hp) (s:Shared) (e:Value) (s':Shared),Inv X pins σ H s→CX X.stack H s E e s'→X.xe e s'
section
variable {X:Cx}{CX:vW}{k:Nat}{f C:Addr}{fd:FuncData}{ps:List Str}{sp:Sp}{dvs:List V}{ds:List Value}{E:XK}{x m:Str}{p pos apos:Pos}{e o:Expr}{es:List Expr}{ta:TE}{t:TA}
theorem x6 {pins:List (Addr×Obj)}{σ:St}{H:Hp}{s:Shared}{Q:VK}{us:List Value}{vs:List V}(F:oT X.prog X.w X.K X.mg X.base CX k f fd ps sp) (hr:iE k X.A) (hb:Binds X.K fd ps ds) (hd:aQ dvs ds) (hx:oV CX X E)
  (I:Inv X pins σ H s) (r:aQ vs us) (h:sp (vs++dvs) H Q E):wpAny (model X.prog X.w) X.A (call (.ref f) us) (EP X pins σ Q) X.xe s:=by
 have r2:aQ (vs++dvs) (us++ds):=r.append hd;have hl:(us++ds).length=ps.length:=by rw[←r2.length];exact F.len _ _ _ _ h
 refine wpAny_call (codeAny_mono (F.run X.A X.stack s H ⟨us,[]⟩ (us++ds) (vs++dvs) Q E hr I.env0 (hb s us I.kIn hl) r2 h) fun r s' hq=>?_);cases r with
 |error e=>exact hx pins σ H s e s' I hq
 |ok fl =>
  cases fl with
  |ret u=>exact I.after hq
  |next=>exact False.elim hq
  |brk=>exact False.elim hq
  |cont=>exact False.elim hq
theorem A0 (F:oT X.prog X.w X.K X.mg X.base CX k f fd ps sp) (hr:iE k X.A) (hg:Gl X x) (hm:X.mg x=some (.ref f)) (hk:PySem.W.keepIn X.K (.ref f)=true) (hb:Binds X.K fd ps ds) (hd:aQ dvs ds) (hx:oV CX X E)
  (ha:PA X (e::es) t) (hdb:(x==("__debug__" : Str))=false:=by decide) (he:starEach (e::es) X.env=(false,eval e X.env)::starEach es X.env:=by rfl) (hpl:(backTo pos (starEach es X.env)).any (·.1)=false:=by rfl) :
  PE X (.Call (.Name x p) (e::es) [] pos) (wD sp dvs E t):=by
 intro pins s σ H Q I h;refine wpAny_Call_Name_kw (pJ I hg hm ?_ hdb);refine PySem.W.callWith_K (h₀:=X.base) I.ok.mod.kin hk (dD (ha pos pins s σ H _ I h) fun us s1 ⟨vs,H1,I1,r,q⟩=>⟨I1.kIn,?_⟩) he hpl;exact x6 F hr hb hd hx I1 r q
theorem wu (F:oT X.prog X.w X.K X.mg X.base CX k f fd ps sp) (hr:iE k X.A) (hg:Gl X x) (hm:X.mg x=some (.ref f)) (hk:PySem.W.keepIn X.K (.ref f)=true) (hb:Binds X.K fd ps ds) (hd:aQ dvs ds) (hx:oV CX X E)
  (hdb:(x==("__debug__" : Str))=false:=by decide):PE X (.Call (.Name x p) [] [] pos) (wD sp dvs E Ae):=by
 intro pins s σ H Q I h;refine wpAny_Call_Name_kw (pJ I hg hm ?_ hdb);exact PySem.W.callWith_K0 I.kIn hk (x6 (us:=[]) F hr hb hd hx I .nil h)
structure Mk (K:PySem.W.Frag) (C f:Addr):Prop where
 makes:PySem.W.makesIn K C=true
 init:PySem.W.findIn K (.ref C) "__init__" = some (some (.ref f))
 fn:PySem.W.isFn K (.ref f)=true
 kp:PySem.W.keepIn K (.ref C)=true
end
section
variable {X:Cx}{CX:vW}{k:Nat}{f C:Addr}{fd:FuncData}{ps ks:List Str}{sp:Sp}{E:XK}{x m:Str}{p pos apos kpos:Pos}{e o:Expr}{es:List Expr}{kws:List Keyword}{te ta:TE}{t tk:TA}{nm:Option Str}
structure KBinds (K:PySem.W.Frag) (fd:FuncData) (ps ks:List Str) (g:List Value→List Value→List Value) (gV:List V→List V→List V):Prop where
 to:∀(s:Shared) (us ws:List Value),K.In s.heap→(g us ws).length=ps.length→BindsTo s fd ⟨us,ks.zip ws⟩ (ps.zip (g us ws))
 rel:∀{vs:List V}{us:List Value}{zs:List V}{ws:List Value},aQ vs us→aQ zs ws→aQ (gV vs zs) (g us ws)
variable {g:List Value→List Value→List Value}{gV:List V→List V→List V}
end
structure k5 (N P:List Str) (sc:Scope):Prop where
 kind:sc.kind = .function
 co:sc.isCoroutine=false
 gen:sc.isGenerator=false
 nd:N.Nodup
 pre:N.take P.length=P
 par:∀ x∈P,sc.names.lookup x=some .local∨sc.names.lookup x=some .cell
 nofree:∀ y∈sc.names,y.2≠.free
theorem nF {kindOf:Str→Option NameKind}{x:Str}:∀{binds:List (Str×Value)}{m:Str→Option Value},(∀ v,(x,v)∉binds)→bindL kindOf binds m x=m x
 |[],_,_=>rfl
 | (n,v)::r,m,h=>by
  unfold bindL;rw[nF fun w hw=>h w (aa _ hw)];split
  ·have:x≠n:=by rintro rfl;exact h v ae
   simp[this]
  ·rfl
theorem nN {kindOf:Str→Option NameKind}{x:Str}:∀{binds:List (Str×Value)}{m:Str→Option Value},(∀ v,(x,v)∉binds)→bindC kindOf binds m x=m x
 |[],_,_=>rfl
 | (n,v)::r,m,h=>by
  unfold bindC;rw[nN fun w hw=>h w (aa _ hw)];split
  ·rfl
  ·have:x≠n:=by rintro rfl;exact h v ae
   simp[this]
theorem nz {kindOf:Str→Option NameKind}{x:Str}{v:Value}:∀{P:List Str}{vs:List Value}{i:Nat}{m:Str→Option Value},P.Nodup→P[i]? = some x→vs[i]? = some v→kindOf x=some .local →
  bindL kindOf (P.zip vs) m x=some v
 |[],_,_,_,_,h,_,_=>by simp at h
 |_::_,[],_,_,_,_,h,_=>by simp at h
 | p::P,w::vs,0,m,nd,h1,h2,hk=>by
  simp at h1 h2;subst h1;subst h2;show bindL kindOf ((p,w)::P.zip vs) m p=_;unfold bindL;rw[nF fun v hv=>(dk.mp nd).1 (List.of_mem_zip hv).1,if_pos hk];simp
 | p::P,w::vs,i+1,m,nd,h1,h2,hk=>by
  show bindL kindOf ((p,w)::P.zip vs) m x=_;unfold bindL;exact nz (i:=i) (List.nodup_cons.mp nd).2 (by simpa using h1) (by simpa using h2) hk
theorem oD {kindOf:Str→Option NameKind}{x:Str}{v:Value}:∀{P:List Str}{vs:List Value}{i:Nat}{m:Str→Option Value},P.Nodup→P[i]? = some x→vs[i]? = some v→kindOf x≠some .local →
  bindC kindOf (P.zip vs) m x=some v
 |[],_,_,_,_,h,_,_=>by simp at h
 |_::_,[],_,_,_,_,h,_=>by simp at h
 | p::P,w::vs,0,m,nd,h1,h2,hk=>by
  simp at h1 h2;subst h1;subst h2;show bindC kindOf ((p,w)::P.zip vs) m p=_;unfold bindC;rw[nN fun v hv=>(dk.mp nd).1 (List.of_mem_zip hv).1,if_neg hk];simp
 | p::P,w::vs,i+1,m,nd,h1,h2,hk=>by
  show bindC kindOf ((p,w)::P.zip vs) m x=_;unfold bindC;exact oD (i:=i) (List.nodup_cons.mp nd).2 (by simpa using h1) (by simpa using h2) hk
noncomputable def start (N:List Str) (vs:List V):St:=vs.map some++List.replicate (N.length - vs.length) none
noncomputable def rg (CX:vW) (P:Program) (w:World) (K:PySem.W.Frag) (mg:Str→Option Value) (base:Heap) (N:List Str) (qual:Str) (scope:Scope) (f:Addr) (cd:Value) (A:Around) (outer:List Env) (s:Shared) (H:Hp) (E:XK):Cx where
 prog:=P
 w:=w
 K:=K
 mg:=mg
 base:=base
 A:=A.deeper (envOfC qual scope s.heap.objs.size f cd)
 N:=N
 s₀:=s
 H₀:=H
 env:=envOfC qual scope s.heap.objs.size f cd
 outer:=outer
 stack:=envOfC qual scope s.heap.objs.size f cd::outer
 ex:=[]
 calm:=true
 fn:=fun _=>true
 pn:=[]
 xe:=fun e s'=>wpAny (model P w) (A.deeper (envOfC qual scope s.heap.objs.size f cd)) (leaving (envOfC qual scope s.heap.objs.size f cd) e) (fun _ s''=>CX outer H s E e s'') (fun e' s''=>CX outer H s E e' s'') s'
theorem qj {sc:Scope}{n:Nat}{x:Str}(h:sc.names.lookup x=some .cell):∃ c,(cellsFrom n sc.names []).lookup x=some c:=by
 have q:=PySem.W.cellsFrom_some sc.names n [] (.inl h);exact Option.isSome_iff_exists.mp q
theorem vd {CX:vW}{P:Program}{w:World}{K:PySem.W.Frag}{mg:Str→Option Value}{base:Heap}{N ps:List Str}{qual:Str}{scope:Scope}{f:Addr}{cd:Value}{A:Around}{outer:List Env}{s s1:Shared}{H:Hp}{E:XK}{us:List Value}{vs:List V}
  (S:k5 N ps scope) (hd:A.handled=none) (e0:zL P w K mg base A outer s H) (hl:vs.length=ps.length) (r:aQ vs us)
  (x:InCallC s s.heap.objs.size (bindL (envOfC qual scope s.heap.objs.size f cd).kindOf (ps.zip us) fun _=>none) (cellsFrom (s.heap.objs.size+1) scope.names []) (bindC (envOfC qual scope s.heap.objs.size f cd).kindOf (ps.zip us) fun _=>none) s1) :
  Inv (rg CX P w K mg base N qual scope f cd A outer s H E) [] (start N vs) H s1:=by
 have hpl:ps.length≤N.length:=by have:=congrArg List.length S.pre;rw[eh] at this;omega
 obtain⟨h1,tk,rfl,hk⟩:=x.done;have noA:∀ b:Addr,b∉(rg CX P w K mg base N qual scope f cd A outer s H E).ex:=fun b z=>absurd (show b∈([]:List Addr) from z) (by simp)
 refine⟨⟨e0.mod,S.kind,rfl,rfl,aw _,fun y z c h1 h2=>?_,fun y hy=>?_,fun y c _ h=>?_,fun _=>hd,Around.frames_deeper e0.frames,.inr ⟨rfl,rfl⟩,fun b z=>absurd z (noA b),e0.bs,e0.bsz,fun b _ _=>noA b,fun b z=>absurd z (noA b),e0.funs,e0.frf⟩,
  rfl,e0.bare,Un.kept hk,⟨_,x.toInCall.ns,fun i y v h1 h2 h3=>?_⟩,fun y c h=>⟨_,x.cell y c h⟩,e0.hok.fresh (Nat.le_refl _),fun y c h=>?_,fun p hp=>absurd (show p∈([]:List (Addr×Obj)) from hp) (by simp),e0.hok.kept hk,?_⟩
 ·exact name_of_addr x.apart (cq h1) (cq h2)
 ·have hy:scope.names.lookup y=some .cell∨scope.names.lookup y=some .free:=hy;rcases hy with hy | hy
  ·exact qj hy
  ·exact absurd rfl (S.nofree _ (cq hy))
 ·exact Nat.le_of_lt (x.above y c (cq h))
 ·have hi:i<vs.length:=by
   unfold start at h2;by_cases hi:i<vs.length
   ·exact hi
   ·rw[List.getElem?_append_right (by simpa using hi)] at h2;rw[eo] at h2;split at h2<;>cases h2
  have ha:vs[i]? = some v:=by
   unfold start at h2;rw[List.getElem?_append_left (by simpa using hi),List.getElem?_map] at h2;cases e:vs[i]? with
   |none=>rw[e] at h2;cases h2
   |some a=>rw[e] at h2;cases h2;rfl
  obtain⟨u,hu,rv⟩:=r.get ha;have hp:ps[i]? = some y:=by
   rw[←S.pre,List.getElem?_take_of_lt (by omega)];exact h1
  have ndP:ps.Nodup:=by rw[←S.pre];exact S.nd.sublist (List.take_sublist _ _)
  refine⟨u,rv,?_⟩;rcases S.par y (bu hp) with k | k
  ·exact .inl ⟨k,nz ndP hp hu k⟩
  ·obtain⟨c,e⟩:=qj (n:=s.heap.objs.size+1) k;refine .inr ⟨.inl k,c,e,?_⟩;have q:=x.cell y c e;rw[oD ndP hp hu (by show scope.names.lookup y≠_;rw[k];decide)] at q;exact q
 ·exact e0.hok.fresh (Nat.le_of_lt (x.above y c (cq h)))
 ·unfold start;show _=N.length;rw[bw,aj,c9];omega
theorem GO {CX:vW}{P:Program}{w:World}{K:PySem.W.Frag}{mg:Str→Option Value}{base:Heap}{k:Nat}{f:Addr}{name qual:Str}{params:Arguments}{body:List Stmt}{scope:Scope}{dV kV doc pm cdv ct oc:Value}{an od:Option Addr}
  {osl:Array (Option Value)}{N ps:List Str}{sp:Sp}(lk:K.lookup f=some ⟨oc,od,.func (PySem.W.fnOf name qual params body scope dV kV doc pm an cdv ct),osl⟩) (hcd:PySem.W.codeIn K cdv qual=true) (S:k5 N ps scope)
  (len:∀ vs H Q E,sp vs H Q E→vs.length=ps.length)
  (hbody:∀(A:Around) (outer:List Env) (s:Shared) (H:Hp) (vs:List V) (Q:VK) (E:XK),iE k (A.deeper (envOfC qual scope s.heap.objs.size f cdv))→sp vs H Q E →
   ∃ t,mT (rg CX P w K mg base N qual scope f cdv A outer s H E) body t∧t { nx:=fun _ H'=>Q .non H',rt:=Q } (start N vs) H) :
  oT P w K mg base CX (k+1) f (PySem.W.fnOf name qual params body scope dV kV doc pm an cdv ct) ps sp:=by
 refine⟨len,fun A outer s H args us vs Q E hr e0 hb r hsp=>?_⟩;have hl:=len _ _ _ _ hsp;have KX:K.In s.heap:=e0.mod.kin.keeps fun b o e=>(e0.bs b o e).1
 have lim:s.heap.NoLimit:=e0.mod.nolimit.keeps fun b o e=>(e0.bs b o e).1
 have hkind:∀ y∈ps.zip us,scope.names.lookup y.1=some .local∨(scope.names.lookup y.1=some .cell∧((cellsFrom (s.heap.objs.size+1) scope.names []).lookup y.1).isSome=true):=fun ⟨n,v⟩ hy=>by
  rcases S.par n (List.of_mem_zip hy).1 with q | q
  ·exact .inl q
  ·exact .inr ⟨q,PySem.W.cellsFrom_some _ _ _ (.inl q)⟩
 refine codeAny_call_function hr.depth (KX _ _ lk) rfl S.co S.gen rfl (PySem.W.codeRec_of KX hcd) (hb _ _ _ _ ?_);refine wpAny_newFunctionEnv_cells S.kind hkind fun env he s1 x=>?_
 subst he;refine⟨lim.keeps x.toInCall.keep,codeAny_func ?_⟩;obtain⟨t,ht,hq⟩:=hbody A outer s H vs Q E (hr.deeper _) hsp;have I:Inv (rg CX P w K mg base N qual scope f cdv A outer s H E) [] (start N vs) H s1:=vd S hr.hd e0 hl r x;refine wpAny_mono (ht [] s1 (start N vs) H _ I hq) (fun fl s' hs=>?_) fun e s' hs=>hs
 have fin:∀{σ':St}{H':Hp}{v:V}{u:Value},Inv (rg CX P w K mg base N qual scope f cdv A outer s H E) [] σ' H' s'→RelV v u→Q v H'→CE outer P w H s Q u s' :=
  fun {σ' H' v u} J rv q=>⟨v,H',J.os,J.bare,J.base,J.hok,rv,q⟩
 cases fl with
 |ret u =>
  obtain⟨v,σ',H',J,rv,q⟩:=hs;exact fin J rv q
 |next =>
  obtain⟨σ',H',J,q⟩:=hs;exact fin (v:=V.non) (u:=Value.none) J rfl q
 |brk =>
  obtain⟨_,_,_,q⟩:=hs;exact False.elim q
 |cont =>
  obtain⟨_,_,_,q⟩:=hs;exact False.elim q
end L2
namespace L2
open PySem PySem.Spec PyProof.Rows
section
variable {X:Cx}{x:Str}{p pos:Pos}{e:Expr}{es:List Expr}{t:TA}{id T:String}{r:List V→Hp→VK→Prop}
noncomputable def tCB (r:List V→Hp→VK→Prop) (t:TA):TE:=fun σ H Q=>t σ H fun vs H1=>r vs H1 Q
theorem pU (hc:fV X (.builtin id) r) (hg:Gl X x) (hm:X.mg x=none) (hv:bootBuiltins x=some (.builtin id)) (ha:PA X (e::es) t) (hn:x≠"__name__":=by decide) (hdb:(x==("__debug__" : Str))=false:=by decide)
  (he:starEach (e::es) X.env=(false,eval e X.env)::starEach es X.env:=by rfl) (hpl:(backTo pos (starEach es X.env)).any (·.1)=false:=by rfl):PE X (.Call (.Name x p) (e::es) [] pos) (tCB r t):=by
 intro pins s σ H Q I h;refine wpAny_Call_Name_kw (iL I hg hm hv ?_ hn hdb);exact PyProof.Rows.callWith_builtin1 (dD (ha pos pins s σ H _ I h) fun us s1 ⟨vs,H1,I1,r1,q1⟩=>hc pins s1 σ H1 vs us Q I1 r1 q1) he hpl
theorem vI (hc:fV X (.type T) r) (hg:Gl X x) (hm:X.mg x=none) (hv:bootBuiltins x=some (.type T)) (ha:PA X (e::es) t) (hn:x≠"__name__":=by decide) (hdb:(x==("__debug__" : Str))=false:=by decide)
  (he:starEach (e::es) X.env=(false,eval e X.env)::starEach es X.env:=by rfl) (hpl:(backTo pos (starEach es X.env)).any (·.1)=false:=by rfl):PE X (.Call (.Name x p) (e::es) [] pos) (tCB r t):=by
 intro pins s σ H Q I h;refine wpAny_Call_Name_kw (iL I hg hm hv ?_ hn hdb);exact da (dD (ha pos pins s σ H _ I h) fun us s1 ⟨vs,H1,I1,r1,q1⟩=>hc pins s1 σ H1 vs us Q I1 r1 q1) he hpl
end
end L2
namespace HT
open PySem PyProof.Rows
section
open PySem.SeqAt
open PySem.AutoSeq1 (wpAny_loadPart')
open PySem.MeetsSeq PySem.MeetsSeq2 PySem.MeetsSeq3
end
section
variable {prog:Program}{w:World}{A:Around}{E:Value→Shared→Prop}{s:Shared}
noncomputable def bY (n d:Nat):Option Int→Nat
 |none=>d
 |some v=>if v<0 then (v+(n:Int)).toNat else min v.toNat n
theorem pD (n d:Nat) (hd:d≤n) (o:Option Int):bY n d o≤n:=by
 cases o with
 |none=>exact hd
 |some v =>
  show (if v<0 then (v+(n:Int)).toNat else min v.toNat n)≤n;by_cases hv:v<0
  ·rw[if_pos hv];omega
  ·rw[if_neg hv];exact Nat.min_le_right _ _
theorem sT (v:Int) (n d:Nat):(if v<0 then max (v+(n:Int)) 0 else min v (n:Int))=((bY n d (some v):Nat):Int):=by
 show (if v<0 then max (v+(n:Int)) 0 else min v (n:Int))=(((if v<0 then (v+(n:Int)).toNat else min v.toNat n):Nat):Int);by_cases hv:v<0
 ·simp only[if_pos hv];omega
 ·simp only[if_neg hv];omega
theorem rC (lo hi:Option Int) (n:Nat):Builtin.Slice.sliceAdjust lo hi 1 (n:Int)=(((bY n 0 lo:Nat):Int),((bY n n hi:Nat):Int)):=by
 have h1:¬ ((1:Int)<0):=by omega
 unfold Builtin.Slice.sliceAdjust;simp only[h1,if_false];refine Prod.ext ?_ ?_
 ·cases lo with
  |none=>rfl
  |some v=>exact sT v n 0
 ·cases hi with
  |none=>rfl
  |some v=>exact sT v n n
theorem rV (i j:Nat):Builtin.Slice.slicePlaces (i:Int) (j:Int) 1=j - i:=by
 unfold Builtin.Slice.slicePlaces;have h1:(1:Int) > 0:=by omega
 simp only[h1,if_true,Int.ediv_one];split<;>omega
theorem mS {v:Value}{o:Option Int}{Q:Option Int→Shared→Prop}(p:IsPart v o) (h:Q o s):wpAny (model prog w) A (Builtin.Slice.slicePartIndex v) Q E s:=by
 cases p with
 |none=>exact slicePart_none h
 |int i t=>exact slicePart_int h
theorem kC {sl:Addr}{vl vu:Value}{lo hi:Option Int}{n:Nat}{Q:Int×Int×Nat→Shared→Prop}(hs:s.heap.IsSliceOf sl vl vu .none) (pl:IsPart vl lo) (pu:IsPart vu hi)
  (h:Q (((bY n 0 lo:Nat):Int),1,bY n n hi - bY n 0 lo) s):wpAny (model prog w) A (Builtin.Slice.sliceApplied (.ref sl) (pure (n:Int))) Q E s:=by
 obtain⟨os,hos,hcs,hds⟩:=id hs;unfold Builtin.Slice.sliceApplied Builtin.Slice.sliceFields;refine wpAny_bind (wpAny_bind (wpAny_field hos hds (x:=vl) rfl (wpAny_bind (wpAny_field hos hds (x:=vu) rfl (wpAny_bind (wpAny_field hos hds (x:=.none) rfl (wpAny_pure ?_)))))));refine wpAny_bind (slicePart_none ?_);show wpAny _ _ (if ((1:Int)==0)=true then _ else _) _ _ s;rw[if_neg (by decide)];refine wpAny_bind (mS pl (wpAny_bind (mS pu (wpAny_bind (wpAny_pure ?_)))));show wpAny _ _ (match Builtin.Slice.sliceAdjust lo hi 1 (n:Int) with | (lo,hi)=>pure (lo,(1:Int),Builtin.Slice.slicePlaces lo hi 1)) _ _ s;rw[rC lo hi n];show wpAny _ _ (pure (((bY n 0 lo:Nat):Int),(1:Int),Builtin.Slice.slicePlaces ((bY n 0 lo:Nat):Int) ((bY n n hi:Nat):Int) 1)) _ _ s;rw[rV];exact wpAny_pure h
theorem xJ (xs:Array Value) (i k:Nat):((List.range k).filterMap fun (m:Nat)=>xs[((i:Int)+(m:Int)*1).toNat]?).toArray=((xs.toList.drop i).take k).toArray:=by
 have e:(fun (m:Nat)=>xs[((i:Int)+(m:Int)*1).toNat]?)=fun m=>xs[i+m]?:=by
  funext m;have:((i:Int)+(m:Int)*1).toNat=i+m:=by omega
  rw[this]
 rw[e];have:=pick_run xs i k;rw[List.filterMap_map] at this;have e2:((fun x=>xs[x]?)∘fun x=>i+x)=fun m=>xs[i+m]?:=rfl
 rw[e2] at this;rw[this]
theorem jT {t sl:Addr}{items:Array Value}{vl vu:Value}{lo hi:Option Int}{Q:Value→Shared→Prop}(ht:IsTup s.heap t items) (hs:s.heap.IsSliceOf sl vl vu .none) (pl:IsPart vl lo) (pu:IsPart vu hi)
  (hw:¬ (bY items.size 0 lo=0∧bY items.size items.size hi=items.size))
  (h:Q (.ref s.heap.objs.size) { s with heap:=s.heap.push { cls:=.type "tuple",data:=.seq ((items.toList.drop (bY items.size 0 lo)).take (bY items.size items.size hi - bY items.size 0 lo)).toArray } })
  (hsz:items.size≤sizeLine):wpAny (model prog w) A (getItem (.ref t) (.ref sl)) Q E s:=by
 have htake:sizeOk (.seq ((items.toList.drop (bY items.size 0 lo)).take (bY items.size items.size hi - bY items.size 0 lo)).toArray):=by
  show ((items.toList.drop (bY items.size 0 lo)).take (bY items.size items.size hi - bY items.size 0 lo)).toArray.size≤sizeLine;rw[bh,eh,fu,Array.length_toList];omega
 have hj:bY items.size items.size hi≤items.size:=pD _ _ (aw _) hi;obtain⟨os,hos,hcs,hds⟩:=id hs;have hTs:s.TypeIs (.ref sl) "slice":=⟨os,hos,hcs⟩;unfold getItem
 try with_reducible refine wpAny_holding ?_
 first | refine wpAny_bind (wpAny_pure ?_) | skip
 refine wpAny_bind (wpAny_sequenceKey ht.typeIs (by decide) ?_);refine wpAny_bind (wpAny_callSpecial?_slot (name:=Str.ofString "__getitem__") ht.typeIs PyProof.Rows.slot_tuple_getitem
  (wpAny_call_entry PyProof.Rows.slot_tuple_getitem ht.typeIs entry_tuple_getitem ?_ (args_tuple_getitem _ _)))
 show wpAny _ _ (Builtin.Tuple.tupleItemsOf (.ref t) >>= _) _ _ s;refine wpAny_bind (tupleItemsOf_ ht ?_);refine wpAny_bind (wpAny_typeOf hTs ?_);rw[if_pos (by decide)];refine wpAny_bind (kC hs pl pu ?_);have hno:¬ ((((bY items.size 0 lo:Nat):Int)==0&&(1:Int)==1&&(bY items.size items.size hi - bY items.size 0 lo)==items.size)=true):=by
  intro q;rw[ax,ax] at q;have q1:((bY items.size 0 lo:Nat):Int)=0:=eq_of_beq q.1.1;have q2:bY items.size items.size hi - bY items.size 0 lo=items.size:=eq_of_beq q.2;exact hw ⟨by omega,by omega⟩
 show wpAny _ _ (if (((bY items.size 0 lo:Nat):Int)==0&&(1:Int)==1&&(bY items.size items.size hi - bY items.size 0 lo)==items.size)=true then _ else _) _ _ s;rw[if_neg hno,xJ]
 first
  | exact wpAny_bind (m:=Builtin.Tuple.tupleExact _) (wpAny_newObj_type (wpAny_pure ⟨_,rfl,wpAny_pure h⟩) htake)
  | exact wpAny_bind (m:=Builtin.Tuple.tupleExact _) (wpAny_newObj_type (wpAny_bind (wpAny_pure (wpAny_pure ⟨_,rfl,wpAny_pure h⟩))) htake)
  | exact wpAny_bind (wpAny_bind (m:=Builtin.Tuple.tupleExact _) (wpAny_newObj_type (wpAny_pure (wpAny_pure ⟨_,rfl,wpAny_pure h⟩)) htake))
  | exact wpAny_bind (wpAny_bind (m:=Builtin.Tuple.tupleExact _) (wpAny_newObj_type (wpAny_pure ⟨_,rfl,wpAny_pure h⟩) htake))
end
end HT
namespace L2
open PySem PySem.Spec PyProof.Rows
noncomputable abbrev TO:=St→Hp→(Option Int→Hp→Prop)→Prop
noncomputable def PO (X:Cx) (e:Option Expr) (t:TO):Prop :=
 ∀(pins:List (Addr×Obj)) (s:Shared) (σ:St) (H:Hp) (Q:Option Int→Hp→Prop),Inv X pins σ H s→t σ H Q →
  wpAny (model X.prog X.w) X.A (evalPart e X.env) (fun u s'=>∃ o H',Inv X pins σ H' s'∧IsPart u o∧Q o H') X.xe s
noncomputable def Ao:TO:=fun _ H Q=>Q none H
noncomputable def Ft (t:TE):TO:=fun σ H Q=>t σ H fun x H1=>∃ i,x = .int i∧Q (some i) H1
section
variable {X:Cx}{e:Expr}{te:TE}{lo hi:Option Expr}{tl th:TO}{pos p2:Pos}
theorem Bi:PO X none Ao:=by
 intro pins s σ H Q I h;rw[evalPart_none];exact wpAny_pure ⟨none,H,I,.none,h⟩
theorem AW (h:PE X e te):PO X (some e) (Ft te):=by
 intro pins s σ H Q I hw;rw[evalPart_some];refine dD (h pins s σ H _ I hw) fun u s1 ⟨x,H1,I1,r1,q1⟩=>?_
 obtain⟨i,rfl,q⟩:=q1;obtain⟨t,rfl⟩:=r1;exact⟨some i,H1,I1,.int i t,q⟩
noncomputable def Bx (X:Cx) (r:V→Option Int→Option Int→Hp→VK→Prop):Prop :=
 ∀(pins:List (Addr×Obj)) (s:Shared) (σ:St) (H:Hp) (x:V) (v vl vu:Value) (lo hi:Option Int) (sl:Addr) (Q:VK),Inv X pins σ H s→RelV x v→s.heap.IsSliceOf sl vl vu .none→IsPart vl lo→IsPart vu hi→r x lo hi H Q →
  ∃ T id,typeLookup (.type T) "__getitem__" = pure (some (.builtin id))∧s.TypeIs v T∧wpAny (model X.prog X.w) X.A (getItem v (.ref sl)) (EP X pins σ Q) X.xe s
theorem Bx.or {r r':V→Option Int→Option Int→Hp→VK→Prop}(h:Bx X r) (h':Bx X r'):Bx X (fun x lo hi H Q=>r x lo hi H Q∨r' x lo hi H Q):=by
 intro pins s σ H x v vl vu lo hi sl Q I rx hs pl pu q;rcases q with q | q
 ·exact h pins s σ H x v vl vu lo hi sl Q I rx hs pl pu q
 ·exact h' pins s σ H x v vl vu lo hi sl Q I rx hs pl pu q
noncomputable def tSl (r:V→Option Int→Option Int→Hp→VK→Prop) (te:TE) (tl th:TO):TE:=fun σ H Q=>te σ H fun x H1=>tl σ H1 fun l H2=>th σ H2 fun u H3=>r x l u H3 Q
theorem wU {r:V→Option Int→Option Int→Hp→VK→Prop}(hr:Bx X r) (he:PE X e te) (hl:PO X lo tl) (hu:PO X hi th):PE X (.Subscript e (.Slice lo hi none p2) pos) (tSl r te tl th):=by
 intro pins s σ H Q I h;refine Subscript_ (dD (he pins s σ H _ I h) fun v s1 ⟨x,H1,I1,r1,q1⟩=>?_);refine wpAny_Slice (dD (hl pins s1 σ H1 _ I1 q1) fun vl s2 ⟨l,H2,I2,pl,q2⟩=>dD (hu pins s2 σ H2 _ I2 q2) fun vu s3 ⟨u,H3,I3,pu,q3⟩=>?_);rw[evalPart_none];refine wpAny_pure ?_;have I4:Inv X pins σ H3 { s3 with heap:=s3.heap.push { cls:=.type "slice",data:=.fields #[vl,vu,.none] } }:=I3.kept (t':=s3.toks) fun b ob q=>Heap.get?_push_of_some _ q
 obtain⟨T,id,hT,ht,hg⟩:=hr pins { s3 with heap:=s3.heap.push { cls:=.type "slice",data:=.fields #[vl,vu,.none] } } σ H3 x v vl vu l u s3.heap.objs.size Q I4 r1 (Heap.IsSliceOf.new ..) pl pu q3;show wpAny (model X.prog X.w) X.A (subscriptTail e (.Slice lo hi none p2) v (.ref s3.heap.objs.size)) (EP X pins σ Q) X.xe { s3 with heap:=s3.heap.push { cls:=.type "slice",data:=.fields #[vl,vu,.none] } };exact tail_any (ops:=[.ref s3.heap.objs.size,v]) ht hT hg (by with_unfolding_all rfl)
noncomputable def mU (xs:List V) (lo hi:Option Int):List V:=(xs.drop (HT.bY xs.length 0 lo)).take (HT.bY xs.length xs.length hi - HT.bY xs.length 0 lo)
theorem kJ (xs:List V) (lo hi:Option Int):(mU xs lo hi).length≤xs.length:=by
 unfold mU;rw[eh,fu];omega
noncomputable def rSlT (K:PySem.W.Frag):V→Option Int→Option Int→Hp→VK→Prop:=fun x lo hi H Q=>∃ a xs,x = .ref a∧j6 K H a xs ∧
 ¬ (HT.bY xs.length 0 lo=0∧HT.bY xs.length xs.length hi=xs.length)∧∀ p,H p=none→Q (.ref p) (upd H p (.tup (mU xs lo hi)))
theorem DE:Bx X (rSlT X.K):=by
 intro pins s σ H x v vl vu lo hi sl Q I rx hs pl pu h;obtain⟨a,xs,rfl,hx,hw,q⟩:=h;cases rx;obtain⟨its,r,ht,hz⟩:=I.tuple hx;have hlen:its.toArray.size=xs.length:=by rw[bh];exact r.length.symm
 refine⟨"tuple",_,PyProof.Rows.slot_tuple_getitem.lookup,ht.typeIs,?_⟩;refine HT.jT ht hs pl pu (by rw[hlen];exact hw) ?_ (by rw[hlen];exact hz);rw[hlen];refine⟨.ref s.heap.objs.size,_,I.laid (t':=s.toks) (o:=.tup (mU xs lo hi)) (fun b ob q=>Heap.get?_push_of_some _ q) (aw _) ?_,rfl,q _ (I.hok.fresh (aw _))⟩;exact⟨cv (kJ xs lo hi) hz,_,(r.drop (HT.bY xs.length 0 lo)).take (HT.bY xs.length xs.length hi - HT.bY xs.length 0 lo),IsTup.new _ _⟩
end
end L2
namespace L2
open PySem PySem.Spec PyProof.Rows
noncomputable def kZ (n:Nat) (i:Int):Option Nat:=if 0≤i then (if i<n then some i.toNat else none) else if -(n:Int)≤i then some (i+n).toNat else none
noncomputable def By {α:Type}(xs:List α) (i:Int):Option α:=(kZ xs.length i).bind fun j=>xs[j]?
theorem tM {n:Nat}{i:Int}{j:Nat}(h:kZ n i=some j):seqIndex? i n=some j∧j<n∧-(n:Int)≤i∧i<n:=by
 unfold kZ at h;by_cases h0:0≤i
 ·rw[if_pos h0] at h;by_cases h1:i<n
  ·rw[if_pos h1] at h;have e:i.toNat=j:=bz h;exact⟨by rw[seqIndex_of h0 h1,e],by omega,by omega,h1⟩
  ·rw[if_neg h1] at h;cases h
 ·rw[if_neg h0] at h;by_cases h1 : -(n:Int)≤i
  ·rw[if_pos h1] at h;have e:(i+n).toNat=j:=bz h;exact⟨by rw[seqIndex_neg (by omega) h1,e],by omega,h1,by omega⟩
  ·rw[if_neg h1] at h;cases h
theorem sU {α:Type}{xs:List α}{i:Int}{v:α}(h:By xs i=some v):∃ j,seqIndex? i xs.length=some j∧xs[j]? = some v∧j<xs.length∧-(xs.length:Int)≤i∧i<xs.length:=by
 unfold By at h;cases e:kZ xs.length i with
 |none=>rw[e] at h;cases h
 |some j =>
  rw[e] at h;obtain⟨h1,h2,h3,h4⟩:=tM e;exact⟨j,h1,h,h2,h3,h4⟩
noncomputable def k7 (b:Expr):Prop:=∀ o i,subscripted b false o i=operate [o,i] (getItem o i)
noncomputable def zv (X:Cx) (r:R2):Prop :=
 ∀(value slice:Expr) (pins:List (Addr×Obj)) (s:Shared) (σ:St) (H:Hp) (x y:V) (v u:Value) (Q:VK),Inv X pins σ H s→RelV x v→RelV y u→r x y H Q →
  subscripted slice false v u=operate [v,u] (getItem v u)→wpAny (model X.prog X.w) X.A (subscriptTail value slice v u) (EP X pins σ Q) X.xe s
noncomputable def MtR (X:Cx) (id:String) (r:V→List V→Hp→VK→Prop):Prop :=
 ∀(pins:List (Addr×Obj)) (s:Shared) (σ:St) (H:Hp) (x:V) (xs:List V) (v:Value) (us:List Value) (Q:VK),Inv X pins σ H s→RelV x v→aQ xs us→r x xs H Q →
  wpAny (model X.prog X.w) X.A (call (.builtin id) (v::us)) (EP X pins σ Q) X.xe s
section
variable {X:Cx}{a b:Expr}{ta tb:TE}{pos:Pos}
theorem zv.or {r r':R2}(h:zv X r) (h':zv X r'):zv X (fun x y H Q=>r x y H Q∨r' x y H Q):=by
 intro value slice pins s σ H x y v u Q I rx ry q hs;rcases q with q | q
 ·exact h value slice pins s σ H x y v u Q I rx ry q hs
 ·exact h' value slice pins s σ H x y v u Q I rx ry q hs
theorem Bs {r:R2}(hr:zv X r) (ha:PE X a ta) (hb:PE X b tb) (hs:k7 b):PE X (.Subscript a b pos) (FW r ta tb):=by
 intro pins s σ H Q I h;exact Subscript_ (B3 ha hb I h fun v u s2 x y H2 I2 rx ry q=>hr a b pins s2 σ H2 x y v u Q I2 rx ry q (hs _ _))
noncomputable def rIxL (K:PySem.W.Frag):R2:=fun x y H Q=>∃ p xs i v,x = .ref p∧y = .int i∧j8 K H p xs∧By xs i=some v∧Q v H
noncomputable def rIxT (K:PySem.W.Frag):R2:=fun x y H Q=>∃ p xs i v,x = .ref p∧y = .int i∧j6 K H p xs∧By xs i=some v∧Q v H
theorem um:zv X (rIxL X.K):=by
 intro value slice pins s σ H x y v u Q I rx ry h hs;obtain⟨p,xs,i,z,rfl,rfl,hq,he,q⟩:=h;cases rx;obtain⟨t,rfl⟩:=ry;obtain⟨its,r,pl,hz⟩:=I.list hq;obtain⟨j,h1,h2,h3,h4,h5⟩:=sU he;obtain⟨w,ew,eY⟩:=r.get h2;have hl:=r.length;have hn:=kd;have fin:EP X pins σ Q w s:=⟨z,H,I,eY,q⟩;by_cases h0:0≤i
 ·have hj:i.toNat=j:=by
   rw[seqIndex_of h0 h5] at h1;exact bz h1
  exact item_listR pl.isList h0 (by omega) (by rw[hj];simpa using ew) fin hs
 ·have hj:(i+(its.toArray.size:Int)).toNat=j:=by
   rw[seqIndex_neg (by omega) h4] at h1;rw[bh,←hl];exact bz h1
  exact subscriptTail_builtinR (x:=w) pl.isList.typeIs slot_list_getitem.lookup
   (wpAny_getItem_list_neg (Q:=fun r s'=>r=w∧EP X pins σ Q r s') pl.isList (by omega) (by rw[List.size_toArray]<;>omega) (by omega) (by rw[hj];simpa using ew) ⟨rfl,fin⟩) hs
theorem yB:zv X (rIxT X.K):=by
 intro value slice pins s σ H x y v u Q I rx ry h hs;obtain⟨p,xs,i,z,rfl,rfl,hq,he,q⟩:=h;cases rx;obtain⟨t,rfl⟩:=ry;obtain⟨its,r,pl,hz⟩:=I.tuple hq;obtain⟨j,h1,h2,h3,h4,h5⟩:=sU he;obtain⟨w,ew,eY⟩:=r.get h2;have hl:=r.length;have hn:=kd;have fin:EP X pins σ Q w s:=⟨z,H,I,eY,q⟩;exact subscriptTail_builtinR (x:=w) pl.typeIs slot_tuple_getitem.lookup
  (getItem_tuple (j:=j) (Q:=fun r s'=>r=w∧EP X pins σ Q r s') pl (by omega) (by omega) (by rw[List.size_toArray,←hl];exact h1) (by simpa using ew) ⟨rfl,fin⟩) hs
theorem sA (its:List Value) (n j:Nat) (u:Value):Obj.mapSeq (·.setIfInBounds j u) { cls:=.type "list",data:=.seq its.toArray n }={ cls:=.type "list",data:=.seq (its.set j u).toArray n }:=by
 simp[Obj.mapSeq]
theorem Inv.lst {pins:List (Addr×Obj)}{σ:St}{H:Hp}{s:Shared}{p:Addr}{xs:List V}(I:Inv X pins σ H s) (h:H p=some (.lst xs)) :
  ∃(its:List Value) (n:Nat),aQ xs its∧s.heap.get? p=some { cls:=.type "list",data:=.seq its.toArray n }∧xs.length≤sizeLine:=by
 obtain⟨z,its,n,r,e⟩:=I.hok p _ h;exact⟨its,n,r,e,z⟩
theorem Inv.lstUpd {pins:List (Addr×Obj)}{σ:St}{H:Hp}{s:Shared}{p:Addr}{xs ys:List V}{its its':List Value}{n n':Nat}{f:Obj→Obj}(I:Inv X pins σ H s) (h:H p=some (.lst xs))
  (ho:s.heap.get? p=some { cls:=.type "list",data:=.seq its.toArray n }) (hf:f { cls:=.type "list",data:=.seq its.toArray n }={ cls:=.type "list",data:=.seq its'.toArray n' }) (r:aQ ys its') (hz:ys.length≤sizeLine) (t:Nat) :
  Inv X pins σ (upd H p (.lst ys)) { s with heap:=s.heap.update p f,toks:=t }:=by
 have e:(s.heap.update p f).get? p=some { cls:=.type "list",data:=.seq its'.toArray n' }:=by
  rw[Heap.get?_update_self f ho (by rw[hf]<;>rfl),hf]
 refine I.write (x:=p) (e:=p) (by rw[h];trivial) (.inl rfl) (fun b u hb q=>(Heap.get?_update_other _ _ (Ne.symm hb)).trans q) ⟨_,e⟩ ?_;exact⟨hz,its',n',r,e⟩
noncomputable def BE:V→V→V→Hp→(Hp→Prop)→Prop:=fun o i v H Q=>∃ p xs k j,o = .ref p∧i = .int k∧H p=some (.lst xs)∧kZ xs.length k=some j∧Q (upd H p (.lst (xs.set j v)))
theorem set_list:EX X BE:=by
 intro pins s σ H o i v ov iv u Q I ro ri rv h;obtain⟨p,xs,k,j,rfl,rfl,hp,hj,q⟩:=h;cases ro;obtain⟨t,rfl⟩:=ri;obtain⟨its,n,r,ho,hz⟩:=I.lst hp;obtain⟨h1,h2,h3,h4⟩:=tM hj;have hl:=r.length;have hn:=kd;have I':Inv X pins σ (upd H p (.lst (xs.set j v))) { s with heap:=s.heap.update p (Obj.mapSeq (·.setIfInBounds j u)) } :=
  I.lstUpd hp ho (sA its n j u) (r.set rv j) (by rw[ay];exact hz) s.toks
 by_cases h0:0≤k
 ·have hk:k.toNat=j:=by
   rw[seqIndex_of h0 h4] at h1;exact bz h1
  exact PySem.W.ki_setAt ho h0 (by omega) (by rw[bh,←hl];exact h4) (by rw[hk];exact⟨_,I',q⟩)
 ·have hk:(k+(its.toArray.size:Int)).toNat=j:=by
   rw[seqIndex_neg (by omega) h3] at h1;rw[bh,←hl];exact bz h1
  exact PySem.W.ki_setBack ho (by omega) (by rw[bh,←hl];exact h3) (by omega) (by rw[hk];exact⟨_,I',q⟩)
theorem pH (lo hi:Option Int) (n:Nat):(sliceBounds lo hi none n).1=((HT.bY n 0 lo:Nat):Int)∧(sliceBounds lo hi none n).2.1=((HT.bY n n hi:Nat):Int)∧(sliceBounds lo hi none n).2.2=1:=by
 refine⟨?_,?_,rfl⟩
 ·cases lo with
  |none=>simp[sliceBounds,HT.bY]
  |some i =>
   simp only[sliceBounds,HT.bY,Option.getD_none,show (1:Int) > 0 by decide,if_true];by_cases h:i<0
   ·simp only[h,if_true]<;>omega
   ·simp only[h,if_false]<;>omega
 ·cases hi with
  |none=>simp[sliceBounds,HT.bY]
  |some i =>
   simp only[sliceBounds,HT.bY,Option.getD_none,show (1:Int) > 0 by decide,if_true];by_cases h:i<0
   ·simp only[h,if_true]<;>omega
   ·simp only[h,if_false]<;>omega
theorem m4 (its:List Value) (lo hi:Option Int):slicePick its.toArray lo hi none=((its.drop (HT.bY its.length 0 lo)).take (HT.bY its.length its.length hi - HT.bY its.length 0 lo)).toArray:=by
 obtain⟨h1,h2,h3⟩:=pH lo hi its.toArray.size;unfold slicePick;rw[h1,h2,h3];simp only[sliceRange_one,pick_run,List.size_toArray]<;>rfl
noncomputable def rSlL (K:PySem.W.Frag):V→Option Int→Option Int→Hp→VK→Prop:=fun x lo hi H Q=>∃ a xs,x = .ref a∧j8 K H a xs∧∀ p,H p=none→Q (.ref p) (upd H p (.lst (mU xs lo hi)))
theorem zO:Bx X (rSlL X.K):=by
 intro pins s σ H x v vl vu lo hi sl Q I rx hs pl pu h;obtain⟨a,xs,rfl,hx,q⟩:=h;cases rx;obtain⟨its,r,ht,hz⟩:=I.list hx;have hlen:=r.length;refine⟨"list",_,slot_list_getitem.lookup,ht.isList.typeIs,?_⟩;refine wpAny_getItem_list_slice ht.isList hs pl pu .none (by simp) ?_ (by rw[List.size_toArray]<;>omega);rw[m4,←hlen];refine⟨.ref s.heap.objs.size,_,I.laid (t':=s.toks) (o:=.lst (mU xs lo hi)) (fun b ob q=>Heap.get?_push_of_some _ q) (aw _) ?_,rfl,q _ (I.hok.fresh (aw _))⟩;exact⟨cv (kJ xs lo hi) hz,_,0,(r.drop (HT.bY xs.length 0 lo)).take (HT.bY xs.length xs.length hi - HT.bY xs.length 0 lo),Heap.get?_push_size _ rfl⟩
noncomputable def iA:V→Bool
 |.non=>true
 |.bl _=>true
 |.int _=>true
 |.str _=>true
 |_=>false
noncomputable def zt:V→V→Bool
 |.non,.non=>true
 |.bl a,.bl b=>a==b
 |.bl a,.int b=>(if a then 1 else 0)==b
 |.int a,.bl b=>a==(if b then 1 else 0)
 |.int a,.int b=>a==b
 |.str a,.str b=>a==b
 |_,_=>false
theorem CF {A:Around}{s:Shared}{y x:V}{u v:Value}(ry:RelV y u) (rx:RelV x v) (fy:iA y=true) (fx:iA x=true):SeqAt.EqAt A s u v (zt y x):=by
 cases y with
 |non =>
  cases ry;cases x with
  |non=>cases rx;exact SeqAt.EqAt.same _
  |bl b=>cases rx;exact SeqAt.EqAt.none_bool b
  |int b=>obtain⟨t,rfl⟩:=rx;exact SeqAt.EqAt.none_int b t
  |str b=>obtain⟨t,rfl⟩:=rx;exact SeqAt.EqAt.none_str b t
  |_=>exact absurd (show false=true from fx) bj
 |bl a =>
  cases ry;cases x with
  |non=>cases rx;exact SeqAt.EqAt.bool_none a
  |bl b=>cases rx;exact SeqAt.EqAt.bool_bool a b
  |int b=>obtain⟨t,rfl⟩:=rx;exact SeqAt.EqAt.bool_int a b t
  |str b=>obtain⟨t,rfl⟩:=rx;exact SeqAt.EqAt.bool_str a b t
  |_=>exact absurd (show false=true from fx) bj
 |int a =>
  obtain⟨t',rfl⟩:=ry;cases x with
  |non=>cases rx;exact SeqAt.EqAt.int_none a t'
  |bl b=>cases rx;exact SeqAt.EqAt.int_bool a t' b
  |int b=>obtain⟨t,rfl⟩:=rx;exact SeqAt.EqAt.int_int a t' b t
  |str b=>obtain⟨t,rfl⟩:=rx;exact SeqAt.EqAt.int_str a t' b t
  |_=>exact absurd (show false=true from fx) bj
 |str a =>
  obtain⟨t',rfl⟩:=ry;cases x with
  |non=>cases rx;exact SeqAt.EqAt.str_none a t'
  |bl b=>cases rx;exact SeqAt.EqAt.str_bool a t' b
  |int b=>obtain⟨t,rfl⟩:=rx;exact SeqAt.EqAt.str_int a t' b t
  |str b=>obtain⟨t,rfl⟩:=rx;exact SeqAt.EqAt.str_str a t' b t
  |_=>exact absurd (show false=true from fx) bj
 |_=>exact absurd (show false=true from fy) bj
noncomputable def Aw (x:V) (u:Value):Bool:=match u with
 |.none=>zt .non x
 |.bool b=>zt (.bl b) x
 |.int i _=>zt (.int i) x
 |.str z _=>zt (.str z) x
 |_=>false
theorem xy {x y:V}{u:Value}(r:RelV y u) (f:iA y=true):Aw x u=zt y x:=by
 cases y with
 |non=>cases r;rfl
 |bl b=>cases r;rfl
 |int i=>obtain⟨t,rfl⟩:=r;rfl
 |str z=>obtain⟨t,rfl⟩:=r;rfl
 |_=>exact absurd (show false=true from f) bj
theorem oW {x:V}:∀{xs:List V}{us:List Value},aQ xs us→xs.all iA=true→us.any (Aw x)=xs.any fun y=>zt y x
 |_,_,.nil,_=>rfl
 | y::xs,u::us,.cons r t,f=>by
  rw[dz,ax] at f;rw[eu,eu,xy r f.1,oW t f.2]
theorem mq {A:Around}{s:Shared}{x:V}{v:Value}(rx:RelV x v) (fx:iA x=true):∀{xs:List V}{us:List Value},aQ xs us→xs.all iA=true→∀ u∈us,SeqAt.EqAt A s u v (Aw x u)
 |_,_,.nil,_=>fun u hu=>by cases hu
 | y::xs,u::us,.cons r t,f=>fun u' hu=>by
  rw[dz,ax] at f;rcases az.mp hu with rfl | hu
  ·rw[xy r f.1];exact CF r rx f.1 fx
  ·exact mq rx fx t f.2 u' hu
noncomputable def inV (x:V) (xs:List V):Bool:=xs.any fun y=>zt y x
noncomputable def rIn (K:PySem.W.Frag) (neg:Bool):R2:=fun x y H Q=>∃ p xs,y = .ref p∧(j8 K H p xs∨j6 K H p xs)∧iA x=true∧xs.all iA=true∧Q (.bl (if neg then !inV x xs else inV x xs)) H
theorem pE:jx X (compareOp .NotIn) (rIn X.K true):=by
 intro pins s σ H x y v u Q I rx ry h;obtain⟨p,xs,rfl,hq,fx,fs,q⟩:=h;cases ry;rcases hq with hq | hq
 ·obtain⟨its,r,pl,hz⟩:=I.list hq;refine SeqAt.notIn_listAt (Aw x) pl.isList (fun w hw=>mq rx fx r fs w (by simpa using hw)) ⟨.bl _,H,I,rfl,?_⟩;rw[show its.toArray.any (Aw x)=its.any (Aw x) by simp,oW r fs];exact q
 ·obtain⟨its,r,pl,hz⟩:=I.tuple hq;refine SeqAt.notIn_tupleAt (Aw x) pl (fun w hw=>mq rx fx r fs w (by simpa using hw)) ⟨.bl _,H,I,rfl,?_⟩;rw[show its.toArray.any (Aw x)=its.any (Aw x) by simp,oW r fs];exact q
theorem jC:fV X (.builtin "len") (fun xs H Q=>∃ p ys,xs=[.ref p]∧(j8 X.K H p ys∨j6 X.K H p ys)∧Q (.int ys.length) H):=by
 intro pins s σ H xs us Q I r h;obtain⟨p,ys,rfl,hq,q⟩:=h;obtain⟨u,rfl,rx⟩:=vals1 r;cases rx;have hn:=kd;rcases hq with hq | hq
 ·obtain⟨its,r',pl,hz⟩:=I.list hq;have hlen:=r'.length;exact Calls.call_len_list pl.isList (by simp only[List.size_toArray]<;>omega) ⟨.int ys.length,H,I.tok _,⟨s.toks+1,by rw[List.size_toArray,hlen]⟩,q⟩
 ·obtain⟨its,r',pl,hz⟩:=I.tuple hq;have hlen:=r'.length;exact len_tuple pl (by simp only[List.size_toArray]<;>omega) ⟨.int ys.length,H,I.tok _,⟨s.toks+1,by rw[List.size_toArray,hlen]⟩,q⟩
theorem pz:fV X (.builtin "len") (fun xs H Q=>∃ z,xs=[.str z]∧z.length≤sizeLine∧Q (.int z.length) H):=by
 intro pins s σ H xs us Q I r h;obtain⟨z,rfl,hz,q⟩:=h;obtain⟨u,rfl,t,rfl⟩:=vals1 r;have hn:=kd;exact len_str (by omega) ⟨.int z.length,H,I.tok _,⟨_,rfl⟩,q⟩
theorem jR:fV X (.type "list") (fun xs H Q=>∃ p ys,xs=[.ref p]∧(j8 X.K H p ys∨j6 X.K H p ys)∧∀ l,H l=none→Q (.ref l) (upd H l (.lst ys))):=by
 intro pins s σ H xs us Q I r h;obtain⟨p,ys,rfl,hq,q⟩:=h;obtain⟨u,rfl,rx⟩:=vals1 r;cases rx;have fin:∀(its:List Value),aQ ys its→ys.length≤sizeLine→∀(h':Heap) (c':Nat),(∀ b o',s.heap.get? b=some o'→h'.get? b=some o') →
   h'.get? s.heap.objs.size=some { cls:=.type "list",dict:=none,data:=.seq its.toArray c',slots:=#[] }→EP X pins σ Q (.ref s.heap.objs.size) { s with heap:=h' }:=fun its r' hz h' c' kp e =>
  ⟨.ref s.heap.objs.size,_,I.laid (t':=s.toks) kp (aw _) (show cG X.prog X.w _ h' _ (.lst ys) from ⟨hz,its,c',r',e⟩),rfl,q _ (I.hok.fresh (aw _))⟩
 rcases hq with hq | hq
 ·obtain⟨its,r',pl,hz⟩:=I.list hq;have hlen:=r'.length;obtain⟨o,ho,hc,n,hd⟩:=pl.isList;exact call_list_seq p (.inl rfl) ho hc hd (fun h' c' kp e=>fin its r' hz h' c' kp e) (by simp only[List.size_toArray]<;>omega)
 ·obtain⟨its,r',pl,hz⟩:=I.tuple hq;have hlen:=r'.length;obtain⟨o,ho,hc,n,hd⟩:=pl;exact call_list_seq p (.inr rfl) ho hc hd (fun h' c' kp e=>fin its r' hz h' c' kp e) (by simp only[List.size_toArray]<;>omega)
noncomputable def tyV (K:PySem.W.Frag) (T:String) (x:V) (H:Hp):Prop:=match x with
 |.str _=>T = "str"
 |.int _=>T = "int"
 | .ref p=>(T = "list"∧∃ xs,j8 K H p xs)∨(T = "tuple"∧∃ o,K.lookup p=some o∧o.cls = .type "tuple"∧o.dict=none) ∨
   (T = "dict"∧((∃ kvs,H p=some (.dK kvs))∨∃ kvs,H p=some (.dT kvs)))∨(T = "set"∧∃ S n,H p=some (.set S n))
 |_=>False
theorem xb {pins:List (Addr×Obj)}{σ:St}{H:Hp}{s:Shared}{T:String}{x:V}{v:Value}(I:Inv X pins σ H s) (r:RelV x v) (ty:tyV X.K T x H) :
  s.TypeIs v T∧∀ a,v = .ref a→∃ ob,s.heap.get? a=some ob∧ob.dict=none:=by
 cases x with
 |str z =>
  obtain⟨t,rfl⟩:=r;cases (show T = "str" from ty);exact⟨typeIs_str s z t,fun _ e=>nomatch e⟩
 |int i =>
  obtain⟨t,rfl⟩:=r;cases (show T = "int" from ty);exact⟨typeIs_int s i t,fun _ e=>nomatch e⟩
 |ref p =>
  cases r;rcases ty with ⟨rfl,xs,hq⟩ | ⟨rfl,o,hk,hc,hd⟩ | ⟨rfl,hk⟩ | ⟨rfl,S,n,hk⟩
  ·obtain⟨its,_,pl,_⟩:=I.list hq;refine⟨pl.isList.typeIs,fun a e=>?_⟩;cases e;obtain⟨o,n,e,c,hd,_⟩:=pl;exact⟨o,e,hd⟩
  ·refine⟨⟨o,I.kIn p o hk,hc⟩,fun a e=>?_⟩;cases e;exact⟨o,I.kIn _ o hk,hd⟩
  ·have z:∃ o,s.heap.get? p=some o∧o.ExactDict:=by
    rcases hk with ⟨kvs,hk⟩ | ⟨kvs,hk⟩
    ·obtain⟨_,_,_,_,o,_,_,e,ex,_⟩:=I.hok p _ hk;exact⟨o,e,ex⟩
    ·obtain⟨_,_,_,_,o,_,_,e,ex,_⟩:=I.hok p _ hk;exact⟨o,e,ex⟩
   obtain⟨o,e,ex⟩:=z;refine⟨⟨o,e,ex.1⟩,fun a e2=>?_⟩;cases e2;exact⟨o,e,ex.2.1⟩
  ·obtain⟨o,_,_,_,e,ex,_⟩:=I.hok p _ hk;refine⟨⟨o,e,ex.1⟩,fun a e2=>?_⟩;cases e2;exact⟨o,e,ex.2.1⟩
 |_=>exact False.elim ty
noncomputable def Gd (K:PySem.W.Frag) (T:String) (r:V→List V→Hp→VK→Prop) (to:TE):TE:=fun σ H Q=>to σ H fun x H1=>tyV K T x H1∧r x [] H1 Q
noncomputable def tBM (K:PySem.W.Frag) (T:String) (r:V→List V→Hp→VK→Prop) (to:TE) (t:TA):TE:=fun σ H Q=>to σ H fun x H1=>tyV K T x H1∧t σ H1 fun xs H2=>r x xs H2 Q
variable {o e:Expr}{es:List Expr}{to:TE}{t:TA}{name:Str}{apos cpos:Pos}{T id:String}{r:V→List V→Hp→VK→Prop}
theorem Dt (pa:PlainAttrs T) (slot:Slot T name id) (hty:typeOf (.builtin id)=pure (.type "method_descriptor")) (hm:MtR X id r) (ho:PE X o to)
  (hbase:attributeBase o name X.env (eval o X.env)=eval o X.env:=by rfl) (hline:(apos.endLine==cpos.line)=true:=by rfl):PE X (.Call (.Attribute o name apos) [] [] cpos) (Gd X.K T r to):=by
 intro pins s σ H Q I h;refine wpAny_Call_method0_late hbase hline (dD (ho pins s σ H _ I h) fun v s1 ⟨x,H1,I1,r1,ty,q1⟩=>?_);obtain⟨h1,h2⟩:=xb I1 r1 ty;exact⟨T,id,pa,slot,hty,h1,h2,Calls.callWith_builtin rfl (PySem.evalArgs_none (hm pins s1 σ H1 x [] v [] Q I1 r1 .nil q1))⟩
theorem tR (pa:PlainAttrs T) (slot:Slot T name id) (hty:typeOf (.builtin id)=pure (.type "method_descriptor")) (hm:MtR X id r) (ho:PE X o to) (ha:PA X (e::es) t)
  (hbase:attributeBase o name X.env (eval o X.env)=eval o X.env:=by rfl)
  (hfew:((backTo cpos (starEach (e::es) X.env)).all (fun x=>!x.1)&&(backToKw cpos (keywordEach [] X.env)).all (fun x=>x.1.isSome)
   && decide ((e::es).length+([]:List Keyword).length+(if ([]:List Keyword).isEmpty then 0 else 1)<30))=true:=by rfl)
  (hline:(apos.endLine==cpos.line)=true:=by rfl) (hs:starEach (e::es) X.env=(false,eval e X.env)::starEach es X.env:=by rfl) (hplain:(backTo cpos (starEach es X.env)).any (·.1)=false:=by rfl) :
  PE X (.Call (.Attribute o name apos) (e::es) [] cpos) (tBM X.K T r to t):=by
 intro pins s σ H Q I h;refine wpAny_Call_method_late hbase hfew hline rfl (dD (ho pins s σ H _ I h) fun v s1 ⟨x,H1,I1,r1,ty,q1⟩=>?_);obtain⟨h1,h2⟩:=xb I1 r1 ty;refine⟨T,id,pa,slot,hty,h1,h2,?_⟩;have hA:=ha cpos pins s1 σ H1 _ I1 q1;rw[hs] at hA ⊢;refine Calls.callWith_builtin (by show (false || (backTo cpos (starEach es X.env)).any (·.1))=false;rw[hplain]<;>rfl) (Calls.evalArgs_plain ?_);exact dD hA fun us s2 ⟨vs,H2,I2,r2,q2⟩=>hm pins s2 σ H2 x vs v us Q I2 r1 r2 q2
end
end L2
namespace L2
open PySem PySem.Spec PyProof.Rows
noncomputable def GH (X:Cx) (id:String) (r:V→List V→Hp→VK→Prop):Prop :=
 ∀(pins:List (Addr×Obj)) (s:Shared) (σ:St) (H:Hp) (x:V) (xs:List V) (v:Value) (us:List Value) (Q:VK),Inv X pins σ H s→RelV x v→aQ xs us→r x xs H Q →
  wpAny (model X.prog X.w) X.A (call (.builtin id) (v::us)) (EP X pins σ Q) X.xe s
theorem aQ.one:∀{x:V}{us:List Value},aQ [x] us→∃ u,us=[u]∧RelV x u
 |_,_,.cons r .nil=>⟨_,rfl,r⟩
theorem aQ.two:∀{x y:V}{us:List Value},aQ [x,y] us→∃ u v,us=[u,v]∧RelV x u∧RelV y v
 | _,_,_,.cons r (.cons q .nil)=>⟨_,_,rfl,r,q⟩
theorem aQ.zero:∀{us:List Value},aQ [] us→us=[]
 |_,.nil=>rfl
theorem aQ.dropLast {xs:List V}{us:List Value}(h:aQ xs us):aQ xs.dropLast us.dropLast:=by
 induction h with
 |nil=>exact .nil
 |cons r t ih =>
  cases t with
  |nil=>exact .nil
  |cons q t'=>exact .cons r ih
theorem aQ.eraseIdx:∀{xs:List V}{us:List Value}(i:Nat),aQ xs us→aQ (xs.eraseIdx i) (us.eraseIdx i)
 |_,_,_,.nil=>.nil
 |_,_,0,.cons _ t=>t
 |_,_,i+1,.cons r t=>.cons r (aQ.eraseIdx i t)
theorem aQ.rep {xs:List V}{us:List Value}(h:aQ xs us):∀ k:Nat,aQ (List.replicate k xs).flatten (List.replicate k us).flatten
 |0=>.nil
 | k+1=>by
  rw[df,df,fe,fe];exact aQ.append h (aQ.rep h k)
theorem mm {α:Type}(l:List α):l.eraseIdx (l.length - 1)=l.dropLast:=by
 induction l with
 |nil=>rfl
 |cons a r ih =>
  cases r with
  |nil=>rfl
  |cons b r =>
   have e:(a::b::r).length - 1=((b::r).length - 1)+1:=by
    have h1:(a::b::r).length=r.length+2:=rfl;have h2:(b::r).length=r.length+1:=rfl;omega
   rw[e,List.eraseIdx_cons_succ,ih]
   all_goals rfl
theorem nZ {α:Type}:∀(l:List α) (i:Nat),(l.eraseIdx i).length≤l.length
 |[],_=>aw _
 |_::_,0=>Nat.le_succ _
 |_::r,i+1=>Nat.succ_le_succ (nZ r i)
theorem foldl_rep (its:List Value):∀(k:Nat) (acc:List Value),
  List.foldl (fun x1 x2=>x1++x2) acc.toArray (List.replicate k its.toArray)=(acc++(List.replicate k its).flatten).toArray
 |0,acc=>by simp
 | k+1,acc=>by
  have e:acc.toArray++its.toArray=(acc++its).toArray:=by simp
  have e2:(acc++its)++(List.replicate k its).flatten=acc++(List.replicate (k+1) its).flatten:=by
   rw[df,fe,dq]
  rw[←e2,←foldl_rep its k (acc++its),←e,df,List.foldl_cons]
section
variable {X:Cx}{pins:List (Addr×Obj)}{σ:St}{H:Hp}{s:Shared}{l b:Addr}{xs ys zs:List V}
theorem Inv.lset {its its':List Value}{n:Nat}{f:Array Value→Array Value}{t':Nat}(I:Inv X pins σ H s) (hH:H l=some (.lst xs))
  (e:s.heap.get? l=some { cls:=.type "list",data:=.seq its.toArray n }) (hf:f its.toArray=its'.toArray) (hv:aQ ys its') (hz:ys.length≤sizeLine) :
  Inv X pins σ (upd H l (.lst ys)) { s with heap:=s.heap.update l (Obj.mapSeq f),toks:=t' }:=by
 have q:=PySem.IsL.update e f;rw[hf] at q;refine I.write (x:=l) (e:=l) (by rw[hH];exact trivial) (.inl rfl) (fun b' u hb hu=>(Heap.get?_update_other s.heap (Obj.mapSeq f) (Ne.symm hb)).trans hu) ⟨_,q⟩ ?_;exact⟨hz,its',_,hv,q⟩
theorem Inv.lnew {its:List Value}{t':Nat}(I:Inv X pins σ H s) (hv:aQ ys its) (hz:ys.length≤sizeLine) :
  Inv X pins σ (upd H s.heap.objs.size (.lst ys)) { s with heap:=s.heap.push { cls:=.type "list",data:=.seq its.toArray },toks:=t' } :=
 I.laid (fun _ _ q=>Heap.get?_push_of_some _ q) (aw _) ⟨hz,its,0,hv,Heap.get?_push_size _ rfl⟩
theorem Inv.fresh (I:Inv X pins σ H s):H s.heap.objs.size=none:=I.hok.fresh (aw _)
theorem Inv.lstM (I:Inv X pins σ H s) (hH:H l=some (.lst xs)):xs.length≤sizeLine∧∃(its:List Value) (n:Nat),aQ xs its∧xs.length=its.length∧s.heap.get? l=some { cls:=.type "list",data:=.seq its.toArray n }:=by
 obtain⟨z,its,n,r,e⟩:=I.hok l _ hH;exact⟨z,its,n,r,r.length,e⟩
theorem xn {n:Nat}(h:n≤sizeLine):Builtin.List.listTooLong n=false:=by
 unfold Builtin.List.listTooLong;exact decide_eq_false (by omega)
end
section
variable {X:Cx}
noncomputable def zW:V→List V→Hp→VK→Prop:=fun x vs H Q=>∃ l xs y,x = .ref l∧vs=[y]∧H l=some (.lst xs)∧xs.length<sizeLine∧Q .non (upd H l (.lst (xs ++ [y])))
theorem m9:GH X "list.append" zW:=by
 intro pins s σ H x vs v us Q I rx rv h;obtain⟨l,xs,y,rfl,rfl,hH,hz,q⟩:=h;cases rx;obtain⟨u,rfl,ru⟩:=rv.one;obtain⟨z,its,n,r,hl,e⟩:=I.lstM hH;refine call_meets F.slot_list_append ⟨_,e,rfl⟩ F.entry_list_append (F.args_list_append_2 _ _) (PySem.list_append l its.toArray n u (by rw[bh];omega)) ⟨e,?_⟩;refine⟨.non,_,I.lset (its':=its ++ [u]) hH e (by simp) (r.append (.cons ru .nil)) ?_,rfl,q⟩;rw[bw,List.length_singleton];omega
noncomputable def rPop:V→List V→Hp→VK→Prop:=fun x vs H Q=>∃ l xs y,x = .ref l∧vs=[]∧H l=some (.lst xs)∧xs[xs.length - 1]? = some y∧Q y (upd H l (.lst xs.dropLast))
theorem DF:GH X "list.pop" rPop:=by
 intro pins s σ H x vs v us Q I rx rv h;obtain⟨l,xs,y,rfl,rfl,hH,hy,q⟩:=h;cases rx;have hus:=rv.zero;subst hus;obtain⟨z,its,n,r,hl,e⟩:=I.lstM hH;obtain⟨u,hu,ru⟩:=r.get hy;have hy':its.toArray[its.toArray.size - 1]? = some u:=by
  show its.toArray[its.length - 1]? = some u;rw[←Array.getElem?_toList,←hl];exact hu
 refine call_meets F.slot_list_pop ⟨_,e,rfl⟩ F.entry_list_pop (F.args_list_pop_1 _) (MeetsSeq.list_pop_last l its.toArray n u hy' (by rw[bh];omega)) ⟨e,?_⟩;refine⟨y,_,I.lset (its':=its.dropLast) hH e ?_ r.dropLast ?_,ru,q⟩
 ·show its.toArray.eraseIdxIfInBounds (its.toArray.size - 1)=its.dropLast.toArray;rw[bh,List.eraseIdxIfInBounds_toArray,mm]
 ·rw[List.length_dropLast];omega
noncomputable def B9:V→List V→Hp→VK→Prop:=fun x vs H Q=>∃ l xs i k y,x = .ref l∧vs=[.int i]∧H l=some (.lst xs)∧-(2 ^ 63)≤i∧i<2 ^ 63∧seqIndex? i xs.length=some k∧xs[k]? = some y∧Q y (upd H l (.lst (xs.eraseIdx k)))
theorem yn:GH X "list.pop" B9:=by
 intro pins s σ H x vs v us Q I rx rv h;obtain⟨l,xs,i,k,y,rfl,rfl,hH,h1,h2,hk,hy,q⟩:=h;cases rx;obtain⟨u,rfl,ru⟩:=rv.one;obtain⟨t,rfl⟩:=ru;obtain⟨z,its,n,r,hl,e⟩:=I.lstM hH;obtain⟨w,hw,eY⟩:=r.get hy;refine call_meets F.slot_list_pop ⟨_,e,rfl⟩ F.entry_list_pop (F.args_list_pop_2 _ _)
  (MeetsSeq.list_pop_at l its.toArray n i t k w (fitsIndex_both h1 h2) (by rw[bh,←hl];exact hk) (by rw[←Array.getElem?_toList];exact hw) (by rw[bh];omega)) ⟨e,?_⟩
 refine⟨y,_,I.lset (its':=its.eraseIdx k) hH e ?_ (r.eraseIdx k) ?_,eY,q⟩
 ·show its.toArray.eraseIdxIfInBounds k=(its.eraseIdx k).toArray;rw[List.eraseIdxIfInBounds_toArray]
 ·have:=nZ xs k;omega
theorem len_rep {α:Type}(xs:List α) (k:Nat):(List.replicate k xs).flatten.length=k*xs.length:=by
 induction k with
 |zero=>simp
 |succ k ih=>rw[df,fe,bw,ih,Nat.succ_mul,Nat.add_comm]
end
section
variable {prog:Program}{w:World}{A:Around}{E:Value→Shared→Prop}{s:Shared}
end
section
variable {X:Cx}
end
end L2
namespace Att
open PySem PySem.W PySem.Calls PyProof.Rows
theorem k4 {P:Params}{h:Heap}:∀(ns:List Int) (vs:List Value),WellAll P h vs (ns.map WData.int)→IntsAre vs ns:=by
 intro ns
 induction ns with
 |nil =>
  intro vs w;rw[List.map_nil] at w;cases w;exact .nil
 |cons n ns ih =>
  intro vs w;rw[ba] at w;cases w with
  |cons a b =>
   cases a;exact .cons _ _ (ih _ b)
theorem ve {l:OpenLaw}{n:Nat}(hn:l.most=some n) {P:Params}{h:Heap}{args:List WData}{vals:List Value}
  (hpre:l.row.toRowW.claim.pre args=true) (hwl:WellAll P h vals args) :
  ∃ a vs ns,vals=[Value.ref a]∧args=[WData.list (ns.map WData.int)]∧h.get? a=some { cls:=.type "list",data:=.seq vs.toArray }∧IntsAre vs ns∧ns.length≤n:=by
 have hsh:WShape.hasAll [] args [.list .int]=true:=(pre_splitW hpre).1;have hc:l.pre.holds [] { args:=args }=true:=(pre_splitW hpre).2;obtain⟨d,r,rfl,h1,h2⟩:=hasAllW_cons hsh;obtain rfl:=hasAllW_nil h2;obtain⟨xs,rfl,h3⟩:=hasW_list h1;obtain⟨ns,rfl⟩:=items_int h3;have hlen:ns.length≤n:=by
  unfold OpenLaw.pre at hc;have h4:(WTm.not (.lt (.lit (.int (n:Int))) (.len (.arg 0)))).holds [] { args:=[.list (ns.map .int)] }=true:=by
   have h4:=(holds_andW hc).1;rw[hn] at h4;exact h4
  have h5:=condW_of h4 (w_not (w_lt w_lit (w_len_list (w_arg rfl))));rw[aj] at h5;refine Nat.le_of_not_lt fun q=>?_
  have q':(n:Int)<((ns.length:Nat):Int):=by omega
  first
   | (rw[decide_eq_true q'] at h5;exact absurd h5 (by decide))
   | (simp at h5;omega)
 cases hwl with
 |cons w1 w2 =>
  cases w2;cases w1 with
  |list ho hall=>exact⟨_,_,ns,rfl,rfl,ho,k4 ns _ hall,hlen⟩
theorem vQ (l:OpenLaw) (args:List WData):l.row.toRowW.claim.post args (.bool true) args=true :=
 postW_of (r:=l.row.toRowW) (X:=(true==true))
  (show WShape.has [] (.bool true) .bool=true by first | rfl | decide | simp[WShape.has,WShape.arms,WShape.armsAll])
  (show (WTm.eq .res (.lit (.bool true))).value [] { args:=args,res:=some (.bool true),after:=args }=some (.bool (true==true)) from w_eq_bool (w_res rfl) w_lit) rfl
theorem qD {l:OpenLaw}{n:Nat}{q:Program}{loose:List Str}{XP:(Str→Option Value)→Heap→Prop}{YP:World→Heap→Prop}{d:DefRec}
  (hn:l.most=some n) (hdf:d.params.defaults=[])
  (call:∀(w:World) (s₀ s₁:Shared) (mg mb:Str→Option Value) (fa:Addr) (o:Obj) (pm cd doc:Value) (a:Addr) (vs:List Value) (ns:List Int),
   Ground q loose [] XP w s₀ mg mb s₁.heap→YP w s₁.heap →
   s₁.heap.get? fa=some o→o.data = .func (docDef d.name d.params d.body d.scope pm cd doc)→s₁.heap.CodeRec cd d.name→mg d.name=some (.ref fa) →
   s₁.heap.get? a=some { cls:=.type "list",data:=.seq vs.toArray }→IntsAre vs ns→ns.length≤n→s₁.gens = #[] →
   codeAny (model l.prog w) callerA (.call (.ref fa) ⟨[.ref a],[]⟩) (fun r s'=>r = .ok (.ret (.bool true))∧OldK s₁.heap s'.heap∧s'.os=s₁.os∧AllBare s'.gens) s₁) :
  WalkO q loose XP YP l.row.toRowW d [] (fun f vs=>PySem.call f vs):=by
 intro w s₀ s₁ mg mb G Y fa o pm cd doc dV kV ho hd hcd hD hmg hg args vals as hpre hlay hrd hwl hlo;obtain rfl:dV = .none:=Dflts.none hD hdf;obtain rfl:kV = .none:=Dflts.noKw hD;obtain⟨a,vs,ns,rfl,rfl,hobj,hints,hlen⟩:=ve hn hpre hwl;refine enter_call (codeAny_mono (call w s₀ s₁ mg mb fa o pm cd doc a vs ns G Y ho (fd_plain hd) hcd hmg hobj hints hlen hg) fun r s' hq=>?_);obtain⟨rfl,h2,h3,h4⟩:=hq;exact⟨.inl ⟨.bool true,.bool true,[],rfl,fun _=>rfl,.bool true,vQ l _,fun _=>⟨List.Pairwise.nil,fun _ hm=>(nomatch hm)⟩⟩,h2,h3,h4⟩
section
variable {prog:Program}{w:World}{A:Around}{E:Value→Shared→Prop}{s:Shared}{K:Frag}
noncomputable def mM (h:Heap):Heap:={ h with objs:=#[] }
theorem jn (h:Heap) (b:Addr):(mM h).get? b=none:=by
 cases e:(mM h).get? b with
 |none=>rfl
 |some o=>exact absurd (Heap.lt_size e) (Nat.not_lt_zero _)
noncomputable def ledger (h:Heap) (L d:Addr):List (Addr×Obj):=(List.range h.objs.size).filterMap fun a=>if a=L∨a=d then none else (h.get? a).map fun o=>(a,o)
theorem dU {h:Heap}{L d a:Addr}{o:Obj}:(a,o)∈ledger h L d↔a≠L∧a≠d∧h.get? a=some o:=by
 unfold ledger;rw[List.mem_filterMap];constructor
 ·rintro⟨b,_,e⟩;split at e
  ·cases e
  ·rename_i hb;obtain⟨o',ho,e'⟩:=ab.mp e;cases e';exact⟨fun q=>hb (.inl q),fun q=>hb (.inr q),ho⟩
 ·rintro⟨n1,n2,ho⟩;refine⟨a,fb.mpr (Heap.lt_size ho),?_⟩;rw[if_neg (show ¬ (a=L∨a=d) from fun q=>q.elim n1 n2),ho]<;>rfl
theorem wX {h:Heap}{L:Addr}{m:Str→Option Value}(n:h.Ns L m):Fr (mM h) L h m :=
 ⟨n,fun b o e=>(by rw[jn] at e;cases e),de _⟩
end
end Att
namespace L2
open PySem PySem.Spec PyProof.Rows
theorem gN:∀{vs:List Value}{ns:List Int},IntsAre vs ns→aQ (ns.map V.int) vs
 |_,_,.nil=>.nil
 |_,_,.cons n t h=>.cons ⟨t,rfl⟩ (gN h)
noncomputable def Dv (H:Hp):Prop:=∀ b,H b=none∨∃ o xs,H b=some (.frz o (.lst xs))
theorem vZ {P:Program}{w:World}{K:PySem.W.Frag}{mg mb:Str→Option Value}{CX:vW}{k:Nat}{fa a:Addr}{fd:FuncData}{x:Str}{sp:Sp}{s₁:Shared}{vs:List Value}{ns:List Int}
  (KX:K.In s₁.heap) (hns:s₁.heap.Ns mainGlobals mg) (hb:s₁.heap.Ns builtinsNs mb) (hbb:∀ x:Str,x≠"__name__"→mb x=bootBuiltins x) (hlim:s₁.heap.NoLimit) (hg:s₁.gens = #[])
  (ha:s₁.heap.get? a=some { cls:=.type "list",data:=.seq vs.toArray }) (hi:IntsAre vs ns) (hl:ns.length≤sizeLine) (hr:iE k callerA)
  (F:∀ base:Heap,K.In base→base.Ns mainGlobals mg→oT P w K mg base CX k fa fd [x] sp) (hbind:∀(s:Shared) (u:Value),BindsTo s fd ⟨[u],[]⟩ [(x,u)])
  (hsp:∀ H:Hp,Dv H→j8 K H a (ns.map V.int)→sp [.ref a] H (fun v _=>v = .bl true) fun _ _ _=>False)
  (hCX:∀ H e s',CX [] H s₁ (fun _ _ _=>False) e s'→False) :
  codeAny (model P w) callerA (.call (.ref fa) ⟨[.ref a],[]⟩) (fun r s'=>r = .ok (.ret (.bool true))∧OldK s₁.heap s'.heap∧s'.os=s₁.os∧AllBare s'.gens) s₁:=by
 have rv:=gN hi;have lenV:=hi.length;have core:∀ H:Hp,Dv H→j8 K H a (ns.map V.int)→jS P w H s₁.heap→(∀ b,H b≠none→b=a)→(H a≠none→K.lookup a=none) →
   codeAny (model P w) callerA (.call (.ref fa) ⟨[.ref a],[]⟩) (fun r s'=>r = .ok (.ret (.bool true))∧OldK s₁.heap s'.heap∧s'.os=s₁.os∧AllBare s'.gens) s₁:=by
  intro H hO hS hok hA hK;have base_of:∀{b:Addr}{o:Obj},s₁.heap.get? b=some o→H b=none→(oU s₁.heap H).get? b=some o:=fun e n=>wO e n
  have noA:∀{b:Addr}{o:Obj}{es:Array DictEntry}{ep:Nat},s₁.heap.get? b=some o→o.data = .dict es ep→H b=none:=fun {b o es ep} e d=>by
   cases q:H b with
   |none=>rfl
   |some u =>
    have e':b=a:=hA b (by rw[q];simp);subst e';rw[ha] at e;cases e;have d':Data.seq vs.toArray _=Data.dict es ep:=d;cases d'
  have nsK:∀{b:Addr}{m:Str→Option Value},s₁.heap.Ns b m→(oU s₁.heap H).Ns b m:=fun {b m} ⟨o,es,ep,e,d,r⟩=>⟨o,es,ep,base_of e (noA e d),d,r⟩
  have hKb:K.In (oU s₁.heap H):=fun b o e=>base_of (KX b o e) (by
   cases q:H b with
   |none=>rfl
   |some u =>
    have e':b=a:=hA b (by rw[q];simp);subst e';rw[hK (by rw[q];simp)] at e;cases e)
  have hM:Mod K mg (oU s₁.heap H):=⟨hKb,nsK hns,⟨mb,nsK hb,hbb⟩,let ⟨mc,h1,h2⟩:=hlim;⟨mc,nsK h1,h2⟩⟩;have e0:zL P w K mg (oU s₁.heap H) callerA [] s₁ H:=⟨rfl,hM,fun b o e=>zV e,Nat.le_of_eq (vF _ _),trivial,fun b hb=>absurd (show b∈([]:List Addr) from hb) (by simp),hok,.of_eq hg⟩;refine codeAny_mono ((F _ hKb (nsK hns)).run callerA [] s₁ H ⟨[.ref a],[]⟩ [.ref a] [.ref a] _ _ hr e0 (hbind s₁ (.ref a)) (.cons rfl .nil) (hsp H hO hS)) fun r s' h=>?_
  cases r with
  |error e=>exact (hCX H e s' h).elim
  |ok fl =>
   cases fl with
   |next=>exact False.elim h
   |brk=>exact False.elim h
   |cont=>exact False.elim h
   |ret u =>
    obtain⟨v,H',os,bare,un,hok',r',q⟩:=h;have q':v = .bl true:=q;subst q';obtain rfl:u=Value.bool true:=r';refine⟨rfl,OldK.of_keep fun b o e=>?_,os,bare⟩;cases q:H b with
    |none=>exact un.keep b o e q (by intro z;exact absurd (show b∈([]:List Addr) from z) (by simp)) (by simp)
    |some u =>
     rcases hO b with z | ⟨ob,xs,z⟩
     ·rw[q] at z;cases z
     ·have z2:=un.frzs b ob _ z;obtain⟨e1,_⟩:=hok b _ z;obtain⟨e2,_⟩:=hok' b _ z2;rw[e] at e1;cases e1;exact e2
 cases hk:K.lookup a with
 |some o =>
  have e:=KX a o hk;rw[ha] at e;cases e;refine core (fun _=>none) (fun _=>.inl rfl) (.inr ⟨_,vs.toArray,_,hk,rfl,rfl,rfl,by rw[List.size_toArray,lenV];exact hl,by simpa using rv⟩) (fun b u z=>by have z':(none:Option HO)=some u:=z;cases z') (fun b z=>absurd rfl z) fun z=>absurd rfl z
 |none =>
  refine core (fun b=>if b=a then some (.frz { cls:=.type "list",data:=.seq vs.toArray } (.lst (ns.map V.int))) else none) (fun b=>?_) (.inl (.inr ⟨{ cls:=.type "list",data:=.seq vs.toArray },if_pos rfl⟩)) (fun b u z=>?_) (fun b z=>?_) fun _=>hk
  ·by_cases hb:b=a
   ·exact .inr ⟨_,_,if_pos hb⟩
   ·exact .inl (if_neg hb)
  ·by_cases hb:b=a
   ·have z':=(if_pos hb).symm.trans z;cases z';subst hb;exact⟨ha,by rw[aj];exact hl,vs,_,rv,ha⟩
   ·have z':=(if_neg hb).symm.trans z;cases z'
  ·by_cases hb:b=a
   ·exact hb
   ·exact absurd (if_neg hb) z
end L2
namespace L2
open PySem PySem.Spec PyProof.Rows
theorem AF {l:PySem.W.OpenLaw}{n k:Nat}{q:Program}{loose:List Str}{XP:(Str→Option Value)→Heap→Prop}{YP:World→Heap→Prop}{d:DefRec}{K:Params→PySem.W.Frag}{CX:World→vW}{sp:World→Sp}{x:Str}
  (hn:l.most=some n) (hn2:n≤sizeLine) (hdf:d.params.defaults=[]) (hr:iE k callerA)
  (hY:∀(w:World) (h:Heap),YP w h→(K w.params).In h)
  (F:∀(w:World) (mg:Str→Option Value) (fa:Addr) (h:Heap),(K w.params).In h→h.Ns mainGlobals mg→mg d.name=some (.ref fa) →
   ∃ fd:FuncData,(∀(s:Shared) (u:Value),BindsTo s fd ⟨[u],[]⟩ [(x,u)]) ∧
    ∀ base:Heap,(K w.params).In base→base.Ns mainGlobals mg→oT l.prog w (K w.params) mg base (CX w) k fa fd [x] (sp w))
  (hsp:∀(w:World) (H:Hp) (a:Addr) (ns:List Int),ns.length≤n→Dv H→j8 (K w.params) H a (ns.map V.int)→sp w [.ref a] H (fun v _=>v = .bl true) fun _ _ _=>False)
  (hCX:∀(w:World) (H:Hp) (s:Shared) (e:Value) (s':Shared),CX w [] H s (fun _ _ _=>False) e s'→False) :
  PySem.W.WalkO q loose XP YP l.row.toRowW d [] (fun f vs=>PySem.call f vs):=by
 refine Att.qD hn hdf fun w s₀ s₁ mg mb fa o pm cd doc a vs ns G Y ho hd hcd hmg hobj hints hlen hg=>?_
 have KX:=hY w _ Y;obtain⟨fd,hb,hF⟩:=F w mg fa _ KX G.T.g hmg;exact vZ KX G.T.g G.T.b G.T.builtins G.T.nolimit hg hobj hints (cv hlen hn2) hr hF hb (fun H hO hS=>hsp w H a ns hlen hO hS) fun H e s'=>hCX w H s₁ e s'
end L2
namespace L2
open PySem PySem.Spec PyProof.Rows
noncomputable def fF (s:Stmt):Arguments:=match s with
 |.FunctionDef _ a _ _ _ _ _ _ _ _=>a
 |_=>{ posonlyargs:=[],args:=[],vararg:=none,kwonlyargs:=[],kw_defaults:=[],kwarg:=none,defaults:=[] }
noncomputable def dP (s:Stmt):List Stmt:=match s with
 |.FunctionDef _ _ b _ _ _ _ _ _ _=>b
 |_=>[]
noncomputable def bF (s:Stmt):Scope:=match s with
 |.FunctionDef _ _ _ _ _ _ sc _ _ _=>sc
 |_=>{ kind:=.function,names:=[],isGenerator:=false,isCoroutine:=false }
noncomputable abbrev Cz:vW:=fun _ _ _ _ _ _=>False
noncomputable abbrev E0:XK:=fun _ _ _=>False
theorem BJ {X:Cx}:oV Cz X E0:=fun _ _ _ _ _ _ _ h=>h.elim
structure D1 (K:PySem.W.Frag) (x qual:Str) (st:Stmt) (f:Addr) (fd:FuncData):Prop where
 ex:∃(oc:Value) (od:Option Addr) (kV doc pm:Value) (an:Option Addr) (cdv ct:Value) (osl:Array (Option Value)),
  fd=PySem.W.fnOf x qual (fF st) (dP st) (bF st) .none kV doc pm an cdv ct∧K.lookup f=some ⟨oc,od,.func fd,osl⟩∧PySem.W.codeIn K cdv qual=true
 kp:PySem.W.keepIn K (.ref f)=true
section
variable {P:Program}{w:World}{K:PySem.W.Frag}{mg:Str→Option Value}{base:Heap}
theorem D1.ok {x qual:Str}{st:Stmt}{f:Addr}{fd:FuncData}{N ps:List Str}{k:Nat}{sp:Sp}(F:D1 K x qual st f fd) (S:k5 N ps (bF st)) (len:∀ vs H Q E,sp vs H Q E→vs.length=ps.length)
  (hbody:∀(cdv:Value) (A:Around) (outer:List Env) (s:Shared) (H:Hp) (vs:List V) (Q:VK) (E:XK),iE k (A.deeper (envOfC qual (bF st) s.heap.objs.size f cdv))→sp vs H Q E →
   ∃ t,mT (rg Cz P w K mg base N qual (bF st) f cdv A outer s H E).nox (dP st) t∧t { nx:=fun _ H'=>Q .non H',rt:=Q } (start N vs) H):oT P w K mg base Cz (k+1) f fd ps sp:=by
 obtain⟨oc,od,kV,doc,pm,an,cdv,ct,osl,rfl,lk,hcd⟩:=F.ex;refine GO lk hcd S len fun A outer s H vs Q E hr hsp=>?_
 obtain⟨t,h,q⟩:=hbody cdv A outer s H vs Q E hr hsp;exact⟨t,h.nox,q⟩
theorem D1.binds {x qual:Str}{st:Stmt}{f:Addr}{fd:FuncData}{ps:List Str}(F:D1 K x qual st f fd)
  (h:∀(kV doc pm:Value) (an:Option Addr) (cdv ct:Value) (us:List Value),us.length=ps.length→bindArgs (PySem.W.fnOf x qual (fF st) (dP st) (bF st) .none kV doc pm an cdv ct) ⟨us,[]⟩=pure (ps.zip us)):Binds K fd ps []:=by
 obtain⟨oc,od,kV,doc,pm,an,cdv,ct,osl,rfl,lk,hcd⟩:=F.ex;exact .all (h kV doc pm an cdv ct)
theorem C2 {x qual:Str}{st:Stmt}{f:Addr}{oc:Value}{od an:Option Addr}{osl:Array (Option Value)}{kV doc pm cdv ct:Value}(l:K.lookup f=some ⟨oc,od,.func (PySem.W.fnOf x qual (fF st) (dP st) (bF st) .none kV doc pm an cdv ct),osl⟩)
  (c:PySem.W.codeIn K cdv qual=true) (k:PySem.W.keepIn K (.ref f)=true):D1 K x qual st f (PySem.W.fnOf x qual (fF st) (dP st) (bF st) .none kV doc pm an cdv ct):=⟨⟨oc,od,kV,doc,pm,an,cdv,ct,osl,rfl,l,c⟩,k⟩
end
section
variable {X:Cx}
end
noncomputable def aO (H H':Hp):Prop:=∀ b o,H b=some o→H' b=some o
theorem aO.refl (H:Hp):aO H H:=fun _ _ h=>h
theorem aO.trans {H H1 H2:Hp}(a:aO H H1) (b:aO H1 H2):aO H H2:=fun c o h=>b c o (a c o h)
end L2
end
section
namespace L2
open PySem PySem.Spec PyProof.Rows
section
variable {κ:Type}[DecidableEq κ]
noncomputable def ki (kvs:List (κ×V)) (k:κ):Option V:=(kvs.find? fun kv=>decide (kv.1=k)).map (·.2)
noncomputable def putK (kvs:List (κ×V)) (k:κ) (v:V):List (κ×V) :=
 if (kvs.any fun kv=>decide (kv.1=k))=true then kvs.map (fun kv=>if kv.1=k then (kv.1,v) else kv) else kvs ++ [(k,v)]
theorem jM {p:κ×V}{r:List (κ×V)}{k:κ}(e:p.1=k):ki (p::r) k=some p.2:=by simp[ki,List.find?_cons,e]
theorem j4 {p:κ×V}{r:List (κ×V)}{k:κ}(e:¬ p.1=k):ki (p::r) k=ki r k:=by simp[ki,List.find?_cons,e]
theorem mH (k:κ):∀ kvs:List (κ×V),(kvs.any fun kv=>decide (kv.1=k))=(ki kvs k).isSome
 |[]=>rfl
 | p::r=>by
  rw[eu];by_cases e:p.1=k
  ·simp only[jM e,decide_eq_true e,Bool.true_or,Option.isSome_some]
  ·rw[j4 e,decide_eq_false e,Bool.false_or];exact mH k r
theorem kI (kvs:List (κ×V)) (k:κ) (v:V):(putK kvs k v).length≤kvs.length+1:=by
 unfold putK;split
 ·rw[aj];omega
 ·rw[bw,du,List.length_nil];omega
theorem uT.isSome_eq {o:Option V}{u:Option Value}(r:uT o u):o.isSome=u.isSome:=by
 cases o with
 |none=>cases u with
  |none=>rfl
  |some _=>exact (show False from r).elim
 |some _=>cases u with
  |none=>exact (show False from r).elim
  |some _=>rfl
theorem KV.val {kvs:List (κ×V)}{vs:List (κ×Value)}(r:KV kvs vs) (k:κ):uT (ki kvs k) (valueAt vs k):=by
 unfold KV at r
 induction r with
 |nil=>exact True.intro
 |@cons p q ps qs h t ih =>
  obtain⟨h1,h2⟩:=h;by_cases e:p.1=k
  ·have e':q.1=k:=h1.symm.trans e;have b:valueAt (q::qs) k=some q.2:=by simp[valueAt,List.find?_cons,e']
   rw[jM e,b];exact h2
  ·have e':¬ q.1=k:=fun z=>e (h1.trans z)
   have b:valueAt (q::qs) k=valueAt qs k:=by simp[valueAt,List.find?_cons,e']
   rw[j4 e,b];exact ih
theorem KV.any {kvs:List (κ×V)}{vs:List (κ×Value)}(r:KV kvs vs) (k:κ):(kvs.any fun kv=>decide (kv.1=k))=vs.any fun kv=>decide (kv.1=k):=by
 unfold KV at r
 induction r with
 |nil=>rfl
 |cons h t ih=>rw[eu,eu,ih,h.1]
theorem KV.repl {kvs:List (κ×V)}{vs:List (κ×Value)}(r:KV kvs vs) (k:κ) {y:V}{u:Value}(ry:RelV y u) :
  KV (kvs.map fun kv=>if kv.1=k then (kv.1,y) else kv) (vs.map fun kv=>if kv.1=k then (kv.1,u) else kv):=by
 unfold KV at r ⊢
 induction r with
 |nil=>exact .nil
 |@cons p q ps qs h t ih =>
  rw[ba,ba];refine .cons ?_ ih;obtain⟨h1,h2⟩:=h;by_cases e:p.1=k
  ·rw[if_pos e,if_pos (h1.symm.trans e)];exact⟨h1,ry⟩
  ·rw[if_neg e,if_neg (fun z=>e (h1.trans z))];exact⟨h1,h2⟩
theorem KV.put {kvs:List (κ×V)}{vs:List (κ×Value)}(r:KV kvs vs) (k:κ) {y:V}{u:Value}(ry:RelV y u):KV (putK kvs k y) (stored vs k u):=by
 unfold putK stored;rw[r.any k];by_cases e:(vs.any fun kv=>decide (kv.1=k))=true
 ·rw[if_pos e,if_pos e];exact r.repl k ry
 ·rw[if_neg e,if_neg e];exact Paired.snoc r ⟨rfl,ry⟩
theorem KV.keys {kvs:List (κ×V)}{vs:List (κ×Value)}(r:KV kvs vs):kvs.map (·.1)=vs.map (·.1):=by
 unfold KV at r
 induction r with
 |nil=>rfl
 |cons h t ih=>rw[ba,ba,ih,h.1]
theorem KV.length {kvs:List (κ×V)}{vs:List (κ×Value)}(r:KV kvs vs):kvs.length=vs.length:=Paired.length r
end
theorem tU {P:Program}{w:World}{k:Key}{u:Value}(r:RelV (kV k) u):(cK P w).is k u=true:=by
 cases k with
 |inl i=>obtain⟨t,e⟩:=(show ∃ t,u=Value.int i t from r);subst e;exact kK P w i t
 |inr x=>obtain⟨t,e⟩:=(show ∃ t,u=Value.str x t from r);subst e;exact qL P w x t
theorem nS {P:Program}{w:World}:∀{ks:List Key}{us:List Value},aQ (ks.map kV) us→ItemsAre (cK P w) ks us
 |[],_,r=>by rw[List.map_nil] at r;cases r;exact .nil
 | k::ks,_,r=>by
  rw[ba] at r;cases r with
  |cons h t=>exact .cons (tU h) (nS t)
noncomputable abbrev KT (H:Hp):List (List Key×V)→List (List Key×Addr×Value)→Prop:=Paired fun p q=>p.1=q.1∧H q.2.1=some (.tup (p.1.map kV))∧RelV p.2 q.2.2
theorem KT.val {H:Hp}{kvs:List (List Key×V)}{xs:List (List Key×Addr×Value)}(r:KT H kvs xs) (k:List Key):uT (ki kvs k) ((atKey xs k).map (·.2)):=by
 induction r with
 |nil=>exact True.intro
 |@cons p q ps qs h t ih =>
  obtain⟨h1,_,h2⟩:=h;by_cases e:p.1=k
  ·have e':q.1=k:=h1.symm.trans e;have b:atKey (q::qs) k=some q.2:=by simp[atKey,List.find?_cons,e']
   rw[jM e,b];exact h2
  ·have e':¬ q.1=k:=fun z=>e (h1.trans z)
   have b:atKey (q::qs) k=atKey qs k:=by simp[atKey,List.find?_cons,e']
   rw[j4 e,b];exact ih
theorem KT.repl {H:Hp}{kvs:List (List Key×V)}{xs:List (List Key×Addr×Value)}(r:KT H kvs xs) (k:List Key) {y:V}{u:Value}(ry:RelV y u) :
  KT H (kvs.map fun kv=>if kv.1=k then (kv.1,y) else kv) (xs.map (putAt k u)):=by
 induction r with
 |nil=>exact .nil
 |@cons p q ps qs h t ih =>
  rw[ba,ba];refine .cons ?_ ih;obtain⟨h1,h2,h3⟩:=h;unfold putAt;by_cases e:p.1=k
  ·rw[if_pos e,if_pos (h1.symm.trans e)];exact⟨h1,h2,ry⟩
  ·rw[if_neg e,if_neg (fun z=>e (h1.trans z))];exact⟨h1,h2,h3⟩
theorem KT.put {H:Hp}{kvs:List (List Key×V)}{xs:List (List Key×Addr×Value)}(r:KT H kvs xs) (k:List Key) {b:Addr}{y:V}{u:Value}(hb:H b=some (.tup (k.map kV))) (ry:RelV y u) :
  KT H (putK kvs k y) (storedH xs k b u):=by
 have e:(kvs.any fun kv=>decide (kv.1=k))=(atKey xs k).isSome:=by
  rw[mH,(r.val k).isSome_eq,Option.isSome_map]
 unfold putK storedH;rw[e];by_cases q:(atKey xs k).isSome=true
 ·rw[if_pos q,if_pos q];exact r.repl k ry
 ·rw[if_neg q,if_neg q];exact Paired.snoc r ⟨rfl,hb,ry⟩
theorem KT.keeps {H H':Hp}{kvs:List (List Key×V)}{xs:List (List Key×Addr×Value)}(r:KT H kvs xs) (ht:∀ b ys,H b=some (.tup ys)→H' b=some (.tup ys)):KT H' kvs xs :=
 Paired.mapP r fun _ _ z=>⟨z.1,ht _ _ z.2.1,z.2.2⟩
section
variable {P:Program}{w:World}{H:Hp}{h:Heap}{a:Addr}
theorem BK {u:HO}(ok:jS P w H h) (e:Rd H a u):cG P w H h a u:=e.ok ok
theorem qY {kvs:List (Key×V)}(ok:jS P w H h) (e:Rd H a (.dK kvs)):kvs.length≤sizeLine∧(a==sysModules)=false∧∃ vs,KV kvs vs∧h.DictOf (cK P w) a vs :=
 show cG P w H h a (.dK kvs) from BK ok e
theorem xw {kvs:List (Key×V)}(ok:jS P w H h) (e:H a=some (.dK kvs)):kvs.length≤sizeLine∧(a==sysModules)=false∧∃ vs,KV kvs vs∧h.DictOf (cK P w) a vs:=qY ok (.inl e)
theorem pd {ks:List Key}(ok:jS P w H h) (e:H a=some (.tup (ks.map kV))):(tupleKind (cK P w)).is h ks a:=by
 obtain⟨_,its,r,o,h1,h2,n,h3⟩:=(show cG P w H h a (.tup (ks.map kV)) from ok a _ e);exact⟨o,its.toArray,n,h1,h2,h3,by simpa using nS r⟩
theorem sM {kvs:List (List Key×V)}(ok:jS P w H h) (e:Rd H a (.dT kvs)):kvs.length≤sizeLine∧(a==sysModules)=false ∧
  ∃ xs,KT H kvs xs∧h.DictOfH (tupleKind (cK P w)) a xs:=by
 obtain⟨z,y,xs,r,o,es,ep,h1,h2,h3,h4,h5⟩:=(show cG P w H h a (.dT kvs) from BK ok e);refine⟨z,y,xs,r,o,es,ep,h1,h2,h3,h4,fun x hx=>?_,h5⟩;have all:∀{l:List (List Key×V)}{m:List (List Key×Addr×Value)},KT H l m→∀ x∈m,(tupleKind (cK P w)).is h x.1 x.2.1:=by
  intro l m q
  induction q with
  |nil=>intro x hx;exact nomatch hx
  |@cons p q ps qs hq t ih =>
   intro x hx;rcases az.mp hx with e | hx
   ·subst e;exact pd ok (by rw[←hq.1];exact hq.2.1)
   ·exact ih x hx
 exact all r x hx
theorem FI {kvs:List (List Key×V)}(ok:jS P w H h) (e:H a=some (.dT kvs)):kvs.length≤sizeLine∧(a==sysModules)=false ∧
  ∃ xs,KT H kvs xs∧h.DictOfH (tupleKind (cK P w)) a xs:=sM ok (.inl e)
end
noncomputable def DV (H:Hp) (a:Addr) (y:V) (r:Option V):Prop :=
 (∃ kvs k,Rd H a (.dK kvs)∧y=kV k∧r=ki kvs k)∨∃ kvs k b,Rd H a (.dT kvs)∧y = .ref b∧H b=some (.tup (k.map kV))∧r=ki kvs k
noncomputable def pT (H:Hp) (a:Addr) (y v:V) (H':Hp):Prop :=
 (∃ kvs k,H a=some (.dK kvs)∧y=kV k∧kvs.length<sizeLine∧H'=upd H a (.dK (putK kvs k v))) ∨
 ∃ kvs k b,H a=some (.dT kvs)∧y = .ref b∧H b=some (.tup (k.map kV))∧kvs.length<sizeLine∧H'=upd H a (.dT (putK kvs k v))
theorem pT.k {H:Hp}{a:Addr}{kvs:List (Key×V)}{k:Key}{v:V}(e:H a=some (.dK kvs)) (hl:kvs.length<sizeLine):pT H a (kV k) v (upd H a (.dK (putK kvs k v))):=.inl ⟨kvs,k,e,rfl,hl,rfl⟩
theorem pT.t {H:Hp}{a b:Addr}{kvs:List (List Key×V)}{k:List Key}{v:V}(e:H a=some (.dT kvs)) (eb:H b=some (.tup (k.map kV))) (hl:kvs.length<sizeLine) :
  pT H a (.ref b) v (upd H a (.dT (putK kvs k v))):=.inr ⟨kvs,k,b,e,rfl,eb,hl,rfl⟩
section
variable {X:Cx}{pins:List (Addr×Obj)}{σ:St}{H:Hp}{s:Shared}{a:Addr}{y v:V}{u r:Value}{o:Option V}{A:Around}{E:Value→Shared→Prop}
theorem Inv.big (I:Inv X pins σ H s):sysModules<s.heap.objs.size:=by
 have h:mainGlobals<s.heap.objs.size:=(I.mod.glob.keeps I.bk).lt;exact Nat.lt_trans (by decide) h
theorem d_in {Q:Value→Shared→Prop}(hu:A.units+1<cLine) (I:Inv X pins σ H s) (g:DV H a y o) (ry:RelV y u) (h:∀ s',Inv X pins σ H s'→Q (.bool o.isSome) s') :
  wpAny (model X.prog X.w) A (compareOp .In u (.ref a)) Q E s:=by
 rcases g with ⟨kvs,k,e,ey,l⟩ | ⟨kvs,k,b,e,ey,eb,l⟩
 ·subst ey;obtain⟨z,hd,vs,rel,dd⟩:=qY I.hok e;refine wpAny_in_of (tU ry) hd dd.mapOf ?_;rw[←(rel.val k).isSome_eq,←l];exact h _ (I.tok _)
 ·subst ey;cases (show u=Value.ref b from ry);obtain⟨z,hd,xs,rel,dd⟩:=sM I.hok e;refine wpAny_in_heap (tupleKind_room_in1 hu) (pd I.hok eb) hd dd ?_;have q:=(rel.val k).isSome_eq;rw[Option.isSome_map] at q;rw[←q,←l];exact h _ (I.tok _)
theorem z8 {Q:Value→Shared→Prop}(hu:A.units+1<cLine) (I:Inv X pins σ H s) (g:DV H a y o) (ry:RelV y u) (h:∀ s',Inv X pins σ H s'→Q (.bool (!o.isSome)) s') :
  wpAny (model X.prog X.w) A (compareOp .NotIn u (.ref a)) Q E s:=by
 rcases g with ⟨kvs,k,e,ey,l⟩ | ⟨kvs,k,b,e,ey,eb,l⟩
 ·subst ey;obtain⟨z,hd,vs,rel,dd⟩:=qY I.hok e;refine wpAny_notIn_of (tU ry) hd dd.mapOf ?_;rw[←(rel.val k).isSome_eq,←l];exact h _ (I.tok _)
 ·subst ey;cases (show u=Value.ref b from ry);obtain⟨z,hd,xs,rel,dd⟩:=sM I.hok e;refine wpAny_notIn_heap (tupleKind_room_in1 hu) (pd I.hok eb) hd dd ?_;have q:=(rel.val k).isSome_eq;rw[Option.isSome_map] at q;rw[←q,←l];exact h _ (I.tok _)
theorem lh {h':Heap}{t':Nat}{ob:HO}(I:Inv X pins σ H s) (mu:rb (H a)) (hs:Heap.SameBut a s.heap h') (he:∃ q,h'.get? a=some q) (new:cG X.prog X.w (upd H a ob) h' a ob) :
  Inv X pins σ (upd H a ob) { s with heap:=h',toks:=t' } :=
 I.write (x:=a) (e:=a) mu (.inl rfl) (fun b q hb z=>(hs.2 b hb).trans z) he new
theorem CV {P:Program}{w:World}{H':Hp}{h':Heap}{kvs:List (Key×V)}{vs:List (Key×Value)}(z:kvs.length≤sizeLine) (hd:(a==sysModules)=false) (rel:KV kvs vs) (dd:h'.DictOf (cK P w) a vs) :
  cG P w H' h' a (.dK kvs):=⟨z,hd,vs,rel,dd⟩
theorem oA {H':Hp}{Q:Unit→Shared→Prop}(hu:A.units+1<cLine) (I:Inv X pins σ H s) (g:pT H a y v H') (ry:RelV y u) (rv:RelV v r) (h:∀ s',Inv X pins σ H' s'→Q () s') :
  wpAny (model X.prog X.w) A (setItem (.ref a) u r) Q E s:=by
 rcases g with ⟨kvs,k,e,ey,l,eH⟩ | ⟨kvs,k,b,e,ey,eb,l,eH⟩
 ·subst ey eH;obtain⟨z,hd,vs,rel,dd⟩:=xw I.hok e;have hz:vs.length≤sizeLine:=by rw[←rel.length];exact z
  have hl:(putK kvs k v).length≤sizeLine:=by have:=kI kvs k v;omega
  refine wpAny_setItem_pairs (hsz:=hz) (tU ry) dd fun h' dd' hs=>h _ ?_
  have he:∃ q,h'.get? a=some q:=let ⟨q,_,_,hq,_⟩:=dd';⟨q,hq⟩;exact lh I (by rw[e];exact True.intro) hs he (CV hl hd (rel.put k rv) dd')
 ·subst ey eH;cases (show u=Value.ref b from ry);obtain⟨z,hd,xs,rel,dd⟩:=FI I.hok e;have hz:xs.length≤sizeLine:=by rw[←Paired.length rel];exact z
  have hl:(putK kvs k v).length≤sizeLine:=by have:=kI kvs k v;omega
  refine wpAny_setItem_heap (hsz:=hz) (tupleKind_room_in1 hu) (pd I.hok eb) dd fun h' dd' hs=>h _ ?_
  obtain⟨q,es,ep,hq,h2,h3,h4,_,h5⟩:=dd';refine lh I (by rw[e];exact True.intro) hs ⟨q,hq⟩ ⟨hl,hd,_,(rel.put k eb rv).keeps fun c ys ec=>?_,q,es,ep,hq,h2,h3,h4,h5⟩;rw[aP (FQ ec e (fun z=>nomatch z))];exact ec
end
section
variable {X:Cx}{pins:List (Addr×Obj)}{σ:St}{H:Hp}{s:Shared}{a:Addr}{kvs:List (Key×V)}{k:Key}{u:Value}{A:Around}{E:Value→Shared→Prop}
end
section
variable {X:Cx}{o i e value:Expr}{pos pos' tpos:Pos}{td ty tv:TE}
end
theorem yr {P:Program}{w:World}{H:Hp}(h:Heap) (hb:sysModules<h.objs.size):cG P w H (h.push { cls:=.type "dict",data:=.dict #[] }) h.objs.size (.dK []) :=
 ⟨de _,beq_eq_false_iff_ne.mpr (Ne.symm (cj hb)),[],.nil,Heap.DictOf.new h⟩
noncomputable def xY:TE:=fun _ H Q=>∀ p,H p=none→Q (.ref p) (upd H p (.dK []))
section
variable {X:Cx}{pos:Pos}
theorem xT:PE X (.Dict [] [] pos) xY:=fun pins s σ H Q I h =>
 wpAny_Dict_empty ⟨.ref s.heap.objs.size,_,I.laid (a:=s.heap.objs.size) (o:=.dK []) (t':=s.toks) (fun _ _ q=>Heap.get?_push_of_some _ q) (aw _) (yr s.heap I.big),rfl,h _ (I.hok.fresh (aw _))⟩
end
end L2
end
section
namespace Pc
open PySem
inductive MV where
 | tr | int (i:Int) | tup (is:List Int)
deriving Inhabited,DecidableEq
inductive D where
 | non | bl (b:Bool) | int (i:Int) | str (s:Str) | lst (xs:List D) | tup (xs:List D)
 | dct (kvs:List ((Int ⊕ Str)×Option Int))
 | mpi (ks:List (Int×MV)) | mpt (ks:List (List Int))
 | mpz (ks:List (Int×MV))
deriving Inhabited
mutual
noncomputable def D.flat:D→Bool
 |.lst _=>false
 |.tup xs=>D.flats xs
 |.non=>true
 |.bl _=>true
 |.int _=>true
 |.str _=>true
 |.dct _=>true
 |.mpi _=>false
 |.mpt _=>false
 |.mpz _=>true
noncomputable def D.flats:List D→Bool
 |[]=>true
 |x::xs=>D.flat x&&D.flats xs
end
noncomputable def va (f:D→D→Option Bool):List D→List D→Option Bool
 |[],[]=>some true
 |x::xs,y::ys=>(f x y).bind fun a=>(va f xs ys).map fun b=>a&&b
 |_,_=>none
noncomputable def D.eqf:Nat→D→D→Option Bool
 |0,_,_=>none
 |_+1,.non,.non=>some true
 |_+1,.bl a,.bl b=>some (a==b)
 |_+1,.int a,.int b=>some (a==b)
 |_+1,.bl a,.int b=>some ((if a then (1:Int) else 0)==b)
 |_+1,.int a,.bl b=>some (a==(if b then (1:Int) else 0))
 |_+1,.str a,.str b=>some (a==b)
 |n+1,.lst a,.lst b=>if a.length=b.length then va (D.eqf n) a b else some false
 |n+1,.tup a,.tup b=>if a.length=b.length then va (D.eqf n) a b else none
 |_+1,.dct _,_=>none
 |_+1,_,.dct _=>none
 |_+1,.mpi _,_=>none
 |_+1,_,.mpi _=>none
 |_+1,.mpt _,_=>none
 |_+1,_,.mpt _=>none
 |_+1,.mpz _,_=>none
 |_+1,_,.mpz _=>none
 |_+1,_,_=>some false
noncomputable def D.jb:D→Bool
 |.lst _=>false
 |.tup _=>false
 |.dct _=>false
 |.mpi _=>false
 |.mpt _=>false
 |.mpz _=>false
 |_=>true
noncomputable def D.eqs:D→D→Bool
 |.non,.non=>true
 |.bl a,.bl b=>a==b
 |.int a,.int b=>a==b
 |.str a,.str b=>a==b
 |.bl a,.int b=>(if a then (1:Int) else 0)==b
 |.int a,.bl b=>a==(if b then (1:Int) else 0)
 |_,_=>false
structure Exc where
 cls:Str
 fs:List (Str×D)
deriving Inhabited
inductive Rs (α:Type) where
 | ok (a:α) | exc (e:Exc) | bad
noncomputable def Rs.bind {α β:Type}(x:Rs α) (f:α→Rs β):Rs β:=match x with
 |.ok a=>f a
 |.exc e=>.exc e
 |.bad=>.bad
inductive Rt where
 | mv (R:List Nat)
 | sh (R:List Nat)
noncomputable def Rt.roots:Rt→List Nat
 |.mv R=>R
 |.sh R=>R
inductive Tg where
 | own | lk | sh (R:List Nat)
noncomputable abbrev Slot:=Option (D×Tg)
noncomputable abbrev En:=List Slot
noncomputable def lim:Nat:=1000000
inductive lj where
 | nm (i:Nat) | tp (is:List Nat)
inductive AZ where
 | len | list | tuple | int | str | abs | min2 | max2 | all | any | sum | isi (T:String) | sorted | bool | lrev | lrng | divm | maxd
inductive Mth where
 | sfind | sindex | sjoin | ssplit | lindex | lcount | szfill | scount | sstarts
inductive rb where
 | append | extend | insert | pop | kN | reverse | clear
mutual
inductive Ex where
 | var (i:Nat)
 | cst (d:D)
 | glb (k:Nat)
 | bin (op:Operator) (a b:Ex)
 | neg (a:Ex)
 | cmp (op:CmpOp) (a b:Ex)
 | chn (op op':CmpOp) (a b c:Ex)
 | and (a b:Ex)
 | or (a b:Ex)
 | not (a:Ex)
 | ite (c a b:Ex)
 | lst (es:la)
 | tup (es:la)
 | ix (a i:Ex)
 | sl (a:Ex) (lo hi:lJ)
 | call (f:Nat) (es:la)
 | blt (b:AZ) (es:la)
 | mth (m:Mth) (o:Ex) (es:la)
 | comp (own:Nat) (pick:List Nat) (t:lj) (it:qE) (c:lJ) (e:Ex)
 | dnew
inductive la where
 | nil | cons (e:Ex) (es:la)
inductive lJ where
 | none | some (e:Ex)
inductive qE where
 | seq (e:Ex) | rng1 (a:Ex) | rng2 (a b:Ex) | rng3 (a b c:Ex) | enum (e:Ex) | zip (a b:Ex) | rev (e:Ex)
end
mutual
inductive St where
 | asg (t:lj) (e:Ex) (mv:Bool)
 | mut (x:Nat) (path:lJ) (m:rb) (es:la)
 | setix (x:Nat) (path:lJ) (i:Ex) (e:Ex)
 | putd (x:Nat) (i v:Ex)
 | aug (x:Nat) (op:Operator) (e:Ex)
 | popa (y x:Nat) (es:la)
 | apop (y x:Nat) (es:la)
 | frzd (x:Nat) (s:St)
 | expr (e:Ex)
 | ite (c:Ex) (a b:bJ)
 | forr (t:lj) (it:qE) (b:bJ)
 | forw (x:Nat) (e:Ex) (b:bJ)
 | whl (c:Ex) (b:bJ)
 | ret (e:Ex)
 | retN | brk | cnt | pass
inductive bJ where
 | nil | cons (s:St) (r:bJ)
end
noncomputable def ck (n:Nat) (d:D):Option D:=if n≤lim then some d else none
noncomputable def small (i:Int):Bool:=decide (-(2 ^ 64)<i∧i<2 ^ 64)
noncomputable def binI:Operator→Int→Int→Option Int
 |.Add,i,j=>some (i+j)
 |.Sub,i,j=>some (i - j)
 |.Mult,i,j=>if small i || small j then some (i*j) else none
 |.FloorDiv,i,j=>if 0<j∧j<1073741824 then some (i / j) else none
 |.Mod,i,j=>if 0<j then some (i%j) else none
 |.Pow,i,j=>if 0≤j∧j≤1000000∧i.natAbs<2 ^ 64 then some (i ^ j.toNat) else none
 |.LShift,i,j=>if 0≤j∧j≤1000000∧i.natAbs<2 ^ 64 then some (i*2 ^ j.toNat) else none
 |.RShift,i,j=>if 0≤j then some (i / 2 ^ j.toNat) else none
 |.BitAnd,i,j=>some (Builtin.bitAnd i j)
 |.BitOr,i,j=>some (Builtin.bitOr i j)
 |.BitXor,i,j=>some (Builtin.bitXor i j)
 |_,_,_=>none
noncomputable def E4 (op:Operator) (a:List D):D→Option D
 |.lst b=>(match op with
  |.Add=>ck (a.length+b.length) (.lst (a++b))
  |_=>none)
 |.int k=>(match op with
  |.Mult=>if -(2 ^ 63)≤k∧k<2 ^ 63 then (if D.flats a then ck (a.length*k.toNat) (.lst (List.replicate k.toNat a).flatten) else none) else none
  |_=>none)
 |_=>none
noncomputable def kY (op:Operator):D→D→Option D
 |.int i,y=>(match y with
  |.int j=>(binI op i j).map .int
  |_=>none)
 |.lst a,y=>E4 op a y
 |_,_=>none
noncomputable def sJ (kvs:List (Int×MV)) (k:Int) (m:MV):List (Int×MV):=if (kvs.any fun q=>decide (q.1=k))=true then kvs.map (fun q=>if q.1=k then (q.1,m) else q) else kvs ++ [(k,m)]
noncomputable def iK:List D→Option (List Int)
 |[]=>some []
 |.int i::r=>(iK r).map (i :: ·)
 |_::_=>none
noncomputable def mvD:MV→D
 |.tr=>.bl true
 |.int i=>.int i
 |.tup is=>.tup (is.map .int)
noncomputable def AH:D→Option MV
 |.bl true=>some .tr
 |.int i=>some (.int i)
 |.tup xs=>(iK xs).map .tup
 |_=>none
noncomputable def zS:D→D→D→Option D
 |.mpi ks,y,v=>(match y with
  |.int k=>if ks.length<lim then (AH v).map fun m=>.mpi (sJ ks k m) else none
  |_=>none)
 |_,_,_=>none
noncomputable def inD (x:D):D→Option Bool
 |.lst ys=>if x.jb&&ys.all D.jb then some (ys.any fun y=>D.eqs y x) else none
 |.mpi ks=>match x with
  |.int k=>some (ks.any fun q=>decide (q.1=k))
  |_=>none
 |_=>none
noncomputable def iZ (f:Int→Int→Bool):D→D→Option Bool
 |.int i,y=>(match y with
  |.int j=>some (f i j)
  |_=>none)
 |_,_=>none
noncomputable def iu:CmpOp→D→D→Option Bool
 |.Lt,x,y=>iZ (fun i j=>decide (i<j)) x y
 |.LtE,x,y=>iZ (fun i j=>decide (i≤j)) x y
 |.Gt,x,y=>iZ (fun i j=>decide (j<i)) x y
 |.GtE,x,y=>iZ (fun i j=>decide (j≤i)) x y
 |.Eq,x,y=>D.eqf 40 x y
 |.NotEq,x,y=>(D.eqf 40 x y).map (!·)
 |.NotIn,x,y=>(inD x y).map (!·)
 |_,_,_=>none
noncomputable def truth:D→Option Bool
 |.bl b=>some b
 |.int i=>some (i != 0)
 |.str s=>if s.length≤lim then some ((s.length:Int) != 0) else none
 |.lst xs=>some (!xs.isEmpty)
 |.tup xs=>some (!xs.isEmpty)
 |.non=>some false
 |.dct _=>none
 |.mpi _=>none
 |.mpt _=>none
 |.mpz _=>none
noncomputable def kZ (n:Nat) (i:Int):Option Nat:=if 0≤i then (if i<n then some i.toNat else none) else if -(n:Int)≤i then some (i+n).toNat else none
noncomputable def bY (n d:Nat):Option Int→Nat
 |none=>d
 |some v=>if v<0 then (v+(n:Int)).toNat else min v.toNat n
noncomputable def cut {α:Type}(xs:List α) (lo hi:Option Int):List α :=
 let a:=bY xs.length 0 lo
 (xs.drop a).take (bY xs.length xs.length hi - a)
noncomputable def Br:D→D→Option D
 |.lst xs,.int i=>(kZ xs.length i).bind fun j=>xs[j]?
 |.tup xs,.int i=>(kZ xs.length i).bind fun j=>xs[j]?
 |.mpz ks,.int k=>(ks.find? fun q=>decide (q.1=k)).map fun q=>mvD q.2
 |_,_=>none
noncomputable def Fh:D→Option Int→Option Int→Option D
 |.lst xs,lo,hi=>some (.lst (cut xs lo hi))
 |.tup xs,lo,hi=>if bY xs.length 0 lo=0∧bY xs.length xs.length hi=xs.length then none else some (.tup (cut xs lo hi))
 |.str s,lo,hi=>if s.length≤lim then some (.str ⟨(cut s.cps.toList lo hi).toArray⟩) else none
 |_,_,_=>none
noncomputable def D.inner:D→Bool
 |.lst xs=>D.flats xs
 |.tup xs=>D.flats xs
 |_=>true
noncomputable def ik (d:D) (R:List Nat):Rt:=if d.inner then .mv [] else .sh R
noncomputable def rX (d:D) (r:Rt):Rt:=if d.flat then .mv [] else .sh r.roots
noncomputable def dJ:List Rt→Option (List Nat)
 |[]=>some []
 |.mv R::r=>(dJ r).map (R ++ ·)
 |.sh _::_=>none
noncomputable def bD (l:List Rt):List Nat:=(l.map Rt.roots).flatten
noncomputable def iC (l:List Rt):Rt:=match dJ l with
 |some R=>if R.Nodup then .mv R else .sh R
 |none=>.sh (bD l)
noncomputable def zh (T:String):D→Bool
 |.non=>T == "NoneType"
 |.bl _=>T == "bool" || T == "int"
 |.int _=>T == "int"
 |.str _=>T == "str"
 |.lst _=>T == "list"
 |.tup _=>T == "tuple"
 |.dct _=>false
 |.mpi _=>false
 |.mpt _=>false
 |.mpz _=>false
noncomputable def D.isBl:D→Bool
 |.bl _=>true
 |_=>false
noncomputable def allB:List D→Option Bool
 |[]=>some true
 |.bl b::r=>if b then allB r else some false
 |_::_=>none
noncomputable def anyB:List D→Option Bool
 |[]=>some false
 |.bl b::r=>if b then some true else anyB r
 |_::_=>none
noncomputable def EW:Int→List D→Option Int
 |a,[]=>some a
 |a,.int i::r=>EW (a+i) r
 |_,_::_=>none
noncomputable def Bu:Int→List D→Option Int
 |a,[]=>some a
 |a,.int i::r=>Bu (if i > a then i else a) r
 |_,_::_=>none
noncomputable def bH:Int→Int→Nat→List D
 |_,_,0=>[]
 |a,s,n+1=>.int a::bH (a+s) s n
noncomputable def fO (i:Int):Bool:=decide (-(2 ^ 62)≤i∧i<2 ^ 62)
noncomputable def qm:List D→Option (List (List Int))
 |[]=>some []
 |.tup xs::r=>(iK xs).bind fun k=>if k.isEmpty then none else (qm r).map (k :: ·)
 |_::_=>none
noncomputable def mX:List Int→List Int→Bool
 |[],[]=>false
 |[],_::_=>true
 |_::_,[]=>false
 |a::x,b::y=>if a==b then mX x y else decide (a<b)
noncomputable def zT {α:Type}(f:Nat→Nat→Option Bool):PySem.W.KasT α→Option α
 |.ret a=>some a
 |.ask i j k=>(f i j).bind fun b=>zT f (k b)
noncomputable def qe (xs:List D):Option (List D):=if 2≤xs.length∧xs.length<64 then (qm xs).bind fun ks =>
  (zT (fun i j=>(ks[i]?).bind fun a=>(ks[j]?).map fun b=>mX a b) (PySem.W.kas_sort xs.length)).bind fun p =>
   if p.size≤64 then some (p.toList.map fun i=>xs.getD i .non) else none
 else none
noncomputable def insI (a:Int):List Int→List Int
 |[]=>[a]
 |b::l=>if a≤b then a::b::l else b::insI a l
noncomputable def eR:List Int→List Int
 |[]=>[]
 |a::l=>insI a (eR l)
noncomputable def yR:List D→Option D
 |[.lst xs]=>match iK xs with
  |some ns=>if ns.length<64 then some (.lst ((eR ns).map .int)) else none
  |none=>(qe xs).map .lst
 |_=>none
noncomputable def BP:List D→Option D
 |[.lst xs]=>some (.int xs.length)
 |[.tup xs]=>some (.int xs.length)
 |[.str s]=>if s.length≤lim then some (.int s.length) else none
 |[.mpt ks]=>some (.int ks.length)
 |_=>none
noncomputable def C7:List D→Option D
 |[.lst xs]=>some (.lst xs)
 |[.tup xs]=>some (.lst xs)
 |_=>none
noncomputable def AB:List D→Option D
 |[.lst xs]=>some (.tup xs)
 |_=>none
noncomputable def GQ:List D→Option D
 |[.int i]=>some (.int (if i<0 then -i else i))
 |_=>none
noncomputable def ya (lt:Nat→Nat→Bool):Nat→Nat→Nat→Nat
 |0,_,m=>m
 |k+1,j,m=>ya lt k (j+1) (if lt j m then j else m)
noncomputable def minD (xs:List D):Option D:=if xs.isEmpty then none else match iK xs with
 |some ns=>xs[ya (fun i j=>decide (ns.getD i 0<ns.getD j 0)) (xs.length - 1) 1 0]?
 |none=>(qm xs).bind fun ks=>xs[ya (fun i j=>mX (ks.getD i []) (ks.getD j [])) (xs.length - 1) 1 0]?
noncomputable def D6:List D→Option D
 |[.int i,.int j]=>some (.int (if j<i then j else i))
 |[.lst xs]=>minD xs
 |_=>none
noncomputable def Ee:List D→Option D
 |[.int i,.int j]=>some (.int (if j > i then j else i))
 |_=>none
noncomputable def BV:List D→Option D
 |[.lst xs]=>if xs.all D.isBl then (allB xs).map .bl else none
 |_=>none
noncomputable def FX:List D→Option D
 |[.lst xs]=>if xs.all D.isBl then (anyB xs).map .bl else none
 |_=>none
noncomputable def Fq:List D→Option D
 |[.lst xs]=>(EW 0 xs).map .int
 |_=>none
noncomputable def EU (T:String):List D→Option D
 |[.dct _]=>none
 |[.mpi _]=>none
 |[.mpt _]=>none
 |[.mpz _]=>none
 |[d]=>some (.bl (zh T d))
 |_=>none
noncomputable def Dm:List D→Option D
 |[.lst xs]=>some (.lst xs.reverse)
 |_=>none
noncomputable def sd:List D→Option D
 |[.int n]=>if fO n=true∧n≤1000000 then some (.lst (bH 0 1 n.toNat)) else none
 |[.int a,.int b]=>if fO a=true∧fO b=true∧b - a≤1000000 then some (.lst (bH a 1 (b - a).toNat)) else none
 |_=>none
noncomputable def Fe:List D→Option D
 |[.str s]=>if s.length≤640 then (PySem.intText? s).map .int else none
 |[.int i]=>some (.int i)
 |[.bl b]=>some (.int (if b then 1 else 0))
 |_=>none
noncomputable def Em:List D→Option D
 |[.int i,.int j]=>if 0<j∧j<1073741824 then some (.tup [.int (i / j),.int (i%j)]) else none
 |_=>none
noncomputable def Dj:List D→Option D
 |[.lst [],.int d]=>some (.int d)
 | [.lst (.int i::r),.int _]=>(Bu i r).map .int
 |_=>none
noncomputable def jN:AZ→List D→Option D
 |.sorted,ds=>yR ds
 |.len,ds=>BP ds
 |.list,ds=>C7 ds
 |.tuple,ds=>AB ds
 |.abs,ds=>GQ ds
 |.min2,ds=>D6 ds
 |.max2,ds=>Ee ds
 |.all,ds=>BV ds
 |.any,ds=>FX ds
 |.sum,ds=>Fq ds
 |.isi T,ds=>EU T ds
 |.lrev,ds=>Dm ds
 |.lrng,ds=>sd ds
 |.int,ds=>Fe ds
 |.divm,ds=>Em ds
 |.maxd,ds=>Dj ds
 |_,_=>none
noncomputable def F8 (k:Int):List D→Option Nat
 |[]=>some 0
 |.int i::r=>(F8 k r).map fun c=>if i==k then c+1 else c
 |_::_=>none
noncomputable def Gq:List D→Option (List Str)
 |[]=>some []
 |.str s::r=>(Gq r).map (s :: ·)
 |_::_=>none
noncomputable def CS (x y:Str):List Str :=
 if (decide (x.length<y.length) || decide (Builtin.Str.strKind x<Builtin.Str.strKind y))=true then [x] else
 if (Builtin.Str.occurrences x y 0 x.length (x.length+1)).isEmpty=true then [x] else Builtin.Str.partsBetween x (Builtin.Str.occurrences x y 0 x.length (x.length+1)) y.length
noncomputable def mthD:Mth→D→List D→Option D
 |.sfind,.str x,[.str y]=>some (.int (match Builtin.Str.occurrences x y 0 x.length 1 with
  |i::_=>(i:Int)
  |[]=>-1))
 |.sindex,.str x,[.str y]=>match Builtin.Str.occurrences x y 0 x.length 1 with
  |i::_=>some (.int (i:Int))
  |[]=>none
 |.sindex,.lst xs,[.int k]=>(iK xs).bind fun ns=>if k∈ns∧ns.length≤lim then some (.int ((ns.idxOf k:Nat):Int)) else none
 |.sjoin,.str x,[.lst xs]=>(Gq xs).bind fun ys=>if (ys.map (·.length)).sum+ys.length*x.length≤lim then some (.str (PySem.Str.join x ys)) else none
 |.ssplit,.str x,[.str y]=>if 0<y.length∧x.length≤lim then some (.lst ((CS x y).map .str)) else none
 |.lcount,.lst xs,[.int k]=>(F8 k xs).map fun (c:Nat)=>.int (c:Int)
 |_,_,_=>none
noncomputable def Tg.drop (i:Nat):Tg→Tg
 |.sh R=>.sh (R.filter (· != i))
 |t=>t
noncomputable def cH (d:D) (R:List Nat):Tg:=if d.flat then .own else .sh R
noncomputable def put (env:En) (i:Nat) (d:D) (t:Tg):En:=(env.map fun (s:Slot)=>s.map fun (p:D×Tg)=>(p.1,p.2.drop i)).set i (some (d,t))
noncomputable def iR (R:List Nat):Tg→Bool
 |.sh Q=>Q.any fun q=>R.contains q
 |_=>false
noncomputable def kill (R:List Nat) (env:En):En:=env.mapIdx fun i (s:Slot)=>match s with
 | some (d,t)=>if R.contains i || iR R t then none else some (d,t)
 |none=>none
noncomputable def bZ (env:En) (R:List Nat):Bool:=R.all fun i=>match env[i]? with
 | some (some (_,.own))=>true
 |_=>false
noncomputable def bindM (f:D→Tg):List Nat→List D→En→Option En
 |[],[],env=>some env
 |i::is,d::ds,env=>if i<env.length then bindM f is ds (put env i d (f d)) else none
 |_,_,_=>none
noncomputable def aS (R:List Nat):lj→D→En→Option En
 |.nm i,d,env=>if i<env.length then some (put env i d (cH d R)) else none
 |.tp is,.tup ds,env=>bindM (fun d=>cH d R) is ds env
 |_,_,_=>none
structure Tb where
 cl:Nat→List D→Rs (D×Bool)
 gl:Nat→D
 fuel:Nat
noncomputable def fR {α:Type}:Option α→Rs α
 |some a=>.ok a
 |none=>.bad
noncomputable def wR:D→Option (List D)
 |.lst xs=>some xs
 |.tup xs=>some xs
 |.str s=>if s.length≤lim then some (s.cps.toList.map fun c=>.str ⟨#[c]⟩) else none
 |.mpz ks=>some (ks.map fun q=>.int q.1)
 |_=>none
noncomputable def oH:D→Option (List D)
 |.lst xs=>some xs
 |_=>none
noncomputable def cR (f:D→Rs (Option (D×Rt))):List D→Rs (List (D×Rt))
 |[]=>.ok []
 |d::r=>(f d).bind fun o=>(cR f r).bind fun l=>.ok (match o with
  |some p=>p::l
  |none=>l)
noncomputable def aU (o:Option En) (c:En→Rs Bool) (e:En→Rs (D×Rt)):Rs (Option (D×Rt)):=match o with
 |none=>.bad
 |some env=>(c env).bind fun k=>if k then (e env).bind fun q=>.ok (some q) else .ok none
noncomputable def eV:Rt→Bool
 |.mv []=>true
 |_=>false
noncomputable def bN (i:Nat):Tg→List Nat
 |.own=>[i]
 |.lk=>[i]
 |.sh R=>R
noncomputable def oq (env:En) (pick:List Nat):List Nat:=(pick.map fun j=>match env[j]? with
 | some (some (_,t))=>bN j t
 |_=>[]).flatten
noncomputable def aJ (env:En) (own:Nat) (pick:List Nat):En:=List.replicate own none++pick.map fun i=>match env[i]? with
 | some (some (d,_))=>some (d,.sh [])
 |_=>none
mutual
noncomputable def ev (T:Tb):Ex→En→Rs (D×Rt)
 |.var i,env=>match env[i]? with
  | some (some (d,t))=>.ok (d,if d.flat then .mv [] else match t with
   |.own=>.mv [i]
   |.lk=>.mv [i]
   |.sh R=>.sh R)
  |_=>.bad
 |.cst d,_=>.ok (d,.mv [])
 |.glb k,_=>.ok (T.gl k,.mv [])
 |.bin op a b,env=>(ev T a env).bind fun p=>(ev T b env).bind fun q=>(fR (kY op p.1 q.1)).bind fun d=>.ok (d,ik d (p.2.roots++q.2.roots))
 |.neg a,env=>(ev T a env).bind fun p=>match p.1 with
  |.int i=>.ok (.int (-i),.mv [])
  |_=>.bad
 |.cmp op a b,env=>(ev T a env).bind fun p=>(ev T b env).bind fun q=>(fR (iu op p.1 q.1)).bind fun c=>.ok (.bl c,.mv [])
 |.chn op op' a b c,env=>(ev T a env).bind fun p=>(ev T b env).bind fun q=>(fR (iu op p.1 q.1)).bind fun k =>
   if k then (ev T c env).bind fun r=>(fR (iu op' q.1 r.1)).bind fun k'=>.ok (.bl k',.mv []) else .ok (.bl false,.mv [])
 |.and a b,env=>(ev T a env).bind fun p=>match p.1 with
  |.bl true=>ev T b env
  |.bl false=>.ok (.bl false,.mv [])
  |_=>.bad
 |.or a b,env=>(ev T a env).bind fun p=>match p.1 with
  |.bl true=>.ok (.bl true,.mv [])
  |.bl false=>ev T b env
  |_=>.bad
 |.not a,env=>(ev T a env).bind fun p=>match p.1 with
  |.bl k=>.ok (.bl (!k),.mv [])
  |_=>.bad
 |.ite c a b,env=>(ev T c env).bind fun p=>(fR (truth p.1)).bind fun k=>if k then ev T a env else ev T b env
 |.lst es,env=>(bM T es env).bind fun l=>if l.length≤lim then .ok (.lst (l.map (·.1)),iC (l.map (·.2))) else .bad
 |.tup es,env=>(bM T es env).bind fun l=>if l.length≤lim then .ok (.tup (l.map (·.1)),iC (l.map (·.2))) else .bad
 |.ix a i,env=>(ev T a env).bind fun p=>(ev T i env).bind fun q=>(fR (Br p.1 q.1)).bind fun d=>.ok (d,rX d p.2)
 |.sl a lo hi,env=>(ev T a env).bind fun p=>(kU T lo env).bind fun l=>(kU T hi env).bind fun h=>(fR (Fh p.1 l h)).bind fun d=>.ok (d,ik d p.2.roots)
 |.call f es,env=>(bM T es env).bind fun l=>(T.cl f (l.map (·.1))).bind fun r=>.ok (r.1,if r.2 then .mv [] else .sh (bD (l.map (·.2))))
 |.blt b es,env=>(bM T es env).bind fun l=>(fR (jN b (l.map (·.1)))).bind fun d=>.ok (d,ik d (bD (l.map (·.2))))
 |.mth m o es,env=>(ev T o env).bind fun p=>(bM T es env).bind fun l=>(fR (mthD m p.1 (l.map (·.1)))).bind fun d=>.ok (d,ik d (p.2.roots++bD (l.map (·.2))))
 |.comp own pick t it c e,env=>(eW T it env).bind fun p=>(cR (fun d=>aU (aS [] t d (aJ env own pick)) (j9 T c) (ev T e)) p.1).bind fun l =>
    if p.1.length≤lim then .ok (.lst (l.map (·.1)),if l.all (fun q=>q.1.flat || eV q.2) then .mv [] else .sh (p.2++oq env pick)) else .bad
 |.dnew,_=>.ok (.mpi [],.mv [])
noncomputable def bM (T:Tb):la→En→Rs (List (D×Rt))
 |.nil,_=>.ok []
 |.cons e es,env=>(ev T e env).bind fun p=>(bM T es env).bind fun l=>.ok (p::l)
noncomputable def kU (T:Tb):lJ→En→Rs (Option Int)
 |.none,_=>.ok none
 |.some e,env=>(ev T e env).bind fun p=>match p.1 with
  |.int i=>.ok (some i)
  |_=>.bad
noncomputable def j9 (T:Tb):lJ→En→Rs Bool
 |.none,_=>.ok true
 |.some e,env=>(ev T e env).bind fun p=>fR (truth p.1)
noncomputable def eW (T:Tb):qE→En→Rs (List D×List Nat)
 |.seq e,env=>(ev T e env).bind fun p=>(fR (wR p.1)).bind fun l=>.ok (l,p.2.roots)
 |.rng1 a,env=>(ev T a env).bind fun p=>match p.1 with
  |.int j=>if fO j then .ok (bH 0 1 j.toNat,[]) else .bad
  |_=>.bad
 |.rng2 a b,env=>(ev T a env).bind fun p=>(ev T b env).bind fun q=>match p.1,q.1 with
  |.int i,.int j=>if fO i&&fO j then .ok (bH i 1 (j - i).toNat,[]) else .bad
  |_,_=>.bad
 |.rng3 a b c,env=>(ev T a env).bind fun p=>(ev T b env).bind fun q=>(ev T c env).bind fun r=>match p.1,q.1,r.1 with
  |.int i,.int j,.int k=>if fO i&&fO j&&k != 0&&decide (k.natAbs<1073741824) then .ok (bH i k (Builtin.Range.rangeSize i j k).toNat,[]) else .bad
  |_,_,_=>.bad
 |.enum e,env=>(ev T e env).bind fun p=>(fR (oH p.1)).bind fun l=>.ok (l.zipIdx.map fun q=>.tup [.int q.2,q.1],p.2.roots)
 |.zip a b,env=>(ev T a env).bind fun p=>(ev T b env).bind fun q=>(fR (oH p.1)).bind fun l=>(fR (oH q.1)).bind fun m=>.ok ((l.zip m).map fun z=>.tup [z.1,z.2],p.2.roots++q.2.roots)
 |.rev e,env=>(ev T e env).bind fun p=>(fR (oH p.1)).bind fun l=>.ok (l.reverse,p.2.roots)
end
noncomputable def D.at1:D→Option Int→Option (List D)
 |.lst xs,none=>some xs
 |_,_=>none
noncomputable def D.set1:D→Option Int→List D→D
 |.lst _,none,n=>.lst n
 |d,_,_=>d
noncomputable def Aq:rb→List D→List D→Option (List D)
 |.append,xs,[d]=>some (xs ++ [d])
 |.extend,xs,[.lst ys]=>if D.flats ys then some (xs++ys) else none
 |.insert,xs,[.int i,d]=>if -(2 ^ 63)≤i∧i<2 ^ 63 then some (xs.take (bY xs.length 0 (some i))++d::xs.drop (bY xs.length 0 (some i))) else none
 |.pop,xs,[]=>if xs.isEmpty then none else some xs.dropLast
 |.reverse,xs,[]=>some xs.reverse
 |.clear,_,[]=>some []
 |_,_,_=>none
noncomputable def kN (xs:List D) (j:Nat):Option (D×List D):=match xs[j]? with
 |some r=>if r.flat then some (r,xs.eraseIdx j) else none
 |none=>none
noncomputable def o9 (xs:List D):List D→Option (D×List D)
 |[]=>kN xs (xs.length - 1)
 |[.int i]=>if -(2 ^ 63)≤i∧i<2 ^ 63 then (kZ xs.length i).bind (kN xs) else none
 |_=>none
inductive Fl where
 | nx (env:En) | rt (d:D) (fr:Bool) | bk (env:En) | ct (env:En) | xc (e:Exc) (env:En) | bad
noncomputable def vE:Option En→Fl
 |some env=>.nx env
 |none=>.bad
noncomputable def iI (t:lj) (mv:Bool) (env:En) (p:D×Rt):Fl:=match t with
 |.nm i=>if i<env.length then (match p.2 with
  |.mv []=>.nx (put env i p.1 .own)
  |.mv R=>if mv then (if bZ env R then .nx (put (kill R env) i p.1 .own) else .bad) else .nx (put env i p.1 (.sh (R.filter (· != i))))
  |.sh R=>.nx (put env i p.1 (.sh (R.filter (· != i))))) else .bad
 |.tp is=>match p.1 with
  |.tup ds=>match p.2 with
   |.mv []=>vE (bindM (fun _=>.own) is ds env)
   |r=>if is.all (fun i=>!r.roots.contains i) then vE (bindM (fun d=>cH d r.roots) is ds env) else .bad
  |_=>.bad
noncomputable def Fl.andThen (f:Fl) (k:En→Fl):Fl:=match f with
 |.nx env=>k env
 |x=>x
noncomputable def gY {α:Type}(env:En) (x:Rs α) (k:α→Fl):Fl:=match x with
 |.ok a=>k a
 |.exc e=>.xc e env
 |.bad=>.bad
noncomputable def bL (t:lj) (R:List Nat) (b:En→Fl):List D→En→Fl
 |[],env=>.nx env
 |d::r,env=>match aS R t d env with
  |none=>.bad
  |some env'=>match b env' with
   |.nx e=>bL t R b r e
   |.ct e=>bL t R b r e
   |.bk e=>.nx e
   |x=>x
noncomputable def BS (x:Nat) (b:En→Fl):List D→En→Fl
 |[],env=>.nx env
 |d::r,env=>if x<env.length then (match b (put env x d .own) with
  |.nx e=>BS x b r e
  |_=>.bad) else .bad
noncomputable def eP (c:En→Rs Bool) (b:En→Fl):Nat→En→Fl
 |0,_=>.bad
 |n+1,env=>gY env (c env) fun k=>if k then (match b env with
   |.nx e=>eP c b n e
   |.ct e=>eP c b n e
   |.bk e=>.nx e
   |x=>x) else .nx env
noncomputable def lock (R:List Nat) (env:En):En:=env.mapIdx fun i (s:Slot)=>match s with
 | some (d,.own)=>if R.contains i then some (d,.lk) else some (d,.own)
 |s=>s
noncomputable def unlock (R:List Nat) (env0 env:En):En:=env.mapIdx fun i (s:Slot)=>match s with
 | some (d,.lk)=>match env0[i]? with
  | some (some (_,.own))=>if R.contains i then some (d,.own) else some (d,.lk)
  |_=>some (d,.lk)
 |s=>s
noncomputable def rb.copies:rb→Bool
 |.extend=>true
 |_=>false
noncomputable def eC (x:Nat) (path:Option Int) (env:En) (d:D) (ys:List D) (rs:List Rt):Fl:=match dJ rs with
 |none=>.bad
 |some R=>if R.Nodup&&bZ env R && !R.contains x&&decide (ys.length≤lim) then .nx ((kill (x::R) env).set x (some (d.set1 path ys,.own))) else .bad
noncomputable def ownAt (env:En) (x:Nat):Option D:=match env[x]? with
 | some (some (d,.own))=>some d
 |_=>none
noncomputable def md (env:En) (x:Nat):En:=match ownAt env x with
 | some (.mpi ks)=>(kill [x] env).set x (some (.mpz ks,.own))
 |_=>env
noncomputable def augI:Operator→Int→Int→Option Int
 |.Add,i,j=>some (i+j)
 |.Sub,i,j=>some (i - j)
 |_,_,_=>none
noncomputable def augE (op:Operator) (x:Nat) (a:Int) (env:En) (p:D×Rt):Fl:=match p.1 with
 |.int b=>(match augI op a b with
  |some c=>iI (.nm x) false env (.int c,.mv [])
  |none=>.bad)
 |_=>.bad
noncomputable def intAt (env:En) (x:Nat):Option Int:=match env[x]? with
 | some (some (.int a,_))=>some a
 |_=>none
mutual
noncomputable def bA (T:Tb):St→En→Fl
 |.asg t e mv,env=>gY env (ev T e env) (iI t mv env)
 |.mut x path m es,env=>match ownAt env x with
  |none=>.bad
  |some d=>gY env (kU T path env) fun p=>match d.at1 p with
   |none=>.bad
   |some xs=>gY env (bM T es env) fun l=>match Aq m xs (l.map (·.1)) with
    |none=>.bad
    |some ys=>if (bD (l.map (·.2))).contains x then .bad else eC x p env d ys (if m.copies then [] else l.map (·.2))
 |.putd x i v,env=>match ownAt env x with
  |none=>.bad
  |some d=>gY env (ev T v env) fun u=>gY env (ev T i env) fun q=>match zS d q.1 u.1 with
   |none=>.bad
   |some d'=>.nx ((kill [x] env).set x (some (d',.own)))
 |.setix x path i e,env=>match ownAt env x with
  |none=>.bad
  |some d=>gY env (ev T e env) fun v=>gY env (kU T path env) fun p=>match d.at1 p with
   |none=>.bad
   |some xs=>gY env (ev T i env) fun q=>match q.1 with
    |.int i=>(match kZ xs.length i with
     |none=>.bad
     |some j=>eC x p env d (xs.set j v.1) [v.2])
    |_=>.bad
 |.aug x op e,env=>match intAt env x with
  |none=>.bad
  |some a=>gY env (ev T e env) (augE op x a env)
 |.popa y x es,env=>match ownAt env x with
  |none=>.bad
  |some d=>(match d.at1 none with
   |none=>.bad
   |some xs=>gY env (bM T es env) fun l=>match o9 xs (l.map (·.1)) with
    |none=>.bad
    |some q=>(eC x none env d q.2 []).andThen fun e=>iI (.nm y) false e (q.1,.mv []))
 |.apop y x es,env=>if y=x then .bad else match ownAt env x with
  |none=>.bad
  |some d=>(match d.at1 none with
   |none=>.bad
   |some xs=>gY env (bM T es env) fun l=>match o9 xs (l.map (·.1)) with
    |none=>.bad
    |some q=>(eC x none env d q.2 []).andThen fun e=>match ownAt e y with
     |none=>.bad
     |some dy=>(match dy.at1 none with
      |none=>.bad
      |some ys=>eC y none e dy (ys ++ [q.1]) []))
 |.frzd x s,env=>bA T s (md env x)
 |.expr e,env=>gY env (ev T e env) fun _=>.nx env
 |.ite c a b,env=>gY env (ev T c env) fun p=>match truth p.1 with
  |some true=>aD T a env
  |some false=>aD T b env
  |none=>.bad
 |.forr t it b,env=>gY env (eW T it env) fun p=>(match bL t p.2 (aD T b) p.1 (lock p.2 env) with
  |.nx e=>.nx (unlock p.2 env e)
  |x=>x)
 |.forw x e b,env=>gY env (ev T e env) fun p=>match p with
  | (.lst xs,.mv [])=>BS x (aD T b) xs env
  |_=>.bad
 |.whl c b,env=>eP (fun env=>(ev T c env).bind fun p=>fR (truth p.1)) (aD T b) T.fuel env
 |.ret e,env=>gY env (ev T e env) fun p=>.rt p.1 (match p.2 with
  |.mv R=>bZ env R
  |.sh _=>false)
 |.retN,_=>.rt .non true
 |.brk,env=>.bk env
 |.cnt,env=>.ct env
 |.pass,env=>.nx env
noncomputable def aD (T:Tb):bJ→En→Fl
 |.nil,env=>.nx env
 |.cons s r,env=>(bA T s env).andThen (aD T r)
end
structure Fn where
 ps:Nat
 slots:Nat
 body:bJ
noncomputable def aE (ds:List D) (n:Nat):En:=ds.map (fun d=>some (d,cH d []))++List.replicate (n - ds.length) none
noncomputable def run (fns:List Fn) (gl:Nat→D) (fuel:Nat):Nat→Nat→List D→Rs (D×Bool)
 |0,_,_=>.bad
 |n+1,f,ds=>match fns[f]? with
  |none=>.bad
  |some F=>if ds.length=F.ps then (match aD ⟨run fns gl fuel n,gl,fuel⟩ F.body (aE ds F.slots) with
   |.rt d fr=>.ok (d,fr)
   |.nx _=>.ok (.non,true)
   |.xc e _=>.exc e
   |_=>.bad) else .bad
end Pc
end
section
namespace Pc
open PySem L2
noncomputable abbrev Frag:=PySem.W.Frag
inductive iP:List DictEntry→List (Key×Option Int)→Prop where
 | nil:iP [] []
 | cons {e:DictEntry}{es:List DictEntry}{k v:Int}{kvs:List (Key×Option Int)}{t u:Tok}(hh:e.hash=hashInt k) (hk:e.key = .int k t) (hv:e.val = .int v u) (r:iP es kvs):iP (e::es) ((.inl k,some v)::kvs)
 | si {e:DictEntry}{es:List DictEntry}{k:Str}{v:Int}{kvs:List (Key×Option Int)}{t u:Tok}(hk:e.key = .str k t) (hv:e.val = .int v u) (r:iP es kvs):iP (e::es) ((.inr k,some v)::kvs)
 | sn {e:DictEntry}{es:List DictEntry}{k:Str}{kvs:List (Key×Option Int)}{t:Tok}(hk:e.key = .str k t) (hv:e.val = .none) (r:iP es kvs):iP (e::es) ((.inr k,none)::kvs)
noncomputable def u3 (K:Frag) (a:Addr) (kvs:List (Key×Option Int)):Prop:=∃ o es ep,K.lookup a=some o∧o.ExactDict∧o.data = .dict es ep∧iP es.toList kvs∧(kvs.map (·.1)).Nodup
noncomputable def BC (w:World) (K:Frag):Prop:=∀ a o es ep,K.lookup a=some o→o.data = .dict es ep→∀ kvs,iP es.toList kvs→∀ e∈es.toList,∀ s t,e.key = .str s t→(a==sysModules)=false∧e.hash=hashStr w s
inductive ML where
 | l (vs:List V) | k (kvs:List (Key×V)) | t (kvs:List (List Key×V))
noncomputable def ML.o:ML→HO
 |.l vs=>.lst vs
 |.k kvs=>.dK kvs
 |.t kvs=>.dT kvs
noncomputable def Es (ks:List (List Int)):List (List Key×V):=ks.map fun k=>(k.map .inl,.bl true)
noncomputable def Cn:List V→Bool
 |[.int _,.int _]=>true
 |_=>false
noncomputable def kQ (K:Frag) (H:Hp) (a:Addr) (xs:List V):Prop :=
 H a=some (.tup xs) ∨
  Cn xs=false∧∃(o:Obj) (its:Array Value) (n:Nat),K.lookup a=some o∧o.cls = .type "tuple"∧o.data = .seq its n∧its.size≤sizeLine∧aQ xs its.toList
noncomputable def rf (K:Frag) (H:Hp):MV→V→Prop
 |.tr,v=>v = .bl true
 |.int i,v=>v = .int i
 |.tup is,v=>∃ b,v = .ref b∧kQ K H b (is.map .int)
noncomputable def jc (K:Frag) (H:Hp):List (Int×MV)→List (Key×V)→Prop
 |[],[]=>True
 |q::r,p::s=>p.1 = .inl q.1∧rf K H q.2 p.2∧jc K H r s
 |_,_=>False
theorem rf.keep {K:Frag}{H H':Hp}(t:∀ b vs,kQ K H b vs→kQ K H' b vs):∀{m:MV}{v:V},rf K H m v→rf K H' m v
 |.tr,_,h=>h
 |.int _,_,h=>h
 |.tup _,_,⟨b,e,h⟩=>⟨b,e,t _ _ h⟩
theorem jc.keep {K:Frag}{H H':Hp}(t:∀ b vs,kQ K H b vs→kQ K H' b vs):∀{q:List (Int×MV)}{x:List (Key×V)},jc K H q x→jc K H' q x
 |[],[],h=>h
 |_::_,_::_,⟨a,b,c⟩=>⟨a,b.keep t,c.keep t⟩
 |[],_::_,h=>h.elim
 |_::_,[],h=>h.elim
theorem jc.len {K:Frag}{H:Hp}:∀{q:List (Int×MV)}{x:List (Key×V)},jc K H q x→x.length=q.length
 |[],[],_=>rfl
 |_::_,_::_,⟨_,_,c⟩=>by rw[du,du,c.len]
 |[],_::_,h=>h.elim
 |_::_,[],h=>h.elim
theorem kQ.sq {K:Frag}{H:Hp}{a:Addr}{xs:List V}(h:kQ K H a xs):j6 K H a xs:=h.imp .inl And.right
mutual
inductive Rep (K:Frag) (H:Hp):D→V→List Addr→Prop where
 | non:Rep K H .non .non []
 | bl (b:Bool):Rep K H (.bl b) (.bl b) []
 | int (i:Int):Rep K H (.int i) (.int i) []
 | str (s:Str):Rep K H (.str s) (.str s) []
 | lst {p:Addr}{vs:List V}{ds:List D}{G:List Addr}(h:Rd H p (.lst vs)) (r:aM K H ds vs G):Rep K H (.lst ds) (.ref p) (p::G)
 | tup {p:Addr}{vs:List V}{ds:List D}{G:List Addr}(h:kQ K H p vs) (r:aM K H ds vs G):Rep K H (.tup ds) (.ref p) G
 | dct {p:Addr}{kvs:List (Key×Option Int)}(h:u3 K p kvs):Rep K H (.dct kvs) (.ref p) []
 | mpi {p:Addr}{ks:List (Int×MV)}{xs:List (Key×V)}(h:H p=some (.dK xs)) (r:jc K H ks xs):Rep K H (.mpi ks) (.ref p) [p]
 | mpt {p:Addr}{ks:List (List Int)}(h:Rd H p (.dT (Es ks))):Rep K H (.mpt ks) (.ref p) [p]
 | mpz {p:Addr}{ks:List (Int×MV)}{xs:List (Key×V)}{o:Obj}(h:H p=some (.frz o (.dK xs))) (r:jc K H ks xs):Rep K H (.mpz ks) (.ref p) []
inductive aM (K:Frag) (H:Hp):List D→List V→List Addr→Prop where
 | nil:aM K H [] [] []
 | cons {d:D}{v:V}{ds:List D}{vs:List V}{G G':List Addr}(h:Rep K H d v G) (r:aM K H ds vs G'):aM K H (d::ds) (v::vs) (G++G')
end
theorem tJ {H H':Hp}{b:Addr}(k:∀ u:HO,H b=some u→H' b=some u) {o:HO}(h:Rd H b o):Rd H' b o:=by
 rcases h with h | ⟨u,h⟩
 ·exact .inl (k _ h)
 ·exact .inr ⟨u,k _ h⟩
noncomputable def FC (H H':Hp):Prop:=∀ b o u,H b=some (.frz o u)→H' b=some (.frz o u)
section
variable {K:Frag}{H H':Hp}
theorem Rep.keep (t:∀ b vs,kQ K H b vs→kQ K H' b vs) (z:FC H H') {d:D}{v:V}{G:List Addr}(h:Rep K H d v G):(∀ b∈G,∀ u:HO,H b=some u→H' b=some u)→Rep K H' d v G :=
 Rep.rec (motive_1:=fun d v G _=>(∀ b∈G,∀ u:HO,H b=some u→H' b=some u)→Rep K H' d v G) (motive_2:=fun ds vs G _=>(∀ b∈G,∀ u:HO,H b=some u→H' b=some u)→aM K H' ds vs G)
  (fun _=>.non) (fun b _=>.bl b) (fun i _=>.int i) (fun s _=>.str s) (fun h _ ih k=>.lst (tJ (k _ ae) h) (ih fun b hb=>k b (aa _ hb)))
  (fun h _ ih k=>.tup (t _ _ h) (ih k)) (fun h _=>.dct h) (fun h r k=>.mpi (k _ ae _ h) (r.keep t)) (fun h k=>.mpt (tJ (k _ ae) h)) (fun h r _=>.mpz (z _ _ _ h) (r.keep t))
  (fun _=>.nil) (fun _ _ i1 i2 k=>.cons (i1 fun b hb=>k b (bf _ hb)) (i2 fun b hb=>k b (aq _ hb))) h
theorem aM.keep (t:∀ b vs,kQ K H b vs→kQ K H' b vs) (z:FC H H') {ds:List D}{vs:List V}{G:List Addr}(h:aM K H ds vs G):(∀ b∈G,∀ u:HO,H b=some u→H' b=some u)→aM K H' ds vs G :=
 aM.rec (motive_1:=fun d v G _=>True) (motive_2:=fun ds vs G _=>(∀ b∈G,∀ u:HO,H b=some u→H' b=some u)→aM K H' ds vs G)
  trivial (fun _=>trivial) (fun _=>trivial) (fun _=>trivial) (fun _ _ _=>trivial) (fun _ _ _=>trivial) (fun _=>trivial) (fun _ _=>trivial) (fun _=>trivial) (fun _ _=>trivial)
  (fun _=>.nil) (fun h _ _ i2 k=>.cons (Rep.keep t z h fun b hb=>k b (bf _ hb)) (i2 fun b hb=>k b (aq _ hb))) h
theorem aO.rd (e:aO H H') {b:Addr}{o:HO}(h:Rd H b o):Rd H' b o:=by
 rcases h with h | ⟨u,h⟩
 ·exact .inl (e _ _ h)
 ·exact .inr ⟨u,e _ _ h⟩
theorem aO.tqT (e:aO H H') {b:Addr}{vs:List V}(h:kQ K H b vs):kQ K H' b vs:=by
 rcases h with h | h
 ·exact .inl (e _ _ h)
 ·exact .inr h
theorem aO.sqT (e:aO H H') {b:Addr}{vs:List V}(h:j6 K H b vs):j6 K H' b vs:=by
 rcases h with h | h
 ·exact .inl (aO.rd e h)
 ·exact .inr h
theorem Rep.same (e:aO H H') {d:D}{v:V}{G:List Addr}(h:Rep K H d v G):Rep K H' d v G:=h.keep (fun _ _=>aO.tqT e) (fun _ _ _ h=>e _ _ h) fun _ _ _ h=>e _ _ h
theorem aM.same (e:aO H H') {d:List D}{v:List V}{G:List Addr}(h:aM K H d v G):aM K H' d v G:=h.keep (fun _ _=>aO.tqT e) (fun _ _ _ h=>e _ _ h) fun _ _ _ h=>e _ _ h
theorem Rep.flat {d:D}{v:V}{G:List Addr}(h:Rep K H d v G):d.flat=true→G=[] :=
 Rep.rec (motive_1:=fun d v G _=>d.flat=true→G=[]) (motive_2:=fun ds vs G _=>D.flats ds=true→G=[])
  (fun _=>rfl) (fun _ _=>rfl) (fun _ _=>rfl) (fun _ _=>rfl) (fun _ _ _ f=>by simp[D.flat] at f) (fun _ _ ih f=>ih (by simpa[D.flat] using f)) (fun _ _=>rfl) (fun _ _ f=>by simp[D.flat] at f) (fun _ f=>by simp[D.flat] at f) (fun _ _ _=>rfl)
  (fun _=>rfl) (fun _ _ i1 i2 f=>by
   simp only[D.flats,Bool.and_eq_true] at f;rw[i1 f.1,i2 f.2];rfl) h
theorem aM.flat {ds:List D}{vs:List V}{G:List Addr}(h:aM K H ds vs G):D.flats ds=true→G=[] :=
 aM.rec (motive_1:=fun d v G _=>True) (motive_2:=fun ds vs G _=>D.flats ds=true→G=[])
  trivial (fun _=>trivial) (fun _=>trivial) (fun _=>trivial) (fun _ _ _=>trivial) (fun _ _ _=>trivial) (fun _=>trivial) (fun _ _=>trivial) (fun _=>trivial) (fun _ _=>trivial)
  (fun _=>rfl) (fun h _ _ i2 f=>by
   simp only[D.flats,Bool.and_eq_true] at f;rw[Rep.flat h f.1,i2 f.2];rfl) h
theorem Rep.live {d:D}{v:V}{G:List Addr}(h:Rep K H d v G):∀ a∈G,∃ vs:ML,Rd H a vs.o :=
 Rep.rec (motive_1:=fun d v G _=>∀ a∈G,∃ vs:ML,Rd H a vs.o) (motive_2:=fun ds vs G _=>∀ a∈G,∃ vs:ML,Rd H a vs.o)
  (fun _ h=>(nomatch h)) (fun _ _ h=>(nomatch h)) (fun _ _ h=>(nomatch h)) (fun _ _ h=>(nomatch h)) (fun h _ ih a m=>(az.mp m).elim (fun e=>e ▸ ⟨.l _,h⟩) (ih a)) (fun _ _ ih=>ih) (fun _ _ h=>(nomatch h))
  (fun h _ a m=>(dh.mp m) ▸ ⟨.k _,.inl h⟩) (fun h a m=>(dh.mp m) ▸ ⟨.t _,h⟩) (fun _ _ _ h=>(nomatch h))
  (fun _ h=>(nomatch h)) (fun _ _ i1 i2 a m=>(bo.mp m).elim (i1 a) (i2 a)) h
theorem aM.live {ds:List D}{vs:List V}{G:List Addr}(h:aM K H ds vs G):∀ a∈G,∃ vs:ML,Rd H a vs.o :=
 aM.rec (motive_1:=fun d v G _=>True) (motive_2:=fun ds vs G _=>∀ a∈G,∃ vs:ML,Rd H a vs.o)
  trivial (fun _=>trivial) (fun _=>trivial) (fun _=>trivial) (fun _ _ _=>trivial) (fun _ _ _=>trivial) (fun _=>trivial) (fun _ _=>trivial) (fun _=>trivial) (fun _ _=>trivial)
  (fun _ h=>(nomatch h)) (fun h _ _ i2 a m=>(bo.mp m).elim (Rep.live h a) (i2 a)) h
theorem Rd.ne_none {a:Addr}{u:HO}(h:Rd H a u):H a≠none:=by
 rcases h with h | ⟨o,h⟩<;>rw[h]<;>simp
theorem Rep.nn {d:D}{v:V}{G:List Addr}(h:Rep K H d v G) {a:Addr}(m:a∈G):H a≠none:=let ⟨_,q⟩:=h.live a m;Rd.ne_none q
theorem aM.nn {d:List D}{v:List V}{G:List Addr}(h:aM K H d v G) {a:Addr}(m:a∈G):H a≠none:=let ⟨_,q⟩:=h.live a m;Rd.ne_none q
theorem aM.len:∀{ds:List D}{vs:List V}{G:List Addr},aM K H ds vs G→ds.length=vs.length
 |_,_,_,.nil=>rfl
 |_,_,_,.cons _ r=>by simp[aM.len r]
theorem aM.get:∀{ds:List D}{vs:List V}{G:List Addr}{i:Nat}{d:D},aM K H ds vs G→ds[i]? = some d→∃ v G',vs[i]? = some v∧Rep K H d v G'∧G'.Sublist G
 |_,_,_,_,_,.nil,e=>by simp at e
 | _,_,_,0,_,.cons h r,e=>by
  simp at e;subst e;exact⟨_,_,rfl,h,List.sublist_append_left _ _⟩
 | _,_,_,i+1,d,.cons h r,e=>by
  obtain⟨v,G',a,b,c⟩:=aM.get (i:=i) (d:=d) r (by simpa using e);exact⟨v,G',by simpa using a,b,c.trans (List.sublist_append_right _ _)⟩
theorem aM.append:∀{ds es:List D}{vs us:List V}{G G':List Addr},aM K H ds vs G→aM K H es us G'→aM K H (ds++es) (vs++us) (G++G')
 |_,_,_,_,_,_,.nil,s=>s
 | _,_,_,_,_,_,.cons h r,s=>by
  rw[dq];exact .cons h (aM.append r s)
theorem aM.take:∀{ds:List D}{vs:List V}{G:List Addr}(n:Nat),aM K H ds vs G→∃ G',aM K H (ds.take n) (vs.take n) G'∧G'.Sublist G
 |_,_,_,0,_=>⟨[],by simpa using .nil,by simp⟩
 |_,_,_,_+1,.nil=>⟨[],by simpa using .nil,by simp⟩
 | _,_,_,n+1,.cons h r=>by
  obtain⟨G',a,b⟩:=aM.take n r;exact⟨_,by simpa using .cons h a,List.Sublist.append (List.Sublist.refl _) b⟩
theorem aM.drop:∀{ds:List D}{vs:List V}{G:List Addr}(n:Nat),aM K H ds vs G→∃ G',aM K H (ds.drop n) (vs.drop n) G'∧G'.Sublist G
 |_,_,_,0,r=>⟨_,by simpa using r,List.Sublist.refl _⟩
 |_,_,_,_+1,.nil=>⟨[],by simpa using .nil,by simp⟩
 | _,_,_,n+1,.cons h r=>by
  obtain⟨G',a,b⟩:=aM.drop n r;exact⟨_,by simpa using a,b.trans (List.sublist_append_right _ _)⟩
theorem aM.split:∀{ds:List D}{vs:List V}{G:List Addr}{i:Nat}{d:D},aM K H ds vs G→ds[i]? = some d→∃ v G1 G' G2,vs[i]? = some v∧G=G1++(G'++G2)∧Rep K H d v G' ∧
  ∀(H':Hp) (d':D) (v':V) (N:List Addr),(∀ b vs,kQ K H b vs→kQ K H' b vs)→FC H H'→(∀ b∈G1++G2,∀ u:HO,H b=some u→H' b=some u)→Rep K H' d' v' N→aM K H' (ds.set i d') (vs.set i v') (G1++(N++G2))
 |_,_,_,_,_,.nil,e=>by simp at e
 | _,_,_,0,_,.cons (G:=G) (G':=G') h r,e=>by
  simp at e;subst e;refine⟨_,[],_,_,rfl,rfl,h,fun H' d' v' N t z k n=>?_⟩;show aM K H' (_::_) (_::_) (N++G');exact .cons n (r.keep t z fun b hb=>k b (by simpa using hb))
 | _,_,_,i+1,d,.cons (G:=G) (G':=G') h r,e=>by
  obtain⟨v,G1,Gi,G2,a,b,c,f⟩:=aM.split (i:=i) (d:=d) r (by simpa using e);refine⟨v,G++G1,Gi,G2,by simpa using a,by rw[b];simp,c,fun H' d' v' N t z k n=>?_⟩;have q:=aM.cons (h.keep t z fun b hb=>k b (by simp[hb])) (f H' d' v' N t z (fun b hb=>k b (by simp at hb ⊢;exact Or.inr hb)) n);rw[←dq] at q;exact q
end
noncomputable def bP:Tg→Bool
 |.own=>true
 |.lk=>true
 |.sh _=>false
structure RE (K:Frag) (P:Addr→Prop) (env:En) (σ:L2.St) (H:Hp) (F:Nat→List Addr):Prop where
 len:env.length=σ.length
 val:∀ i d t,env[i]? = some (some (d,t))→∃ v,σ[i]? = some (some v)∧Rep K H d v (F i)
 emp:∀ i,(∀ d t,env[i]?≠some (some (d,t)))→F i=[]
 one:∀ i d t,env[i]? = some (some (d,t))→bP t=true→(F i).Nodup∧(∀ a∈F i,∃ vs:ML,H a=some vs.o) ∧
  ∀ a∈F i,∀ j d' t',env[j]? = some (some (d',t'))→a∈F j→i∈bN j t'
 wr:∀ i d,env[i]? = some (some (d,.own))→∀ a∈F i,¬ P a
 pl:∀ a,P a→H a≠none
structure bX (env:En) (F:Nat→List Addr) (H:Hp) (r:Rt) (H':Hp) (G:List Addr):Prop where
 cont:∀ a∈G,H a=none∨∃ i d t,a∈F i∧env[i]? = some (some (d,t))∧∀ q∈bN i t,q∈r.roots
 mv:∀ R,r = .mv R→G.Nodup∧(∀ a∈G,∃ vs:ML,H' a=some vs.o)∧∀ a∈G,H a=none∨∃ i d t,i∈R∧a∈F i∧env[i]? = some (some (d,t))∧bP t=true
theorem bX.nil {env:En}{F:Nat→List Addr}{H H':Hp}{r:Rt}:bX env F H r H' []:=⟨fun _ h=>(nomatch h),fun _ _=>⟨c7,fun _ h=>(nomatch h),fun _ h=>(nomatch h)⟩⟩
theorem RE.same {K:Frag}{P:Addr→Prop}{env:En}{σ:L2.St}{H H':Hp}{F:Nat→List Addr}(r:RE K P env σ H F) (e:aO H H'):RE K P env σ H' F where
 len:=r.len
 val:=fun i d t h=>let ⟨v,a,b⟩:=r.val i d t h;⟨v,a,b.same e⟩
 emp:=r.emp
 one:=fun i d t h o=>let ⟨a,b,c⟩:=r.one i d t h o;⟨a,fun x hx=>let ⟨vs,q⟩:=b x hx;⟨vs,e _ _ q⟩,c⟩
 wr:=r.wr
 pl:=fun a h z=>by
  cases q:H a with
  |none=>exact r.pl a h q
  |some o=>rw[e _ _ q] at z;cases z
theorem aO.no {H H':Hp}(e:aO H H') {a:Addr}(h:H' a=none):H a=none:=by
 cases q:H a with
 |none=>rfl
 |some o=>rw[e _ _ q] at h;cases h
theorem bX.back {env:En}{F:Nat→List Addr}{H H1 H':Hp}{r:Rt}{G:List Addr}(h:bX env F H1 r H' G) (e:aO H H1):bX env F H r H' G where
 cont:=fun a ha=>(h.cont a ha).imp (aO.no e) id
 mv:=fun R hr=>let ⟨a,b,c⟩:=h.mv R hr;⟨a,b,fun x hx=>(c x hx).imp (aO.no e) id⟩
theorem bX.later {env:En}{F:Nat→List Addr}{H H1 H':Hp}{r:Rt}{G:List Addr}(h:bX env F H r H1 G) (e:aO H1 H'):bX env F H r H' G where
 cont:=h.cont
 mv:=fun R hr=>let ⟨a,b,c⟩:=h.mv R hr;⟨a,fun x hx=>let ⟨vs,q⟩:=b x hx;⟨vs,e _ _ q⟩,c⟩
theorem bX.part {env:En}{F:Nat→List Addr}{H H':Hp}{r r':Rt}{G G':List Addr}(h:bX env F H r H' G) (hs:∀ a∈G',a∈G) (hr:∀ q∈r.roots,q∈r'.roots) (hn:∀ R,r'≠.mv R):bX env F H r' H' G' where
 cont:=fun a ha=>(h.cont a (hs a ha)).imp id fun ⟨i,d,t,x,y,z⟩=>⟨i,d,t,x,y,fun q hq=>hr q (z q hq)⟩
 mv:=fun R e=>absurd e (hn R)
noncomputable def pR (F:Nat→List Addr) (i:Nat) (G:List Addr):Nat→List Addr:=fun j=>if j=i then G else F j
theorem eQ {F:Nat→List Addr}{i:Nat}{G:List Addr}:pR F i G i=G:=if_pos rfl
theorem eO {F:Nat→List Addr}{i j:Nat}{G:List Addr}(h:j≠i):pR F i G j=F j:=if_neg h
theorem rM (env:En) (i:Nat) (d:D) (t:Tg):(put env i d t).length=env.length:=by simp[put]
theorem eN {env:En}{i:Nat}{d:D}{t:Tg}(h:i<env.length):(put env i d t)[i]? = some (some (d,t)):=by
 unfold put;rw[List.getElem?_set_self (by simpa using h)]
theorem xA {env:En}{i j:Nat}{d:D}{t:Tg}(h:j≠i):(put env i d t)[j]? = (env[j]?).map fun s=>s.map fun p=>(p.1,p.2.drop i):=by
 unfold put;rw[ai (Ne.symm h),av]
theorem ie {env:En}{i j:Nat}{d d':D}{t t':Tg}(h:j≠i) (e:(put env i d t)[j]? = some (some (d',t'))):∃ t0,env[j]? = some (some (d',t0))∧t'=t0.drop i:=by
 rw[xA h] at e;cases q:env[j]? with
 |none=>rw[q] at e;cases e
 |some s =>
  rw[q] at e;cases s with
  |none=>cases e
  |some p =>
   obtain⟨a,b⟩:=p;simp only[Option.map_some,Option.some.injEq,Prod.mk.injEq] at e;obtain⟨rfl,rfl⟩:=e;exact⟨b,rfl,rfl⟩
theorem kP (t:Tg) (i:Nat):bP (t.drop i)=bP t:=by cases t<;>rfl
theorem kT {t:Tg}{i j k:Nat}(h:k∈bN j t) (hk:k≠i):k∈bN j (t.drop i):=by
 cases t with
 |own=>exact h
 |lk=>exact h
 |sh R =>
  simp only[bN,Tg.drop,List.mem_filter] at h ⊢;exact⟨h,by simpa using hk⟩
section
variable {K:Frag}{P:Addr→Prop}{env:En}{σ:L2.St}{H:Hp}{F:Nat→List Addr}
theorem RE.nn (re:RE K P env σ H F) {j:Nat}{d:D}{t:Tg}(h:env[j]? = some (some (d,t))) {a:Addr}(m:a∈F j):H a≠none:=let ⟨_,_,r⟩:=re.val j d t h;r.nn m
theorem RE.at' (re:RE K P env σ H F) {j:Nat}{a:Addr}(m:a∈F j):∃ d t,env[j]? = some (some (d,t)):=by
 by_cases h:∃ d t,env[j]? = some (some (d,t))
 ·exact h
 ·rw[re.emp j fun d t e=>h ⟨d,t,e⟩] at m;cases m
theorem RE.put (re:RE K P env σ H F) {i:Nat}{d:D}{v:V}{G:List Addr}{t:Tg}(hi:i<env.length) (rp:Rep K H d v G)
  (ho:bP t=true→G.Nodup∧(∀ a∈G,∃ vs:ML,H a=some vs.o)∧∀ a∈G,∀ j,j≠i→a∉F j) (hw:t = .own→∀ a∈G,¬ P a)
  (hs:∀ a∈G,∀ j d' t',j≠i→env[j]? = some (some (d',t'))→bP t'=true→a∈F j→j∈bN i t):RE K P (put env i d t) (σ.set i (some v)) H (pR F i G) where
 len:=by rw[rM,ay];exact re.len
 val:=fun j d' t' e=>by
  by_cases h:j=i
  ·subst h;rw[eN hi] at e;cases e;exact⟨v,ao (by rw[←re.len];exact hi),by rw[eQ];exact rp⟩
  ·obtain⟨t0,e0,rfl⟩:=ie h e;obtain⟨u,a,b⟩:=re.val j d' t0 e0;exact⟨u,by rw[ai (Ne.symm h)];exact a,by rw[eO h];exact b⟩
 emp:=fun j h=>by
  by_cases hj:j=i
  ·subst hj;exact absurd (eN hi) (h d t)
  ·rw[eO hj];refine re.emp j fun d' t' e=>h d' (t'.drop i) ?_
   rw[xA hj,e];rfl
 one:=fun j d' t' e o=>by
  by_cases h:j=i
  ·subst h;rw[eN hi] at e;cases e;obtain⟨a,b,c⟩:=ho o;rw[eQ];refine⟨a,b,fun x hx k d2 t2 e2 m=>?_⟩;by_cases hk:k=j
   ·subst hk;rw[eN hi] at e2;cases e2;cases t<;>simp_all [bN,bP]
   ·rw[eO hk] at m;exact absurd m (c x hx k hk)
  ·obtain⟨t0,e0,rfl⟩:=ie h e;rw[kP] at o;obtain⟨a,b,c⟩:=re.one j d' t0 e0 o;rw[eO h];refine⟨a,b,fun x hx k d2 t2 e2 m=>?_⟩;by_cases hk:k=i
   ·subst hk;rw[eN hi] at e2;cases e2;rw[eQ] at m;exact hs x m j d' t0 h e0 o hx
   ·rw[eO hk] at m;obtain⟨t3,e3,rfl⟩:=ie hk e2;exact kT (c x hx k d2 t3 e3 m) h
 wr:=fun j d' e=>by
  by_cases h:j=i
  ·subst h;rw[eN hi] at e;cases e;rw[eQ];exact hw rfl
  ·obtain⟨t0,e0,q⟩:=ie h e;rw[eO h];cases t0 with
   |own=>exact re.wr j d' e0
   |lk=>cases q
   |sh R=>cases q
 pl:=re.pl
theorem RE.forget (re:RE K P env σ H F) {env':En}(hl:env'.length=env.length) (he:∀(i:Nat) (d:D) (t:Tg),env'[i]? = some (some (d,t))→env[i]? = some (some (d,t))) :
  RE K P env' σ H (fun i=>match env'[i]? with | some (some _)=>F i | _=>[]) where
 len:=hl.trans re.len
 val:=fun i d t e=>by rw[e];exact re.val i d t (he i d t e)
 emp:=fun i h=>by
  split
  ·rename_i p q;exact absurd q (h p.1 p.2)
  ·rfl
 one:=fun i d t e o=>by
  rw[e];obtain⟨a,b,c⟩:=re.one i d t (he i d t e) o;refine⟨a,b,fun x hx k d2 t2 e2 m=>?_⟩;rw[e2] at m;exact c x hx k d2 t2 (he k d2 t2 e2) m
 wr:=fun i d e=>by rw[e];exact re.wr i d (he i d _ e)
 pl:=re.pl
end
theorem bT (R:List Nat) (env:En):(kill R env).length=env.length:=by simp[kill]
theorem bI {R:List Nat}{env:En}{i:Nat}{d:D}{t:Tg}(e:(kill R env)[i]? = some (some (d,t))):env[i]? = some (some (d,t))∧i∉R∧∀ q∈R,q∉bN i t:=by
 unfold kill at e;rw[cx] at e;cases q:env[i]? with
 |none=>rw[q] at e;cases e
 |some s =>
  rw[q] at e;cases s with
  |none=>cases e
  |some p =>
   obtain⟨a,b⟩:=p;simp only[Option.map_some,Option.some.injEq] at e;by_cases h:(R.contains i || iR R b)=true
   ·rw[if_pos h] at e;cases e
   ·rw[if_neg h] at e;cases e;rw[Bool.or_eq_true,not_or] at h;have h1:i∉R:=fun z=>h.1 (by simpa using z)
    refine⟨rfl,h1,fun r hq z=>?_⟩;cases t with
    |own=>simp only[bN,List.mem_singleton] at z;subst z;exact h1 hq
    |lk=>simp only[bN,List.mem_singleton] at z;subst z;exact h1 hq
    |sh Q =>
     apply h.2;simp only[iR,List.any_eq_true];exact⟨r,z,by simpa using hq⟩
section
variable {K:Frag}{P:Addr→Prop}{env:En}{σ:L2.St}{H:Hp}{F:Nat→List Addr}
theorem pM {p b:Addr}{ws vs:List V}{o:HO}(hp:H p=some (.lst ws)) (h:kQ K H b vs):kQ K (upd H p o) b vs:=by
 rcases h with h | h
 ·exact .inl (by rw[aP];exact h;intro z;subst z;rw[hp] at h;cases h)
 ·exact .inr h
theorem qZ {p b:Addr}{ws:ML}{vs:List V}{o:HO}(hp:H p=some ws.o) (h:kQ K H b vs):kQ K (upd H p o) b vs:=by
 rcases h with h | h
 ·exact .inl (by rw[aP];exact h;intro z;subst z;rw[hp] at h;cases ws<;>cases h)
 ·exact .inr h
theorem jr {H:Hp}{p:Addr}{ws:ML}{o:HO}(hp:H p=some ws.o):FC H (L2.upd H p o):=fun b ob u h=>by
 rw[aP fun e=>?_]
 ·exact h
 ·subst e;rw[hp] at h;cases ws<;>cases h
theorem Rep.upd {p:Addr}{ws:List V}{o:HO}{d:D}{v:V}{G:List Addr}(hp:H p=some (.lst ws)) (h:Rep K H d v G) (hn:p∉G):Rep K (upd H p o) d v G :=
 h.keep (fun _ _=>pM hp) (jr (ws:=.l _) hp) fun b hb _ h=>(aP (fun (z:b=p)=>hn (z ▸ hb))).trans h
theorem Rep.updM {p:Addr}{ws:ML}{o:HO}{d:D}{v:V}{G:List Addr}(hp:H p=some ws.o) (h:Rep K H d v G) (hn:p∉G):Rep K (L2.upd H p o) d v G :=
 h.keep (fun _ _=>qZ hp) (jr hp) fun b hb _ h=>(aP (fun (z:b=p)=>hn (z ▸ hb))).trans h
theorem aM.upd {p:Addr}{ws:List V}{o:HO}{d:List D}{v:List V}{G:List Addr}(hp:H p=some (.lst ws)) (h:aM K H d v G) (hn:p∉G):aM K (upd H p o) d v G :=
 h.keep (fun _ _=>pM hp) (jr (ws:=.l _) hp) fun b hb _ h=>(aP (fun (z:b=p)=>hn (z ▸ hb))).trans h
noncomputable def ir (F:Nat→List Addr) (env:En) (x:Nat) (R:List Nat) (G:List Addr):Nat→List Addr:=fun j=>if j=x then G else match (kill (x::R) env)[j]? with
 | some (some _)=>F j
 |_=>[]
theorem RE.mutateM (re:RE K P env σ H F) {x:Nat}{d d':D}{v:V}{p:Addr}{vs:ML}{R:List Nat}{N G:List Addr}(hx:env[x]? = some (some (d,.own))) (hv:σ[x]? = some (some v)) (hp:p∈F x)
  (rp:Rep K (upd H p vs.o) d' v G) (nd:G.Nodup) (sub:∀ a∈G,a∈F x∨a∈N)
  (hN:∀ a∈N,(∃ vs:ML,H a=some vs.o)∧¬ P a∧∀(j:Nat) (d:D) (t:Tg),env[j]? = some (some (d,t))→a∈F j→∃ q∈x::R,q∈bN j t) :
  RE K P ((kill (x::R) env).set x (some (d',.own))) σ (upd H p vs.o) (ir F env x R G):=by
 obtain⟨ndx,lsx,onx⟩:=re.one x d .own hx rfl;obtain⟨ws,hpl⟩:=lsx p hp;have hxl:x<(kill (x::R) env).length:=by
  rw[bT];exact (ak.mp hx).1
 have other:∀{j:Nat}{d2:D}{t2:Tg},j≠x→((kill (x::R) env).set x (some (d',.own)))[j]? = some (some (d2,t2))→(kill (x::R) env)[j]? = some (some (d2,t2)):=fun {j d2 t2} hj e=>by
  rw[ai (Ne.symm hj)] at e;exact e
 have live:∀ a,(∃ vs:ML,H a=some vs.o)→∃ ws:ML,upd H p vs.o a=some ws.o:=fun a ⟨ws,h⟩=>by
  by_cases z:a=p
  ·subst z;exact⟨vs,aW⟩
  ·exact⟨ws,by rw[aP z];exact h⟩
 have apart:∀{j:Nat}{d2:D}{t2:Tg},j≠x→(kill (x::R) env)[j]? = some (some (d2,t2))→∀ a∈F x,a∉F j:=fun {j d2 t2} hj e a ha hb=>by
  obtain⟨e0,_,h3⟩:=bI e;exact h3 x ae (onx a ha j d2 t2 e0 hb)
 have fj:∀{j:Nat}{d2:D}{t2:Tg},j≠x→(kill (x::R) env)[j]? = some (some (d2,t2))→ir F env x R G j=F j:=fun {j d2 t2} hj e=>by
  unfold ir;rw[if_neg hj,e]
 have fx:ir F env x R G x=G:=if_pos rfl;refine⟨?_,fun j d2 t2 e=>?_,fun j h=>?_,fun j d2 t2 e o=>?_,fun j d2 e=>?_,fun a h=>?_⟩
 ·rw[ay,bT];exact re.len
 ·by_cases hj:j=x
  ·subst hj;rw[ao hxl] at e;cases e;exact⟨v,hv,by rw[fx];exact rp⟩
  ·have e1:=other hj e;obtain⟨e0,_,_⟩:=bI e1;obtain⟨u,h1,h2⟩:=re.val j d2 t2 e0;exact⟨u,h1,by rw[fj hj e1];exact h2.updM hpl (apart hj e1 p hp)⟩
 ·by_cases hj:j=x
  ·subst hj;exact absurd (ao hxl) (h d' .own)
  ·unfold ir;rw[if_neg hj];split
   ·rename_i q e;exact absurd (by rw[ai (Ne.symm hj)];exact e) (h q.1 q.2)
   ·rfl
 ·by_cases hj:j=x
  ·subst hj;rw[ao hxl] at e;cases e;rw[fx];refine⟨nd,fun a ha=>live a ?_,fun a ha k d3 t3 e3 m=>?_⟩
   ·rcases sub a ha with q | q
    ·exact lsx a q
    ·exact (hN a q).1
   ·by_cases hk:k=j
    ·subst hk;rw[ao hxl] at e3;cases e3;simp[bN]
    ·have e4:=other hk e3;rw[fj hk e4] at m;rcases sub a ha with q | q
     ·exact absurd m (apart hk e4 a q)
     ·obtain⟨e0,_,h3⟩:=bI e4;obtain⟨r,r1,r2⟩:=(hN a q).2.2 k d3 t3 e0 m;exact absurd r2 (h3 r r1)
  ·have e1:=other hj e;obtain⟨e0,_,_⟩:=bI e1;obtain⟨a,b,c⟩:=re.one j d2 t2 e0 o;rw[fj hj e1];refine⟨a,fun y hy=>live y (b y hy),fun y hy k d3 t3 e3 m=>?_⟩;by_cases hk:k=x
   ·subst hk;rw[ao hxl] at e3;cases e3;rw[fx] at m;rcases sub y m with q | q
    ·exact absurd hy (apart hj e1 y q)
    ·obtain⟨_,_,h3⟩:=bI e1;obtain⟨r,r1,r2⟩:=(hN y q).2.2 j d2 t2 e0 hy;exact absurd r2 (h3 r r1)
   ·have e4:=other hk e3;rw[fj hk e4] at m;exact c y hy k d3 t3 (bI e4).1 m
 ·by_cases hj:j=x
  ·subst hj;rw[fx];intro a ha;rcases sub a ha with q | q
   ·exact re.wr j d hx a q
   ·exact (hN a q).2.1
  ·have e1:=other hj e;rw[fj hj e1];exact re.wr j d2 (bI e1).1
 ·intro z;by_cases q:a=p
  ·subst q;rw[aW] at z;cases z
  ·rw[aP q] at z;exact re.pl a h z
theorem RE.mutate (re:RE K P env σ H F) {x:Nat}{d d':D}{v:V}{p:Addr}{vs:List V}{R:List Nat}{N G:List Addr}(hx:env[x]? = some (some (d,.own))) (hv:σ[x]? = some (some v)) (hp:p∈F x)
  (rp:Rep K (upd H p (.lst vs)) d' v G) (nd:G.Nodup) (sub:∀ a∈G,a∈F x∨a∈N)
  (hN:∀ a∈N,(∃ vs:ML,H a=some vs.o)∧¬ P a∧∀(j:Nat) (d:D) (t:Tg),env[j]? = some (some (d,t))→a∈F j→∃ q∈x::R,q∈bN j t) :
  RE K P ((kill (x::R) env).set x (some (d',.own))) σ (upd H p (.lst vs)) (ir F env x R G):=re.mutateM (vs:=.l vs) hx hv hp rp nd sub hN
inductive PV (K:Frag) (H:Hp):V→Option Int→Addr→Prop where
 | top (p:Addr):PV K H (.ref p) none p
 | item {q p:Addr}{ws:List V}{i:Int}{j:Nat}(h:Rd H q (.lst ws)∨j6 K H q ws) (hj:kZ ws.length i=some j) (e:ws[j]? = some (.ref p)):PV K H (.ref q) (some i) p
theorem Ed {n:Nat}{i:Int}{j:Nat}(h:kZ n i=some j):j<n:=by
 unfold kZ at h;split at h
 ·split at h
  ·cases h;omega
  ·cases h
 ·split at h
  ·cases h;omega
  ·cases h
theorem Rep.lst_inv {ds:List D}{v:V}{G:List Addr}(h:Rep K H (.lst ds) v G):∃ p vs G',v = .ref p∧G=p::G'∧Rd H p (.lst vs)∧aM K H ds vs G':=by
 cases h with
 |lst a b=>exact⟨_,_,_,rfl,rfl,a,b⟩
theorem vP {d:D}{v:V}{G:List Addr}{path:Option Int}{xs:List D}(rp:Rep K H d v G) (nd:G.Nodup) (h:d.at1 path=some xs):∃ p,PV K H v path p∧∀ H',aO H H'→(∀ a∈G,∃ vs:ML,H' a=some vs.o) →
  ∃ vs Gx,H' p=some (.lst vs)∧aM K H' xs vs Gx∧p∈G∧(∀ a∈Gx,a∈G)∧Gx.Nodup∧p∉Gx ∧
   ∀ ys us Gy,aM K (upd H' p (.lst us)) ys us Gy→Gy.Nodup→p∉Gy→(∀ a∈Gy,a∈Gx∨a∉G)→∃ G',Rep K (upd H' p (.lst us)) (d.set1 path ys) v G'∧G'.Nodup∧∀ a∈G',a∈G∨a∈Gy:=by
 have rdl:∀{H':Hp}{p:Addr}{vs:List V},(∀ a∈G,∃ vs:ML,H' a=some vs.o)→p∈G→Rd H' p (.lst vs)→H' p=some (.lst vs):=fun {H' p vs} hl hp r=>by
  obtain⟨ws,q⟩:=hl p hp;rcases r with r | ⟨o,r⟩
  ·exact r
  ·rw[q] at r;cases ws<;>cases r
 cases path with
 |none =>
  cases rp with
  |lst hr r =>
   rename_i p vs ds G0;simp only[D.at1,Option.some.injEq] at h;subst h;obtain⟨n1,n2⟩:=dk.mp nd;refine⟨p,.top p,fun H' e hl=>⟨vs,G0,rdl hl ae (aO.rd e hr),r.same e,ae,fun a ha=>aa _ ha,n2,n1,fun ys us Gy ry ny hy hs=>?_⟩⟩;exact⟨p::Gy,.lst (.inl aW) ry,List.nodup_cons.mpr ⟨hy,ny⟩,fun a ha=>(List.mem_cons.mp ha).imp (fun z=>by simp[z]) id⟩
  |_=>simp[D.at1] at h
 |some i=>cases d<;>cases h
end
end Pc
end
section
namespace Pc
open PySem L2
structure j7 (P:Addr→Prop) (H H':Hp):Prop where
 keep:∀ a,P a→H' a=H a
 tup:∀ b xs,H b=some (.tup xs)→H' b=some (.tup xs)
 fz:FC H H'
theorem j7.refl {P:Addr→Prop}(H:Hp):j7 P H H:=⟨fun _ _=>rfl,fun _ _ h=>h,fun _ _ _ h=>h⟩
theorem j7.trans {P:Addr→Prop}{H H1 H2:Hp}(a:j7 P H H1) (b:j7 P H1 H2):j7 P H H2:=⟨fun x h=>(b.keep x h).trans (a.keep x h),fun x xs h=>b.tup x xs (a.tup x xs h),fun x o u h=>b.fz x o u (a.fz x o u h)⟩
theorem j7.of_same {P:Addr→Prop}{H H':Hp}(pl:∀ a,P a→H a≠none) (e:aO H H'):j7 P H H':=⟨fun a h=>by
 cases q:H a with
 |none=>exact absurd q (pl a h)
 |some o=>exact e _ _ q,fun _ _=>e _ _,fun _ _ _ h=>e _ _ h⟩
theorem j7.weak {P P':Addr→Prop}{H H':Hp}(h:∀ a,P a→P' a) (e:j7 P' H H'):j7 P H H':=⟨fun a x=>e.keep a (h a x),e.tup,e.fz⟩
theorem j7.tqT {K:Frag}{P:Addr→Prop}{H H':Hp}(e:j7 P H H') {b:Addr}{vs:List V}(h:kQ K H b vs):kQ K H' b vs:=by
 rcases h with h | h
 ·exact .inl (e.tup b vs h)
 ·exact .inr h
theorem j7.reps {K:Frag}{P:Addr→Prop}{H H':Hp}(e:j7 P H H') {ds:List D}{vs:List V}{G:List Addr}(h:aM K H ds vs G) (hp:∀ a∈G,P a):aM K H' ds vs G :=
 h.keep (fun _ _=>e.tqT) e.fz fun b hb _ r=>(e.keep b (hp b hb)).trans r
noncomputable def rh (env:En) (F:Nat→List Addr) (env':En) (F':Nat→List Addr):Prop:=∀(i:Nat) (d:D),env'[i]? = some (some (d,.lk))→env[i]? = some (some (d,.lk))∧F' i=F i
theorem rh.refl (env:En) (F:Nat→List Addr):rh env F env F:=fun _ _ h=>⟨h,rfl⟩
theorem rh.trans {e1 e2 e3:En}{F1 F2 F3:Nat→List Addr}(a:rh e1 F1 e2 F2) (b:rh e2 F2 e3 F3):rh e1 F1 e3 F3:=fun i d h=>by
 obtain⟨h1,h2⟩:=b i d h;obtain⟨h3,h4⟩:=a i d h1;exact⟨h3,h2.trans h4⟩
structure After (K:Frag) (P Z:Addr→Prop) (env:En) (F:Nat→List Addr) (H:Hp) (env':En) (σ':L2.St) (H':Hp) (F':Nat→List Addr):Prop where
 re:RE K P env' σ' H' F'
 z:∀ i,∀ a∈F' i,Z a
 ev:j7 P H H'
 lk:rh env F env' F'
theorem After.trans {K:Frag}{P Z:Addr→Prop}{e1 e2 e3:En}{F1 F2 F3:Nat→List Addr}{H1 H2 H3:Hp}{σ2 σ3:L2.St}(a:After K P Z e1 F1 H1 e2 σ2 H2 F2) (b:After K P Z e2 F2 H2 e3 σ3 H3 F3):After K P Z e1 F1 H1 e3 σ3 H3 F3 :=
 ⟨b.re,b.z,a.ev.trans b.ev,a.lk.trans b.lk⟩
noncomputable def post (K:Frag) (P Z:Addr→Prop) (env:En) (F:Nat→List Addr) (H:Hp) (D:Ends):Fl→Prop
 |.nx env'=>∀ σ' H' F',After K P Z env F H env' σ' H' F'→D.nx σ' H'
 |.bk env'=>∀ σ' H' F',After K P Z env F H env' σ' H' F'→D.bk σ' H'
 |.ct env'=>∀ σ' H' F',After K P Z env F H env' σ' H' F'→D.ct σ' H'
 |.rt d fr=>∀ v H' G,Rep K H' d v G→j7 P H H'→(∀ a∈G,Z a)→(fr=true→G.Nodup∧∀ a∈G,¬ P a∧∃ vs:ML,H' a=some vs.o)→D.rt v H'
 |.xc _ _=>False
 |.bad=>False
theorem post.trans {K:Frag}{P Z:Addr→Prop}{e1 e2:En}{F1 F2:Nat→List Addr}{H1 H2:Hp}{σ2:L2.St}{D:Ends}(a:After K P Z e1 F1 H1 e2 σ2 H2 F2):∀{f:Fl},post K P Z e1 F1 H1 D f→post K P Z e2 F2 H2 D f
 |.nx _,h=>fun σ' H' F' b=>h σ' H' F' (a.trans b)
 |.bk _,h=>fun σ' H' F' b=>h σ' H' F' (a.trans b)
 |.ct _,h=>fun σ' H' F' b=>h σ' H' F' (a.trans b)
 |.rt _ _,h=>fun v H' G r e z f=>h v H' G r (a.ev.trans e) z f
 |.xc _ _,h=>h
 |.bad,h=>h
section
variable {K:Frag}{P Z:Addr→Prop}{env:En}{σ:L2.St}{H:Hp}{F:Nat→List Addr}
theorem mf {i:Nat}{d:D}{t:Tg}{G:List Addr}(hi:i<env.length) (ht:t≠.lk):rh env F (put env i d t) (pR F i G):=fun j d' e=>by
 by_cases h:j=i
 ·subst h;rw[eN hi] at e;cases e;exact absurd rfl ht
 ·obtain⟨t0,e0,q⟩:=ie h e;cases t0 with
  |lk=>exact⟨e0,eO h⟩
  |own=>cases q
  |sh R=>cases q
theorem nj {i:Nat}{G:List Addr}(hz:∀ i,∀ a∈F i,Z a) (hg:∀ a∈G,Z a):∀ j,∀ a∈pR F i G j,Z a:=fun j a ha=>by
 by_cases h:j=i
 ·subst h;rw[eQ] at ha;exact hg a ha
 ·rw[eO h] at ha;exact hz j a ha
theorem xO {H':Hp}{D:Ends}{i:Nat}{mv:Bool}{p:Pc.D×Rt}{v:V}{G:List Addr}(re:RE K P env σ H F) (hz:∀ i,∀ a∈F i,Z a) (zp:∀ a,¬ P a→Z a) (e:aO H H') (rp:Rep K H' p.1 v G) (rt:bX env F H p.2 H' G)
  (h:post K P Z env F H D (iI (.nm i) mv env p)):D.nx (σ.set i (some v)) H':=by
 have re':=re.same e;have ez:∀ a∈G,Z a:=fun a ha=>by
  rcases rt.cont a ha with q | ⟨j,_,_,f,_⟩
  ·exact zp a fun z=>re.pl a z q
  ·exact hz j a f
 have kU:=j7.of_same (P:=P) re.pl e;unfold iI at h;by_cases hi:i<env.length
 ·simp only[hi,if_true] at h;have shared:∀ R,p.2.roots=R→post K P Z env F H D (.nx (put env i p.1 (.sh (R.filter (· != i)))))→D.nx (σ.set i (some v)) H':=fun R hR h=>by
   refine h _ H' (pR F i G) ⟨re'.put hi rp (fun o=>by cases o) (fun o=>by cases o) fun a ha j d' t' hj ej o m=>?_,nj hz ez,kU,mf hi (by intro z;cases z)⟩;rcases rt.cont a ha with q | ⟨k,d2,t2,f,e2,s⟩
   ·exact absurd q (re.nn ej m)
   ·have:=s j ((re.one j d' t' ej o).2.2 a m k d2 t2 e2 f);rw[hR] at this;simp only[bN,List.mem_filter];exact⟨this,by simpa using hj⟩
  cases hr:p.2 with
  |sh R=>rw[hr] at h;exact shared R (by rw[hr];rfl) h
  |mv R =>
   rw[hr] at h;obtain⟨m1,m2,m3⟩:=rt.mv R hr;cases R with
   |nil =>
    have fresh:∀ a∈G,H a=none:=fun a ha=>by
     rcases m3 a ha with q | ⟨_,_,_,q,_⟩
     ·exact q
     ·cases q
    refine h _ H' (pR F i G) ⟨re'.put hi rp (fun _=>⟨m1,m2,fun a ha j _ m=>?_⟩) (fun _ a ha z=>re.pl a z (fresh a ha)) fun a ha j d' t' hj ej o m=>?_,nj hz ez,kU,mf hi (by intro z;cases z)⟩
    ·obtain⟨d2,t2,e2⟩:=re.at' m;exact re.nn e2 m (fresh a ha)
    ·exact absurd (fresh a ha) (re.nn ej m)
   |cons r0 R0 =>
    cases mv with
    |false=>exact shared _ (by rw[hr];rfl) h
    |true =>
     simp only[if_true] at h;by_cases ho:bZ env (r0::R0)=true
     ·rw[if_pos ho] at h;have fg:=re'.forget (env':=kill (r0::R0) env) (bT _ _) fun j d' t' ej=>(bI ej).1
      have ow:∀ k∈r0::R0,∃ d',env[k]? = some (some (d',.own)):=fun k hk=>by
       have:=cy.mp ho k hk;split at this
       ·rename_i d' q;exact⟨d',q⟩
       ·cases this
      have apart:∀ a∈G,∀ j,j≠i→a∉(match (kill (r0::R0) env)[j]? with | some (some _)=>F j | _=>[]):=fun a ha j hj m=>by
       split at m
       ·rename_i q ej;obtain⟨dj,tj⟩:=q;obtain⟨e0,h1,h2⟩:=bI ej;rcases m3 a ha with q | ⟨k,d2,t2,hk,f,e2,o2⟩
        ·exact re.nn e0 m q
        ·exact h2 k hk ((re.one k d2 t2 e2 o2).2.2 a f j dj tj e0 m)
       ·cases m
      refine h _ H' _ ⟨fg.put (by rw[bT];exact hi) rp (fun _=>⟨m1,m2,apart⟩) (fun _ a ha z=>?_) fun a ha j d' t' hj ej o m=>absurd m (apart a ha j hj),nj (fun j a ha=>?_) ez,kU,fun j d' ej=>?_⟩
      ·rcases m3 a ha with q | ⟨k,d2,t2,hk,f,e2,o2⟩
       ·exact re.pl a z q
       ·obtain⟨d3,e3⟩:=ow k hk;exact re.wr k d3 e3 a f z
      ·split at ha
       ·exact hz j a ha
       ·cases ha
      ·by_cases hj:j=i
       ·subst hj;rw[eN (by rw[bT];exact hi)] at ej;cases ej
       ·obtain⟨t0,e0,q⟩:=ie hj ej;cases t0 with
        |lk =>
         refine⟨(bI e0).1,?_⟩;rw[eO hj,e0]
        |own=>cases q
        |sh R=>cases q
     ·rw[if_neg ho] at h;exact h.elim
 ·simp only[hi,if_false] at h;exact h.elim
noncomputable def setM:List Nat→List V→L2.St→L2.St
 |i::is,v::vs,σ=>setM is vs (σ.set i (some v))
 |_,_,σ=>σ
theorem nX:∀{is:List Nat}{ds:List D}{vs:List V}{G:List Addr}{env env':En}{σ:L2.St}{F:Nat→List Addr},RE K P env σ H F→(∀ i,∀ a∈F i,Z a)→aM K H ds vs G→G.Nodup→(∀ a∈G,∃ vs:ML,H a=some vs.o)→(∀ a∈G,¬ P a)→(∀ a∈G,Z a) →
  (∀ a∈G,∀ j,a∉F j)→bindM (fun _=>.own) is ds env=some env'→∃ F',RE K P env' (setM is vs σ) H F'∧(∀ i,∀ a∈F' i,Z a)∧rh env F env' F'∧is.length=vs.length
 | [],_,_,_,env,env',σ,F,re,hz,.nil,_,_,_,_,_,h=>by
  simp only[bindM,Option.some.injEq] at h;subst h;exact⟨F,re,hz,rh.refl _ _,rfl⟩
 | i::is,_,_,_,env,env',σ,F,re,hz,.cons (G:=G1) (G':=G2) r rs,nd,ll,np,gz,ap,h=>by
  simp only[bindM] at h;by_cases hi:i<env.length
  ·rw[if_pos hi] at h;obtain⟨n1,n2,n12⟩:=bt.mp nd;have re1:=re.put (t:=.own) hi r (fun _=>⟨n1,fun a ha=>ll a (bf _ ha),fun a ha j _=>ap a (bf _ ha) j⟩) (fun _ a ha=>np a (bf _ ha)) fun a ha j _ _ _ _ _ m=>absurd m (ap a (bf _ ha) j)
   obtain⟨F',a1,a2,a3,a4⟩:=nX re1 (nj hz fun a ha=>gz a (bf _ ha)) rs n2 (fun a ha=>ll a (aq _ ha)) (fun a ha=>np a (aq _ ha)) (fun a ha=>gz a (aq _ ha)) (fun a ha j m=>by
    by_cases hj:j=i
    ·subst hj;rw[eQ] at m;exact n12 a m a ha rfl
    ·rw[eO hj] at m;exact ap a (aq _ ha) j m) h
   exact⟨F',a1,a2,(mf hi (by intro z;cases z)).trans a3,by simp[a4]⟩
  ·rw[if_neg hi] at h;cases h
 |[],_,_,_,_,_,_,_,_,_,.cons _ _,_,_,_,_,_,h=>by simp[bindM] at h
 |_::_,_,_,_,_,_,_,_,_,_,.nil,_,_,_,_,_,h=>by simp[bindM] at h
theorem qV {d:D}{R:List Nat}:cH d R≠.lk:=by unfold cH;split<;>intro z<;>cases z
theorem tX {i:Nat}{d:D}{v:V}{G:List Addr}{R:List Nat}(re:RE K P env σ H F) (hi:i<env.length) (rp:Rep K H d v G) (hs:∀ a∈G,∀(j:Nat) (d':D) (t':Tg),env[j]? = some (some (d',t'))→bP t'=true→a∈F j→j∈R) :
  RE K P (put env i d (cH d R)) (σ.set i (some v)) H (pR F i G):=by
 unfold cH;cases hf:d.flat with
 |true =>
  have:G=[]:=rp.flat hf;subst this;simp only[if_true];exact re.put hi rp (fun _=>⟨c7,fun _ h=>(nomatch h),fun _ h=>(nomatch h)⟩) (fun _ _ h=>(nomatch h)) fun _ h=>(nomatch h)
 |false =>
  simp only[Bool.false_eq_true,if_false];exact re.put hi rp (fun o=>by cases o) (fun o=>by cases o) fun a ha j d' t' hj ej o m=>hs a ha j d' t' ej o m
theorem l7 {R:List Nat}:∀{is:List Nat}{ds:List D}{vs:List V}{G:List Addr}{env env':En}{σ:L2.St}{F:Nat→List Addr},RE K P env σ H F→(∀ i,∀ a∈F i,Z a)→aM K H ds vs G→(∀ a∈G,Z a) →
  (∀ a∈G,∀(j:Nat) (d':D) (t':Tg),env[j]? = some (some (d',t'))→bP t'=true→a∈F j→j∈R)→bindM (fun d=>cH d R) is ds env=some env'→∃ F',RE K P env' (setM is vs σ) H F'∧(∀ i,∀ a∈F' i,Z a)∧rh env F env' F'∧is.length=vs.length
 | [],_,_,_,env,env',σ,F,re,hz,.nil,_,_,h=>by
  simp only[bindM,Option.some.injEq] at h;subst h;exact⟨F,re,hz,rh.refl _ _,rfl⟩
 | i::is,_,_,_,env,env',σ,F,re,hz,.cons (d:=d) (G:=G1) (G':=G2) r rs,gz,hs,h=>by
  simp only[bindM] at h;by_cases hi:i<env.length
  ·rw[if_pos hi] at h;have re1:=tX re hi r fun a ha=>hs a (bf _ ha)
   obtain⟨F',a1,a2,a3,a4⟩:=l7 re1 (nj hz fun a ha=>gz a (bf _ ha)) rs (fun a ha=>gz a (aq _ ha)) (fun a ha j d' t' ej o m=>by
    by_cases hj:j=i
    ·subst hj;rw[eN hi] at ej;simp only[Option.some.injEq,Prod.mk.injEq] at ej;obtain⟨rfl,rfl⟩:=ej;rw[eQ] at m;cases hf:d.flat with
     |true=>rw[r.flat hf] at m;cases m
     |false=>simp[cH,hf,bP] at o
    ·rw[eO hj] at m;obtain⟨t0,e0,rfl⟩:=ie hj ej;rw[kP] at o;exact hs a (aq _ ha) j d' t0 e0 o m) h
   exact⟨F',a1,a2,(mf hi qV).trans a3,by simp[a4]⟩
  ·rw[if_neg hi] at h;cases h
 |[],_,_,_,_,_,_,_,_,_,.cons _ _,_,_,h=>by simp[bindM] at h
 |_::_,_,_,_,_,_,_,_,_,_,.nil,_,_,h=>by simp[bindM] at h
theorem pO (R:List Nat) (env:En):(lock R env).length=env.length:=by simp[lock]
theorem mL {R:List Nat}{env:En}{i:Nat}{d:D}{t:Tg}(e:(lock R env)[i]? = some (some (d,t))) :
  (env[i]? = some (some (d,t))∧(t = .own→i∉R))∨(t = .lk∧i∈R∧env[i]? = some (some (d,.own))):=by
 unfold lock at e;rw[cx] at e;cases q:env[i]? with
 |none=>rw[q] at e;cases e
 |some s =>
  rw[q] at e;cases s with
  |none=>cases e
  |some p =>
   obtain⟨a,b⟩:=p;simp only[Option.map_some,Option.some.injEq] at e;cases b with
   |own =>
    simp only at e;by_cases h:R.contains i=true
    ·rw[if_pos h] at e;cases e;exact .inr ⟨rfl,by simpa using h,rfl⟩
    ·rw[if_neg h] at e;cases e;exact .inl ⟨rfl,fun _ z=>h (by simpa using z)⟩
   |lk=>cases e;exact .inl ⟨rfl,fun z=>by cases z⟩
   |sh Q=>cases e;exact .inl ⟨rfl,fun z=>by cases z⟩
theorem yD {R:List Nat}{env:En}{i:Nat}{d:D}{t:Tg}(e:env[i]? = some (some (d,t))):∃ t',(lock R env)[i]? = some (some (d,t'))∧bP t'=bP t∧bN i t'=bN i t:=by
 unfold lock;rw[cx,e];cases t with
 |own =>
  simp only[Option.map_some];by_cases h:R.contains i=true
  ·exact⟨.lk,by rw[if_pos h],rfl,rfl⟩
  ·exact⟨.own,by rw[if_neg h],rfl,rfl⟩
 |lk=>exact⟨.lk,rfl,rfl,rfl⟩
 |sh Q=>exact⟨.sh Q,rfl,rfl,rfl⟩
theorem fW {R:List Nat}{env:En}{i:Nat}{d:D}{t:Tg}(e:(lock R env)[i]? = some (some (d,t))):∃ t0,env[i]? = some (some (d,t0))∧bP t0=bP t∧bN i t0=bN i t:=by
 rcases mL e with ⟨h,_⟩ | ⟨rfl,_,h⟩
 ·exact⟨t,h,rfl,rfl⟩
 ·exact⟨.own,h,rfl,rfl⟩
theorem RE.locked (re:RE K P env σ H F) {R:List Nat}{G:List Addr}(hg:∀ a∈G,H a≠none) (hc:∀ a∈G,∀(i:Nat) (d:D) (t:Tg),env[i]? = some (some (d,t))→bP t=true→a∈F i→i∈R) :
  RE K (fun a=>P a∨a∈G) (lock R env) σ H F where
 len:=(pO R env).trans re.len
 val:=fun i d t e=>let ⟨t0,e0,_⟩:=fW e;re.val i d t0 e0
 emp:=fun i h=>re.emp i fun d t e=>by
  obtain⟨t',e',_⟩:=yD (R:=R) e;exact h d t' e'
 one:=fun i d t e o=>by
  obtain⟨t0,e0,o0,_⟩:=fW e;obtain⟨a,b,c⟩:=re.one i d t0 e0 (o0.trans o);refine⟨a,b,fun x hx j d' t' ej m=>?_⟩;obtain⟨t1,e1,_,s1⟩:=fW ej;rw[←s1];exact c x hx j d' t1 e1 m
 wr:=fun i d e a ha z=>by
  rcases mL e with ⟨h,hn⟩ | ⟨q,_⟩
  ·rcases z with z | z
   ·exact re.wr i d h a ha z
   ·exact hn rfl (hc a z i d .own h rfl ha)
  ·cases q
 pl:=fun a h=>h.elim (re.pl a) (hg a)
theorem m5 (R:List Nat) (env0 env:En):(unlock R env0 env).length=env.length:=by simp[unlock]
theorem jm {R:List Nat}{env0 env:En}{i:Nat}{d:D}{t:Tg}(e:(unlock R env0 env)[i]? = some (some (d,t))) :
  (env[i]? = some (some (d,t))∧(t = .lk→¬ (i∈R∧∃ d0,env0[i]? = some (some (d0,.own)))))∨(t = .own∧i∈R∧env[i]? = some (some (d,.lk))∧∃ d0,env0[i]? = some (some (d0,.own))):=by
 unfold unlock at e;rw[cx] at e;cases q:env[i]? with
 |none=>rw[q] at e;cases e
 |some s =>
  rw[q] at e;cases s with
  |none=>cases e
  |some p =>
   obtain⟨a,b⟩:=p;simp only[Option.map_some,Option.some.injEq] at e;cases b with
   |own=>cases e;exact .inl ⟨rfl,fun z=>by cases z⟩
   |sh Q=>cases e;exact .inl ⟨rfl,fun z=>by cases z⟩
   |lk =>
    simp only at e;split at e
    ·rename_i d0 q0;by_cases h:R.contains i=true
     ·rw[if_pos h] at e;cases e;exact .inr ⟨rfl,by simpa using h,rfl,d0,q0⟩
     ·rw[if_neg h] at e;cases e;exact .inl ⟨rfl,fun _ z=>h (by simpa using z.1)⟩
    ·rename_i nq;cases e;exact .inl ⟨rfl,fun _ ⟨_,d0,q0⟩=>nq d0 q0⟩
theorem gi {R:List Nat}{env0 env:En}{i:Nat}{d:D}{t:Tg}(e:(unlock R env0 env)[i]? = some (some (d,t))):∃ t0,env[i]? = some (some (d,t0))∧bP t0=bP t∧bN i t0=bN i t:=by
 rcases jm e with ⟨h,_⟩ | ⟨rfl,_,h,_⟩
 ·exact⟨t,h,rfl,rfl⟩
 ·exact⟨.lk,h,rfl,rfl⟩
theorem sD {R:List Nat}{env0 env:En}{i:Nat}{d:D}{t:Tg}(e:env[i]? = some (some (d,t))):∃ t',(unlock R env0 env)[i]? = some (some (d,t')):=by
 unfold unlock;rw[cx,e];cases t with
 |own=>exact⟨.own,rfl⟩
 |sh Q=>exact⟨.sh Q,rfl⟩
 |lk =>
  simp only[Option.map_some];split
  ·by_cases h:R.contains i=true
   ·exact⟨.own,by rw[if_pos h]⟩
   ·exact⟨.lk,by rw[if_neg h]⟩
  ·exact⟨.lk,rfl⟩
theorem After.unlocked {R:List Nat}{G:List Addr}{env':En}{σ':L2.St}{H':Hp}{F':Nat→List Addr}(re:RE K P env σ H F) (a:After K (fun a=>P a∨a∈G) Z (lock R env) F H env' σ' H' F'):After K P Z env F H (unlock R env env') σ' H' F' where
 re:={
  len:=(m5 R env env').trans a.re.len
  val:=fun i d t e=>let ⟨t0,e0,_⟩:=gi e;a.re.val i d t0 e0
  emp:=fun i h=>a.re.emp i fun d t e=>by
   obtain⟨t',e'⟩:=sD (R:=R) (env0:=env) e;exact h d t' e'
  one:=fun i d t e o=>by
   obtain⟨t0,e0,o0,_⟩:=gi e;obtain⟨x,y,c⟩:=a.re.one i d t0 e0 (o0.trans o);refine⟨x,y,fun z hz j d' t' ej m=>?_⟩;obtain⟨t1,e1,_,s1⟩:=gi ej;rw[←s1];exact c z hz j d' t1 e1 m
  wr:=fun i d e b hb z=>by
   rcases jm e with ⟨h,_⟩ | ⟨_,hR,h,d0,h0⟩
   ·exact a.re.wr i d h b hb (.inl z)
   ·obtain⟨h1,h2⟩:=a.lk i d h;rw[h2] at hb;exact re.wr i d0 h0 b hb z
  pl:=fun b h=>a.re.pl b (.inl h) }
 z:=a.z
 ev:=a.ev.weak fun _ h=>.inl h
 lk:=fun i d e=>by
  rcases jm e with ⟨h,hn⟩ | ⟨q,_⟩
  ·obtain⟨h1,h2⟩:=a.lk i d h;rcases mL h1 with ⟨h3,_⟩ | ⟨_,hR,h3⟩
   ·exact⟨h3,h2⟩
   ·exact absurd ⟨hR,d,h3⟩ (hn rfl)
  ·cases q
end
end Pc
end
section
namespace Pc
open PySem L2
section
variable {K:Frag}{P Z:Addr→Prop}{env:En}{σ:L2.St}{H:Hp}{F:Nat→List Addr}
theorem cN {x:Nat}{d:D}(h:ownAt env x=some d):env[x]? = some (some (d,.own)):=by
 unfold ownAt at h;split at h
 ·rename_i d' q;cases h;exact q
 ·cases h
theorem gO (re:RE K P env σ H F) {x:Nat}{d:D}{path:Option Int}{xs:List D}{v:V}(hx:ownAt env x=some d) (hv:σ[x]? = some (some v)) (h:d.at1 path=some xs) :
  ∃ p,PV K H v path p∧∀ H',aO H H'→∃ ws Gx,H' p=some (.lst ws)∧aM K H' xs ws Gx∧p∈F x∧(∀ a∈Gx,a∈F x)∧Gx.Nodup∧p∉Gx ∧
   ∀ ys us Gy,aM K (upd H' p (.lst us)) ys us Gy→Gy.Nodup→p∉Gy→(∀ a∈Gy,a∈Gx∨a∉F x)→∃ G',Rep K (upd H' p (.lst us)) (d.set1 path ys) v G'∧G'.Nodup∧∀ a∈G',a∈F x∨a∈Gy:=by
 have hx':=cN hx;obtain⟨u,e,rp⟩:=re.val x d .own hx';rw[hv] at e;cases e;obtain⟨a,b,_⟩:=re.one x d .own hx' rfl;obtain⟨p,pv,f⟩:=vP rp a h;exact⟨p,pv,fun H' e=>f H' e fun y hy=>let ⟨ws,q⟩:=b y hy;⟨ws,e _ _ q⟩⟩
theorem nR {D:Ends}{x:Nat}{d:Pc.D}{path:Option Int}{ys:List Pc.D}{rs:List Rt}(h:post K P Z env F H D (eC x path env d ys rs)):ys.length≤lim:=by
 unfold eC at h;cases hR:dJ rs with
 |none=>rw[hR] at h;exact h.elim
 |some R =>
  rw[hR] at h;simp only at h;by_cases hc:(decide R.Nodup&&bZ env R && !R.contains x&&decide (ys.length≤lim))=true
  ·simp only[Bool.and_eq_true,decide_eq_true_eq] at hc;exact hc.2
  ·rw[if_neg hc] at h;exact h.elim
theorem jK {H1:Hp}{D:Ends}{x:Nat}{d:Pc.D}{path:Option Int}{ys:List Pc.D}{rs:List Rt}{v:V}{p:Addr}{us:List V}{N:List Addr}
  (re:RE K P env σ H F) (hz:∀ i,∀ a∈F i,Z a) (zp:∀ a,¬ P a→Z a) (e:aO H H1) (hx:ownAt env x=some d) (hv:σ[x]? = some (some v)) (hp:p∈F x)
  (hN:∀ R,dJ rs=some R→R.Nodup→N.Nodup∧(∀ a∈N,∃ vs:ML,H1 a=some vs.o)∧∀ a∈N,H a=none∨∃ i d t,i∈R∧a∈F i∧env[i]? = some (some (d,t))∧bP t=true)
  (hset:(∀ a∈N,a∉F x)→N.Nodup→∃ G',Rep K (upd H1 p (.lst us)) (d.set1 path ys) v G'∧G'.Nodup∧∀ a∈G',a∈F x∨a∈N)
  (h:post K P Z env F H D (eC x path env d ys rs)):D.nx σ (upd H1 p (.lst us)):=by
 unfold eC at h;cases hR:dJ rs with
 |none=>rw[hR] at h;exact h.elim
 |some R =>
  rw[hR] at h;simp only at h;by_cases hc:(decide R.Nodup&&bZ env R && !R.contains x&&decide (ys.length≤lim))=true
  ·rw[if_pos hc] at h;simp only[Bool.and_eq_true,decide_eq_true_eq,Bool.not_eq_true'] at hc;obtain⟨⟨⟨hc1,hc2⟩,hc3⟩,hc4⟩:=hc;have hxR:x∉R:=fun z=>by
    have:R.contains x=true:=by simpa using z
    rw[this] at hc3;cases hc3
   obtain⟨n1,n2,n3⟩:=hN R hR hc1;have hx':=cN hx;have ow:∀ k∈R,∃ d',env[k]? = some (some (d',.own)):=fun k hk=>by
    have:=cy.mp hc2 k hk;split at this
    ·rename_i d' q;exact⟨d',q⟩
    ·cases this
   have notx:∀ a∈N,a∉F x:=fun a ha m=>by
    rcases n3 a ha with q | ⟨i,d2,t2,hi,f,e2,o2⟩
    ·exact re.nn hx' m q
    ·have:=(re.one i d2 t2 e2 o2).2.2 a f x d .own hx' m;simp only[bN,List.mem_singleton] at this;subst this;exact hxR hi
   obtain⟨G',g1,g2,g3⟩:=hset notx n1;have re1:=re.same e;have pP:∀ a∈N,¬ P a:=fun a ha z=>by
    rcases n3 a ha with q | ⟨i,d2,t2,hi,f,e2,o2⟩
    ·exact re.pl a z q
    ·obtain⟨d3,e3⟩:=ow i hi;exact re.wr i d3 e3 a f z
   have re2:=re1.mutate (R:=R) (N:=N) hx' hv hp g1 g2 g3 fun a ha=>⟨n2 a ha,pP a ha,fun j dj tj ej m=>by
    rcases n3 a ha with q | ⟨i,d2,t2,hi,f,e2,o2⟩
    ·exact absurd q (re.nn ej m)
    ·exact⟨i,aa _ hi,(re.one i d2 t2 e2 o2).2.2 a f j dj tj ej m⟩⟩
   obtain⟨_,lsx,_⟩:=re1.one x d .own hx' rfl;obtain⟨ws,hpl⟩:=lsx p hp;have nPp:¬ P p:=re.wr x d hx' p hp;refine h σ _ _ ⟨re2,fun j a ha=>?_,(j7.of_same re.pl e).trans ⟨fun a z=>aP (fun q=>nPp (q ▸ z)),fun b xs r=>?_,jr hpl⟩,fun j dj ej=>?_⟩
   ·unfold ir at ha;split at ha
    ·rcases g3 a ha with q | q
     ·exact hz x a q
     ·exact zp a (pP a q)
    ·split at ha
     ·exact hz j a ha
     ·cases ha
   ·refine (aP (fun q=>?_)).trans r;subst q;rw[hpl] at r;cases ws<;>cases r
   ·by_cases hj:j=x
    ·subst hj;rw[ao (by rw[bT];exact (ak.mp hx').1)] at ej;cases ej
    ·rw[ai (Ne.symm hj)] at ej;refine⟨(bI ej).1,?_⟩;unfold ir;rw[if_neg hj,ej]
  ·rw[if_neg hc] at h;exact h.elim
end
end Pc
end
section
namespace Pc
open PySem PySem.Spec PyProof.Rows L2
theorem Rs.bind_ok {α β:Type}{x:Rs α}{f:α→Rs β}{b:β}(h:x.bind f = .ok b):∃ a,x = .ok a∧f a = .ok b:=by
 cases x with
 |ok a=>exact⟨a,rfl,h⟩
 |exc e=>cases h
 |bad=>cases h
theorem dI {α:Type}{o:Option α}{a:α}(h:fR o = .ok a):o=some a:=by
 cases o with
 |none=>cases h
 |some b=>cases h;rfl
theorem aO.new {H:Hp}{p:Addr}{o:HO}(h:H p=none):aO H (upd H p o):=fun b u e=>by
 rw[aP];exact e;intro z;subst z;rw[h] at e;cases e
theorem sf:lim≤sizeLine:=by decide
theorem jo {n:Nat}(h:n≤lim):n≤sizeLine:=cv h sf
inductive Args (K:Frag) (env:En) (F:Nat→List Addr):Hp→Hp→List (D×Rt)→List V→List Addr→Prop where
 | nil {H H':Hp}(e:aO H H'):Args K env F H H' [] [] []
 | cons {H H1 H':Hp}{p:D×Rt}{v:V}{G G':List Addr}{l:List (D×Rt)}{vs:List V}(e:aO H H1) (r:Rep K H1 p.1 v G) (t:bX env F H p.2 H1 G) (s:Args K env F H1 H' l vs G'):Args K env F H H' (p::l) (v::vs) (G++G')
section
variable {K:Frag}{env:En}{F:Nat→List Addr}
theorem Args.same:∀{H H':Hp}{l:List (D×Rt)}{vs:List V}{G:List Addr},Args K env F H H' l vs G→aO H H'
 |_,_,_,_,_,.nil e=>e
 |_,_,_,_,_,.cons e _ _ s=>e.trans s.same
theorem Args.reps:∀{H H':Hp}{l:List (D×Rt)}{vs:List V}{G:List Addr},Args K env F H H' l vs G→aM K H' (l.map (·.1)) vs G
 |_,_,_,_,_,.nil _=>.nil
 |_,_,_,_,_,.cons _ r _ s=>.cons (r.same s.same) s.reps
theorem Args.cont:∀{H H':Hp}{l:List (D×Rt)}{vs:List V}{G:List Addr},Args K env F H H' l vs G→∀ a∈G,H a=none∨∃ i d t,a∈F i∧env[i]? = some (some (d,t))∧∀ q∈bN i t,q∈bD (l.map (·.2))
 |_,_,_,_,_,.nil _,a,h=>by cases h
 | _,_,_,_,_,.cons (p:=p) (l:=l) e r t s,a,h=>by
  have e1:bD ((p::l).map (·.2))=p.2.roots++bD (l.map (·.2)):=by simp[bD]
  rw[e1];rcases bo.mp h with h | h
  ·exact (t.cont a h).imp id fun ⟨i,d,t,x,y,z⟩=>⟨i,d,t,x,y,fun q hq=>bf _ (z q hq)⟩
  ·exact (s.cont a h).imp (aO.no e) fun ⟨i,d,t,x,y,z⟩=>⟨i,d,t,x,y,fun q hq=>aq _ (z q hq)⟩
theorem Args.two {H H':Hp}{p q:D×Rt}{x y:V}{G:List Addr}(ar:Args K env F H H' [p,q] [x,y] G) :
  ∃ H1 G1 G2,G=G1++G2∧aO H H1∧Rep K H1 p.1 x G1∧bX env F H p.2 H1 G1∧aO H1 H'∧Rep K H' q.1 y G2:=by
 cases ar with
 |cons e r t s =>
  cases s with
  |cons e' r' t' s' =>
   cases s' with
   |nil e''=>exact⟨_,_,_,by rw[cg],e,r,t,e'.trans e'',r'.same e''⟩
theorem Args.mv {P:Addr→Prop}{σ:L2.St}:∀{H H':Hp}{l:List (D×Rt)}{vs:List V}{G:List Addr}{R:List Nat},RE K P env σ H F→Args K env F H H' l vs G→dJ (l.map (·.2))=some R→R.Nodup →
  G.Nodup∧(∀ a∈G,∃ vs:ML,H' a=some vs.o)∧∀ a∈G,H a=none∨∃ i d t,i∈R∧a∈F i∧env[i]? = some (some (d,t))∧bP t=true
 |_,_,_,_,_,_,_,.nil _,_,_=>⟨c7,fun _ h=>(nomatch h),fun _ h=>(nomatch h)⟩
 | H,_,_,_,_,_,re,.cons (p:=p) (l:=l) (G:=G) (G':=G') e r t s,hm,nd=>by
  obtain⟨d,rt⟩:=p;cases rt with
  |sh Q=>simp[dJ] at hm
  |mv R1 =>
   simp only[List.map_cons,dJ,Option.map_eq_some_iff] at hm;obtain⟨R2,h2,rfl⟩:=hm;obtain⟨n1,n2,n12⟩:=bt.mp nd;obtain⟨a1,b1,c1⟩:=t.mv R1 rfl;obtain⟨a2,b2,c2⟩:=Args.mv (re.same e) s h2 n2;refine⟨bt.mpr ⟨a1,a2,fun x hx y hy z=>?_⟩,fun x hx=>?_,fun x hx=>?_⟩
   ·subst z;rcases c2 x hy with q | ⟨i2,d2,t2,m2,f2,e2,o2⟩
    ·exact r.nn hx q
    ·rcases c1 x hx with q | ⟨i1,d1,t1,m1,f1,e1,o1⟩
     ·obtain⟨v,_,rp⟩:=re.val i2 d2 t2 e2;exact rp.nn f2 q
     ·have q:=(re.one i1 d1 t1 e1 o1).2.2 x f1 i2 d2 t2 e2 f2;have q':i1=i2:=by cases t2<;>simp_all [bN,bP]
      exact n12 i1 m1 i2 m2 q'
   ·rcases bo.mp hx with hx | hx
    ·obtain⟨vs,q⟩:=b1 x hx;exact⟨vs,s.same _ _ q⟩
    ·exact b2 x hx
   ·rcases bo.mp hx with hx | hx
    ·exact (c1 x hx).imp id fun ⟨i,d,t,m,z⟩=>⟨i,d,t,bf _ m,z⟩
    ·exact (c2 x hx).imp (aO.no e) fun ⟨i,d,t,m,z⟩=>⟨i,d,t,aq _ m,z⟩
theorem Args.comb {P:Addr→Prop}{σ:L2.St}{H H':Hp}{l:List (D×Rt)}{vs:List V}{G:List Addr}(re:RE K P env σ H F) (ar:Args K env F H H' l vs G):bX env F H (iC (l.map (·.2))) H' G:=by
 unfold iC;cases hm:dJ (l.map (·.2)) with
 |none=>exact⟨ar.cont,fun R e=>by cases e⟩
 |some R =>
  have er:∀(l:List Rt) (R:List Nat),dJ l=some R→bD l=R:=by
   intro l
   induction l with
   |nil=>intro R h;simp[dJ] at h;subst h;rfl
   |cons x r ih =>
    intro R h;cases x with
    |sh Q=>simp[dJ] at h
    |mv Q =>
     simp only[dJ,Option.map_eq_some_iff] at h;obtain⟨R2,h2,rfl⟩:=h;have:=ih R2 h2;simp only[bD,List.map_cons,List.flatten_cons,Rt.roots] at this ⊢;rw[this]
  have er:=er _ R hm;by_cases nd:R.Nodup
  ·simp only[nd,if_true];obtain⟨a,b,c⟩:=ar.mv re hm nd;refine⟨fun x hx=>?_,fun R' e=>by cases e;exact⟨a,b,c⟩⟩;rcases c x hx with q | ⟨i,d,t,m,f,e,o⟩
   ·exact .inl q
   ·exact .inr ⟨i,d,t,f,e,fun q hq=>by cases t<;>simp_all [bN,bP,Rt.roots]⟩
  ·simp only[nd,if_false];exact⟨fun x hx=>by have:=ar.cont x hx;rw[er] at this;exact this,fun R' e=>by cases e⟩
end
structure i4 (H H':Hp) (G0:List Addr) (d:D) (G:List Addr):Prop where
 same:aO H H'
 sub:∀ a∈G,H a=none∨a∈G0
 new:d.inner=true→G.Nodup∧∀ a∈G,H a=none∧∃ vs:ML,H' a=some vs.o
section
variable {K:Frag}{H:Hp}{G0:List Addr}
theorem i4.nil {d:D}:i4 H H G0 d []:=⟨aO.refl _,fun _ h=>(nomatch h),fun _=>⟨c7,fun _ h=>(nomatch h)⟩⟩
theorem g9 {ds:List D}{vs:List V}{G:List Addr}{p:Addr}(r:aM K H ds vs G) (hs:∀ a∈G,a∈G0) (hp:H p=none) :
  Rep K (upd H p (.lst vs)) (.lst ds) (.ref p) (p::G)∧i4 H (upd H p (.lst vs)) G0 (.lst ds) (p::G):=by
 have e:=aO.new (o:=.lst vs) hp;refine⟨.lst (.inl aW) (r.same e),e,fun a ha=>?_,fun f=>?_⟩
 ·rcases az.mp ha with rfl | ha
  ·exact .inl hp
  ·exact .inr (hs a ha)
 ·have:G=[]:=r.flat f;subst this;exact⟨by simp,fun a ha=>by
   have:a=p:=by simpa using ha
   subst this;exact⟨hp,.l _,aW⟩⟩
theorem Ep {ds:List D}{vs:List V}{G:List Addr}{p:Addr}(r:aM K H ds vs G) (hs:∀ a∈G,a∈G0) (hp:H p=none) :
  Rep K (upd H p (.tup vs)) (.tup ds) (.ref p) G∧i4 H (upd H p (.tup vs)) G0 (.tup ds) G:=by
 have e:=aO.new (o:=.tup vs) hp;refine⟨.tup (.inl aW) (r.same e),e,fun a ha=>.inr (hs a ha),fun f=>?_⟩;have:G=[]:=r.flat f;subst this;exact⟨by simp,fun a ha=>(nomatch ha)⟩
theorem bX.new {env:En}{F:Nat→List Addr}{H1 H':Hp}{l:List (D×Rt)}{vs:List V}{G:List Addr}{d:D}{R:List Nat}(ar:Args K env F H H1 l vs G0) (nv:i4 H1 H' G0 d G) (hR:∀ q∈bD (l.map (·.2)),q∈R):bX env F H (ik d R) H' G:=by
 unfold ik;cases hi:d.inner with
 |true =>
  obtain⟨a,b⟩:=nv.new hi;have c:∀ x∈G,H x=none:=fun x hx=>aO.no ar.same (b x hx).1
  exact⟨fun x hx=>.inl (c x hx),fun R' e=>⟨a,fun x hx=>(b x hx).2,fun x hx=>.inl (c x hx)⟩⟩
 |false =>
  refine⟨fun x hx=>?_,fun R' e=>by cases e⟩;rcases nv.sub x hx with q | q
  ·exact .inl (aO.no ar.same q)
  ·exact (ar.cont x q).imp id fun ⟨i,d,t,f,e,z⟩=>⟨i,d,t,f,e,fun q hq=>hR q (z q hq)⟩
end
section
variable {X:Cx}
theorem bV {e:Expr}{t t':TE}(h:PE X e t) (k:∀ σ H Q,t' σ H Q→t σ H Q):PE X e t':=fun pins s σ H Q I q=>h pins s σ H Q I (k σ H Q q)
theorem rT {e:Expr}{t t':TT}(h:PT X e t) (k:∀ σ H Q,t' σ H Q→t σ H Q):PT X e t':=fun pins s σ H Q I q=>h pins s σ H Q I (k σ H Q q)
theorem xQ {e:List Expr}{t t':TA}(h:PA X e t) (k:∀ σ H Q,t' σ H Q→t σ H Q):PA X e t':=fun pos pins s σ H Q I q=>h pos pins s σ H Q I (k σ H Q q)
theorem cO {e:Stmt}{t t':TS}(h:PS X e t) (k:∀ D σ H,t' D σ H→t D σ H):PS X e t':=fun pins s σ H D I q=>h pins s σ H D I (k D σ H q)
theorem tD {e:List Stmt}{t t':TS}(h:mT X e t) (k:∀ D σ H,t' D σ H→t D σ H):mT X e t':=fun pins s σ H D I q=>h pins s σ H D I (k D σ H q)
end
noncomputable def tE (K:Frag) (T:Tb) (c:Ex):TE:=fun σ H Q=>∃ P env F,RE K P env σ H F∧∃ p,ev T c env = .ok p∧∀ v H' G,aO H H'→Rep K H' p.1 v G→bX env F H p.2 H' G→Q v H'
noncomputable def uw (K:Frag) (T:Tb) (cs:la):TA:=fun σ H Q=>∃ P env F,RE K P env σ H F∧∃ l,bM T cs env = .ok l∧∀ vs H' G,Args K env F H H' l vs G→Q vs H'
noncomputable def m7 (K:Frag) (T:Tb) (c:Ex):TT:=fun σ H Q=>∃ P env F,RE K P env σ H F∧∃ p b,ev T c env = .ok p∧truth p.1=some b∧∀ H',aO H H'→Q b H'
section
variable {K:Frag}{T:Tb}{P:Addr→Prop}{env:En}{F:Nat→List Addr}{σ:L2.St}{H:Hp}
theorem two {ca cb:Ex}{r:R2}{Q:VK}{p q:D×Rt}(re:RE K P env σ H F) (h1:ev T ca env = .ok p) (h2:ev T cb env = .ok q) (k:∀ x y H2 G,Args K env F H H2 [p,q] [x,y] G→r x y H2 Q):FW r (tE K T ca) (tE K T cb) σ H Q :=
 ⟨P,env,F,re,p,h1,fun v1 H1 G1 s1 rp1 rt1=>⟨P,env,F,re.same s1,q,h2,fun v2 H2 G2 s2 rp2 rt2=>k v1 v2 H2 _ (.cons s1 rp1 rt1 (.cons s2 rp2 rt2 (.nil (aO.refl _))))⟩⟩
end
noncomputable def AK (K:Frag) (f:D→D→Option D):R2:=fun x y H Q=>∃ d1 d2 d G,aM K H [d1,d2] [x,y] G∧f d1 d2=some d∧∀ v H' G',Rep K H' d v G'→i4 H H' G d G'→Q v H'
noncomputable def Ff (K:Frag):R2:=fun x y H Q=>∃ d1 d2 d G,aM K H [d1,d2] [x,y] G∧Br d1 d2=some d∧∀ v G',Rep K H d v G'→G'.Sublist G→Q v H
section
variable {X:Cx}{T:Tb}{a b c:Expr}{ca cb cc:Ex}{pos:Pos}
theorem Dr {op:Operator}(ho:jx X (binaryOp op) (AK X.K (kY op))) (ha:PE X a (tE X.K T ca)) (hb:PE X b (tE X.K T cb)):PE X (.BinOp a op b pos) (tE X.K T (.bin op ca cb)):=by
 refine bV (Gu ho ha hb) fun σ H Q ⟨P,env,F,re,p0,hev,k⟩=>?_
 unfold ev at hev;obtain⟨p,h1,hev⟩:=Rs.bind_ok hev;obtain⟨q,h2,hev⟩:=Rs.bind_ok hev;obtain⟨d,h3,hev⟩:=Rs.bind_ok hev;have h3:=dI h3;cases hev;refine two re h1 h2 fun x y H2 G ar=>⟨p.1,q.1,d,G,ar.reps,h3,fun v H' G' rp nv=>k v H' G' (ar.same.trans nv.same) rp (bX.new ar nv fun z hz=>by simpa[bD] using hz)⟩
theorem D5 {op:CmpOp}(ho:jx X (compareOp op) (AK X.K fun x y=>(iu op x y).map .bl)) (ha:PE X a (tE X.K T ca)) (hb:PE X b (tE X.K T cb)) (hm:behindInMarks op b=false):PE X (.Compare a [op] [b] pos) (tE X.K T (.cmp op ca cb)):=by
 refine bV (zw ho ha hb hm) fun σ H Q ⟨P,env,F,re,p0,hev,k⟩=>?_
 unfold ev at hev;obtain⟨p,h1,hev⟩:=Rs.bind_ok hev;obtain⟨q,h2,hev⟩:=Rs.bind_ok hev;obtain⟨d,h3,hev⟩:=Rs.bind_ok hev;have h3:=dI h3;cases hev;refine two re h1 h2 fun x y H2 G ar=>⟨p.1,q.1,.bl d,G,ar.reps,by simp[h3],fun v H' G' rp nv=>k v H' G' (ar.same.trans nv.same) rp ?_⟩
 have:G'=[]:=rp.flat rfl;subst this;exact bX.nil
theorem FA (ho:zv X (Ff X.K)) (ha:PE X a (tE X.K T ca)) (hb:PE X b (tE X.K T cb)) (hs:k7 b):PE X (.Subscript a b pos) (tE X.K T (.ix ca cb)):=by
 refine bV (Bs ho ha hb hs) fun σ H Q ⟨P,env,F,re,p0,hev,k⟩=>?_
 unfold ev at hev;obtain⟨p,h1,hev⟩:=Rs.bind_ok hev;obtain⟨q,h2,hev⟩:=Rs.bind_ok hev;obtain⟨d,h3,hev⟩:=Rs.bind_ok hev;have h3:=dI h3;cases hev;refine two re h1 h2 fun x y H2 G ar=>⟨p.1,q.1,d,G,ar.reps,h3,fun v G' rp sl=>k v H2 G' ar.same rp ?_⟩
 unfold rX;cases hf:d.flat with
 |true =>
  have:G'=[]:=rp.flat hf;subst this;exact bX.nil
 |false =>
  obtain⟨H1,g1,g2,e1,s1,_,rt1,s2,rp2⟩:=ar.two;have hq:q.1.flat=true:=by
   revert h3;cases p.1<;>cases q.1<;>simp[Br,D.flat]
  have rp2:=rp2.flat hq;have rp1:=rt1.later s2;subst rp2;rw[cg] at e1;subst e1;refine⟨fun z hz=>?_,fun R e=>by cases e⟩;exact rp1.cont z (sl.subset hz)
end
end Pc
end
section
namespace Pc
open PySem PySem.Spec PyProof.Rows L2
section
variable {K:Frag}{H:Hp}
theorem aM.inv2 {d e:D}{x y:V}{G:List Addr}(h:aM K H [d,e] [x,y] G):∃ G1 G2,Rep K H d x G1∧Rep K H e y G2∧G=G1++G2:=by
 cases h with
 |cons r s =>
  cases s with
  |cons r' s'=>cases s';exact⟨_,_,r,r',by rw[cg]⟩
theorem Rep.int_inv {i:Int}{v:V}{G:List Addr}(h:Rep K H (.int i) v G):v = .int i∧G=[]:=by cases h;exact⟨rfl,rfl⟩
theorem Rep.bl_inv {i:Bool}{v:V}{G:List Addr}(h:Rep K H (.bl i) v G):v = .bl i∧G=[]:=by cases h;exact⟨rfl,rfl⟩
theorem Rep.str_inv {i:Str}{v:V}{G:List Addr}(h:Rep K H (.str i) v G):v = .str i∧G=[]:=by cases h;exact⟨rfl,rfl⟩
theorem Rep.non_inv {v:V}{G:List Addr}(h:Rep K H .non v G):v = .non∧G=[]:=by cases h;exact⟨rfl,rfl⟩
theorem Rep.tup_inv {ds:List D}{v:V}{G:List Addr}(h:Rep K H (.tup ds) v G):∃ p vs,v = .ref p∧j6 K H p vs∧aM K H ds vs G:=by
 cases h with
 |tup a b=>exact⟨_,_,rfl,a.sq,b⟩
theorem Rep.tup_invT {ds:List D}{v:V}{G:List Addr}(h:Rep K H (.tup ds) v G):∃ p vs,v = .ref p∧kQ K H p vs∧aM K H ds vs G:=by
 cases h with
 |tup a b=>exact⟨_,_,rfl,a,b⟩
end
section
variable {X:Cx}
theorem Inv.lstR {pins:List (Addr×Obj)}{σ:L2.St}{H:Hp}{s:Shared}{l:Addr}{xs:List V}(I:Inv X pins σ H s) (hH:Rd H l (.lst xs)):xs.length≤sizeLine∧∃(its:List Value) (n:Nat),aQ xs its∧xs.length=its.length∧s.heap.get? l=some { cls:=.type "list",data:=.seq its.toArray n }:=by
 obtain⟨z,its,n,r,e⟩:=hH.ok I.hok;exact⟨z,its,n,r,r.length,e⟩
noncomputable def Fw:R2:=fun x y H Q=>∃ l b xs zs,x = .ref l∧y = .ref b∧Rd H l (.lst xs)∧Rd H b (.lst zs)∧xs.length+zs.length≤sizeLine∧∀ p,H p=none→Q (.ref p) (upd H p (.lst (xs++zs)))
theorem AS:jx X (binaryOp .Add) Fw:=by
 intro pins s σ H x y v u Q I rx ry h;obtain⟨l,b,xs,zs,rfl,rfl,hH,hB,hz,q⟩:=h;cases rx;cases ry;obtain⟨z,its,n,r,hl,e⟩:=Inv.lstR I hH;obtain⟨z2,its2,n2,r2,hl2,e2⟩:=Inv.lstR I hB;refine PySem.P.add_list e e2 ?_ (by rw[bh,bh];omega);have ea:its.toArray++its2.toArray=(its++its2).toArray:=by simp
 rw[ea];exact⟨.ref _,_,I.lnew (t':=s.toks) (r.append r2) (by rw[bw];omega),rfl,q _ I.fresh⟩
noncomputable def Ge:R2:=fun x y H Q=>∃ l k xs,x = .ref l∧y = .int k∧Rd H l (.lst xs)∧-(2 ^ 63)≤k∧k<2 ^ 63∧xs.length*k.toNat≤sizeLine ∧
 ∀ p,H p=none→Q (.ref p) (upd H p (.lst (List.replicate k.toNat xs).flatten))
theorem zY:jx X (binaryOp .Mult) Ge:=by
 intro pins s σ H x y v u Q I rx ry h;obtain⟨l,k,xs,rfl,rfl,hH,h1,h2,hz,q⟩:=h;cases rx;obtain⟨t,rfl⟩:=ry;obtain⟨z,its,n,r,hl,e⟩:=Inv.lstR I hH;have hlen:its.toArray.size*k.toNat≤sizeLine:=by rw[bh,←hl];exact hz
 have hcap:¬ its.toArray.size*k.toNat > (2 ^ 63 - 1) / 8:=by
  have:(sizeLine:Nat)≤(2 ^ 63 - 1) / 8:=by decide
  omega
 have hfit:¬ (!Builtin.List.listFitsIndex k)=true:=by
  rw[fitsIndex_both h1 h2];exact bj
 have hlong:¬ Builtin.List.listTooLong (its.toArray.size*k.toNat)=true:=by
  rw[xn hlen];exact bj
 have hnew:List.foldl (fun x1 x2=>x1++x2) #[] (List.replicate (if its.toArray.isEmpty=true then 0 else k.toNat) its.toArray)=(List.replicate k.toNat its).flatten.toArray:=by
  have f0:∀ m:Nat,List.foldl (fun x1 x2=>x1++x2) #[] (List.replicate m its.toArray)=(List.replicate m its).flatten.toArray:=fun m=>by
   have:=foldl_rep its m [];rw[List.nil_append] at this;exact this
  rw[f0];cases its with
  |nil=>simp
  |cons a r'=>rw[if_neg (by simp)]
 refine wpAny_binaryOp_repeat_ref (T:="list") (U:="int") (by decide) ⟨_,e,rfl⟩ (fun s'=>typeIs_int s' k t) noFill_list_mul F.fills_int_mul F.slot_int_rmul repeat_list F.slot_int_index.lookup
  (call_meets F.slot_int_rmul (typeIs_int s k t) F.entry_int_rmul (F.args_int_rmul_2 _ _) (int___rmul___int_list k t l its.toArray n)
   ⟨e,rfl,⟨_,e,rfl⟩,call_meets F.slot_list_mul ⟨_,e,rfl⟩ F.entry_list_mul (F.args_list_mul_2 _ _) (AutoListH.list___mul___list_int_3 l its.toArray n k t hfit hcap hlong) ⟨e,?_⟩⟩)
 rw[hnew];exact⟨.ref _,_,I.lnew (t':=s.toks) (r.rep k.toNat) (by rw[len_rep,Nat.mul_comm];exact hz),rfl,q _ I.fresh⟩
theorem aM.rep {K:Frag}{H:Hp}{ds:List D}{vs:List V}(h:aM K H ds vs []):∀ n:Nat,aM K H (List.replicate n ds).flatten (List.replicate n vs).flatten []
 |0=>.nil
 | n+1=>by
  rw[df,df,fe,fe];exact h.append (h.rep n)
theorem tY {n:Nat}{d e:D}(h:ck n d=some e):n≤lim∧e=d:=by
 unfold ck at h;split at h
 ·cases h;exact⟨‹_›,rfl⟩
 ·cases h
theorem nO {i:Int}:small i=true↔(-(2 ^ 64)<i∧i<2 ^ 64):=by unfold small;exact decide_eq_true_iff
theorem Bb {op:Operator}{i j k:Int}(h:binI op i j=some k):jx X (binaryOp op) (fun x y H Q=>x = .int i∧y = .int j∧Q (.int k) H):=by
 intro pins s σ H x y v u Q I rx ry q;obtain⟨rfl,rfl,q⟩:=q;cases op with
 |Add=>cases h;exact Ce pins s σ H _ _ v u Q I rx ry ⟨i,j,rfl,rfl,q⟩
 |Sub=>cases h;exact Dl pins s σ H _ _ v u Q I rx ry ⟨i,j,rfl,rfl,q⟩
 |Mult =>
  simp only[binI] at h;by_cases hc:(small i || small j)=true
  ·rw[if_pos hc] at h;cases h;refine DJ pins s σ H _ _ v u Q I rx ry ⟨i,j,rfl,rfl,?_,q⟩;rw[Bool.or_eq_true,nO,nO] at hc;exact hc
  ·rw[if_neg hc] at h;cases h
 |FloorDiv =>
  simp only[binI] at h;by_cases hc:0<j∧j<1073741824
  ·rw[if_pos hc] at h;cases h;exact Bl pins s σ H _ _ v u Q I rx ry ⟨i,j,rfl,rfl,hc,q⟩
  ·rw[if_neg hc] at h;cases h
 |Mod =>
  simp only[binI] at h;by_cases hc:0<j
  ·rw[if_pos hc] at h;cases h;exact Ew pins s σ H _ _ v u Q I rx ry ⟨i,j,rfl,rfl,hc,q⟩
  ·rw[if_neg hc] at h;cases h
 |Pow =>
  simp only[binI] at h;by_cases hc:0≤j∧j≤1000000∧i.natAbs<2 ^ 64
  ·rw[if_pos hc] at h;cases h;exact DX pins s σ H _ _ v u Q I rx ry ⟨i,j,rfl,rfl,hc,q⟩
  ·rw[if_neg hc] at h;cases h
 |LShift =>
  simp only[binI] at h;by_cases hc:0≤j∧j≤1000000∧i.natAbs<2 ^ 64
  ·rw[if_pos hc] at h;cases h;exact Ck pins s σ H _ _ v u Q I rx ry ⟨i,j,rfl,rfl,hc,q⟩
  ·rw[if_neg hc] at h;cases h
 |RShift =>
  simp only[binI] at h;by_cases hc:0≤j
  ·rw[if_pos hc] at h;cases h;exact Cv pins s σ H _ _ v u Q I rx ry ⟨i,j,rfl,rfl,hc,q⟩
  ·rw[if_neg hc] at h;cases h
 |BitAnd=>cases h;exact Dd pins s σ H _ _ v u Q I rx ry ⟨i,j,rfl,rfl,q⟩
 |BitOr=>cases h;exact EM pins s σ H _ _ v u Q I rx ry ⟨i,j,rfl,rfl,q⟩
 |BitXor=>cases h;exact B5 pins s σ H _ _ v u Q I rx ry ⟨i,j,rfl,rfl,q⟩
 |_=>cases h
theorem zB (op:Operator):jx X (binaryOp op) (AK X.K (kY op)):=by
 intro pins s σ H x y v u Q I rx ry h;obtain⟨d1,d2,d,G,rs,hd,k⟩:=h;obtain⟨G1,G2,r1,r2,rfl⟩:=rs.inv2;cases d1 with
 |int i =>
  cases d2 with
  |int j =>
   obtain⟨rfl,rfl⟩:=r1.int_inv;obtain⟨rfl,rfl⟩:=r2.int_inv;have:kY op (.int i) (.int j)=(binI op i j).map .int:=rfl;rw[this,ab] at hd;obtain⟨z,hz,rfl⟩:=hd;exact Bb hz pins s σ H _ _ v u Q I rx ry ⟨rfl,rfl,k _ H [] (.int z) i4.nil⟩
  |_=>cases hd
 |lst a =>
  obtain⟨p,vs,G',rfl,rfl,h1,h2⟩:=r1.lst_inv;cases d2 with
  |lst b =>
   cases op with
   |Add =>
    obtain⟨hl,rfl⟩:=tY hd;obtain⟨p',vs',G'',rfl,rfl,h1',h2'⟩:=r2.lst_inv;refine AS pins s σ H _ _ v u Q I rx ry ⟨p,p',vs,vs',rfl,rfl,h1,h1',by rw[←h2.len,←h2'.len];exact jo hl,fun q hq=>?_⟩;obtain⟨n1,n2⟩:=g9 (G0:=p::G'++p'::G'') (h2.append h2') (fun a ha=>by simp at ha ⊢;rcases ha with ha | ha<;>simp[ha]) hq;exact k _ _ _ n1 n2
   |_=>cases hd
  |int n =>
   cases op with
   |Mult =>
    have hd:(if -(2 ^ 63)≤n∧n<2 ^ 63 then (if D.flats a then ck (a.length*n.toNat) (.lst (List.replicate n.toNat a).flatten) else none) else none)=some d:=hd;by_cases hc : -(2 ^ 63)≤n∧n<2 ^ 63
    ·rw[if_pos hc] at hd;by_cases hf:D.flats a=true
     ·rw[if_pos hf] at hd;obtain⟨hl,rfl⟩:=tY hd;obtain⟨rfl,rfl⟩:=r2.int_inv;have eG:G'=[]:=h2.flat hf;subst eG;refine zY pins s σ H _ _ v u Q I rx ry ⟨p,n,vs,rfl,rfl,h1,hc.1,hc.2,by rw[←h2.len];exact jo hl,fun q hq=>?_⟩;obtain⟨n1,n2⟩:=g9 (G0:=[p] ++ []) (h2.rep n.toNat) (fun a ha=>(nomatch ha)) hq;exact k _ _ _ n1 n2
     ·rw[if_neg hf] at hd;cases hd
    ·rw[if_neg hc] at hd;cases hd
   |_=>cases hd
  |_=>cases hd
 |_=>cases hd
open SeqAt in
theorem iM {f:D→D→Option Bool}:∀{xs ys:List D}{b:Bool},va f xs ys=some b→xs.length=ys.length∧∃ e:Nat→Bool,(∀ j x y,xs[j]? = some x→ys[j]? = some y→f x y=some (e j))∧b=(List.range xs.length).all e
 |[],[],b,h=>by cases h;exact⟨rfl,fun _=>true,fun j x y hx=>by simp at hx,rfl⟩
 | x::xs,y::ys,b,h=>by
  simp only[va,Option.bind_eq_some_iff,Option.map_eq_some_iff] at h;obtain⟨a,h1,c,h2,rfl⟩:=h;obtain⟨hl,e,he,rfl⟩:=iM h2;refine⟨by simp[hl],fun j=>match j with | 0=>a | j+1=>e j,fun j x' y' hx hy=>?_,?_⟩
  ·cases j with
   |zero=>simp at hx hy;subst hx;subst hy;exact h1
   |succ j=>exact he j x' y' (by simpa using hx) (by simpa using hy)
  ·rw[du,List.range_succ_eq_map,dz,List.all_map];rfl
 |[],_::_,b,h=>by cases h
 |_::_,[],b,h=>by cases h
theorem jY:∀(n:Nat) (d:D) (b:Bool),D.eqf n d d=some b→b=true
 |0,_,_,h=>by cases h
 |n+1,.non,b,h=>by cases h;rfl
 |n+1,.bl x,b,h=>by simp[D.eqf] at h;exact h
 |n+1,.int x,b,h=>by simp[D.eqf] at h;exact h
 |n+1,.str x,b,h=>by simp[D.eqf] at h;exact h
 | n+1,.lst xs,b,h=>by
  simp only[D.eqf,if_true] at h;obtain⟨_,e,he,rfl⟩:=iM h;rw[cy];intro j hj;have hj:j<xs.length:=by simpa using hj
  exact jY n xs[j] _ (he j _ _ (by simp[hj]) (by simp[hj]))
 |n+1,.dct _,b,h=>by cases h
 |n+1,.mpi _,b,h=>by cases h
 |n+1,.mpt _,b,h=>by cases h
 |n+1,.mpz _,b,h=>by cases h
 | n+1,.tup xs,b,h=>by
  simp only[D.eqf,if_true] at h;obtain⟨_,e,he,rfl⟩:=iM h;rw[cy];intro j hj;have hj:j<xs.length:=by simpa using hj
  exact jY n xs[j] _ (he j _ _ (by simp[hj]) (by simp[hj]))
section
variable {pins:List (Addr×Obj)}{σ:L2.St}{H:Hp}{s:Shared}
theorem iP.inj:∀{es:List DictEntry}{kvs kvs':List (Key×Option Int)},iP es kvs→iP es kvs'→kvs=kvs'
 |_,_,_,.nil,h=>by cases h;rfl
 | _,_,_,.cons hh hk hv r,h=>by
  cases h with
  |cons hh' hk' hv' r' =>
   rw[hk] at hk';rw[hv] at hv';cases hk';cases hv';rw[iP.inj r r']
  |si hk' hv' r'=>rw[hk] at hk';cases hk'
  |sn hk' hv' r'=>rw[hk] at hk';cases hk'
 | _,_,_,.si hk hv r,h=>by
  cases h with
  |cons hh' hk' hv' r'=>rw[hk] at hk';cases hk'
  |si hk' hv' r' =>
   rw[hk] at hk';rw[hv] at hv';cases hk';cases hv';rw[iP.inj r r']
  |sn hk' hv' r'=>rw[hv] at hv';cases hv'
 | _,_,_,.sn hk hv r,h=>by
  cases h with
  |cons hh' hk' hv' r'=>rw[hk] at hk';cases hk'
  |si hk' hv' r'=>rw[hv] at hv';cases hv'
  |sn hk' hv' r' =>
   rw[hk] at hk';cases hk';rw[iP.inj r r']
theorem u3.inj {K:Frag}{a:Addr}{kvs kvs':List (Key×Option Int)}(h:u3 K a kvs) (h':u3 K a kvs'):kvs=kvs':=by
 obtain⟨o,es,ep,h1,h2,h3,h4,_⟩:=h;obtain⟨o',es',ep',h1',h2',h3',h4',_⟩:=h';rw[h1] at h1';cases h1';rw[h3] at h3';cases h3';exact h4.inj h4'
theorem k6 (I:L2.Inv X pins σ H s) {a:Addr}{kvs:List (Key×Option Int)}(h:u3 X.K a kvs):∃ o,s.heap.get? a=some o∧o.cls = .type "dict"∧o.ExactDict:=by
 obtain⟨o,es,ep,h1,h2,h3,h4,_⟩:=h;exact⟨o,I.kIn a o h1,h2.1,h2⟩
noncomputable def nf:HO→Bool
 |.frz _ _=>false
 |_=>true
noncomputable def nt:HO→Bool
 |.tup _=>false
 |_=>true
theorem fA {H:Hp}{a:Addr}{u u':HO}(h:Rd H a u) (h':Rd H a u') (hu:nf u=true:=by rfl) (hu':nf u'=true:=by rfl):u=u':=by
 rcases h with h | ⟨o,h⟩<;>rcases h' with h' | ⟨o',h'⟩<;>rw[h] at h'
 ·exact bz h'
 ·rw[bz h'] at hu;cases hu
 ·rw[←bz h'] at hu';cases hu'
 ·cases h';rfl
theorem mF (I:L2.Inv X pins σ H s) {a:Addr}{o:Obj}(h:X.K.lookup a=some o):H a=none:=(I.bs a o (I.ok.mod.kin a o h)).2
theorem uz:∀{a b:List Int},a.map (Sum.inl (β:=Str))=b.map Sum.inl→a=b
 |[],[],_=>rfl
 |[],_::_,h=>by cases h
 |_::_,[],h=>by cases h
 | x::a,y::b,h=>by
  have h:(Sum.inl x:Key)::a.map Sum.inl=Sum.inl y::b.map Sum.inl:=h;injection h with h1 h2
  injection h1 with h1
  rw[h1,uz h2]
theorem sL:∀{a b:List (List Int)},Es a=Es b→a=b
 |[],[],_=>rfl
 |[],_::_,h=>by cases h
 |_::_,[],h=>by cases h
 | x::a,y::b,h=>by
  have h:(x.map Sum.inl,V.bl true)::Es a=(y.map Sum.inl,V.bl true)::Es b:=h;injection h with h1 h2
  injection h1 with h1 _
  rw[uz h1,sL h2]
theorem j6.not_rd (I:L2.Inv X pins σ H s) {a:Addr}{vs:List V}{u:HO}(h:j6 X.K H a vs) (h':Rd H a u) (hu:nf u=true:=by rfl) (ht:nt u=true:=by rfl):False:=by
 rcases h with h | h
 ·rw[fA h' h hu] at ht;cases ht
 ·obtain⟨o,_,_,h1,_⟩:=h;exact Rd.ne_none h' (mF I h1)
theorem qJ:∀{a b:List Int},a.map V.int=b.map V.int→a=b
 |[],[],_=>rfl
 |[],_::_,h=>by cases h
 |_::_,[],h=>by cases h
 | x::a,y::b,h=>by
  injection h with h1 h2
  injection h1 with h1
  rw[h1,qJ h2]
theorem rf.inj (I:Inv X pins σ H s):∀{m m':MV}{v:V},rf X.K H m v→rf X.K H m' v→m=m'
 |.tr,.tr,_,_,_=>rfl
 |.int i,.int j,_,h,h'=>by cases h;cases h';rfl
 | .tup a,.tup b,_,⟨p,e,h⟩,⟨p',e',h'⟩=>by
  subst e;cases e';rw[qJ (I.tuple_inj h.sq h'.sq)]
 |.tr,.int _,_,h,h'=>by cases h;cases h'
 |.int _,.tr,_,h,h'=>by cases h;cases h'
 |.tr,.tup _,_,h,⟨_,e,_⟩=>by cases h;cases e
 |.tup _,.tr,_,⟨_,e,_⟩,h=>by cases h;cases e
 |.int _,.tup _,_,h,⟨_,e,_⟩=>by cases h;cases e
 |.tup _,.int _,_,⟨_,e,_⟩,h=>by cases h;cases e
theorem jc.inj (I:Inv X pins σ H s):∀{a b:List (Int×MV)}{xs:List (Key×V)},jc X.K H a xs→jc X.K H b xs→a=b
 |[],[],_,_,_=>rfl
 |[],_::_,[],_,h=>h.elim
 |_::_,[],[],h,_=>h.elim
 |[],_::_,_::_,h,_=>h.elim
 |_::_,[],_::_,_,h=>h.elim
 |_::_,_::_,[],h,_=>h.elim
 | (k,m)::a,(k',m')::b,x::xs,⟨h1,h2,h3⟩,⟨g1,g2,g3⟩=>by
  rw[h1] at g1;injection g1 with g1
  have g1:k=k':=g1;rw[g1,show m=m' from rf.inj I h2 g2,jc.inj I h3 g3]
theorem Rep.inj (I:Inv X pins σ H s) {d:D}{v:V}{G:List Addr}(h:Rep X.K H d v G):∀{e:D}{G':List Addr},Rep X.K H e v G'→d=e:=by
 refine Rep.rec (motive_1:=fun d v G _=>∀{e:D}{G':List Addr},Rep X.K H e v G'→d=e) (motive_2:=fun ds vs G _=>∀{es:List D}{G':List Addr},aM X.K H es vs G'→ds=es) ?non ?bl ?int ?str ?lst ?tup ?dct ?mpi ?mpt ?mpz ?nil ?cons h
 case non =>
  intro e' G' h;cases h;rfl
 case bl =>
  intro _ e' G' h;cases h;rfl
 case int =>
  intro _ e' G' h;cases h;rfl
 case str =>
  intro _ e' G' h;cases h;rfl
 case mpi =>
  intro p0 ks0 xs0 h r0 e' G' q;cases q with
  |mpi h' r'=>
   rw[h] at h';cases h';rw[jc.inj I r0 r']
  |mpz h' r'=>rw[h] at h';cases h'
  |mpt h'=>exact nomatch fA (.inl h) h'
  |lst h' _=>exact nomatch fA (.inl h) h'
  |tup h' _=>exact (j6.not_rd I h'.sq (.inl h)).elim
  |dct h' =>
   obtain⟨o,_,_,h1,_⟩:=h';exact absurd (mF I h1) (Rd.ne_none (.inl h))
 case mpz =>
  intro p0 ks0 xs0 o0 h r0 e' G' q;cases q with
  |mpz h' r'=>
   rw[h] at h';cases h';rw[jc.inj I r0 r']
  |mpi h' r'=>rw[h] at h';cases h'
  |mpt h'=>exact nomatch fA (.inr ⟨_,h⟩) h'
  |lst h' _=>exact nomatch fA (.inr ⟨_,h⟩) h'
  |tup h' _=>exact (j6.not_rd I h'.sq (.inr ⟨_,h⟩)).elim
  |dct h' =>
   obtain⟨o,_,_,h1,_⟩:=h';exact absurd (mF I h1) (Rd.ne_none (.inr ⟨_,h⟩))
 case mpt =>
  intro p0 ks0 h e' G' q;cases q with
  |mpt h'=>
   have:=fA h h';injection this with this
   rw[sL this]
  |mpi h' _=>exact nomatch fA h (.inl h')
  |mpz h' _=>exact nomatch fA h (.inr ⟨_,h'⟩)
  |lst h' _=>exact nomatch fA h h'
  |tup h' _=>exact (j6.not_rd I h'.sq h).elim
  |dct h' =>
   obtain⟨o,_,_,h1,_⟩:=h';exact absurd (mF I h1) (Rd.ne_none h)
 case lst =>
  intro p0 vs0 ds0 G0 h r ih e' G' q;cases q with
  |mpi h' _=>exact nomatch fA h (.inl h')
  |mpz h' _=>exact nomatch fA h (.inr ⟨_,h'⟩)
  |mpt h'=>exact nomatch fA h h'
  |lst h' r' =>
   have e:=I.list_inj (.inl h) (.inl h');subst e;rw[ih r']
  |dct h' =>
   obtain⟨its,_,pl,_⟩:=I.list (.inl h);obtain⟨o,ho,hc,_⟩:=pl.isList;obtain⟨o',ho',hc',_⟩:=k6 I h';rw[ho] at ho';cases ho';rw[hc] at hc';injection hc' with z;exact absurd z (by decide)
  |tup h' r' =>
   obtain⟨its,_,pl,_⟩:=I.list (.inl h);obtain⟨its',_,pt,_⟩:=I.tuple h'.sq;obtain⟨o,ho,hc,_⟩:=pl.isList;obtain⟨o',ho',hc',_⟩:=pt;rw[ho] at ho';cases ho';rw[hc] at hc';injection hc' with z;exact absurd z (by decide)
 case tup =>
  intro p0 vs0 ds0 G0 h r ih e' G' q;cases q with
  |mpi h' _=>exact (j6.not_rd I h.sq (.inl h')).elim
  |mpz h' _=>exact (j6.not_rd I h.sq (.inr ⟨_,h'⟩)).elim
  |mpt h'=>exact (j6.not_rd I h.sq h').elim
  |tup h' r' =>
   have e:=I.tuple_inj h.sq h'.sq;subst e;rw[ih r']
  |dct h' =>
   obtain⟨its',_,pt,_⟩:=I.tuple h.sq;obtain⟨o,ho,hc,_⟩:=pt;obtain⟨o',ho',hc',_⟩:=k6 I h';rw[ho] at ho';cases ho';rw[hc] at hc';injection hc' with z;exact absurd z (by decide)
  |lst h' r' =>
   obtain⟨its,_,pl,_⟩:=I.list (.inl h');obtain⟨its',_,pt,_⟩:=I.tuple h.sq;obtain⟨o,ho,hc,_⟩:=pl.isList;obtain⟨o',ho',hc',_⟩:=pt;rw[ho] at ho';cases ho';rw[hc] at hc';injection hc' with z;exact absurd z (by decide)
 case dct =>
  intro p0 ks0 h e' G' q;cases q with
  |mpi h' _ =>
   obtain⟨o,_,_,h1,_⟩:=h;exact absurd (mF I h1) (Rd.ne_none (.inl h'))
  |mpz h' _ =>
   obtain⟨o,_,_,h1,_⟩:=h;exact absurd (mF I h1) (Rd.ne_none (.inr ⟨_,h'⟩))
  |mpt h' =>
   obtain⟨o,_,_,h1,_⟩:=h;exact absurd (mF I h1) (Rd.ne_none h')
  |dct h'=>rw[u3.inj h h']
  |lst h' r' =>
   obtain⟨its,_,pl,_⟩:=I.list (.inl h');obtain⟨o,ho,hc,_⟩:=pl.isList;obtain⟨o',ho',hc',_⟩:=k6 I h;rw[ho] at ho';cases ho';rw[hc] at hc';injection hc' with z;exact absurd z (by decide)
  |tup h' r' =>
   obtain⟨its',_,pt,_⟩:=I.tuple h'.sq;obtain⟨o,ho,hc,_⟩:=pt;obtain⟨o',ho',hc',_⟩:=k6 I h;rw[ho] at ho';cases ho';rw[hc] at hc';injection hc' with z;exact absurd z (by decide)
 case nil=>intro e' G' h;cases h;rfl
 case cons =>
  intro d0 v0 ds0 vs0 G0 G1 h r i1 i2 e' G' q;cases q with
  |cons h' r'=>rw[i1 h',i2 r']
open SeqAt in
theorem xS (I:Inv X pins σ H s):∀(n:Nat) (A:Around) (d e:D) (v w:V) (G G':List Addr) (u u':Value) (b:Bool),A.units+n<cLine→Rep X.K H d v G→Rep X.K H e w G'→RelV v u→RelV w u'→D.eqf n d e=some b→RcAt A s u u' b∧EqAt A s u u' b
 |0,_,_,_,_,_,_,_,_,_,_,_,_,_,_,_,h=>by cases h
 | n+1,A,d,e,v,w,G,G',u,u',b,hu,r1,r2,q1,q2,h=>by
  have hu1:A.in1.units+n<cLine:=by show A.units+1+n<cLine;omega
  have hu0:A.units<cLine:=by omega
  have items:∀{xs ys:List D}{vs ws:List V}{G1 G2:List Addr}{its its':List Value}{c:Bool},aM X.K H xs vs G1→aM X.K H ys ws G2→aQ vs its→aQ ws its'→va (D.eqf n) xs ys=some c →
    its.toArray.size=its'.toArray.size∧∃ ee:Nat→Bool,c=(List.range its.toArray.size).all ee∧∀ j (h1:j<its.toArray.size) (h2:j<its'.toArray.size),EqAt A.in1 s its.toArray[j] its'.toArray[j] (ee j):=by
   intro xs ys vs ws G1 G2 its its' c a1 a2 b1 b2 hc;obtain⟨hl,ee,he,rfl⟩:=iM hc;have l1:=a1.len;have l2:=a2.len;have l3:=b1.length;have l4:=b2.length;have sz:its.toArray.size=xs.length:=by rw[bh];omega
   refine⟨by rw[bh,bh];omega,ee,by rw[sz],fun j h1 h2=>?_⟩;have j1:j<xs.length:=by rw[←sz];exact h1
   have j2:j<ys.length:=by omega
   obtain⟨v1,g1,e1,p1,_⟩:=a1.get (i:=j) (d:=xs[j]) (by simp[j1]);obtain⟨v2,g2,e2,p2,_⟩:=a2.get (i:=j) (d:=ys[j]) (by simp[j2]);obtain⟨u1,f1,t1⟩:=b1.get e1;obtain⟨u2,f2,t2⟩:=b2.get e2;have x1:its.toArray[j]=u1:=by
    have:=ak.mp f1;simpa using this.2
   have x2:its'.toArray[j]=u2:=by
    have:=ak.mp f2;simpa using this.2
   rw[x1,x2];exact (xS I n A.in1 _ _ _ _ _ _ _ _ _ hu1 p1 p2 t1 t2 (he j _ _ (by simp[j1]) (by simp[j2]))).2
  have refs:∀{l m:Addr}{c:Bool},(l=m→c=true)→RcAt A s (.ref l) (.ref m) c→RcAt A s (.ref l) (.ref m) c∧EqAt A s (.ref l) (.ref m) c:=fun {l m c} hs hr=>⟨hr,by
   by_cases z:l=m
   ·subst z;rw[hs rfl];exact EqAt.same _
   ·exact EqAt.of_refs z hr⟩
  cases d with
  |dct _=>cases h
  |mpi _=>cases e<;>cases h
  |mpt _=>cases e<;>cases h
  |mpz _=>cases e<;>cases h
  |non =>
   obtain⟨rfl,rfl⟩:=r1.non_inv;cases q1;cases e with
   |dct _=>cases h
   |mpi _=>cases h
   |mpt _=>cases h
   |mpz _=>cases h
   |non=>obtain⟨rfl,rfl⟩:=r2.non_inv;cases q2;cases h;exact⟨RcAt.none_none,EqAt.same _⟩
   |bl c=>obtain⟨rfl,rfl⟩:=r2.bl_inv;cases q2;cases h;exact⟨RcAt.none_bool c,EqAt.none_bool c⟩
   |int i=>obtain⟨rfl,rfl⟩:=r2.int_inv;obtain⟨t,rfl⟩:=q2;cases h;exact⟨RcAt.none_int i t,EqAt.none_int i t⟩
   |str x=>obtain⟨rfl,rfl⟩:=r2.str_inv;obtain⟨t,rfl⟩:=q2;cases h;exact⟨RcAt.none_str x t,EqAt.none_str x t⟩
   |lst ys =>
    obtain⟨m,ws,g,rfl,rfl,a1,a2⟩:=r2.lst_inv;cases q2;obtain⟨its,_,pl,_⟩:=I.list (.inl a1);cases h;exact⟨RcAt.none_list pl.isList hu0,EqAt.none_list pl.isList hu0⟩
   |tup ys =>
    obtain⟨m,ws,rfl,a1,a2⟩:=r2.tup_inv;cases q2;obtain⟨its,_,pl,_⟩:=I.tuple a1;cases h;exact⟨RcAt.none_tuple pl hu0,EqAt.none_tuple pl hu0⟩
  |bl a =>
   obtain⟨rfl,rfl⟩:=r1.bl_inv;cases q1;cases e with
   |dct _=>cases h
   |mpi _=>cases h
   |mpt _=>cases h
   |mpz _=>cases h
   |non=>obtain⟨rfl,rfl⟩:=r2.non_inv;cases q2;cases h;exact⟨RcAt.bool_none a,EqAt.bool_none a⟩
   |bl c=>obtain⟨rfl,rfl⟩:=r2.bl_inv;cases q2;cases h;exact⟨RcAt.bool_bool a c,EqAt.bool_bool a c⟩
   |int i=>obtain⟨rfl,rfl⟩:=r2.int_inv;obtain⟨t,rfl⟩:=q2;cases h;exact⟨RcAt.bool_int a i t,EqAt.bool_int a i t⟩
   |str x=>obtain⟨rfl,rfl⟩:=r2.str_inv;obtain⟨t,rfl⟩:=q2;cases h;exact⟨RcAt.bool_str a x t,EqAt.bool_str a x t⟩
   |lst ys =>
    obtain⟨m,ws,g,rfl,rfl,a1,a2⟩:=r2.lst_inv;cases q2;obtain⟨its,_,pl,_⟩:=I.list (.inl a1);cases h;exact⟨RcAt.bool_list a pl.isList hu0,EqAt.bool_list a pl.isList hu0⟩
   |tup ys =>
    obtain⟨m,ws,rfl,a1,a2⟩:=r2.tup_inv;cases q2;obtain⟨its,_,pl,_⟩:=I.tuple a1;cases h;exact⟨RcAt.bool_tuple a pl hu0,EqAt.bool_tuple a pl hu0⟩
  |int a =>
   obtain⟨rfl,rfl⟩:=r1.int_inv;obtain⟨t0,rfl⟩:=q1;cases e with
   |dct _=>cases h
   |mpi _=>cases h
   |mpt _=>cases h
   |mpz _=>cases h
   |non=>obtain⟨rfl,rfl⟩:=r2.non_inv;cases q2;cases h;exact⟨RcAt.int_none a t0,EqAt.int_none a t0⟩
   |bl c=>obtain⟨rfl,rfl⟩:=r2.bl_inv;cases q2;cases h;exact⟨RcAt.int_bool a t0 c,EqAt.int_bool a t0 c⟩
   |int i=>obtain⟨rfl,rfl⟩:=r2.int_inv;obtain⟨t,rfl⟩:=q2;cases h;exact⟨RcAt.int_int a t0 i t,EqAt.int_int a t0 i t⟩
   |str x=>obtain⟨rfl,rfl⟩:=r2.str_inv;obtain⟨t,rfl⟩:=q2;cases h;exact⟨RcAt.int_str a t0 x t,EqAt.int_str a t0 x t⟩
   |lst ys =>
    obtain⟨m,ws,g,rfl,rfl,a1,a2⟩:=r2.lst_inv;cases q2;obtain⟨its,_,pl,_⟩:=I.list (.inl a1);cases h;exact⟨RcAt.int_list a t0 pl.isList hu0,EqAt.int_list a t0 pl.isList hu0⟩
   |tup ys =>
    obtain⟨m,ws,rfl,a1,a2⟩:=r2.tup_inv;cases q2;obtain⟨its,_,pl,_⟩:=I.tuple a1;cases h;exact⟨RcAt.int_tuple a t0 pl hu0,EqAt.int_tuple a t0 pl hu0⟩
  |str a =>
   obtain⟨rfl,rfl⟩:=r1.str_inv;obtain⟨t0,rfl⟩:=q1;cases e with
   |dct _=>cases h
   |mpi _=>cases h
   |mpt _=>cases h
   |mpz _=>cases h
   |non=>obtain⟨rfl,rfl⟩:=r2.non_inv;cases q2;cases h;exact⟨RcAt.str_none a t0,EqAt.str_none a t0⟩
   |int i=>obtain⟨rfl,rfl⟩:=r2.int_inv;obtain⟨t,rfl⟩:=q2;cases h;exact⟨RcAt.str_int a t0 i t,EqAt.str_int a t0 i t⟩
   |str x=>obtain⟨rfl,rfl⟩:=r2.str_inv;obtain⟨t,rfl⟩:=q2;cases h;exact⟨RcAt.str_str a t0 x t,EqAt.str_str a t0 x t⟩
   |bl c=>obtain⟨rfl,rfl⟩:=r2.bl_inv;cases q2;cases h;exact⟨RcAt.str_bool a t0 c,EqAt.str_bool a t0 c⟩
   |lst ys =>
    obtain⟨m,ws,g,rfl,rfl,a1,a2⟩:=r2.lst_inv;cases q2;obtain⟨its,_,pl,_⟩:=I.list (.inl a1);cases h;exact⟨RcAt.str_list a t0 pl.isList hu0,EqAt.str_list a t0 pl.isList hu0⟩
   |tup ys =>
    obtain⟨m,ws,rfl,a1,a2⟩:=r2.tup_inv;cases q2;obtain⟨its,_,pl,_⟩:=I.tuple a1;cases h;exact⟨RcAt.str_tuple a t0 pl hu0,EqAt.str_tuple a t0 pl hu0⟩
  |lst xs =>
   obtain⟨l,vs,g,rfl,rfl,a1,a2⟩:=r1.lst_inv;cases q1;obtain⟨its,rv,pl,_⟩:=I.list (.inl a1);cases e with
   |dct _=>cases h
   |mpi _=>cases h
   |mpt _=>cases h
   |mpz _=>cases h
   |non=>obtain⟨rfl,rfl⟩:=r2.non_inv;cases q2;cases h;exact⟨RcAt.list_none pl.isList hu0,EqAt.list_none pl.isList hu0⟩
   |lst ys =>
    obtain⟨m,ws,g',rfl,rfl,b1,b2⟩:=r2.lst_inv;cases q2;obtain⟨its',rv',pl',_⟩:=I.list (.inl b1);have same:l=m→b=true:=fun z=>by
     subst z;have e0:=Rep.inj I r1 r2;rw[e0] at h;exact jY _ _ _ h
    simp only[D.eqf] at h;by_cases hl:xs.length=ys.length
    ·rw[if_pos hl] at h;obtain⟨hz,ee,rfl,he⟩:=items a2 b2 rv rv' h;exact refs same (RcAt.lists pl.isList pl'.isList hz hu0 he)
    ·rw[if_neg hl] at h;cases h;have hz:(its.toArray.size != its'.toArray.size)=true:=by
      have l1:=a2.len;have l2:=b2.len;have l3:=rv.length;have l4:=rv'.length;simp only[bne_iff_ne,ne_eq,List.size_toArray];omega
     exact refs same (RcAt.lists_lengths pl.isList pl'.isList hz hu0)
   |bl c=>obtain⟨rfl,rfl⟩:=r2.bl_inv;cases q2;cases h;exact⟨RcAt.list_bool c pl.isList hu0,EqAt.list_bool c pl.isList hu0⟩
   |int c=>obtain⟨rfl,rfl⟩:=r2.int_inv;obtain⟨t,rfl⟩:=q2;cases h;exact⟨RcAt.list_int c t pl.isList hu0,EqAt.list_int c t pl.isList hu0⟩
   |str c=>obtain⟨rfl,rfl⟩:=r2.str_inv;obtain⟨t,rfl⟩:=q2;cases h;exact⟨RcAt.list_str c t pl.isList hu0,EqAt.list_str c t pl.isList hu0⟩
   |tup ys =>
    obtain⟨m,ws,rfl,b1,b2⟩:=r2.tup_inv;cases q2;obtain⟨its',rv',pl',_⟩:=I.tuple b1;cases h;exact⟨RcAt.list_tuple pl.isList pl' hu0,EqAt.list_tuple pl.isList pl' hu0⟩
  |tup xs =>
   obtain⟨l,vs,rfl,a1,a2⟩:=r1.tup_inv;cases q1;obtain⟨its,rv,pl,_⟩:=I.tuple a1;cases e with
   |dct _=>cases h
   |mpi _=>cases h
   |mpt _=>cases h
   |mpz _=>cases h
   |tup ys =>
    obtain⟨m,ws,rfl,b1,b2⟩:=r2.tup_inv;cases q2;obtain⟨its',rv',pl',_⟩:=I.tuple b1;have same:l=m→b=true:=fun z=>by
     subst z;have e0:=Rep.inj I r1 r2;rw[e0] at h;exact jY _ _ _ h
    simp only[D.eqf] at h;by_cases hl:xs.length=ys.length
    ·rw[if_pos hl] at h;obtain⟨hz,ee,rfl,he⟩:=items a2 b2 rv rv' h;have q:=RcAt.tuples (e:=ee) pl pl' hu0 he;rw[←hz,Nat.min_self,beq_self_eq_true,Bool.and_true] at q;exact refs same q
    ·rw[if_neg hl] at h;cases h
   |non=>obtain⟨rfl,rfl⟩:=r2.non_inv;cases q2;cases h;exact⟨RcAt.tuple_none pl hu0,EqAt.tuple_none pl hu0⟩
   |bl c=>obtain⟨rfl,rfl⟩:=r2.bl_inv;cases q2;cases h;exact⟨RcAt.tuple_bool c pl hu0,EqAt.tuple_bool c pl hu0⟩
   |int c=>obtain⟨rfl,rfl⟩:=r2.int_inv;obtain⟨t,rfl⟩:=q2;cases h;exact⟨RcAt.tuple_int c t pl hu0,EqAt.tuple_int c t pl hu0⟩
   |str c=>obtain⟨rfl,rfl⟩:=r2.str_inv;obtain⟨t,rfl⟩:=q2;cases h;exact⟨RcAt.tuple_str c t pl hu0,EqAt.tuple_str c t pl hu0⟩
   |lst ys =>
    obtain⟨m,ws,g',rfl,rfl,b1,b2⟩:=r2.lst_inv;cases q2;obtain⟨its',rv',pl',_⟩:=I.list (.inl b1);cases h;exact⟨RcAt.tuple_list pl pl'.isList hu0,EqAt.tuple_list pl pl'.isList hu0⟩
end
end
end Pc
end
section
namespace Pc
open PySem PySem.Spec PyProof.Rows L2
section
open PySem.SeqAt
open PySem.AutoSeq1 (wpAny_loadPart')
open PySem.MeetsSeq PySem.MeetsSeq2 PySem.MeetsSeq3
end
end Pc
end
section
namespace Pc
open PySem PySem.Spec PyProof.Rows L2
section
variable {X:Cx}{pins:List (Addr×Obj)}{σ:L2.St}{H:Hp}{s:Shared}
open SeqAt in
theorem Gk (I:Inv X pins σ H s) (n:Nat) (A:Around) (d e:D) (v w:V) (G G':List Addr) (u u':Value) (b:Bool) (hu:A.units+n<cLine) (r1:Rep X.K H d v G) (r2:Rep X.K H e w G') (q1:RelV v u) (q2:RelV w u') (h:D.eqf n d e=some b):RcNeAt A s u u' (!b):=by
 cases n with
 |zero=>cases h
 |succ n =>
  have hu1:A.in1.units+n<cLine:=by show A.units+1+n<cLine;omega
  have hu0:A.units<cLine:=by omega
  have items:∀{xs ys:List D}{vs ws:List V}{G1 G2:List Addr}{its its':List Value}{c:Bool},aM X.K H xs vs G1→aM X.K H ys ws G2→aQ vs its→aQ ws its'→va (D.eqf n) xs ys=some c →
    its.toArray.size=its'.toArray.size∧∃ ee:Nat→Bool,c=(List.range its.toArray.size).all ee∧∀ j (h1:j<its.toArray.size) (h2:j<its'.toArray.size),EqAt A.in1 s its.toArray[j] its'.toArray[j] (ee j):=by
   intro xs ys vs ws G1 G2 its its' c a1 a2 b1 b2 hc;obtain⟨hl,ee,he,rfl⟩:=iM hc;have l1:=a1.len;have l2:=a2.len;have l3:=b1.length;have l4:=b2.length;have sz:its.toArray.size=xs.length:=by rw[bh];omega
   refine⟨by rw[bh,bh];omega,ee,by rw[sz],fun j h1 h2=>?_⟩;have j1:j<xs.length:=by rw[←sz];exact h1
   have j2:j<ys.length:=by omega
   obtain⟨v1,g1,e1,p1,_⟩:=a1.get (i:=j) (d:=xs[j]) (by simp[j1]);obtain⟨v2,g2,e2,p2,_⟩:=a2.get (i:=j) (d:=ys[j]) (by simp[j2]);obtain⟨u1,f1,t1⟩:=b1.get e1;obtain⟨u2,f2,t2⟩:=b2.get e2;have x1:its.toArray[j]=u1:=by
    have:=ak.mp f1;simpa using this.2
   have x2:its'.toArray[j]=u2:=by
    have:=ak.mp f2;simpa using this.2
   rw[x1,x2];exact (xS I n A.in1 _ _ _ _ _ _ _ _ _ hu1 p1 p2 t1 t2 (he j _ _ (by simp[j1]) (by simp[j2]))).2
  have lsti:∀{ys:List D}{w:V}{g:List Addr}{u:Value},Rep X.K H (.lst ys) w g→RelV w u→∃ m its vs g',u = .ref m∧s.heap.IsList m its.toArray∧aQ vs its∧aM X.K H ys vs g':=fun {ys w g u} r q=>by
   obtain⟨m,ws,g',rfl,rfl,a1,a2⟩:=r.lst_inv;cases q;obtain⟨its,rv,pl,_⟩:=I.list (.inl a1);exact⟨m,its,ws,g',rfl,pl.isList,rv,a2⟩
  have tupi:∀{ys:List D}{w:V}{g:List Addr}{u:Value},Rep X.K H (.tup ys) w g→RelV w u→∃ m its vs,u = .ref m∧s.heap.IsTuple m its.toArray∧aQ vs its∧aM X.K H ys vs g:=fun {ys w g u} r q=>by
   obtain⟨m,ws,rfl,a1,a2⟩:=r.tup_inv;cases q;obtain⟨its,rv,pl,_⟩:=I.tuple a1;exact⟨m,its,ws,rfl,pl,rv,a2⟩
  cases d with
  |dct _=>cases h
  |mpi _=>cases e<;>cases h
  |mpt _=>cases e<;>cases h
  |mpz _=>cases e<;>cases h
  |non =>
   obtain⟨rfl,rfl⟩:=r1.non_inv;cases q1;cases e with
   |dct _=>cases h
   |mpi _=>cases h
   |mpt _=>cases h
   |mpz _=>cases h
   |non=>obtain⟨rfl,rfl⟩:=r2.non_inv;cases q2;cases h;exact RcNeAt.none_none
   |bl c=>obtain⟨rfl,rfl⟩:=r2.bl_inv;cases q2;cases h;exact RcNeAt.none_bool c
   |int i=>obtain⟨rfl,rfl⟩:=r2.int_inv;obtain⟨t,rfl⟩:=q2;cases h;exact RcNeAt.none_int i t
   |str x=>obtain⟨rfl,rfl⟩:=r2.str_inv;obtain⟨t,rfl⟩:=q2;cases h;exact RcNeAt.none_str x t
   |lst ys=>obtain⟨m,its,vs,g',rfl,pl,_,_⟩:=lsti r2 q2;cases h;exact RcNeAt.none_list pl hu0
   |tup ys=>obtain⟨m,its,vs,rfl,pl,_,_⟩:=tupi r2 q2;cases h;exact RcNeAt.none_tuple pl hu0
  |bl a =>
   obtain⟨rfl,rfl⟩:=r1.bl_inv;cases q1;cases e with
   |dct _=>cases h
   |mpi _=>cases h
   |mpt _=>cases h
   |mpz _=>cases h
   |non=>obtain⟨rfl,rfl⟩:=r2.non_inv;cases q2;cases h;exact RcNeAt.bool_none a
   |bl c=>obtain⟨rfl,rfl⟩:=r2.bl_inv;cases q2;cases h;exact RcNeAt.bool_bool a c
   |int i=>obtain⟨rfl,rfl⟩:=r2.int_inv;obtain⟨t,rfl⟩:=q2;cases h;exact RcNeAt.bool_int a i t
   |str x=>obtain⟨rfl,rfl⟩:=r2.str_inv;obtain⟨t,rfl⟩:=q2;cases h;exact RcNeAt.bool_str a x t
   |lst ys=>obtain⟨m,its,vs,g',rfl,pl,_,_⟩:=lsti r2 q2;cases h;exact RcNeAt.bool_list a pl hu0
   |tup ys=>obtain⟨m,its,vs,rfl,pl,_,_⟩:=tupi r2 q2;cases h;exact RcNeAt.bool_tuple a pl hu0
  |int a =>
   obtain⟨rfl,rfl⟩:=r1.int_inv;obtain⟨t0,rfl⟩:=q1;cases e with
   |dct _=>cases h
   |mpi _=>cases h
   |mpt _=>cases h
   |mpz _=>cases h
   |non=>obtain⟨rfl,rfl⟩:=r2.non_inv;cases q2;cases h;exact RcNeAt.int_none a t0
   |bl c=>obtain⟨rfl,rfl⟩:=r2.bl_inv;cases q2;cases h;exact RcNeAt.int_bool a t0 c
   |int i=>obtain⟨rfl,rfl⟩:=r2.int_inv;obtain⟨t,rfl⟩:=q2;cases h;exact RcNeAt.int_int a t0 i t
   |str x=>obtain⟨rfl,rfl⟩:=r2.str_inv;obtain⟨t,rfl⟩:=q2;cases h;exact RcNeAt.int_str a t0 x t
   |lst ys=>obtain⟨m,its,vs,g',rfl,pl,_,_⟩:=lsti r2 q2;cases h;exact RcNeAt.int_list a t0 pl hu0
   |tup ys=>obtain⟨m,its,vs,rfl,pl,_,_⟩:=tupi r2 q2;cases h;exact RcNeAt.int_tuple a t0 pl hu0
  |str a =>
   obtain⟨rfl,rfl⟩:=r1.str_inv;obtain⟨t0,rfl⟩:=q1;cases e with
   |dct _=>cases h
   |mpi _=>cases h
   |mpt _=>cases h
   |mpz _=>cases h
   |non=>obtain⟨rfl,rfl⟩:=r2.non_inv;cases q2;cases h;exact RcNeAt.str_none a t0
   |bl c=>obtain⟨rfl,rfl⟩:=r2.bl_inv;cases q2;cases h;exact RcNeAt.str_bool a t0 c
   |int i=>obtain⟨rfl,rfl⟩:=r2.int_inv;obtain⟨t,rfl⟩:=q2;cases h;exact RcNeAt.str_int a t0 i t
   |str x=>obtain⟨rfl,rfl⟩:=r2.str_inv;obtain⟨t,rfl⟩:=q2;cases h;exact RcNeAt.str_str a t0 x t
   |lst ys=>obtain⟨m,its,vs,g',rfl,pl,_,_⟩:=lsti r2 q2;cases h;exact RcNeAt.str_list a t0 pl hu0
   |tup ys=>obtain⟨m,its,vs,rfl,pl,_,_⟩:=tupi r2 q2;cases h;exact RcNeAt.str_tuple a t0 pl hu0
  |lst xs =>
   obtain⟨l,its,vs,g1,rfl,pl,rv,a2⟩:=lsti r1 q1;cases e with
   |dct _=>cases h
   |mpi _=>cases h
   |mpt _=>cases h
   |mpz _=>cases h
   |non=>obtain⟨rfl,rfl⟩:=r2.non_inv;cases q2;cases h;exact RcNeAt.list_none pl hu0
   |bl c=>obtain⟨rfl,rfl⟩:=r2.bl_inv;cases q2;cases h;exact RcNeAt.list_bool c pl hu0
   |int c=>obtain⟨rfl,rfl⟩:=r2.int_inv;obtain⟨t,rfl⟩:=q2;cases h;exact RcNeAt.list_int c t pl hu0
   |str c=>obtain⟨rfl,rfl⟩:=r2.str_inv;obtain⟨t,rfl⟩:=q2;cases h;exact RcNeAt.list_str c t pl hu0
   |lst ys =>
    obtain⟨m,its',ws,g2,rfl,pl',rv',b2⟩:=lsti r2 q2;simp only[D.eqf] at h;by_cases hl:xs.length=ys.length
    ·rw[if_pos hl] at h;obtain⟨hz,ee,rfl,he⟩:=items a2 b2 rv rv' h;exact RcNeAt.lists pl pl' hz hu0 he
    ·rw[if_neg hl] at h;cases h;have hz:(its.toArray.size != its'.toArray.size)=true:=by
      have l1:=a2.len;have l2:=b2.len;have l3:=rv.length;have l4:=rv'.length;simp only[bne_iff_ne,ne_eq,List.size_toArray];omega
     exact RcNeAt.lists_lengths pl pl' hz hu0
   |tup ys=>obtain⟨m,its',ws,rfl,pl',_,_⟩:=tupi r2 q2;cases h;exact RcNeAt.list_tuple pl pl' hu0
  |tup xs =>
   obtain⟨l,its,vs,rfl,pl,rv,a2⟩:=tupi r1 q1;cases e with
   |dct _=>cases h
   |mpi _=>cases h
   |mpt _=>cases h
   |mpz _=>cases h
   |non=>obtain⟨rfl,rfl⟩:=r2.non_inv;cases q2;cases h;exact RcNeAt.tuple_none pl hu0
   |bl c=>obtain⟨rfl,rfl⟩:=r2.bl_inv;cases q2;cases h;exact RcNeAt.tuple_bool c pl hu0
   |int c=>obtain⟨rfl,rfl⟩:=r2.int_inv;obtain⟨t,rfl⟩:=q2;cases h;exact RcNeAt.tuple_int c t pl hu0
   |str c=>obtain⟨rfl,rfl⟩:=r2.str_inv;obtain⟨t,rfl⟩:=q2;cases h;exact RcNeAt.tuple_str c t pl hu0
   |lst ys=>obtain⟨m,its',ws,g2,rfl,pl',_,_⟩:=lsti r2 q2;cases h;exact RcNeAt.tuple_list pl pl' hu0
   |tup ys =>
    obtain⟨m,its',ws,rfl,pl',rv',b2⟩:=tupi r2 q2;simp only[D.eqf] at h;by_cases hl:xs.length=ys.length
    ·rw[if_pos hl] at h;obtain⟨hz,ee,rfl,he⟩:=items a2 b2 rv rv' h;have q:=RcNeAt.tuples (e:=ee) pl pl' hu0 he;rw[←hz,Nat.min_self,beq_self_eq_true,Bool.and_true] at q;exact q
    ·rw[if_neg hl] at h;cases h
end
section
variable {X:Cx}
theorem qc {K:Frag}{H:Hp}{d:D}{v:V}{G:List Addr}(h:Rep K H d v G) (s:d.jb=true):iA v=true:=by
 cases h<;>simp_all [D.jb,iA]
theorem oj {K:Frag}{H:Hp}:∀{ds:List D}{vs:List V}{G:List Addr},aM K H ds vs G→ds.all D.jb=true→vs.all iA=true
 |_,_,_,.nil,_=>rfl
 | _,_,_,.cons h r,s=>by
  simp only[List.all_cons,Bool.and_eq_true] at s ⊢;exact⟨qc h s.1,oj r s.2⟩
theorem Be {K:Frag}{H:Hp}{d e:D}{v w:V}{G G':List Addr}(h:Rep K H d v G) (h':Rep K H e w G') (s:d.jb=true) (s':e.jb=true):zt v w=D.eqs d e:=by
 cases h<;>cases h'<;>simp_all [D.jb,zt,D.eqs]
theorem xm {K:Frag}{H:Hp}{x:D}{w:V}{G0:List Addr}(hx:Rep K H x w G0) (sx:x.jb=true):∀{ds:List D}{vs:List V}{G:List Addr},aM K H ds vs G→ds.all D.jb=true→inV w vs=ds.any fun y=>D.eqs y x
 |_,_,_,.nil,_=>rfl
 | _,_,_,.cons h r,s=>by
  simp only[List.all_cons,Bool.and_eq_true] at s;have ih:=xm hx sx r s.2;unfold inV at ih ⊢;rw[eu,eu,ih,Be h hx s.1 sx]
theorem jc.any {K:Frag}{H:Hp}(n:Int):∀{q:List (Int×MV)}{x:List (Key×V)},jc K H q x→(x.any fun kv=>decide (kv.1=Sum.inl n))=q.any fun kv=>decide (kv.1=n)
 |[],[],_=>rfl
 | (k,m)::q,p::x,⟨a,_,c⟩=>by
  rw[eu,eu,c.any n,a];congr 1;exact decide_eq_decide.mpr ⟨fun e=>by injection e,fun e=>by rw[e]⟩
 |[],_::_,h=>h.elim
 |_::_,[],h=>h.elim
theorem jc.val {K:Frag}{H:Hp}(n:Int):∀{q:List (Int×MV)}{x:List (Key×V)}{e:Int×MV},jc K H q x→(q.find? fun kv=>decide (kv.1=n))=some e→∃ v,ki x (.inl n)=some v∧rf K H e.2 v
 |[],[],_,_,h=>by cases h
 | (k,m)::q,p::x,e,⟨a,b,c⟩,h=>by
  by_cases hk:k=n
  ·rw[List.find?_cons_of_pos (by simpa using hk)] at h;cases h;exact⟨p.2,jM (by rw[a,hk]),b⟩
  ·rw[List.find?_cons_of_neg (by simpa using hk)] at h;rw[j4 (by rw[a];exact fun z=>hk (by injection z))];exact c.val n h
 |[],_::_,_,h,_=>h.elim
 |_::_,[],_,h,_=>h.elim
theorem ky {K:Frag}{H:Hp}:∀ ks:List Int,aM K H (ks.map D.int) (ks.map V.int) []
 |[]=>.nil
 |k::ks=>.cons (G:=[]) (G':=[]) (.int k) (ky ks)
theorem rf.rep {K:Frag}{H:Hp}:∀{m:MV}{v:V},rf K H m v→Rep K H (mvD m) v []
 |.tr,_,h=>by cases h;exact .bl true
 |.int i,_,h=>by cases h;exact .int i
 |.tup is,_,⟨b,e,h⟩=>by subst e;exact .tup h (ky is)
noncomputable def isMp:D→Bool
 |.mpi _=>true
 |.mpt _=>true
 |.mpz _=>true
 |_=>false
theorem Bn {A:Around}{E:Value→Shared→Prop}{pins:List (Addr×Obj)}{σ:L2.St}{H:Hp}{s:Shared}{d1 d2:D}{x y:V}{v u:Value}{G1 G2:List Addr}{b:Bool}{Q:Value→Shared→Prop}(hu:A.units+1<cLine) (I:Inv X pins σ H s) (r1:Rep X.K H d1 x G1) (r2:Rep X.K H d2 y G2) (rx:RelV x v) (ry:RelV y u) (hm:isMp d2=true) (hb:inD d1 d2=some b) :
  ((∀ s',Inv X pins σ H s'→Q (.bool b) s')→wpAny (model X.prog X.w) A (compareOp .In v u) Q E s)∧((∀ s',Inv X pins σ H s'→Q (.bool (!b)) s')→wpAny (model X.prog X.w) A (compareOp .NotIn v u) Q E s):=by
 cases r2 with
 |@mpi p ks xs hr kr =>
  have inv:∃ k,d1 = .int k∧b=ks.any fun q=>decide (q.1=k):=by
   simp only[inD] at hb;split at hb
   ·cases hb;exact⟨_,rfl,rfl⟩
   ·cases hb
  obtain⟨k,rfl,rfl⟩:=inv;obtain⟨rfl,rfl⟩:=r1.int_inv;obtain rfl:u = .ref p:=ry;have g:DV H p (.int k) (ki xs (.inl k)):=.inl ⟨xs,.inl k,.inl hr,rfl,rfl⟩;have e:(ki xs (.inl k)).isSome=ks.any fun q=>decide (q.1=k):=by rw[←mH,kr.any]
  exact⟨fun h=>d_in hu I g rx (by rw[e];exact h),fun h=>z8 hu I g rx (by rw[e];exact h)⟩
 |mpz _ _=>cases hb
 |mpt _=>cases hb
 |_=>cases hm
theorem om:∀{xs:List D}{k:List Int},iK xs=some k→xs=k.map D.int
 |[],k,h=>by cases h;rfl
 | .int i::r,k,h=>by
  have h:(iK r).map (i :: ·)=some k:=h;rw[ab] at h;obtain⟨k',h1,rfl⟩:=h;rw[om h1];rfl
theorem tF {K:Frag}{H:Hp}:∀{ns:List Int}{vs:List V}{G:List Addr}{us:List Value},aM K H (ns.map D.int) vs G→aQ vs us→IntsAre us ns
 |[],_,_,_,.nil,.nil=>.nil
 | n::ns,_,_,_,.cons h r,.cons x y=>by
  obtain⟨rfl,_⟩:=h.int_inv;obtain⟨t,rfl⟩:=x;exact .cons _ _ (tF r y)
theorem wj {f:Int→Int→Bool}{x y:D}{b:Bool}(h:iZ f x y=some b):∃ i j,x = .int i∧y = .int j∧f i j=b:=by
 cases x with
 |int i=>cases y with
  |int j=>exact⟨i,j,rfl,rfl,bz h⟩
  |_=>cases h
 |_=>cases h
theorem tZ (op:CmpOp) (hx:X.A.units+40<cLine∧BC X.w X.K):jx X (compareOp op) (AK X.K fun x y=>(iu op x y).map .bl):=by
 have hu:=hx.1;intro pins s σ H x y v u Q I rx ry h;obtain⟨d1,d2,d,G,rs,hd,k⟩:=h;obtain⟨G1,G2,r1,r2,rfl⟩:=rs.inv2;rw[ab] at hd;obtain⟨b,hb,rfl⟩:=hd;have fin:Q (.bl b) H:=k _ H [] (.bl b) i4.nil;have ep:∀ c,c=b→EP X pins σ Q (.bool c) s:=fun c e=>⟨.bl b,H,I,by rw[e];rfl,fin⟩
 have onInts:∀{f:Int→Int→Bool},iZ f d1 d2=some b→jx X (compareOp op) (vR fun i j=>.bl (f i j))→wpAny (model X.prog X.w) X.A (compareOp op v u) (EP X pins σ Q) X.xe s:=by
  intro f h1 ho;obtain⟨i,j,rfl,rfl,e⟩:=wj h1;obtain⟨rfl,rfl⟩:=r1.int_inv;obtain⟨rfl,rfl⟩:=r2.int_inv;exact ho pins s σ H _ _ v u Q I rx ry ⟨i,j,rfl,rfl,by show Q (.bl (f i j)) H;rw[e];exact fin⟩
 cases op with
 |Lt=>exact onInts hb GP
 |LtE=>exact onInts hb E7
 |Gt=>exact onInts hb E5
 |GtE=>exact onInts hb EY
 |Eq=>exact (xS I 40 X.A d1 d2 x y G1 G2 v u b hu r1 r2 rx ry hb).1 _ _ _ _ (ep b rfl)
 |NotEq =>
  have hb:(D.eqf 40 d1 d2).map (!·)=some b:=hb;rw[ab] at hb;obtain⟨c,hc,rfl⟩:=hb;exact Gk I 40 X.A d1 d2 x y G1 G2 v u c hu r1 r2 rx ry hc _ _ _ _ (ep _ rfl)
 |Is=>cases (show none=some b from hb)
 |IsNot=>cases (show none=some b from hb)
 |In=>cases (show none=some b from hb)
 |NotIn =>
  have hb:(inD d1 d2).map (!·)=some b:=hb;rw[ab] at hb;obtain⟨c,hi,rfl⟩:=hb;clear hb;cases d2 with
  |lst ys =>
   simp only[inD] at hi;by_cases hc:(d1.jb&&ys.all D.jb)=true
   ·rw[if_pos hc] at hi;cases hi;rw[ax] at hc;obtain⟨p,vs,g,rfl,rfl,a1,a2⟩:=r2.lst_inv;refine pE pins s σ H _ _ v u Q I rx ry ⟨p,vs,rfl,.inl (.inl a1),qc r1 hc.1,oj a2 hc.2,?_⟩;rw[xm r1 hc.1 a2 hc.2];exact fin
   ·rw[if_neg hc] at hi;cases hi
  |mpi ks=>exact (Bn (by omega) I r1 r2 rx ry rfl hi).2 fun s' I'=>⟨.bl _,H,I',rfl,fin⟩
  |_=>cases hi
theorem y4 (n:Nat) (i:Int):Pc.kZ n i=L2.kZ n i:=rfl
theorem zA (hx:BC X.w X.K):zv X (Ff X.K):=by
 intro value slice pins s σ H x y v u Q I rx ry h hs;obtain⟨d1,d2,d,G,rs,hd,k⟩:=h;obtain⟨G1,G2,r1,r2,rfl⟩:=rs.inv2;cases d2 with
 |int i =>
  obtain⟨rfl,rfl⟩:=r2.int_inv;rw[cg] at k;have seq:∀{xs:List D}{vs:List V}{g:List Addr},aM X.K H xs vs g→((kZ xs.length i).bind fun j=>xs[j]?)=some d→∃ w g',By vs i=some w∧Rep X.K H d w g'∧g'.Sublist g:=fun {xs vs g} r e=>by
   rw[ah] at e;obtain⟨j,e1,e2⟩:=e;obtain⟨w,g',a,b,c⟩:=r.get e2;refine⟨w,g',?_,b,c⟩;unfold By;rw[←r.len,←y4,e1];exact a
  cases d1 with
  |lst xs =>
   obtain⟨p,vs,g,rfl,rfl,a1,a2⟩:=r1.lst_inv;obtain⟨w,g',e1,e2,e3⟩:=seq a2 hd;exact um value slice pins s σ H _ _ v u Q I rx ry ⟨p,vs,i,w,rfl,rfl,.inl a1,e1,k w g' e2 (e3.trans (List.sublist_cons_self _ _))⟩ hs
  |tup xs =>
   obtain⟨p,vs,rfl,a1,a2⟩:=r1.tup_inv;obtain⟨w,g',e1,e2,e3⟩:=seq a2 hd;exact yB value slice pins s σ H _ _ v u Q I rx ry ⟨p,vs,i,w,rfl,rfl,a1,e1,k w g' e2 e3⟩ hs
  |mpz ks =>
   cases r1 with
   |@mpz p _ xs ob hr kr =>
    simp only[Br] at hd;rw[ab] at hd;obtain⟨e,he,rfl⟩:=hd;obtain⟨v',hv',mr⟩:=kr.val i he;cases rx;obtain⟨t,rfl⟩:=ry;obtain⟨z,lo,vs,rel,dd⟩:=qY I.hok (.inr ⟨_,hr⟩);obtain⟨u',hu,ru⟩:∃ u',valueAt vs (.inl i)=some u'∧RelV v' u':=by
     have:=rel.val (.inl i);rw[hv'] at this;cases q:valueAt vs (.inl i) with
     |none=>rw[q] at this;exact this.elim
     |some u'=>rw[q] at this;exact⟨u',rfl,this⟩
    have fin:EP X pins σ Q u' { s with toks:=s.toks+1 }:=⟨v',H,I.tok _,ru,k _ [] mr.rep (List.nil_sublist _)⟩;exact subscriptTail_builtinR (x:=u') dd.mapOf.typeIs slot_dict_getitem.lookup (wpAny_getItem_of (Q:=fun r s'=>r=u'∧EP X pins σ Q r s') (kK X.prog X.w i t) dd.mapOf hu ⟨rfl,fin⟩) hs
  |_=>cases hd
 |_=>cases d1<;>cases hd
end
end Pc
end
section
namespace Pc
open PySem PySem.Spec PyProof.Rows L2
section
variable {X:Cx}{T:Tb}{a b c:Expr}{ca cb cc:Ex}{pos:Pos}
theorem D2 {i:Nat}{x:Str}(hN:X.N[i]? = some x) (hv:Bv X.env.scope x) (hd:(x==("__debug__" : Str))=false) (hcd:(x==("__classdict__" : Str))=false):PE X (.Name x pos) (tE X.K T (.var i)):=by
 refine bV (sH hN hv hd hcd) fun σ H Q ⟨P,env,F,re,p,hev,k⟩=>?_
 unfold ev at hev;cases hs:env[i]? with
 |none=>rw[hs] at hev;cases hev
 |some o =>
  cases o with
  |none=>rw[hs] at hev;cases hev
  |some q =>
   obtain⟨d,t⟩:=q;rw[hs] at hev;simp only[Rs.ok.injEq] at hev;subst hev;obtain⟨v,e1,rp⟩:=re.val i d t hs;refine⟨v,e1,k v H (F i) (aO.refl _) rp ?_⟩;cases hf:d.flat with
   |true =>
    rw[rp.flat hf];exact bX.nil
   |false =>
    simp only[Bool.false_eq_true,if_false];have ow:bP t=true→bX env F H (.mv [i]) H (F i):=fun o=>by
     obtain⟨n1,n2,n3⟩:=re.one i d t hs o;refine⟨fun a ha=>.inr ⟨i,d,t,ha,hs,fun q hq=>by cases t<;>simp_all [bN,bP,Rt.roots]⟩,fun R e=>?_⟩;cases e;exact⟨n1,n2,fun a ha=>.inr ⟨i,d,t,by simp,ha,hs,o⟩⟩
    cases t with
    |own=>exact ow rfl
    |lk=>exact ow rfl
    |sh R=>exact⟨fun a ha=>.inr ⟨i,d,.sh R,ha,hs,fun q hq=>hq⟩,fun R' e=>by cases e⟩
theorem iB {e:Expr}{d:D}{v:V}(h:PE X e (tC v)) (hr:∀ H,Rep X.K H d v []):PE X e (tE X.K T (.cst d)):=by
 refine bV h fun σ H Q ⟨P,env,F,re,p,hev,k⟩=>?_
 unfold ev at hev;cases hev;exact k v H [] (aO.refl _) (hr H) bX.nil
theorem Dh {e:Expr}{i:Nat}{v:V}(h:PE X e (tC v)) (hr:∀ H,Rep X.K H (T.gl i) v []):PE X e (tE X.K T (.glb i)):=by
 refine bV h fun σ H Q ⟨P,env,F,re,p,hev,k⟩=>?_
 unfold ev at hev;cases hev;exact k v H [] (aO.refl _) (hr H) bX.nil
theorem Dx (ha:PE X a (tE X.K T ca)):PE X (.UnaryOp .USub a pos) (tE X.K T (.neg ca)):=by
 refine bV (E8 D0 ha) fun σ H Q ⟨P,env,F,re,p,hev,k⟩=>?_
 unfold ev at hev;obtain⟨q,h1,hev⟩:=Rs.bind_ok hev;refine⟨P,env,F,re,q,h1,fun v H1 G s rp rt=>?_⟩;cases hq:q.1 with
 |int i =>
  rw[hq] at hev rp;cases hev;obtain⟨rfl,rfl⟩:=rp.int_inv;exact⟨i,rfl,k _ H1 [] s (.int _) bX.nil⟩
 |_=>rw[hq] at hev;cases hev
theorem CJ {op:CmpOp}(hu:X.A.units+40<cLine∧BC X.w X.K) (ha:PE X a (tE X.K T ca)) (hb:PE X b (tE X.K T cb)) (hm:behindInMarks op b=false):PT X (.Compare a [op] [b] pos) (m7 X.K T (.cmp op ca cb)):=by
 refine rT (zZ (tZ op hu) ha hb hm) fun σ H Q ⟨P,env,F,re,p0,bb,hev,ht,k⟩=>?_
 unfold ev at hev;obtain⟨p,h1,hev⟩:=Rs.bind_ok hev;obtain⟨q,h2,hev⟩:=Rs.bind_ok hev;obtain⟨d,h3,hev⟩:=Rs.bind_ok hev;have h3:=dI h3;cases hev;obtain rfl:d=bb:=bz ht;refine two re h1 h2 fun x y H2 G ar=>⟨p.1,q.1,.bl d,G,ar.reps,by simp[h3],fun v H' G' rp nv=>?_⟩
 obtain⟨rfl,_⟩:=rp.bl_inv;exact⟨d,rfl,k H' (ar.same.trans nv.same)⟩
variable {rest:List Expr}
theorem D9 (ha:PE X a (tE X.K T ca)) (hb:PE X (.BoolOp .And (b::rest) pos) (tE X.K T cb)):PE X (.BoolOp .And (a::b::rest) pos) (tE X.K T (.and ca cb)):=by
 refine bV (Ec ha hb) fun σ H Q ⟨P,env,F,re,p,hev,k⟩=>?_
 unfold ev at hev;obtain⟨q,h1,hev⟩:=Rs.bind_ok hev;refine⟨P,env,F,re,q,h1,fun v H1 G s rp rt=>?_⟩;cases hq:q.1 with
 |bl kb =>
  rw[hq] at hev rp;obtain⟨rfl,rfl⟩:=rp.bl_inv;cases kb with
  |true=>exact⟨true,rfl,by rw[if_pos rfl];exact⟨P,env,F,re.same s,p,hev,fun v H' G s' rp' rt'=>k v H' G (s.trans s') rp' (rt'.back s)⟩⟩
  |false =>
   cases hev;exact⟨false,rfl,by rw[if_neg bj];exact k _ H1 [] s (.bl _) bX.nil⟩
 |_=>rw[hq] at hev;cases hev
theorem GU (ha:PE X a (tE X.K T ca)) (hb:PE X (.BoolOp .Or (b::rest) pos) (tE X.K T cb)):PE X (.BoolOp .Or (a::b::rest) pos) (tE X.K T (.or ca cb)):=by
 refine bV (Gj ha hb) fun σ H Q ⟨P,env,F,re,p,hev,k⟩=>?_
 unfold ev at hev;obtain⟨q,h1,hev⟩:=Rs.bind_ok hev;refine⟨P,env,F,re,q,h1,fun v H1 G s rp rt=>?_⟩;cases hq:q.1 with
 |bl kb =>
  rw[hq] at hev rp;obtain⟨rfl,rfl⟩:=rp.bl_inv;cases kb with
  |false=>exact⟨false,rfl,by rw[if_neg bj];exact⟨P,env,F,re.same s,p,hev,fun v H' G s' rp' rt'=>k v H' G (s.trans s') rp' (rt'.back s)⟩⟩
  |true =>
   cases hev;exact⟨true,rfl,by rw[if_pos rfl];exact k _ H1 [] s (.bl _) bX.nil⟩
 |_=>rw[hq] at hev;cases hev
theorem CU (ha:PE X a (tE X.K T ca)):PE X (.UnaryOp .Not a pos) (tE X.K T (.not ca)):=by
 refine bV (Eu ha) fun σ H Q ⟨P,env,F,re,p,hev,k⟩=>?_
 unfold ev at hev;obtain⟨q,h1,hev⟩:=Rs.bind_ok hev;refine⟨P,env,F,re,q,h1,fun v H1 G s rp rt=>?_⟩;cases hq:q.1 with
 |bl kb =>
  rw[hq] at hev rp;obtain⟨rfl,rfl⟩:=rp.bl_inv;cases hev;exact⟨kb,rfl,k _ H1 [] s (.bl _) bX.nil⟩
 |_=>rw[hq] at hev;cases hev
theorem CH (ha:PT X a (m7 X.K T ca)) (hb:PW X (.BoolOp .And (b::rest) pos) (m7 X.K T cb)):PW X (.BoolOp .And (a::b::rest) pos) (m7 X.K T (.and ca cb)):=by
 intro wh pins s σ H Q I h;refine DB ha hb wh pins s σ H Q I ?_;obtain⟨P,env,F,re,p,bb,hev,ht,k⟩:=h;unfold ev at hev;obtain⟨q,h1,hev⟩:=Rs.bind_ok hev;cases hq:q.1 with
 |bl kb =>
  rw[hq] at hev;cases kb with
  |true=>exact⟨P,env,F,re,q,true,h1,by rw[hq];rfl,fun H' s=>by show if true=true then _ else _;rw[if_pos rfl];exact⟨P,env,F,re.same s,p,bb,hev,ht,fun H2 s2=>k H2 (s.trans s2)⟩⟩
  |false =>
   cases hev;cases ht;exact⟨P,env,F,re,q,false,h1,by rw[hq];rfl,fun H' s=>by show if false=true then _ else _;rw[if_neg bj];exact k H' s⟩
 |_=>rw[hq] at hev;cases hev
theorem Gp (ha:PT X a (m7 X.K T ca)) (hb:PW X (.BoolOp .Or (b::rest) pos) (m7 X.K T cb)):PW X (.BoolOp .Or (a::b::rest) pos) (m7 X.K T (.or ca cb)):=by
 intro wh pins s σ H Q I h;refine FT ha hb wh pins s σ H Q I ?_;obtain⟨P,env,F,re,p,bb,hev,ht,k⟩:=h;unfold ev at hev;obtain⟨q,h1,hev⟩:=Rs.bind_ok hev;cases hq:q.1 with
 |bl kb =>
  rw[hq] at hev;cases kb with
  |false=>exact⟨P,env,F,re,q,false,h1,by rw[hq];rfl,fun H' s=>by show if false=true then _ else _;rw[if_neg bj];exact⟨P,env,F,re.same s,p,bb,hev,ht,fun H2 s2=>k H2 (s.trans s2)⟩⟩
  |true =>
   cases hev;cases ht;exact⟨P,env,F,re,q,true,h1,by rw[hq];rfl,fun H' s=>by show if true=true then _ else _;rw[if_pos rfl];exact k H' s⟩
 |_=>rw[hq] at hev;cases hev
theorem Er (ha:PT X a (m7 X.K T ca)):PT X (.UnaryOp .Not a pos) (m7 X.K T (.not ca)):=by
 refine rT (DS ha) fun σ H Q ⟨P,env,F,re,p,bb,hev,ht,k⟩=>?_
 unfold ev at hev;obtain⟨q,h1,hev⟩:=Rs.bind_ok hev;cases hq:q.1 with
 |bl kb =>
  rw[hq] at hev;cases hev;cases ht;exact⟨P,env,F,re,q,kb,h1,by rw[hq];rfl,fun H' s=>k H' s⟩
 |_=>rw[hq] at hev;cases hev
theorem A3 {K:Frag}{H:Hp}{d:D}{v:V}{G:List Addr}{b:Bool}(rp:Rep K H d v G) (h:truth d=some b):CM K v H b:=by
 cases rp with
 |dct _=>cases h
 |mpi _=>cases h
 |mpt _=>cases h
 |mpz _=>cases h
 |non=>cases h;rfl
 |bl c=>cases h;rfl
 |int i=>cases h;rfl
 |str z =>
  simp only[truth] at h;by_cases hl:z.length≤lim
  ·rw[if_pos hl] at h;cases h;exact⟨jo hl,rfl⟩
  ·rw[if_neg hl] at h;cases h
 |lst a r =>
  rename_i vs ds g;cases h;refine .inl ⟨vs,.inl a,?_⟩;have:=r.len;cases ds<;>cases vs<;>simp_all
 |tup a r =>
  rename_i vs ds;cases h;refine .inr (.inl ⟨vs,a.sq,?_⟩);have:=r.len;cases ds<;>cases vs<;>simp_all
theorem cX {e:Expr}(h:PE X e (tE X.K T ca)) (he:∀ whole,isTrue e X.env whole=(do let v ← whole;standAt e.pos;holding [v] (truthy v))):PT X e (m7 X.K T ca):=by
 refine rT (xv h he) fun σ H Q ⟨P,env,F,re,p,bb,hev,ht,k⟩=>?_
 exact⟨P,env,F,re,p,hev,fun v H' G s rp rt=>⟨bb,A3 rp ht,k H' s⟩⟩
theorem C6 (hc:PT X c (m7 X.K T cc)) (ha:PE X a (tE X.K T ca)) (hb:PE X b (tE X.K T cb)):PE X (.IfExp c a b pos) (tE X.K T (.ite cc ca cb)):=by
 refine bV (xi hc ha hb) fun σ H Q ⟨P,env,F,re,p,hev,k⟩=>?_
 unfold ev at hev;obtain⟨q,h1,hev⟩:=Rs.bind_ok hev;obtain⟨kb,h2,hev⟩:=Rs.bind_ok hev;refine⟨P,env,F,re,q,kb,h1,dI h2,fun H' s=>?_⟩;cases kb with
 |true=>rw[if_pos rfl];exact⟨P,env,F,re.same s,p,hev,fun v H2 G s' rp' rt'=>k v H2 G (s.trans s') rp' (rt'.back s)⟩
 |false=>rw[if_neg bj];exact⟨P,env,F,re.same s,p,hev,fun v H2 G s' rp' rt'=>k v H2 G (s.trans s') rp' (rt'.back s)⟩
variable {es:List Expr}{cs:la}
theorem rR:PA X [] (uw X.K T .nil):=by
 refine xQ rD fun σ H Q ⟨P,env,F,re,l,hev,k⟩=>?_
 unfold bM at hev;cases hev;exact k [] H [] (.nil (aO.refl _))
theorem k9 (ha:PE X a (tE X.K T ca)) (hr:PA X es (uw X.K T cs)) (hs:starEach (a::es) X.env=(false,eval a X.env)::starEach es X.env):PA X (a::es) (uw X.K T (.cons ca cs)):=by
 refine xQ (lq ha hr hs) fun σ H Q ⟨P,env,F,re,l,hev,k⟩=>?_
 unfold bM at hev;obtain⟨p,h1,hev⟩:=Rs.bind_ok hev;obtain⟨q,h2,hev⟩:=Rs.bind_ok hev;cases hev;exact⟨P,env,F,re,p,h1,fun v H1 G s rp rt=>⟨P,env,F,re.same s,q,h2,fun vs H2 G' ar=>k (v::vs) H2 _ (.cons s rp rt ar)⟩⟩
theorem bX.addNew {env:En}{F:Nat→List Addr}{H H1:Hp}{r:Rt}{G:List Addr}{p:Addr}{vs:List V}(h:bX env F H r H1 G) (e:aO H H1) (hp:H1 p=none) (hl:∀ a∈G,H1 a≠none):bX env F H r (upd H1 p (.lst vs)) (p::G) where
 cont:=fun a ha=>by
  rcases az.mp ha with rfl | ha
  ·exact .inl (aO.no e hp)
  ·exact h.cont a ha
 mv:=fun R hr=>by
  obtain⟨a,b,c⟩:=h.mv R hr;refine⟨dk.mpr ⟨fun z=>hl p z hp,a⟩,fun x hx=>?_,fun x hx=>?_⟩
  ·rcases az.mp hx with rfl | hx
   ·exact⟨.l _,aW⟩
   ·obtain⟨ws,q⟩:=b x hx;exact⟨ws,aO.new hp _ _ q⟩
  ·rcases az.mp hx with rfl | hx
   ·exact .inl (aO.no e hp)
   ·exact c x hx
theorem C1 (h:PA X es (uw X.K T cs)):PE X (.List es pos) (tE X.K T (.lst cs)):=by
 refine bV (DA h) fun σ H Q ⟨P,env,F,re,p,hev,k⟩=>?_
 unfold ev at hev;obtain⟨l,h1,hev⟩:=Rs.bind_ok hev;by_cases hl:l.length≤lim
 ·rw[if_pos hl] at hev;cases hev;refine⟨P,env,F,re,l,h1,fun vs H1 G ar=>?_⟩;have rs:=ar.reps;have hlen:=rs.len;rw[aj] at hlen;refine⟨by rw[←hlen];exact jo hl,fun q hq=>?_⟩;have e:=aO.new (o:=.lst vs) hq;exact k _ _ (q::G) (ar.same.trans e) (.lst (.inl aW) (rs.same e)) ((ar.comb re).addNew ar.same hq fun a ha=>rs.nn ha)
 ·rw[if_neg hl] at hev;cases hev
theorem Cw {x1:Nat}(h:PA X es (uw X.K T cs)):PE X (.Tuple es x1 pos) (tE X.K T (.tup cs)):=by
 refine bV (Ei h) fun σ H Q ⟨P,env,F,re,p,hev,k⟩=>?_
 unfold ev at hev;obtain⟨l,h1,hev⟩:=Rs.bind_ok hev;by_cases hl:l.length≤lim
 ·rw[if_pos hl] at hev;cases hev;refine⟨P,env,F,re,l,h1,fun vs H1 G ar=>?_⟩;have rs:=ar.reps;have hlen:=rs.len;rw[aj] at hlen;refine⟨by rw[←hlen];exact jo hl,fun q hq=>?_⟩;have e:=aO.new (o:=.tup vs) hq;exact k _ _ G (ar.same.trans e) (.tup (.inl aW) (rs.same e)) ((ar.comb re).later e)
 ·rw[if_neg hl] at hev;cases hev
noncomputable def Dz (K:Frag) (n:Nat) (f:List D→Rs (D×Bool)):Sp:=fun vs H Q E=>∃ ds G,ds.length=n∧aM K H ds vs G∧∃ r,f ds = .ok r∧∀ v H' G',aO H H'→Rep K H' r.1 v G'→(∀ a∈G',H a=none∨a∈G)→(r.2=true→G'.Nodup∧∀ a∈G',H a=none∧∃ vs:ML,H' a=some vs.o)→Q v H'
theorem t9 {K:Frag}{n:Nat}{f:List D→Rs (D×Bool)}{vs:List V}{H:Hp}{Q:VK}{E:XK}(h:Dz K n f vs H Q E):vs.length=n:=by
 obtain⟨ds,G,h1,h2,_⟩:=h;rw[←h1,h2.len]
theorem nJ {f:Nat}{n:Nat}{σ:L2.St}{H:Hp}{Q:VK}(hn:∀ ds r,T.cl f ds = .ok r→ds.length=n) (h:tE X.K T (.call f cs) σ H Q):wD (Dz X.K n (T.cl f)) [] E0 (uw X.K T cs) σ H Q:=by
 obtain⟨P,env,F,re,p,hev,k⟩:=h;unfold ev at hev;obtain⟨l,h1,hev⟩:=Rs.bind_ok hev;obtain⟨r,h2,hev⟩:=Rs.bind_ok hev;cases hev;refine⟨P,env,F,re,l,h1,fun vs H1 G ar=>?_⟩;show Dz X.K n (T.cl f) (vs ++ []) H1 Q E0;rw[cg];refine⟨l.map (·.1),G,hn _ _ h2,ar.reps,r,h2,fun v H' G' s rp sub fr=>k v H' G' (ar.same.trans s) rp ?_⟩;cases hr:r.2 with
 |true =>
  obtain⟨a,b⟩:=fr hr;have c:∀ x∈G',H x=none:=fun x hx=>aO.no ar.same (b x hx).1
  exact⟨fun x hx=>.inl (c x hx),fun R e=>⟨a,fun x hx=>(b x hx).2,fun x hx=>.inl (c x hx)⟩⟩
 |false =>
  refine⟨fun x hx=>?_,fun R e=>by cases e⟩;rcases sub x hx with q | q
  ·exact .inl (aO.no ar.same q)
  ·exact ar.cont x q
end
noncomputable def pS (K:Frag) (b:AZ):List V→Hp→VK→Prop:=fun xs H Q=>∃ ds d G,aM K H ds xs G∧jN b ds=some d∧∀ v H' G',Rep K H' d v G'→i4 H H' G d G'→Q v H'
section
variable {X:Cx}{T:Tb}
theorem p9 {b:AZ}{cs:la}{σ:L2.St}{H:Hp}{Q:VK}(h:tE X.K T (.blt b cs) σ H Q):tCB (pS X.K b) (uw X.K T cs) σ H Q:=by
 obtain⟨P,env,F,re,p,hev,k⟩:=h;unfold ev at hev;obtain⟨l,h1,hev⟩:=Rs.bind_ok hev;obtain⟨d,h2,hev⟩:=Rs.bind_ok hev;cases hev;exact⟨P,env,F,re,l,h1,fun vs H1 G ar=>⟨l.map (·.1),d,G,ar.reps,dI h2,fun v H' G' rp nv=>k v H' G' (ar.same.trans nv.same) rp (bX.new ar nv fun _ z=>z)⟩⟩
theorem aM.of1 {K:Frag}{H:Hp}{d:D}{xs:List V}{G:List Addr}(h:aM K H [d] xs G):∃ x,xs=[x]∧Rep K H d x G:=by
 cases h with
 |cons r s=>cases s;exact⟨_,rfl,by rw[cg];exact r⟩
theorem CT {prog:Program}{w:World}(d:Addr) (hd:(d==sysModules)=false):MeetsIn prog w (Builtin.«dict.__len__» ⟨[.ref d],[]⟩) (fun _ R s=>∃ o es ep,s.heap.get? d=some o∧o.ExactDict∧o.data = .dict es ep∧R (.ok (.ret (.int es.size s.toks))) { s with toks:=s.toks+1 }):=by
 intro A R s h;obtain⟨o,es,ep,h1,h2,h3,h⟩:=h;unfold Builtin.«dict.__len__»
 wp_walk
 rw[h3];unfold Builtin.Dict.pendingCount;rw[hd]
 wp_walk
 simpa using h
theorem u7:fV X (.builtin "len") (pS X.K .len):=by
 intro pins s σ H xs us Q I r h;obtain⟨ds,d,G,rs,hd,k⟩:=h
 match ds,hd with
 |[.lst ys],hd =>
  cases hd;obtain⟨x,rfl,rp⟩:=rs.of1;obtain⟨p,vs,g,rfl,rfl,a1,a2⟩:=rp.lst_inv;exact jC pins s σ H _ us Q I r ⟨p,vs,rfl,.inl (.inl a1),by rw[←a2.len];exact k _ H [] (.int _) i4.nil⟩
 |[.tup ys],hd =>
  cases hd;obtain⟨x,rfl,rp⟩:=rs.of1;obtain⟨p,vs,rfl,a1,a2⟩:=rp.tup_inv;exact jC pins s σ H _ us Q I r ⟨p,vs,rfl,.inr a1,by rw[←a2.len];exact k _ H [] (.int _) i4.nil⟩
 |[.str z],hd =>
  simp only[jN,BP] at hd;by_cases hl:z.length≤lim
  ·rw[if_pos hl] at hd;cases hd;obtain⟨x,rfl,rp⟩:=rs.of1;obtain⟨rfl,rfl⟩:=rp.str_inv;exact pz pins s σ H _ us Q I r ⟨z,rfl,jo hl,k _ H [] (.int _) i4.nil⟩
  ·rw[if_neg hl] at hd;cases hd
 |[.mpt ks],hd =>
  cases hd;obtain⟨x,rfl,rp⟩:=rs.of1;obtain⟨u,rfl,rx⟩:=r.one;cases rp with
  |@mpt p _ hr =>
   obtain rfl:u = .ref p:=rx;obtain⟨z,lo,xs,rel,dd⟩:=sM I.hok hr;have hty:=dd.typeIs;obtain⟨o,es,ep,h1,h2,h3,h4,_,_⟩:=dd;have hl:ks.length=es.size:=by
    have e1:=Paired.length rel;have e2:=congrArg List.length h4;unfold Es at e1;rw[aj] at e1 e2;rw[e1,←e2,Array.length_toList]
   have hz:ks.length≤sizeLine:=by
    unfold Es at z
    rwa [aj] at z
   rw[sizeLine_eq] at hz;refine call_len_slot (n:=(ks.length:Int)) hty PySem.F.slot_dict_len (fun Q' hQ'=>call_meetsIn PySem.F.slot_dict_len hty PySem.F.entry_dict_len (PySem.F.args_dict_len_1 _) (CT p lo) ⟨o,es,ep,h1,h2,h3,?_⟩) (by omega) (by omega) ⟨.int _,H,(I.tok _).tok _,⟨_,rfl⟩,k _ H [] (.int _) i4.nil⟩;rw[←hl];exact hQ'
theorem pY {pins:List (Addr×Obj)}{s:Shared}{σ:L2.St}{H:Hp}{xs:List V}{us:List Value}{Q:VK}(I:Inv X pins σ H s) (r:aQ xs us) {ds:List D}{d:D}{G:List Addr}(rs:aM X.K H ds xs G) (hd:jN .list ds=some d) (k:∀ v H' G',Rep X.K H' d v G'→i4 H H' G d G'→Q v H') (hn:∀ ks,ds≠[.mpi ks]):wpAny (model X.prog X.w) X.A (call (.type "list") us) (EP X pins σ Q) X.xe s:=by
 match ds,hd with
 |[.mpi ks],hd=>exact absurd rfl (hn ks)
 |[.lst ys],hd =>
  cases hd;obtain⟨x,rfl,rp⟩:=rs.of1;obtain⟨p,vs,g,rfl,rfl,a1,a2⟩:=rp.lst_inv;refine jR pins s σ H _ us Q I r ⟨p,vs,rfl,.inl (.inl a1),fun l hl=>?_⟩;obtain⟨n1,n2⟩:=g9 (G0:=p::g) a2 (fun a ha=>aa _ ha) hl;exact k _ _ _ n1 n2
 |[.tup ys],hd =>
  cases hd;obtain⟨x,rfl,rp⟩:=rs.of1;obtain⟨p,vs,rfl,a1,a2⟩:=rp.tup_inv;refine jR pins s σ H _ us Q I r ⟨p,vs,rfl,.inr a1,fun l hl=>?_⟩;obtain⟨n1,n2⟩:=g9 (G0:=G) a2 (fun a ha=>ha) hl;exact k _ _ _ n1 n2
theorem uL:fV X (.builtin "abs") (pS X.K .abs):=by
 intro pins s σ H xs us Q I r h;obtain⟨ds,d,G,rs,hd,k⟩:=h
 match ds,hd with
 |[.int i],hd =>
  cases hd;obtain⟨x,rfl,rp⟩:=rs.of1;obtain⟨rfl,rfl⟩:=rp.int_inv;exact xU pins s σ H _ us Q I r ⟨i,rfl,k _ H [] (.int _) i4.nil⟩
end
end Pc
end
section
namespace Pc
open PySem PySem.Spec PyProof.Rows L2
noncomputable def jf (K:Frag) (P:Addr→Prop) (H0:Hp) (J:It) (ds:List D) (G:List Addr):Prop:=∀ H,j7 P H0 H→(∀(i:Nat) (d:D),ds[i]? = some d→J.go i H∧∀ x H',J.yld i H x H'→aO H H'∧∃ G',Rep K H' d x G'∧∀ a∈G',a∈G)∧J.stop ds.length H
noncomputable def tI (K:Frag) (T:Tb) (it:qE):TI:=fun σ H R=>∃ P env F,RE K P env σ H F∧∃ p,eW T it env = .ok p∧∀ J H' G,aO H H'→bX env F H (.sh p.2) H' G→(∀ a∈G,H' a≠none)→(∀ P',(∀ a∈G,P' a)→jf K P' H' J p.1 G)→R J H'
theorem vB {K:Frag}{P:Addr→Prop}{H0:Hp}{p:Addr}{vs:List V}{ds:List D}{G:List Addr}(h1:Rd H0 p (.lst vs)) (h2:aM K H0 ds vs G) (hp:∀ a∈p::G,P a):jf K P H0 (Itl K p) ds (p::G):=fun H e=>by
 have ep:=e.keep p (hp p ae);have h1':Rd H p (.lst vs):=by
  rcases h1 with q | ⟨o,q⟩
  ·exact .inl (ep.trans q)
  ·exact .inr ⟨o,ep.trans q⟩
 have h2':=e.reps h2 fun a ha=>hp a (aa _ ha)
 refine⟨fun i d hd=>?_,⟨vs,.inl h1',by rw[h2.len];exact aw _⟩⟩;obtain⟨v,G',a,b,c⟩:=h2'.get hd;refine⟨⟨vs,v,.inl h1',a⟩,fun x H' ⟨e1,e2⟩=>?_⟩;subst e1;have:=e2 vs (.inl h1');rw[a] at this;cases this;exact⟨aO.refl _,G',b,fun z hz=>aa _ (c.subset hz)⟩
theorem wG {K:Frag}{P:Addr→Prop}{H0:Hp}{p:Addr}{vs:List V}{ds:List D}{G:List Addr}(h1:kQ K H0 p vs) (h2:aM K H0 ds vs G) (hp:∀ a∈G,P a):jf K P H0 (Itt K p) ds G:=fun H e=>by
 have h1':=e.tqT h1;have h2':=e.reps h2 hp;refine⟨fun i d hd=>?_,⟨vs,h1'.sq,by rw[h2.len];exact aw _⟩⟩;obtain⟨v,G',a,b,c⟩:=h2'.get hd;refine⟨⟨vs,v,h1'.sq,a⟩,fun x H' ⟨e1,e2⟩=>?_⟩;subst e1;have:=e2 vs h1'.sq;rw[a] at this;cases this;exact⟨aO.refl _,G',b,fun z hz=>c.subset hz⟩
noncomputable def Fu (xs:List V):It:=⟨fun i _=>i<xs.length,fun i H x H'=>H'=H∧xs[i]? = some x,fun i _=>xs.length≤i⟩
theorem oa {K:Frag}{P:Addr→Prop}{H0:Hp}{vs:List V}{ds:List D}(hr:∀ H,aM K H ds vs []):jf K P H0 (Fu vs) ds []:=fun H e=>by
 have hl:=(hr H).len;refine⟨fun i d hd=>?_,by show vs.length≤ds.length;omega⟩;obtain⟨v,G',a,b,c⟩:=(hr H).get hd;refine⟨by show i<vs.length;rw[←hl];exact (ak.mp hd).1,fun x H' ⟨e1,e2⟩=>?_⟩;subst e1;rw[a] at e2;cases e2;exact⟨aO.refl _,G',b,fun z hz=>c.subset hz⟩
theorem nk {P:Program}{w:World}{K:Frag}{tg:Expr}{it:Addr}{xs:List V}{Pv:Nat→Value→Prop}{St:Nat→Heap→Prop}(W:∀ A:Around,A.handled=none→Walks P w A it [it] [it] xs.length Pv St) (hP:∀ i v,Pv i v→∃ x,xs[i]? = some x∧RelV x v)
  (ob:∀ i h,St i h→∃ o n vs,h.get? it=some o∧o.cls = .type n∧o.data = .fields vs∧["enumerate","zip","dict_itemiterator","dict_reverseitemiterator","odict_iterator","itertools.zip_longest","itertools.pairwise"].contains n=false)
  (fr:∀ i h h',St i h→(∀ o,h.get? it=some o→h'.get? it=some o)→St i h') (le:∀ i h,St i h→i≤xs.length) (slf:∀(A:Around) (i:Nat) (s:Shared) (Q E:Value→Shared→Prop),St i s.heap→Q (.ref it) s→wpAny (model P w) A (pyIter (.ref it)) Q E s):Turn P w K tg (Fu xs) [it] it St where
 mem:=by simp
 obj:=fun i h st b hb=>by
  have e:b=it:=by simpa using hb
  subst e;obtain⟨o,n,vs,h1,h2,h3,_⟩:=ob i h st;exact⟨o,h1,fun v z=>by rw[h3] at z;cases z⟩
 keep:=fun i h h' st k=>fr i h h' st fun o e=>k it (by simp) o e
 item:=by
  intro X hp hw hK hc i pins s σ H E I hf st hg;subst hp hw hK;obtain⟨f0,f1,f2,f3,f4,f5⟩:=hf it (by simp);refine (W X.A (I.ok.hd hc)).item i s _ _ hg st fun v h' tk hv st' kk=>?_
  obtain⟨x,ex,rx⟩:=hP i v hv;have I1:Inv X pins σ H { s with heap:=h',toks:=tk }:=I.turned (fun b o hb e=>kk b o (by simpa using hb) e) f0 f1 f3 f4 f5;obtain⟨o,n,vs,h1,h2,h3,h4⟩:=ob (i+1) h' st';exact⟨v,rfl,uh (s:={ s with heap:=h',toks:=tk }) (n:=n) h1 h2 h3 h4 ⟨x,H,I1,rx,⟨rfl,ex⟩,st',fun b hb=>(hf b hb).1⟩⟩
 done:=by
  intro X hp hw hK hc i pins s σ H E I hf st hg;subst hp hw hK;obtain⟨f0,f1,f2,f3,f4,f5⟩:=hf it (by simp);have hi:i=xs.length:=Nat.le_antisymm (le i _ st) hg;subst hi;exact (W X.A (I.ok.hd hc)).done s _ _ st fun h' tk kk=>⟨rfl,I.turned (fun b o hb e=>kk b o (by simpa using hb) e) f0 f1 f3 f4 f5⟩
 self:=fun A i s Q E st h=>slf A i s Q E st h
noncomputable def eJ (a c:Int) (n:Nat):List V:=(List.range n).map fun (i:Nat)=>.int (a+(i:Int)*c)
theorem jt (a c:Int) (n:Nat):(eJ a c n).length=n:=by simp[eJ]
theorem gZ {K:Frag}{H:Hp}(c:Int):∀(n:Nat) (a:Int),aM K H (bH a c n) (eJ a c n) []
 |0,a=>.nil
 | n+1,a=>by
  have e:eJ a c (n+1) = .int a::eJ (a+c) c n:=by
   unfold eJ;rw[List.range_succ_eq_map,ba,bq];congr 1
   ·simp
   ·refine dn fun i _=>?_
    simp only[Function.comp_apply,V.int.injEq,Nat.succ_eq_add_one]
    push_cast
    rw[Int.add_mul];omega
  rw[e];show aM K H (.int a::bH (a+c) c n) _ ([] ++ []);exact .cons (.int a) (gZ c n (a+c))
theorem j5 (a b c:Int) (hc:c≠0):0≤Builtin.Range.rangeSize a b c:=by
 unfold Builtin.Range.rangeSize;split
 ·rename_i h;split
  ·have:0≤(b - a - 1) / c:=Int.ediv_nonneg (by omega) (by omega);omega
  ·omega
 ·split
  ·have:0≤(a - b - 1) / (-c):=Int.ediv_nonneg (by omega) (by omega);omega
  ·omega
theorem qx {a b c:Int}(ha:fO a=true) (hb:fO b=true) (hc:c≠0) (hs:c.natAbs<1073741824):Builtin.Range.small a b c=true:=by
 unfold fO at ha hb;have ha:=of_decide_eq_true ha;have hb:=of_decide_eq_true hb;have hn:=j5 a b c hc;have hu:Builtin.Range.rangeSize a b c<2 ^ 63:=by
  unfold Builtin.Range.rangeSize;split
  ·split
   ·have:=Int.ediv_le_self (b:=c) (a:=b - a - 1) (by omega);omega
   ·decide
  ·split
   ·have:=Int.ediv_le_self (b:=-c) (a:=a - b - 1) (by omega);omega
   ·decide
 unfold Builtin.Range.small;simp only[Builtin.Range.rangeFitsLong,Bool.and_eq_true,Bool.or_eq_true,decide_eq_true_eq,beq_iff_eq];refine⟨⟨⟨⟨⟨by omega,by omega⟩,by omega,by omega⟩,by omega,by omega⟩,by omega,hu⟩,.inr ?_⟩;split<;>simp only[Bool.and_eq_true,decide_eq_true_eq]<;>omega
section
variable {X:Cx}{tg:Expr}
theorem kz {pins:List (Addr×Obj)}{σ:L2.St}{H:Hp}{s:Shared}{R:It→Hp→Prop}{E:Value→Shared→Prop}{lo hi c:Int}{t u v:Tok}{tk:Nat}(I:Inv X pins σ H s) (h1:fO lo=true) (h2:fO hi=true) (h3:c≠0) (h4:c.natAbs<1073741824)
  (q:R (Fu (eJ lo c (Builtin.Range.rangeSize lo hi c).toNat)) H):wpAny (model X.prog X.w) X.A (pyIter (.ref s.heap.objs.size)) (Ct X pins σ tg R) E { s with heap:=s.heap.push { cls:=.type "range",data:=.fields #[.int lo t,.int hi u,.int c v] },toks:=tk }:=by
 refine wpAny_pyIter_range (IsRange.new ..) (qx h1 h2 h3 h4) ?_;have I1:Inv X pins σ H { s with heap:=s.heap.push { cls:=.type "range",data:=.fields #[.int lo t,.int hi u,.int c v] },toks:=tk }:=I.kept fun b o e=>Heap.get?_push_of_some _ e
 have hn:=j5 lo hi c h3;let n:=(Builtin.Range.rangeSize lo hi c).toNat;refine⟨(s.heap.push { cls:=.type "range",data:=.fields #[.int lo t,.int hi u,.int c v] }).objs.size,[(s.heap.push { cls:=.type "range",data:=.fields #[.int lo t,.int hi u,.int c v] }).objs.size],
  (fun i h=>i≤n∧IsRangeIter h (s.heap.push { cls:=.type "range",data:=.fields #[.int lo t,.int hi u,.int c v] }).objs.size (lo+(i:Nat)*c) ((n:Int) - (i:Nat)) c),_,H,rfl,
  I1.kept (t':=tk) fun b o e=>Heap.get?_push_of_some _ e,nk (Pv:=fun i v=>i<n∧∃ t,v = .int (lo+i*c) t) (fun A hA=>?_) (fun i v hv=>?_) (fun i h st=>?_) (fun i h h' st k=>⟨st.1,k _ st.2⟩) (fun i h st=>by rw[jt];exact st.1) (fun A i s Q E st h=>wpAny_pyIter_rangeiter st.2 h),?_,fun b hb=>?_,q⟩
 ·rw[jt];have W:=Walks.range (prog:=X.prog) (w:=X.w) hA (s.heap.push { cls:=.type "range",data:=.fields #[.int lo t,.int hi u,.int c v] }).objs.size lo c n;exact⟨W.sub,fun i h h' st k=>⟨st.1,W.frame i h h' st.2 k⟩,fun i s Q E hi st hQ=>W.item i s Q E hi st.2 fun v h' tk hv st' kk=>hQ v h' tk ⟨hi,hv⟩ ⟨hi,st'⟩ kk,fun s Q E st hQ=>W.done s Q E st.2 hQ,fun i s Q E st h=>W.self i s Q E st.2 h⟩
 ·obtain⟨hi',t',rfl⟩:=hv;exact⟨.int (lo+i*c),by unfold eJ;rw[av,ft hi'];rfl,t',rfl⟩
 ·exact⟨_,_,_,st.2,rfl,rfl,by decide⟩
 ·refine⟨de _,?_⟩;have e1:lo+((0:Nat):Int)*c=lo:=by simp
  have e2:((n:Nat):Int) - ((0:Nat):Int)=Builtin.Range.rangeSize lo hi c:=by omega
  rw[e1,e2];exact Heap.get?_push_size _ rfl
 ·have e:b=(s.heap.push { cls:=.type "range",data:=.fields #[.int lo t,.int hi u,.int c v] }).objs.size:=by simpa using hb
  subst e;exact I1.fpOk (aw _) (I1.hok.fresh (aw _))
end
end Pc
end
section
namespace Pc
open PySem PySem.Spec PyProof.Rows L2
section
variable {X:Cx}{tg:Expr}{T:Tb}{pins:List (Addr×Obj)}{σ:L2.St}{H:Hp}{s:Shared}{R:It→Hp→Prop}{E:Value→Shared→Prop}
theorem A8 {a:Addr}{xs:List V}(I:Inv X pins σ H s) (hq:j8 X.K H a xs) (q:R (Itl X.K a) H):wpAny (model X.prog X.w) X.A (pyIter (.ref a)) (Ct X pins σ tg R) E s:=by
 obtain⟨its,rv,p,hz⟩:=I.list hq;refine wpAny_pyIter_list p.isList ?_;refine⟨s.heap.objs.size,[s.heap.objs.size],_,_,H,rfl,I.kept (t':=s.toks) fun b o e=>Heap.get?_push_of_some _ e,vh a _,⟨_,Heap.get?_push_size _ rfl,rfl,rfl⟩,fun b hb=>?_,q⟩;have e:b=s.heap.objs.size:=by simpa using hb
 subst e;exact I.fpOk (aw _) (I.hok.fresh (aw _))
theorem wN {a:Addr}{xs:List V}(I:Inv X pins σ H s) (hq:j6 X.K H a xs) (q:R (Itt X.K a) H):wpAny (model X.prog X.w) X.A (pyIter (.ref a)) (Ct X pins σ tg R) E s:=by
 obtain⟨its,rv,p,hz⟩:=I.tuple hq;refine wpAny_pyIter_tuple (show s.heap.IsTuple a its.toArray from p) ?_;refine⟨s.heap.objs.size,[s.heap.objs.size],_,_,H,rfl,I.kept (t':=s.toks) fun b o e=>Heap.get?_push_of_some _ e,rz a _,⟨_,Heap.get?_push_size _ rfl,rfl,rfl⟩,fun b hb=>?_,q⟩;have e:b=s.heap.objs.size:=by simpa using hb
 subst e;exact I.fpOk (aw _) (I.hok.fresh (aw _))
noncomputable def ItZ (d:Addr) (o:Obj) (xs:List (Key×V)):It:=⟨fun i H=>H d=some (.frz o (.dK xs))∧i<xs.length,fun i H x H'=>H'=H∧∃ kv,xs[i]? = some kv∧x=kV kv.1,fun i H=>H d=some (.frz o (.dK xs))∧xs.length≤i⟩
theorem uR {P:Program}{w:World}{K:Frag}{tg:Expr}{it d:Addr}{o:Obj}{xs:List (Key×V)}{vs:List (Key×Value)}{ep:Nat}(hne:d≠it) (rel:KV xs vs) (hat:∀ h:Heap,h.get? d=some o→h.DictAt (cK P w) d vs ep):Turn P w K tg (ItZ d o xs) [it] it (fun i h=>i≤vs.length∧h.IsKeyIter it d i vs.length ep) where
 mem:=by simp
 obj:=fun i h st b hb=>by
  have e:b=it:=by simpa using hb
  subst e;obtain⟨_,o',h1,h2,h3⟩:=st;exact⟨o',h1,fun v z=>by rw[h3] at z;cases z⟩
 keep:=fun i h h' st k=>⟨st.1,st.2.at fun o e=>k it (by simp) o e⟩
 item:=by
  intro X hp hw hK hc i pins s σ H E I hf st hg;subst hp hw hK;obtain⟨f0,f1,f2,f3,f4,f5⟩:=hf it (by simp);obtain⟨hz,hlt⟩:=hg;have ho:s.heap.get? d=some o:=(I.hok d _ hz).1;have hl:=rel.length;refine (Walks.dictKeys (I.ok.hd hc) it d hne vs ep).item i s _ _ (by omega) ⟨st.2,hat _ ho⟩ fun v h' tk hv st' kk=>?_
  obtain⟨k,x,hx,hk⟩:=hv;have I1:Inv X pins σ H { s with heap:=h',toks:=tk }:=I.turned (fun b o hb e=>kk b o (by simpa using hb) e) f0 f1 f3 f4 f5;obtain⟨oi,h1,h2,h3⟩:=st'.1;obtain⟨kv,e1⟩:∃ kv,xs[i]? = some kv:=⟨xs[i],bc hlt⟩;have ek:kv.1=k:=by
   have:=congrArg (fun l:List Key=>l[i]?) rel.keys;simp only[List.getElem?_map,e1,hx,Option.map_some,Option.some.injEq] at this;exact this
  have rx:RelV (kV kv.1) v:=by
   rw[ek];rcases bU (show lB k v=true from hk) with ⟨i,t,rfl,rfl⟩ | ⟨x,t,rfl,rfl⟩
   ·exact⟨t,rfl⟩
   ·exact⟨t,rfl⟩
  exact⟨v,rfl,uh (s:={ s with heap:=h',toks:=tk }) (n:="dict_keyiterator") h1 h2 h3 (by decide) ⟨kV kv.1,H,I1,rx,⟨rfl,kv,e1,rfl⟩,⟨by omega,st'.1⟩,fun b hb=>(hf b hb).1⟩⟩
 done:=by
  intro X hp hw hK hc i pins s σ H E I hf st hg;subst hp hw hK;obtain⟨f0,f1,f2,f3,f4,f5⟩:=hf it (by simp);obtain⟨hz,hge⟩:=hg;have ho:s.heap.get? d=some o:=(I.hok d _ hz).1;have hl:=rel.length;have hi:i=vs.length:=by have:=st.1;omega
  subst hi;exact (Walks.dictKeys (I.ok.hd hc) it d hne vs ep).done s _ _ ⟨st.2,hat _ ho⟩ fun h' tk kk=>⟨rfl,I.turned (fun b o hb e=>kk b o (by simpa using hb) e) f0 f1 f3 f4 f5⟩
 self:=fun A i s Q E st h=>wpAny_pyIter_keyiter st.2 h
theorem z7 {a:Addr}{o:Obj}{xs:List (Key×V)}(I:Inv X pins σ H s) (hq:H a=some (.frz o (.dK xs))) (q:R (ItZ a o xs) H):wpAny (model X.prog X.w) X.A (pyIter (.ref a)) (Ct X pins σ tg R) E s:=by
 have ho:s.heap.get? a=some o:=(I.hok a _ hq).1;obtain⟨z,lo,vs,rel,dd⟩:=qY I.hok (.inr ⟨_,hq⟩);obtain⟨ep,o',es,h1,h2⟩:=dd.dictAt;rw[ho] at h1;cases h1;refine wpAny_pyIter_dict lo ⟨o,es,ho,h2⟩ ?_;refine⟨s.heap.objs.size,[s.heap.objs.size],_,_,H,rfl,I.kept (t':=s.toks) fun b o e=>Heap.get?_push_of_some _ e,uR (vs:=vs) (ep:=ep) (cj (Heap.lt_size ho)) rel (fun h e=>⟨o,es,e,h2⟩),⟨de _,⟨_,Heap.get?_push_size _ rfl,rfl,rfl⟩⟩,fun b hb=>?_,q⟩;have e:b=s.heap.objs.size:=by simpa using hb
 subst e;exact I.fpOk (aw _) (I.hok.fresh (aw _))
theorem uM {K:Frag}{P:Addr→Prop}{H0:Hp}{p:Addr}{o:Obj}{xs:List (Key×V)}{ks:List (Int×MV)}(h1:H0 p=some (.frz o (.dK xs))) (h2:jc K H0 ks xs):jf K P H0 (ItZ p o xs) (ks.map fun q=>.int q.1) []:=fun H e=>by
 have h1':=e.fz _ _ _ h1;have hl:=h2.len;refine⟨fun i d hd=>?_,⟨h1',by rw[aj];omega⟩⟩;have hi:i<ks.length:=by have:=(ak.mp hd).1;rwa [aj] at this
 refine⟨⟨h1',by omega⟩,fun x H' ⟨e1,kv,e2,e3⟩=>?_⟩;subst e1 e3;refine⟨aO.refl _,[],?_,fun a ha=>nomatch ha⟩;rw[av] at hd;have key:∀{ks:List (Int×MV)}{xs:List (Key×V)}{i:Nat}{kv:Key×V}{q:Int×MV},jc K H0 ks xs→xs[i]? = some kv→ks[i]? = some q→kv.1 = .inl q.1:=by
  intro ks
  induction ks with
  |nil=>intro xs i kv q _ _ h;cases h
  |cons a r ih =>
   intro xs i kv q h e1 e2;cases xs with
   |nil=>cases e1
   |cons x xs =>
    cases i with
    |zero=>cases e1;cases e2;exact h.1
    |succ i=>exact ih h.2.2 e1 e2
 cases hq:ks[i]? with
 |none=>rw[hq] at hd;cases hd
 |some q =>
  rw[hq] at hd;cases hd;rw[key h2 e2 hq];exact .int q.1
noncomputable def oS (z:Str):List V:=z.cps.toList.map fun c=>.str ⟨#[c]⟩
theorem Eg {z:Str}{t:Tok}(I:Inv X pins σ H s) (q:R (Fu (oS z)) H):wpAny (model X.prog X.w) X.A (pyIter (.str z t)) (Ct X pins σ tg R) E s:=by
 have hlen:(oS z).length=z.cps.size:=by simp[oS]
 have core:∀(nm:String) (hn:["enumerate","zip","dict_itemiterator","dict_reverseitemiterator","odict_iterator","itertools.zip_longest","itertools.pairwise"].contains nm=false)
   (W:∀ A:Around,A.handled=none→Walks X.prog X.w A s.heap.objs.size [s.heap.objs.size] [s.heap.objs.size] z.cps.size (SignAt z) (fun i h=>h.IsStrIter s.heap.objs.size nm z t i))
   (slf:∀(A:Around) (i:Nat) (s':Shared) (Q E:Value→Shared→Prop),s'.heap.IsStrIter s.heap.objs.size nm z t i→Q (.ref s.heap.objs.size) s'→wpAny (model X.prog X.w) A (pyIter (.ref s.heap.objs.size)) Q E s'),
   Ct X pins σ tg R (.ref s.heap.objs.size) { s with heap:=s.heap.push { cls:=.type nm,data:=.fields #[.str z t,.int 0 0] } }:=by
  intro nm hn W slf;refine⟨s.heap.objs.size,[s.heap.objs.size],(fun i h=>i≤z.cps.size∧h.IsStrIter s.heap.objs.size nm z t i),_,H,rfl,I.kept (t':=s.toks) fun b o e=>Heap.get?_push_of_some _ e,
   nk (Pv:=SignAt z) (fun A hA=>?_) (fun i v hv=>?_) (fun i h st=>?_) (fun i h h' st k=>⟨st.1,let ⟨o,ho,r⟩:=st.2;⟨o,k o ho,r⟩⟩) (fun i h st=>by rw[hlen];exact st.1) (fun A i s Q E st h=>slf A i s Q E st.2 h),⟨de _,⟨_,Heap.get?_push_size _ rfl,rfl,rfl⟩⟩,fun b hb=>?_,q⟩
  ·rw[hlen];have W:=W A hA;exact⟨W.sub,fun i h h' st k=>⟨st.1,W.frame i h h' st.2 k⟩,fun i s Q E hi st hQ=>W.item i s Q E hi st.2 fun v h' tk hv st' kk=>hQ v h' tk hv ⟨hi,st'⟩ kk,fun s Q E st hQ=>W.done s Q E st.2 hQ,fun i s Q E st h=>W.self i s Q E st.2 h⟩
  ·obtain⟨c,u,e,rfl⟩:=hv;exact⟨.str ⟨#[c]⟩,by simp[oS];exact e,u,rfl⟩
  ·obtain⟨o,ho,hc,hd⟩:=st.2;exact⟨o,nm,_,ho,hc,hd,hn⟩
  ·have e:b=s.heap.objs.size:=by simpa using hb
   subst e;exact I.fpOk (aw _) (I.hok.fresh (aw _))
 cases ha:z.cps.all (· < 128)
 ·exact wpAny_pyIter_wide ha (core "str_iterator" (by decide) (fun A' hA=>Walks.strWide hA _ z t) fun A i s' Q E st h=>wpAny_pyIter_striter_wide st h)
 ·exact wpAny_pyIter_ascii ha (core "str_ascii_iterator" (by decide) (fun A' hA=>Walks.strAscii hA _ z t) fun A i s' Q E st h=>wpAny_pyIter_striter_ascii st h)
theorem mw {K:Frag}{H:Hp}:∀(cs:List Nat),aM K H (cs.map fun c=>D.str ⟨#[c]⟩) (cs.map fun c=>V.str ⟨#[c]⟩) []
 |[]=>.nil
 | c::cs=>by
  show aM K H (_::_) (_::_) ([] ++ []);exact .cons (.str _) (mw cs)
theorem x8 {e:Expr}{c:Ex}(h:PE X e (tE X.K T c)):PI X tg e (tI X.K T (.seq c)):=by
 intro pins s σ H R I hq;obtain⟨P,env,F,re,p,hev,k⟩:=hq;unfold eW at hev;obtain⟨q,h1,hev⟩:=Rs.bind_ok hev;obtain⟨l,h2,hev⟩:=Rs.bind_ok hev;have h2:=dI h2;cases hev;refine dD (h pins s σ H (fun v H'=>∃ G,aO H H'∧Rep X.K H' q.1 v G∧bX env F H q.2 H' G) I ⟨P,env,F,re,q,h1,fun v H' G s rp rt=>⟨G,s,rp,rt⟩⟩) fun u s1 ⟨v,H1,I1,r1,G,e,rp,rt⟩=>?_
 have rt':bX env F H (.sh q.2.roots) H1 G:=rt.part (fun _ h=>h) (fun _ h=>h) fun R e=>by cases e
 cases hd:q.1 with
 |lst xs =>
  rw[hd] at rp h2;cases h2;obtain⟨a,vs,g,rfl,rfl,a1,a2⟩:=rp.lst_inv;cases r1;exact A8 I1 (.inl a1) (k _ H1 (a::g) e rt' (fun b hb=>rp.nn hb) fun P' hP=>vB a1 a2 hP)
 |tup xs =>
  rw[hd] at rp h2;cases h2;obtain⟨a,vs,rfl,a1,a2⟩:=rp.tup_invT;cases r1;exact wN I1 a1.sq (k _ H1 G e rt' (fun b hb=>rp.nn hb) fun P' hP=>wG a1 a2 hP)
 |str z =>
  rw[hd] at rp h2;simp only[wR] at h2;by_cases hl:z.length≤lim
  ·rw[if_pos hl] at h2;cases h2;obtain⟨rfl,rfl⟩:=rp.str_inv;obtain⟨t,rfl⟩:=r1;exact Eg I1 (k _ H1 [] e bX.nil (fun _ h=>(nomatch h)) fun P' hP=>oa fun H=>mw _)
  ·rw[if_neg hl] at h2;cases h2
 |mpz ks =>
  rw[hd] at rp h2;cases h2;cases rp with
  |@mpz a _ xs o hz kr =>
   cases r1;exact z7 I1 hz (k _ H1 [] e rt' (fun _ h=>(nomatch h)) fun P' hP=>uM hz kr)
 |_=>rw[hd] at h2;cases h2
theorem kF (a b:Int):(Builtin.Range.rangeSize a b 1).toNat=(b - a).toNat:=by
 rw[rangeSize_one];split<;>omega
theorem DK {es:List Expr}{cs:la}{it:qE}{p pos:Pos}{e0:Expr}{rest:List Expr}(hes:es=e0::rest) (hg:Gl X "range") (hm:X.mg "range" = none) (ha:PA X es (uw X.K T cs)) (hs:starEach es X.env=(false,eval e0 X.env)::starEach rest X.env) (hpl:(backTo pos (starEach rest X.env)).any (·.1)=false)
  (hit:∀ env p,eW T it env = .ok p→p.2=[]∧∃ l,bM T cs env = .ok l∧((∃ j,l.map (·.1)=[.int j]∧fO j=true∧p.1=bH 0 1 j.toNat)∨(∃ i j,l.map (·.1)=[.int i,.int j]∧fO i=true∧fO j=true∧p.1=bH i 1 (j - i).toNat) ∨
   ∃ i j k,l.map (·.1)=[.int i,.int j,.int k]∧fO i=true∧fO j=true∧k≠0∧k.natAbs<1073741824∧p.1=bH i k (Builtin.Range.rangeSize i j k).toNat)) :
  PI X tg (.Call (.Name "range" p) es [] pos) (tI X.K T it):=by
 subst hes;intro pins s σ H R I hq;obtain⟨P,env,F,re,q,hev,k⟩:=hq;obtain⟨hq2,l,hl,hc⟩:=hit env q hev;refine Call_ (iL I hg hm boot_range (da (dD (ha pos pins s σ H (fun vs H'=>∃ G,Args X.K env F H H' l vs G) I ⟨P,env,F,re,l,hl,fun vs H' G ar=>⟨G,ar⟩⟩) fun us s1 ⟨vs,H1,I1,r1,G,ar⟩=>?_) hs hpl));have rs:=ar.reps;have fin:∀(a c:Int) (n:Nat),q.1=bH a c n→R (Fu (eJ a c n)) H1:=fun a c n e=>by
  refine k _ H1 [] ar.same bX.nil (fun _ h=>(nomatch h)) fun P' _=>?_
  rw[e];exact oa fun H=>gZ c n a
 have one:∀{d:D}{ds:List D}{vs:List V}{us:List Value}{G:List Addr},aM X.K H1 (d::ds) vs G→aQ vs us→∀ i,d = .int i→∃ t us' vs' G',us = .int i t::us'∧vs = .int i::vs'∧aM X.K H1 ds vs' G'∧aQ vs' us':=by
  intro d ds vs us G r rv i e;subst e;cases r with
  |cons r rr =>
   obtain⟨rfl,rfl⟩:=r.int_inv;cases rv with
   |cons x y =>
    obtain⟨t,rfl⟩:=x;exact⟨t,_,_,_,rfl,rfl,rr,y⟩
 have nil:∀{vs:List V}{us:List Value}{G:List Addr},aM X.K H1 [] vs G→aQ vs us→us=[]:=by
  intro vs us G r rv;cases r;cases rv;rfl
 rcases hc with ⟨j,e1,e2,e3⟩ | ⟨i,j,e1,e2,e3,e4⟩ | ⟨i,j,c,e1,e2,e3,e4,e5,e6⟩
 ·rw[e1] at rs;obtain⟨t,us',vs',G',rfl,_,rs,r1⟩:=one rs r1 j rfl;obtain rfl:=nil rs r1;refine call_range_1 (kz (c:=1) I1 (by decide) e2 (by decide) (by decide) ?_);refine fin _ _ _ ?_;rw[e3,kF];simp
 ·rw[e1] at rs;obtain⟨t,us',vs',G',rfl,_,rs,r1⟩:=one rs r1 i rfl;obtain⟨t',us'',vs'',G'',rfl,_,rs,r1⟩:=one rs r1 j rfl;obtain rfl:=nil rs r1;refine call_range_2 (kz (c:=1) I1 e2 e3 (by decide) (by decide) ?_);refine fin _ _ _ ?_;rw[e4,kF]
 ·rw[e1] at rs;obtain⟨t,us',vs',G',rfl,_,rs,r1⟩:=one rs r1 i rfl;obtain⟨t',us'',vs'',G'',rfl,_,rs,r1⟩:=one rs r1 j rfl;obtain⟨t3,us3,vs3,G3,rfl,_,rs,r1⟩:=one rs r1 c rfl;obtain rfl:=nil rs r1;refine call_range_3 e4 (kz (c:=c) I1 e2 e3 e4 e5 ?_) (.inl (PyProof.noPylong_small e5));exact fin _ _ _ e6
end
end Pc
end
section
namespace Pc
open PySem PySem.Spec PyProof.Rows L2
theorem yL {h:Heap}{o o':Obj}{b:Addr}(e:(h.push o).get? b=some o'):(b=h.objs.size∧o'=o)∨h.get? b=some o':=by
 obtain⟨e1,e2⟩:=Heap.get?_some_iff.mp e;by_cases hb:b=h.objs.size
 ·left;subst hb;refine⟨rfl,?_⟩;have:(h.push o).objs[h.objs.size]? = some o:=by cases h;simp[Heap.push]
  rw[this] at e1;exact (bz e1).symm
 ·right;refine Heap.get?_some_iff.mpr ⟨?_,e2⟩;cases h;simpa[Heap.push,Array.getElem?_push,hb] using e1
theorem iD {h:Heap}{a b:Addr}{o o':Obj}(e:h.get? a=some o) (e':h.get? b=some o') (n:o.cls≠o'.cls):a≠b:=by
 rintro rfl;rw[e] at e';cases e';exact n rfl
theorem f6 (b i j:Nat) (h:i≠j):(b+i:Nat)≠b+j:=by omega
theorem ig (b n i:Nat) (h:b+4<n) (hi:i≤4):b+i<n:=by omega
theorem DR (n b:Nat) (h:b=n+1∨b=n):n≤b:=by omega
theorem zC (n b:Nat) (h:b=n+4∨b=n+2∨b=n+3∨b=n∨b=n+1):n≤b:=by omega
section
variable {X:Cx}{pins:List (Addr×Obj)}{σ:L2.St}{H:Hp}{s:Shared}
theorem jW {h':Heap}{t':Nat}{ch:List Addr}(I:Inv X pins σ H s) (k:∀ b o,b∉ch→s.heap.get? b=some o→h'.get? b=some o) (hf:∀ b∈ch,i7 X pins H b):Inv X pins σ H { s with heap:=h',toks:=t' }:=by
 have nit:∀ b u,H b=some u→b∉ch:=fun b u e z=>by
  have:=(hf b z).1;rw[this] at e;cases e
 refine I.step (g':=s.gens) (d':=s.drawn) (ch:=ch) (fun b hb=>?_) (fun b o _ _ hc e _=>k b o hc e) (fun b o _ _ hc e _=>⟨o.slots,k b o hc e⟩) (fun _ _ _ _ n=>n)
  (fun b o hc e=>⟨o,k b o hc e⟩) (fun _ _ e=>e) (fun _ _ _ e=>e) (fun b ps e=>⟨#[],by rw[e];simp⟩) (fun m hm=>?_) (fun b u e=>?_) I.bare
 ·obtain⟨f0,f1,f2,f3,f4,f5⟩:=hf b hb;exact⟨f3,f1,f4,f5⟩
 ·obtain⟨o,es,ep,ho,r⟩:=hm;exact⟨o,es,ep,k _ o (fun z=>(hf _ z).2.1 rfl) ho,r⟩
 ·refine (I.hok b u e).stay (fun c v hc q=>k c v ?_ q) (fun _ q=>q) fun _ _ q=>q
  rcases hc with z | z
  ·rw[z];exact nit b u e
  ·exact nit c _ z
theorem paired {h':Heap}{t':Nat}{ch:List Addr}{x y:V}{u v:Value}(I:Inv X pins σ H s) (hu:RelV x u) (hv:RelV y v) (hT:h'.get? s.heap.objs.size=some { cls:=.type "tuple",data:=.seq #[u,v] })
  (k:∀ b o,b∉ch→s.heap.get? b=some o→h'.get? b=some o) (hf:∀ b∈ch,i7 X pins H b) (hl:∀ b∈ch,b<s.heap.objs.size):Inv X pins σ (upd H s.heap.objs.size (.tup [x,y])) { s with heap:=h',toks:=t' }:=by
 have I1:Inv X pins σ (upd H s.heap.objs.size (.tup [x,y])) { s with heap:=s.heap.push { cls:=.type "tuple",data:=.seq #[u,v] },toks:=t' } :=
  I.laid (fun _ _ q=>Heap.get?_push_of_some _ q) (aw _) ⟨by show 2≤sizeLine;decide,[u,v],.cons hu (.cons hv .nil),⟨_,Heap.get?_push_size _ rfl,rfl,_,rfl⟩⟩
 refine jW (s:={ s with heap:=s.heap.push { cls:=.type "tuple",data:=.seq #[u,v] },toks:=t' }) (ch:=ch) I1 (fun b o hb q=>?_) fun b hb=>?_
 ·rcases yL q with ⟨rfl,rfl⟩ | q
  ·exact hT
  ·exact k b o hb q
 ·obtain⟨f0,f⟩:=hf b hb;exact⟨by rw[aP (cj (hl b hb))];exact f0,f⟩
end
noncomputable def Ite (K:Frag) (l:Addr):It:=⟨fun i H=>∃ xs x,j8 K H l xs∧xs[i]? = some x,fun i H v H'=>∃ T x,v = .ref T∧H T=none∧(∀ xs,j8 K H l xs→xs[i]? = some x)∧H'=upd H T (.tup [.int i,x]),fun i H=>∃ xs,j8 K H l xs∧xs.length≤i⟩
theorem vH {P:Program}{w:World}{K:Frag}{elts:List Expr}{x1:Nat}{pos:Pos}(l e it:Addr) (hne:e≠it):Turn P w K (.Tuple elts x1 pos) (Ite K l) [e,it] e (fun i h=>(∃ old,IsEnum h e it (i:Nat) old)∧h.IsListIter it l i) where
 mem:=by simp
 obj:=fun i h st b hb=>by
  obtain⟨⟨old,he⟩,hit⟩:=st;have hb:b=e∨b=it:=by simpa using hb
  rcases hb with rfl | rfl
  ·exact⟨_,he,fun v z=>by cases z⟩
  ·obtain⟨o,e,c,d⟩:=hit;exact⟨o,e,fun v z=>by rw[d] at z;cases z⟩
 keep:=fun i h h' st k=>⟨let ⟨old,he⟩:=st.1;⟨old,k e (by simp) _ he⟩,st.2.at fun o z=>k it (by simp) o z⟩
 item:=by
  intro X hP hw hK hc i pins s σ H E I hf st hg;subst hP hw hK;obtain⟨xs,x,hq,hx⟩:=hg;obtain⟨its,rv,p,hz⟩:=I.list hq;obtain⟨u,hu,ru⟩:=rv.get hx;obtain⟨⟨old,he⟩,hit⟩:=st;have lts:∀ b∈[e,it],b<s.heap.objs.size:=fun b hb=>by
   have hb:b=e∨b=it:=by simpa using hb
   rcases hb with rfl | rfl
   ·exact Heap.lt_size he
   ·obtain⟨o,e,_⟩:=hit;exact Heap.lt_size e
  refine wpAny_pyNext_enum_item he hit p.isList (x:=u) (by simpa using hu) hne fun h' ho hit' hT hsz hk=>?_
  have I2:Inv X pins σ (upd H s.heap.objs.size (.tup [.int i,x])) { s with heap:=h',toks:=s.toks+1 } :=
   paired (ch:=[e,it]) I ⟨s.toks,rfl⟩ ru hT (fun b o hb q=>hk b o (fun z=>hb (by simp[z])) (fun z=>hb (by simp[z])) q) hf lts
  have f2:∀ b∈[e,it],i7 X pins (upd H s.heap.objs.size (.tup [.int i,x])) b:=fun b hb=>by
   obtain⟨f0,f⟩:=hf b hb;exact⟨by rw[aP (cj (lts b hb))];exact f0,f⟩
  refine⟨_,rfl,wpAny_letOwnedTupleGo_enum (s:={ s with heap:=h',toks:=s.toks+1 }) ho fun h2 he2 hs2=>?_⟩;refine⟨.ref s.heap.objs.size,_,jW (ch:=[e]) I2 (fun b o hb q=>hs2.extBut b o (fun z=>hb (by simp[z])) q) (fun b hb=>f2 b (by simp at hb;simp[hb])),rfl,⟨_,x,rfl,I.fresh,fun ys hy=>by rw[I.list_inj hy hq];exact hx,rfl⟩,⟨⟨_,by simpa using he2⟩,hit'.at fun o z=>hs2.extBut it o (Ne.symm hne) z⟩,fun b hb=>(f2 b hb).1⟩
 done:=by
  intro X hP hw hK hc i pins s σ H E I hf st hg;subst hP hw hK;obtain⟨xs,hq,hx⟩:=hg;obtain⟨its,rv,p,hz⟩:=I.list hq;obtain⟨⟨old,he⟩,hit⟩:=st;have hl:=rv.length;exact wpAny_pyNext_enum_end (I.ok.hd hc) he hit p.isList (by simp;omega) fun h' eb=>⟨rfl,jW (t':=s.toks) (ch:=[it]) I (fun b o hb q=>eb b o (fun z=>hb (by simp[z])) q) fun b hb=>hf b (by simp at hb;simp[hb])⟩
 self:=fun A i s Q E st h=>by
  obtain⟨⟨old,he⟩,_⟩:=st;exact wpAny_pyIter_enum he h
theorem uY {K:Frag}{P:Addr→Prop}{H0:Hp}{p:Addr}{vs:List V}{ds:List D}{G:List Addr}(h1:Rd H0 p (.lst vs)) (h2:aM K H0 ds vs G) (hp:∀ a∈p::G,P a):jf K P H0 (Ite K p) (ds.zipIdx.map fun q=>.tup [.int q.2,q.1]) (p::G):=fun H e=>by
 have ep:=e.keep p (hp p ae);have h1':Rd H p (.lst vs):=by
  rcases h1 with q | ⟨o,q⟩
  ·exact .inl (ep.trans q)
  ·exact .inr ⟨o,ep.trans q⟩
 have h2':=e.reps h2 fun a ha=>hp a (aa _ ha)
 refine⟨fun i d hd=>?_,⟨vs,.inl h1',by rw[aj,List.length_zipIdx,h2.len];exact aw _⟩⟩;have hd:∃ d',ds[i]? = some d'∧d = .tup [.int i,d']:=by
  rw[av,List.getElem?_zipIdx] at hd;cases q:ds[i]? with
  |none=>rw[q] at hd;cases hd
  |some d'=>rw[q] at hd;simp at hd;exact⟨d',rfl,hd.symm⟩
 obtain⟨d',hd',rfl⟩:=hd;obtain⟨v,G',a,b,c⟩:=h2'.get hd';refine⟨⟨vs,v,.inl h1',a⟩,fun x H' ⟨T,x',e1,e2,e3,e4⟩=>?_⟩;subst e1 e4;have:=e3 vs (.inl h1');rw[a] at this;cases this;have sm:aO H (upd H T (.tup [.int i,v])):=aO.new e2;refine⟨sm,G',.tup (.inl aW) ?_,fun z hz=>aa _ (c.subset hz)⟩;have r:=aM.cons (Rep.int (K:=K) (H:=upd H T (.tup [.int i,v])) (i:Int)) (aM.cons (b.same sm) .nil);rw[cg,List.nil_append] at r;exact r
noncomputable def Itz (K:Frag) (l m:Addr):It:=⟨fun i H=>∃ xs ys x y,j8 K H l xs∧j8 K H m ys∧xs[i]? = some x∧ys[i]? = some y,
 fun i H v H'=>∃ T x y,v = .ref T∧H T=none∧(∀ xs,j8 K H l xs→xs[i]? = some x)∧(∀ ys,j8 K H m ys→ys[i]? = some y)∧H'=upd H T (.tup [x,y]),fun i H=>∃ xs ys,j8 K H l xs∧j8 K H m ys∧(xs.length≤i∨ys.length≤i)⟩
theorem n0 {h:Heap}{b l m:Addr}{i j:Nat}{xs ys:Array Value}{u v:Value}(hz:IsZip h (b+4) (b+2) (b+3) .none) (hTO:IsPair h (b+3) u v) (h1:h.IsListIter b l i) (h2:h.IsListIter (b+1) m j)
  (p:h.IsList l xs) (q:h.IsList m ys):ZipApart (b+4) (b+2) (b+3) b (b+1) l m:=by
 obtain⟨o1,e1,c1,_⟩:=h1;obtain⟨o2,e2,c2,_⟩:=h2;obtain⟨o3,e3,c3,_⟩:=p;obtain⟨o4,e4,c4,_⟩:=q;refine⟨f6 b 2 4 (by decide),f6 b 3 4 (by decide),f6 b 0 4 (by decide),f6 b 1 4 (by decide),f6 b 2 3 (by decide),f6 b 2 0 (by decide),f6 b 2 1 (by decide),f6 b 3 0 (by decide),f6 b 3 1 (by decide),f6 b 0 1 (by decide),?_,?_,?_,?_,?_,?_,?_,?_⟩
 ·exact iD e3 hz (by rw[c3];simp)
 ·exact iD e3 hTO (by rw[c3];simp)
 ·exact iD e3 e1 (by rw[c3,c1];simp)
 ·exact iD e3 e2 (by rw[c3,c2];simp)
 ·exact iD e4 hz (by rw[c4];simp)
 ·exact iD e4 hTO (by rw[c4];simp)
 ·exact iD e4 e1 (by rw[c4,c1];simp)
 ·exact iD e4 e2 (by rw[c4,c2];simp)
theorem wI {P:Program}{w:World}{K:Frag}{elts:List Expr}{x1:Nat}{pos:Pos}(l m b:Addr):Turn P w K (.Tuple elts x1 pos) (Itz K l m) [b+4,b+2,b+3,b,b+1] (b+4)
  (fun i h=>IsZip h (b+4) (b+2) (b+3) .none∧IsPair h (b+2) (.ref b) (.ref (b+1))∧(∃ u v,IsPair h (b+3) u v)∧h.IsListIter b l i∧h.IsListIter (b+1) m i) where
 mem:=by simp
 obj:=fun i h st c hc=>by
  obtain⟨hz,hTI,⟨u,v,hTO⟩,h1,h2⟩:=st;simp only[List.mem_cons,List.not_mem_nil,or_false] at hc;rcases hc with rfl | rfl | rfl | rfl | rfl
  ·exact⟨_,hz,fun v z=>by cases z⟩
  ·exact⟨_,hTI,fun v z=>by cases z⟩
  ·exact⟨_,hTO,fun v z=>by cases z⟩
  ·obtain⟨o,e,c,d⟩:=h1;exact⟨o,e,fun v z=>by rw[d] at z;cases z⟩
  ·obtain⟨o,e,c,d⟩:=h2;exact⟨o,e,fun v z=>by rw[d] at z;cases z⟩
 keep:=fun i h h' st k=>by
  obtain⟨hz,hTI,⟨u,v,hTO⟩,h1,h2⟩:=st;exact⟨k _ (by simp) _ hz,k _ (by simp) _ hTI,⟨u,v,k _ (by simp) _ hTO⟩,h1.at fun o z=>k _ (by simp) o z,h2.at fun o z=>k _ (by simp) o z⟩
 item:=by
  intro X hP hw hK hc i pins s σ H E I hf st hg;subst hP hw hK;obtain⟨xs,ys,x,y,hq,hq',hx,hy⟩:=hg;obtain⟨its,rv,p,_⟩:=I.list hq;obtain⟨its',rv',p',_⟩:=I.list hq';obtain⟨u,hu,ru⟩:=rv.get hx;obtain⟨v,hv,rv2⟩:=rv'.get hy;obtain⟨hz,hTI,⟨u0,v0,hTO⟩,h1,h2⟩:=st;have A:=n0 hz hTO h1 h2 p.isList p'.isList;have lts:∀ c∈[b+4,b+3,b,b+1],c<s.heap.objs.size:=fun c hc=>by
   have:=Heap.lt_size hz;simp only[List.mem_cons,List.not_mem_nil,or_false] at hc;rcases hc with rfl | rfl | rfl | rfl
   ·exact ig _ _ 4 this (by decide)
   ·exact ig _ _ 3 this (by decide)
   ·exact ig _ _ 0 this (by decide)
   ·exact ig _ _ 1 this (by decide)
  have hf':∀ c∈[b+4,b+3,b,b+1],i7 X pins H c:=fun c hc=>hf c (by
   simp only[List.mem_cons,List.not_mem_nil,or_false] at hc ⊢;rcases hc with rfl | rfl | rfl | rfl<;>simp)
  refine wpAny_pyNext_zip_item A hz hTI hTO h1 h2 p.isList p'.isList (x:=u) (y:=v) (by simpa using hu) (by simpa using hv) fun h' a1 a2 a3 a4 a5 a6 hk=>?_
  have I2:Inv X pins σ (upd H s.heap.objs.size (.tup [x,y])) { s with heap:=h' } :=
   paired (t':=s.toks) (ch:=[b+4,b+3,b,b+1]) I ru rv2 a5 (fun c o hc q=>hk c o (fun z=>hc (by simp[z])) (fun z=>hc (by simp[z])) (fun z=>hc (by simp[z])) (fun z=>hc (by simp[z])) q) hf' lts
  have f2:∀ c∈[b+4,b+2,b+3,b,b+1],i7 X pins (upd H s.heap.objs.size (.tup [x,y])) c:=fun c hc=>by
   obtain⟨f0,f⟩:=hf c hc;have:=Heap.lt_size hz;have hlt:c<s.heap.objs.size:=by
    simp only[List.mem_cons,List.not_mem_nil,or_false] at hc;rcases hc with rfl | rfl | rfl | rfl | rfl
    ·exact ig _ _ 4 this (by decide)
    ·exact ig _ _ 2 this (by decide)
    ·exact ig _ _ 3 this (by decide)
    ·exact ig _ _ 0 this (by decide)
    ·exact ig _ _ 1 this (by decide)
   exact⟨by rw[aP (cj hlt)];exact f0,f⟩
  refine⟨_,rfl,wpAny_letOwnedTupleGo_zip (s:={ s with heap:=h' }) a1 fun h3 hz3 hs3=>?_⟩;refine⟨.ref s.heap.objs.size,_,jW (t':=s.toks) (ch:=[b+4]) I2 (fun c o hc q=>hs3.extBut c o (fun z=>hc (by simp[z])) q) (fun c hc=>f2 c (by simp at hc;simp[hc])),rfl,
   ⟨_,x,y,rfl,I.fresh,fun zs hz=>by rw[I.list_inj hz hq];exact hx,fun zs hz=>by rw[I.list_inj hz hq'];exact hy,rfl⟩,
   ⟨hz3,hs3.extBut _ _ A.TIz (hk _ _ A.TIz A.TITO A.TIi1 A.TIi2 hTI),⟨_,_,hs3.extBut _ _ A.TOz a2⟩,a3.at fun o z=>hs3.extBut _ o A.i1z z,a4.at fun o z=>hs3.extBut _ o A.i2z z⟩,fun c hc=>(f2 c hc).1⟩
 done:=by
  intro X hP hw hK hc i pins s σ H E I hf st hg;subst hP hw hK;obtain⟨xs,ys,hq,hq',hx⟩:=hg;obtain⟨its,rv,p,_⟩:=I.list hq;obtain⟨its',rv',p',_⟩:=I.list hq';have hl:=rv.length;have hl':=rv'.length;obtain⟨hz,hTI,⟨u0,v0,hTO⟩,h1,h2⟩:=st;have A:=n0 hz hTO h1 h2 p.isList p'.isList;refine wpAny_pyNext_zip_end (I.ok.hd hc) A hz hTI hTO h1 h2 p.isList p'.isList ?_ fun h' hk=>⟨rfl,jW (t':=s.toks) (ch:=[b+4,b+3,b,b+1]) I (fun c o hc q=>hk c o (fun z=>hc (by simp[z])) (fun z=>hc (by simp[z])) (fun z=>hc (by simp[z])) (fun z=>hc (by simp[z])) q) fun c hc=>hf c ?_⟩
  ·rcases hx with hx | hx
   ·left;simp;omega
   ·right;simp;omega
  ·simp only[List.mem_cons,List.not_mem_nil,or_false] at hc ⊢;rcases hc with rfl | rfl | rfl | rfl<;>simp
 self:=fun A i s Q E st h=>wpAny_pyIter_zip st.1 h
theorem zf {K:Frag}{P:Addr→Prop}{H0:Hp}{p q:Addr}{vs us:List V}{ds es:List D}{G G':List Addr}(h1:Rd H0 p (.lst vs)) (h2:aM K H0 ds vs G) (h3:Rd H0 q (.lst us)) (h4:aM K H0 es us G') (hp:∀ a∈(p::G)++(q::G'),P a) :
  jf K P H0 (Itz K p q) ((ds.zip es).map fun z=>.tup [z.1,z.2]) ((p::G)++(q::G')):=fun H e=>by
 have ep:=e.keep p (hp p (by simp));have eq:=e.keep q (hp q (by simp));have h1':Rd H p (.lst vs):=by
  rcases h1 with q | ⟨o,q⟩
  ·exact .inl (ep.trans q)
  ·exact .inr ⟨o,ep.trans q⟩
 have h3':Rd H q (.lst us):=by
  rcases h3 with q | ⟨o,q⟩
  ·exact .inl (eq.trans q)
  ·exact .inr ⟨o,eq.trans q⟩
 have h2':=e.reps h2 fun a ha=>hp a (by simp[ha])
 have h4':=e.reps h4 fun a ha=>hp a (by simp[ha])
 refine⟨fun i d hd=>?_,⟨vs,us,.inl h1',.inl h3',?_⟩⟩
 ·have hd:∃ d1 d2,ds[i]? = some d1∧es[i]? = some d2∧d = .tup [d1,d2]:=by
   rw[av] at hd;rw[ab] at hd;obtain⟨⟨d1,d2⟩,hd,rfl⟩:=hd;rw[List.getElem?_zip_eq_some] at hd;exact⟨d1,d2,hd.1,hd.2,rfl⟩
  obtain⟨d1,d2,hd1,hd2,rfl⟩:=hd;obtain⟨v1,g1,a1,b1,c1⟩:=h2'.get hd1;obtain⟨v2,g2,a2,b2,c2⟩:=h4'.get hd2;refine⟨⟨vs,us,v1,v2,.inl h1',.inl h3',a1,a2⟩,fun x H' ⟨T,x',y',e1,e2,e3,e4,e5⟩=>?_⟩;subst e1 e5;have t1:=e3 vs (.inl h1');rw[a1] at t1;cases t1;have t2:=e4 us (.inl h3');rw[a2] at t2;cases t2;have sm:aO H (upd H T (.tup [v1,v2])):=aO.new e2;refine⟨sm,g1++(g2 ++ []),.tup (.inl aW) (.cons (b1.same sm) (.cons (b2.same sm) .nil)),fun z hz=>?_⟩;simp only[List.append_nil,List.mem_append] at hz;rcases hz with hz | hz
  ·exact bf _ (aa _ (c1.subset hz))
  ·exact aq _ (aa _ (c2.subset hz))
 ·rw[aj,List.length_zip,h2.len,h4.len];omega
section
variable {X:Cx}{T:Tb}
theorem nK {env:En}{F:Nat→List Addr}{H H':Hp}{l:List (D×Rt)}{vs:List V}{G:List Addr}{R:List Nat}(ar:Args X.K env F H H' l vs G) (h:∀ q,q∈bD (l.map (·.2))→q∈R):bX env F H (.sh R) H' G where
 cont:=fun a ha=>(ar.cont a ha).imp id fun ⟨i,d,t,x,y,z⟩=>⟨i,d,t,x,y,fun q hq=>h q (z q hq)⟩
 mv:=fun R e=>by cases e
theorem ku {d:D}{l:List D}(h:oH d=some l):d = .lst l:=by
 cases d<;>simp[oH] at h
 rw[h]
theorem zI {e:Expr}{c:Ex}{elts:List Expr}{x1:Nat}{p tp pos:Pos}(hg:Gl X "enumerate") (hm:X.mg "enumerate" = none) (ha:PA X [e] (uw X.K T (.cons c .nil))) (hs:starEach [e] X.env=(false,eval e X.env)::starEach [] X.env):PI X (.Tuple elts x1 tp) (.Call (.Name "enumerate" p) [e] [] pos) (tI X.K T (.enum c)):=by
 intro pins s σ H R I hq;obtain⟨P,env,F,re,q,hev,k⟩:=hq;unfold eW at hev;obtain⟨r,h1,hev⟩:=Rs.bind_ok hev;obtain⟨l,h2,hev⟩:=Rs.bind_ok hev;have h2:=ku (dI h2);cases hev;have hl:bM T (.cons c .nil) env = .ok [r]:=by unfold bM;rw[h1];unfold bM;rfl
 refine Call_ (iL I hg hm boot_enumerate (da (dD (ha pos pins s σ H (fun vs H'=>∃ G,Args X.K env F H H' [r] vs G) I ⟨P,env,F,re,[r],hl,fun vs H' G ar=>⟨G,ar⟩⟩) fun us s1 ⟨vs,H1,I1,r1,G,ar⟩=>?_) hs rfl));have rs:aM X.K H1 [r.1] vs G:=ar.reps;obtain⟨x,rfl,rp⟩:=rs.of1;rw[h2] at rp;obtain⟨a,vs,g,rfl,rfl,a1,a2⟩:=rp.lst_inv;obtain⟨u,rfl,ru⟩:=r1.one;cases ru;obtain⟨its,rv,pl,hz⟩:=I1.list (.inl a1);refine call_enumerate_list pl.isList fun h' he hit hsz hk=>wpAny_pyIter_enum he ⟨_,[s1.heap.objs.size+1,s1.heap.objs.size],_,_,H1,rfl,I1.kept (t':=s1.toks) hk,vH a _ _ (Nat.succ_ne_self _),⟨⟨_,he⟩,hit⟩,fun b hb=>?_,k _ H1 (a::g) ar.same (nK ar fun q hq=>by simpa[bD] using hq) (fun b hb=>rp.nn hb) fun P' hP=>uY a1 a2 hP⟩
 simp only[List.mem_cons,List.not_mem_nil,or_false] at hb;have hb:s1.heap.objs.size≤b:=DR _ _ hb;exact I1.fpOk hb (I1.hok.fresh hb)
theorem CQ {e f:Expr}{c d:Ex}{elts:List Expr}{x1:Nat}{p tp pos:Pos}(hg:Gl X "zip") (hm:X.mg "zip" = none) (ha:PA X [e,f] (uw X.K T (.cons c (.cons d .nil)))) (hs:starEach [e,f] X.env=(false,eval e X.env)::starEach [f] X.env) (hpl:(backTo pos (starEach [f] X.env)).any (·.1)=false):PI X (.Tuple elts x1 tp) (.Call (.Name "zip" p) [e,f] [] pos) (tI X.K T (.zip c d)):=by
 intro pins s σ H R I hq;obtain⟨P,env,F,re,q,hev,k⟩:=hq;unfold eW at hev;obtain⟨r,h1,hev⟩:=Rs.bind_ok hev;obtain⟨t,h2,hev⟩:=Rs.bind_ok hev;obtain⟨l,h3,hev⟩:=Rs.bind_ok hev;obtain⟨m,h4,hev⟩:=Rs.bind_ok hev;have h3:=ku (dI h3);have h4:=ku (dI h4);cases hev;have hl:bM T (.cons c (.cons d .nil)) env = .ok [r,t]:=by unfold bM;rw[h1];unfold bM;rw[h2];unfold bM;rfl
 refine Call_ (iL I hg hm boot_zip (da (dD (ha pos pins s σ H (fun vs H'=>∃ G,Args X.K env F H H' [r,t] vs G) I ⟨P,env,F,re,[r,t],hl,fun vs H' G ar=>⟨G,ar⟩⟩) fun us s1 ⟨vs,H1,I1,r1,G,ar⟩=>?_) hs hpl));have rs:aM X.K H1 [r.1,t.1] vs G:=ar.reps;rw[h3,h4] at rs;cases rs with
 |cons rp rs =>
  obtain⟨x',rfl,rp'⟩:=rs.of1;obtain⟨a,vs,g,rfl,rfl,a1,a2⟩:=rp.lst_inv;obtain⟨a',vs',g',rfl,rfl,a1',a2'⟩:=rp'.lst_inv;obtain⟨u,v,rfl,ru,rv⟩:=r1.two;cases ru;cases rv;obtain⟨its,_,pl,_⟩:=I1.list (.inl a1);obtain⟨its',_,pl',_⟩:=I1.list (.inl a1');refine call_zip_2 pl.isList pl'.isList fun h' q1 q2 q3 q4 q5 q6 hk=>wpAny_pyIter_zip q1 ⟨_,_,_,_,H1,rfl,I1.kept (t':=s1.toks) hk,wI a a' s1.heap.objs.size,⟨q1,q2,⟨_,_,q3⟩,q4,q5⟩,fun b hb=>?_,
   k _ H1 _ ar.same (nK ar fun q hq=>by simpa[bD] using hq) (fun b hb=>?_) fun P' hP=>zf a1 a2 a1' a2' hP⟩
  ·simp only[List.mem_cons,List.not_mem_nil,or_false] at hb;have hb:s1.heap.objs.size≤b:=zC _ _ hb;exact I1.fpOk hb (I1.hok.fresh hb)
  ·rcases bo.mp hb with hb | hb
   ·exact rp.nn hb
   ·exact rp'.nn hb
end
end Pc
end
section
namespace Pc
open PySem PySem.Spec PyProof.Rows L2
noncomputable def tS (K:Frag) (T:Tb) (c:St):TS:=fun D σ H=>∃ P Z env F,RE K P env σ H F∧(∀ i,∀ a∈F i,Z a)∧(∀ a,¬ P a→Z a)∧post K P Z env F H D (bA T c env)
noncomputable def Bt (K:Frag) (T:Tb) (c:bJ):TS:=fun D σ H=>∃ P Z env F,RE K P env σ H F∧(∀ i,∀ a∈F i,Z a)∧(∀ a,¬ P a→Z a)∧post K P Z env F H D (aD T c env)
section
variable {K:Frag}{P Z:Addr→Prop}{env:En}{σ:L2.St}{H:Hp}{F:Nat→List Addr}{D:Ends}
theorem cF {α:Type}{x:Rs α}{k:α→Fl}(h:post K P Z env F H D (gY env x k)):∃ a,x = .ok a∧post K P Z env F H D (k a):=by
 cases x with
 |ok a=>exact⟨a,rfl,h⟩
 |exc e=>exact h.elim
 |bad=>exact h.elim
theorem After.same {H':Hp}(re:RE K P env σ H F) (hz:∀ i,∀ a∈F i,Z a) (e:aO H H'):After K P Z env F H env σ H' F:=⟨re.same e,hz,j7.of_same re.pl e,rh.refl _ _⟩
theorem Cp {H':Hp}{r:Rt}{G:List Addr}(re:RE K P env σ H F) (hz:∀ i,∀ a∈F i,Z a) (zp:∀ a,¬ P a→Z a) (rt:bX env F H r H' G):∀ a∈G,Z a:=fun a ha=>by
 rcases rt.cont a ha with q | ⟨j,_,_,f,_⟩
 ·exact zp a fun z=>re.pl a z q
 ·exact hz j a f
end
section
variable {X:Cx}{T:Tb}{pos:Pos}{e:Expr}{c:Ex}
theorem Au:mT X [] (Bt X.K T .nil):=by
 refine tD AE fun D σ H ⟨P,Z,env,F,re,hz,zp,h⟩=>?_
 unfold aD at h;exact h σ H F (After.same re hz (aO.refl _))
theorem yO {st:Stmt}{rest:List Stmt}{cs:St}{cr:bJ}(h1:PS X st (tS X.K T cs)) (h2:mT X rest (Bt X.K T cr)):mT X (st::rest) (Bt X.K T (.cons cs cr)):=by
 refine tD (yH h1 h2) fun D σ H ⟨P,Z,env,F,re,hz,zp,h⟩=>⟨P,Z,env,F,re,hz,zp,?_⟩
 unfold aD at h;cases hs:bA T cs env with
 |nx env' =>
  rw[hs] at h;exact fun σ' H' F' af=>⟨P,Z,env',F',af.re,af.z,zp,post.trans af h⟩
 |bk env'=>rw[hs] at h;exact h
 |ct env'=>rw[hs] at h;exact h
 |rt d fr=>rw[hs] at h;exact h
 |xc e env'=>rw[hs] at h;exact h
 |bad=>rw[hs] at h;exact h
theorem Bc:PS X (.Pass pos) (tS X.K T .pass):=by
 refine cO Bf fun D σ H ⟨P,Z,env,F,re,hz,zp,h⟩=>?_
 unfold bA at h;exact h σ H F (After.same re hz (aO.refl _))
theorem DL {x:Str}{j:Nat}{pos':Pos}:PS X (.Expr (.Constant (.str x) j pos) pos') (tS X.K T .pass):=by
 refine cO Cf fun D σ H ⟨P,Z,env,F,re,hz,zp,h⟩=>?_
 unfold bA at h;exact h σ H F (After.same re hz (aO.refl _))
theorem DP:PS X (.Break pos) (tS X.K T .brk):=by
 refine cO wH fun D σ H ⟨P,Z,env,F,re,hz,zp,h⟩=>?_
 unfold bA at h;exact h σ H F (After.same re hz (aO.refl _))
theorem Cq:PS X (.Continue pos) (tS X.K T .cnt):=by
 refine cO qb fun D σ H ⟨P,Z,env,F,re,hz,zp,h⟩=>?_
 unfold bA at h;exact h σ H F (After.same re hz (aO.refl _))
theorem zG:PS X (.Return none pos) (tS X.K T .retN):=by
 refine cO A7 fun D σ H ⟨P,Z,env,F,re,hz,zp,h⟩=>?_
 unfold bA at h;exact h .non H [] .non (j7.refl _) (fun _ h=>(nomatch h)) fun _=>⟨c7,fun _ h=>(nomatch h)⟩
theorem C5 (he:PE X e (tE X.K T c)):PS X (.Return (some e) pos) (tS X.K T (.ret c)):=by
 refine cO (DH he) fun D σ H ⟨P,Z,env,F,re,hz,zp,h⟩=>?_
 unfold bA at h;obtain⟨p,hp,h⟩:=cF h;refine⟨P,env,F,re,p,hp,fun v H' G s rp rt=>h v H' G rp (j7.of_same re.pl s) (Cp re hz zp rt) fun fr=>?_⟩;cases hr:p.2 with
 |sh R=>rw[hr] at fr;cases fr
 |mv R =>
  rw[hr] at fr;obtain⟨a,b,d⟩:=rt.mv R hr;refine⟨a,fun x hx=>⟨fun z=>?_,b x hx⟩⟩;rcases d x hx with q | ⟨i,d2,t2,hi,f,e2,o2⟩
  ·exact re.pl x z q
  ·have:=cy.mp fr i hi;split at this
   ·rename_i d' q;exact re.wr i d' q x f z
   ·cases this
theorem zE (he:PE X e (tE X.K T c)) (hs:swapsWith e none pos.line X.env=pure false):PS X (.Expr e pos) (tS X.K T (.expr c)):=by
 refine cO (jz he hs) fun D σ H ⟨P,Z,env,F,re,hz,zp,h⟩=>?_
 unfold bA at h;obtain⟨p,hp,h⟩:=cF h;exact⟨P,env,F,re,p,hp,fun v H' G s rp rt=>h σ H' F (After.same re hz s)⟩
theorem CZ {a b:List Stmt}{ca cb:bJ}(hc:PT X e (m7 X.K T c)) (ha:mT X a (Bt X.K T ca)) (hb:mT X b (Bt X.K T cb)):PS X (.If e a b pos) (tS X.K T (.ite c ca cb)):=by
 refine cO (E9 hc ha hb) fun D σ H ⟨P,Z,env,F,re,hz,zp,h⟩=>?_
 unfold bA at h;obtain⟨p,hp,h⟩:=cF h;cases ht:truth p.1 with
 |none=>rw[ht] at h;exact h.elim
 |some k =>
  rw[ht] at h;refine⟨P,env,F,re,p,k,hp,ht,fun H' s=>?_⟩;have af:=After.same (Z:=Z) re hz s;cases k with
  |true=>show if true=true then _ else _;rw[if_pos rfl];exact⟨P,Z,env,F,af.re,hz,zp,post.trans af h⟩
  |false=>show if false=true then _ else _;rw[if_neg bj];exact⟨P,Z,env,F,af.re,hz,zp,post.trans af h⟩
theorem zi {i:Nat}{x:Str}{pos':Pos}{mv:Bool}(hN:X.N.Nodup) (hi:X.N[i]? = some x) (hx:Loc X.env.scope x) (he:PE X e (tE X.K T c)) (hs:swapsWith e (some (.Name x pos')) pos.line X.env=pure false) (hf:X.fn x=true∨X.env.scope.names.lookup x=some .local) :
  PS X (.Assign [.Name x pos'] e pos) (tS X.K T (.asg (.nm i) c mv)):=by
 refine cO (DM hN hi hx he hs hf) fun D σ H ⟨P,Z,env,F,re,hz,zp,h⟩=>?_
 unfold bA at h;obtain⟨p,hp,h⟩:=cF h;exact⟨P,env,F,re,p,hp,fun v H' G s rp rt=>xO re hz zp s rp rt h⟩
noncomputable def gP:List Nat→BO
 |[]=>GD
 |i::is=>BG (nu i) (gP is)
theorem jw:∀{is:List Nat}{vs:List V}{σ:L2.St}{H:Hp}{Q:L2.St→Hp→Prop},is.length=vs.length→Q (setM is vs σ) H→gP is vs σ H Q
 |[],[],_,_,_,_,q=>⟨rfl,q⟩
 |i::is,v::vs,σ,H,Q,hl,q=>⟨v,vs,rfl,jw (is:=is) (vs:=vs) (by simpa using hl) q⟩
 |[],_::_,_,_,_,hl,_=>by simp at hl
 |_::_,[],_,_,_,hl,_=>by simp at hl
theorem AU {tg:Expr}{is:List Nat}{mv:Bool}(hg:PG X tg (zo X.K is.length (gP is))) (he:PE X e (tE X.K T c)) (hs:swapsWithSole [tg] e pos.line X.env=pure false) (hw:swappedStores [tg] e X.env=pure none) (h1:(assignEach [tg] X.env).map (·.2)=[assign tg X.env]) :
  PS X (.Assign [tg] e pos) (tS X.K T (.asg (.tp is) c mv)):=by
 refine cO (wY he hg hs hw h1) fun D σ H ⟨P,Z,env,F,re,hz,zp,h⟩=>?_
 unfold bA at h;obtain⟨p,hp,h⟩:=cF h;refine⟨P,env,F,re,p,hp,fun v H' G s rp rt=>?_⟩;have re':=re.same s;have ez:=Cp re hz zp rt;have kU:=j7.of_same (P:=P) re.pl s;unfold iI at h;cases hd:p.1 with
 |tup ds =>
  rw[hd] at h rp;obtain⟨a,vs,rfl,a1,a2⟩:=rp.tup_inv;have fin:∀{o:Option En},post X.K P Z env F H D (vE o)→(∀ env',o=some env'→∃ F',RE X.K P env' (setM is vs σ) H' F'∧(∀ i,∀ a∈F' i,Z a)∧rh env F env' F'∧is.length=vs.length)→zo X.K is.length (gP is) (.ref a) σ H' D.nx:=fun {o} h q=>by
   cases o with
   |none=>exact h.elim
   |some env' =>
    obtain⟨F',b1,b2,b3,b4⟩:=q env' rfl;exact⟨a,vs,rfl,a1,b4.symm,jw b4 (h _ H' F' ⟨b1,b2,kU,b3⟩)⟩
  have shared:post X.K P Z env F H D (if is.all (fun i=>!p.2.roots.contains i) then vE (bindM (fun d=>cH d p.2.roots) is ds env) else .bad)→zo X.K is.length (gP is) (.ref a) σ H' D.nx:=fun h=>by
   by_cases hc:is.all (fun i=>!p.2.roots.contains i)=true
   ·rw[if_pos hc] at h;refine fin h fun env' he'=>l7 re' hz a2 ez (fun x hx j d' t' ej o m=>?_) he'
    rcases rt.cont x hx with q | ⟨k,d2,t2,f,e2,sr⟩
    ·exact absurd q (re.nn ej m)
    ·exact sr j ((re.one j d' t' ej o).2.2 x m k d2 t2 e2 f)
   ·rw[if_neg hc] at h;exact h.elim
  cases hr:p.2 with
  |sh R=>rw[hr] at h shared;exact shared h
  |mv R =>
   cases R with
   |cons r0 R0=>rw[hr] at h shared;exact shared h
   |nil =>
    rw[hr] at h;obtain⟨m1,m2,m3⟩:=rt.mv [] hr;have fresh:∀ a∈G,H a=none:=fun a ha=>by
     rcases m3 a ha with q | ⟨_,_,_,q,_⟩
     ·exact q
     ·cases q
    exact fin h fun env' he'=>nX re' hz a2 m1 m2 (fun x hx z=>re.pl x z (fresh x hx)) ez (fun x hx j m=>by
     obtain⟨d2,t2,e2⟩:=re.at' m;exact re.nn e2 m (fresh x hx)) he'
 |_=>rw[hd] at h;exact h.elim
theorem Du {b:List Stmt}{cb:bJ}(hp:PassesOwn (model X.prog X.w) X.A X.env X.xe) (hc:PT X e (m7 X.K T c)) (hb:mT X b (Bt X.K T cb)):PS X (.While e b [] pos) (tS X.K T (.whl c cb)):=by
 refine cO (yT hp hc hb) fun D σ H ⟨P,Z,env,F,re,hz,zp,h⟩=>?_
 unfold bA at h;refine⟨fun m σ' H'=>∃ env' F',After X.K P Z env F H env' σ' H' F'∧post X.K P Z env' F' H' D (eP (fun env=>(ev T c env).bind fun p=>fR (truth p.1)) (aD T cb) m env'),⟨T.fuel,env,F,After.same re hz (aO.refl _),h⟩,fun m σ1 H1 ⟨env1,F1,af,h1⟩=>?_⟩;cases m with
 |zero=>exact h1.elim
 |succ m =>
  unfold eP at h1;obtain⟨k,hk,h1⟩:=cF h1;obtain⟨p,hp1,hk⟩:=Rs.bind_ok hk;refine⟨P,env1,F1,af.re,p,k,hp1,dI hk,fun H2 s2=>?_⟩;have af2:=After.same (Z:=Z) af.re af.z s2;cases k with
  |false =>
   show if false=true then _ else _
   rw[if_neg bj];simp only[Bool.false_eq_true,if_false] at h1;exact h1 σ1 H2 F1 af2
  |true =>
   show if true=true then _ else _
   rw[if_pos rfl];simp only[if_true] at h1;refine⟨fun σ' H'=>∃ env' F',After X.K P Z env F H env' σ' H' F'∧post X.K P Z env' F' H' D (eP (fun env=>(ev T c env).bind fun p=>fR (truth p.1)) (aD T cb) m env'),fun σ' H' q=>⟨m,Nat.lt_succ_self _,q⟩,P,Z,env1,F1,af2.re,af.z,zp,?_⟩;have h1:=post.trans af2 h1;cases hs:aD T cb env1 with
   |nx e'=>rw[hs] at h1;exact fun σ' H' F' af3=>⟨e',F',af.trans (af2.trans af3),post.trans af3 h1⟩
   |ct e'=>rw[hs] at h1;exact fun σ' H' F' af3=>⟨e',F',af.trans (af2.trans af3),post.trans af3 h1⟩
   |bk e'=>rw[hs] at h1;exact h1
   |rt d fr=>rw[hs] at h1;exact h1
   |xc x e'=>rw[hs] at h1;exact h1
   |bad=>rw[hs] at h1;exact h1
noncomputable def rj (K:Frag):lj→TG
 |.nm i=>nu i
 |.tp is=>zo K is.length (gP is)
theorem p4 {K:Frag}{P Z:Addr→Prop}{env env':En}{σ:L2.St}{H:Hp}{F:Nat→List Addr}{t:lj}{d:Pc.D}{v:V}{G:List Addr}{R:List Nat}{Q:L2.St→Hp→Prop}(re:RE K P env σ H F) (hz:∀ i,∀ a∈F i,Z a) (rp:Rep K H d v G) (gz:∀ a∈G,Z a)
  (hs:∀ a∈G,∀(j:Nat) (d':Pc.D) (t':Tg),env[j]? = some (some (d',t'))→bP t'=true→a∈F j→j∈R) (hb:aS R t d env=some env') (hQ:∀ σ' F',RE K P env' σ' H F'→(∀ i,∀ a∈F' i,Z a)→rh env F env' F'→Q σ' H):rj K t v σ H Q:=by
 cases t with
 |nm i =>
  simp only[aS] at hb;by_cases hi:i<env.length
  ·rw[if_pos hi] at hb;cases hb;exact hQ _ _ (tX re hi rp hs) (nj hz gz) (mf hi qV)
  ·rw[if_neg hi] at hb;cases hb
 |tp is =>
  cases d with
  |tup ds =>
   simp only[aS] at hb;obtain⟨a,vs,rfl,a1,a2⟩:=rp.tup_inv;obtain⟨F',b1,b2,b3,b4⟩:=l7 re hz a2 gz hs hb;exact⟨a,vs,rfl,a1,b4.symm,jw b4 (hQ _ F' b1 b2 b3)⟩
  |_=>cases hb
theorem jG {t:lj}{R:List Nat}{b:En→Fl}:∀(ds:List Pc.D) (env:En),(∀ e,bL t R b ds env≠.bk e)∧∀ e,bL t R b ds env≠.ct e
 |[],env=>⟨fun e z=>(by cases z),fun e z=>(by cases z)⟩
 | d::ds,env=>by
  unfold bL;cases aS R t d env with
  |none=>exact⟨fun e z=>(by cases z),fun e z=>(by cases z)⟩
  |some env' =>
   simp only;cases b env' with
   |nx e'=>exact jG ds e'
   |ct e'=>exact jG ds e'
   |bk e'=>exact⟨fun e z=>(by cases z),fun e z=>(by cases z)⟩
   |rt d fr=>exact⟨fun e z=>(by cases z),fun e z=>(by cases z)⟩
   |xc x e'=>exact⟨fun e z=>(by cases z),fun e z=>(by cases z)⟩
   |bad=>exact⟨fun e z=>(by cases z),fun e z=>(by cases z)⟩
theorem Cd {tg iter:Expr}{t:lj}{it:qE}{b:List Stmt}{cb:bJ}(hp:PassesOwn (model X.prog X.w) X.A X.env X.xe) (hc:X.calm=true) (hi:PI X tg iter (tI X.K T it)) (hg:PG X tg (rj X.K t)) (hb:mT X b (Bt X.K T cb)) (hs:∀ x,foldedSetIterable iter X.env x=pure x) :
  PS X (.For tg iter b [] pos) (tS X.K T (.forr t it cb)):=by
 refine cO (Eo hp hc hi hg hb hs) fun D σ H ⟨P,Z,env,F,re,hz,zp,h⟩=>?_
 unfold bA at h;obtain⟨p,hp,h⟩:=cF h;refine⟨P,env,F,re,p,hp,fun J H1 G s1 rt nn wk=>?_⟩;have af1:=After.same (Z:=Z) re hz s1;have h:=post.trans af1 h;let P':Addr→Prop:=fun a=>P a∨a∈G
 have wk:=wk P' fun a ha=>.inr ha
 have seen:∀ a∈G,∀(i:Nat) (d:Pc.D) (t:Tg),env[i]? = some (some (d,t))→bP t=true→a∈F i→i∈p.2:=fun a ha i d t e o m=>by
  rcases rt.cont a ha with q | ⟨k,d2,t2,f,e2,sr⟩
  ·exact absurd q (re.nn e m)
  ·exact sr i ((re.one i d t e o).2.2 a m k d2 t2 e2 f)
 have reL:RE X.K P' (lock p.2 env) σ H1 F:=af1.re.locked nn seen;have gz:∀ a∈G,Z a:=Cp re hz zp rt;let E':Ends:={ D with nx:=fun σ' H'=>∀ env' F',After X.K P' Z (lock p.2 env) F H1 env' σ' H' F'→D.nx σ' H' };have stepP:∀{f:Fl},(∀ e,f≠.bk e)→(∀ e,f≠.ct e)→post X.K P Z env F H1 D (match f with | .nx e=>.nx (unlock p.2 env e) | x=>x)→post X.K P' Z (lock p.2 env) F H1 D f:=fun {f} nb nc h=>by
  cases f with
  |nx e=>exact fun σ' H' F' af=>h σ' H' F' (af.unlocked af1.re)
  |bk e=>exact absurd rfl (nb e)
  |ct e=>exact absurd rfl (nc e)
  |rt d fr=>exact fun v H' G' rp ev z f=>h v H' G' rp (ev.weak fun _ q=>.inl q) z fun w=>⟨(f w).1,fun a ha=>⟨fun q=>((f w).2 a ha).1 (.inl q),((f w).2 a ha).2⟩⟩
  |xc x e=>exact h
  |bad=>exact h
 have h:=stepP (jG _ _).1 (jG _ _).2 h;have zpL:∀ a,¬ P' a→Z a:=fun a ha=>zp a fun q=>ha (.inl q)
 refine⟨fun i m σ' H'=>m=p.1.length - i∧i≤p.1.length∧∃ env' F',After X.K P' Z (lock p.2 env) F H1 env' σ' H' F'∧post X.K P' Z env' F' H' D (bL t p.2 (aD T cb) (p.1.drop i) env'),⟨p.1.length,by simp,Nat.zero_le _,lock p.2 env,F,After.same reL hz (aO.refl _),by simpa using h⟩,?_⟩;rintro i m σ2 H2 ⟨rfl,hi,env2,F2,af2,h2⟩;obtain⟨w1,w2⟩:=wk H2 af2.ev;by_cases hlt:i<p.1.length
 ·right;have hd:p.1[i]? = some p.1[i]:=by simp[hlt]
  obtain⟨g1,g2⟩:=w1 i _ hd;refine⟨g1,fun σ' H'=>∃ env' F',After X.K P' Z (lock p.2 env) F H1 env' σ' H' F'∧post X.K P' Z env' F' H' D (bL t p.2 (aD T cb) (p.1.drop (i+1)) env'),fun σ' H' q=>⟨p.1.length - (i+1),by omega,rfl,hlt,q⟩,fun x H3 y=>?_⟩;obtain⟨s3,G3,rp3,sub3⟩:=g2 x H3 y;have af3:=After.same (Z:=Z) af2.re af2.z s3;have h2:=post.trans af3 h2;rw[List.drop_eq_getElem_cons hlt] at h2;unfold bL at h2;cases hb:aS p.2 t p.1[i] env2 with
  |none=>rw[hb] at h2;exact h2.elim
  |some env4 =>
   rw[hb] at h2;refine p4 af3.re af2.z rp3 (fun a ha=>gz a (sub3 a ha)) (fun a ha j d' t' ej o m=>?_) hb fun σ4 F4 re4 z4 lk4=>?_
   ·cases t' with
    |own=>exact absurd (.inr (sub3 a ha)) (af2.re.wr j d' ej a m)
    |lk =>
     obtain⟨e5,e6⟩:=af2.lk j d' ej;rw[e6] at m;obtain⟨t0,e0,o0,_⟩:=fW e5;exact seen a (sub3 a ha) j d' t0 e0 (o0.trans o) m
    |sh Q=>cases o
   ·have af4:After X.K P' Z env2 F2 H3 env4 σ4 H3 F4:=⟨re4,z4,j7.refl _,lk4⟩;refine⟨P',Z,env4,F4,re4,z4,zpL,?_⟩;have h2:=post.trans af4 h2;have all:=(af2.trans af3).trans af4;cases hs:aD T cb env4 with
    |nx e'=>simp only[hs] at h2;exact fun σ' H' F' af5=>⟨e',F',all.trans af5,post.trans af5 h2⟩
    |ct e'=>simp only[hs] at h2;exact fun σ' H' F' af5=>⟨e',F',all.trans af5,post.trans af5 h2⟩
    |bk e'=>simp only[hs] at h2;exact h2
    |rt d fr=>simp only[hs] at h2;exact h2
    |xc x e'=>simp only[hs] at h2;exact h2
    |bad=>simp only[hs] at h2;exact h2
 ·left;have e:i=p.1.length:=by omega
  subst e;rw[List.drop_length] at h2;exact⟨w2,h2 σ2 H2 F2 (After.same af2.re af2.z (aO.refl _))⟩
end
end Pc
end
section
namespace Pc
open PySem PySem.Spec PyProof.Rows L2
section
variable {X:Cx}{T:Tb}
end
end Pc
end
section
namespace Pc
open PySem PySem.Spec PyProof.Rows L2
noncomputable def gB (cells:List (Str×Addr)):List (Str×NameKind)→List (Str×Addr)→List (Str×Addr)
 |[],acc=>acc
 | (n,k)::r,acc=>gB cells r (if k == .free then (match cells.lookup n with | some c=>(n,c)::acc | none=>acc) else acc)
theorem sk {scope:Scope}{env:Env}(h:∀ x,(x,NameKind.free)∈scope.names→∃ c,env.cells.lookup x=some c):closureFor scope env=pure (gB env.cells scope.names []):=by
 unfold closureFor;have gen:∀(names:List (Str×NameKind)) (acc:List (Str×Addr)),(∀ x,(x,NameKind.free)∈names→∃ c,env.cells.lookup x=some c) →
   (forIn names acc fun (p:Str×NameKind) (cs:List (Str×Addr))=>(match p with
    | (name,kind)=>if (kind == .free)=true then (do let c ← cellOf env name;pure (ForInStep.yield ((name,c)::cs))) else pure (ForInStep.yield cs):Sem (ForInStep (List (Str×Addr)))))=(pure (gB env.cells names acc):Sem (List (Str×Addr))):=by
  intro names
  induction names with
  |nil=>intro acc _;rfl
  |cons x r ih =>
   intro acc hx;obtain⟨n,k⟩:=x;rw[List.forIn_cons];simp only[gB];have hr:∀ x,(x,NameKind.free)∈r→∃ c,env.cells.lookup x=some c:=fun x hm=>hx x (aa _ hm)
   by_cases hk:(k==NameKind.free)=true
   ·have e:k = .free:=by simpa using hk
    subst e;obtain⟨c,hc⟩:=hx n ae;simp only[hk,if_true,cellOf,hc];exact ih ((n,c)::acc) hr
   ·simp only[hk,if_false];exact ih acc hr
 have:=gen scope.names [] h;simpa using this
theorem nW {cells:List (Str×Addr)}{x:Str}{c:Addr}:∀{names:List (Str×NameKind)}{acc:List (Str×Addr)},(∀ y d,acc.lookup y=some d→cells.lookup y=some d)→(gB cells names acc).lookup x=some c→cells.lookup x=some c
 |[],acc,ha,h=>ha x c h
 | (n,k)::r,acc,ha,h=>by
  simp only[gB] at h;refine nW (names:=r) (fun y d q=>?_) h;by_cases hk:(k==NameKind.free)=true
  ·rw[if_pos hk] at q;cases hc:cells.lookup n with
   |none=>rw[hc] at q;exact ha y d q
   |some e =>
    rw[hc] at q;simp only[List.lookup_cons] at q;cases hy:y==n with
    |true =>
     rw[hy] at q;have:=eq_of_beq hy;subst this;rw[hc];exact q
    |false=>rw[hy] at q;exact ha y d q
  ·rw[if_neg hk] at q;exact ha y d q
theorem nT {cells:List (Str×Addr)}{x:Str}:∀{names:List (Str×NameKind)}{acc:List (Str×Addr)},(∃ c,acc.lookup x=some c)→∃ c,(gB cells names acc).lookup x=some c
 |[],acc,h=>h
 | (n,k)::r,acc,h=>by
  simp only[gB];refine nT (names:=r) ?_;by_cases hk:(k==NameKind.free)=true
  ·rw[if_pos hk];cases hc:cells.lookup n with
   |none=>exact h
   |some e =>
    simp only[List.lookup_cons];cases hy:x==n with
    |true=>exact⟨e,rfl⟩
    |false=>exact h
  ·rw[if_neg hk];exact h
theorem mN {cells:List (Str×Addr)}{x:Str}{c:Addr}(hc:cells.lookup x=some c):∀{names:List (Str×NameKind)}{acc:List (Str×Addr)},(x,NameKind.free)∈names→∃ c,(gB cells names acc).lookup x=some c
 |[],acc,h=>by cases h
 | (n,k)::r,acc,h=>by
  simp only[gB];rcases az.mp h with e | h
  ·cases e;refine nT (names:=r) ?_;simp only[beq_self_eq_true,if_true,hc,List.lookup_cons];exact⟨c,rfl⟩
  ·exact mN hc (names:=r) h
noncomputable def inner (X:Cx) (scope:Scope) (N':List Str) (C:Addr) (s0:Shared) (H0:Hp) (ex:List Addr):Cx :=
 { X with N:=N',s₀:=s0,H₀:=H0,env:=compEnvC scope (cellsFrom (C+1) scope.names (gB X.env.cells scope.names [])) C X.env,outer:=X.stack,stack:=X.stack,ex:=ex,fn:=fun x=>scope.names.lookup x==some .cell,pn:=[],xe:=fun _ _=>False }
structure eT (X:Cx) (scope:Scope) (N':List Str) (pick:List (Option Nat)):Prop where
 kind:scope.kind = .function
 cells:∀ y∈scope.names,y.2 = .cell→scope.names.lookup y.1=some .cell
 names:∀ y∈scope.names,y.2 = .local→scope.names.lookup y.1=some .local
 len:pick.length=N'.length
 outer:∀ x,scope.names.lookup x=some .free→(X.env.kindOf x=some .cell∨X.env.kindOf x=some .free)
 free:∀ x,(x,NameKind.free)∈scope.names→scope.names.lookup x=some .free
 pick:∀(i j:Nat) (x:Str),pick[i]? = some (some j)→N'[i]? = some x→scope.names.lookup x=some .free∧X.N[j]? = some x
noncomputable def fX (σ:L2.St) (pick:List (Option Nat)):L2.St:=pick.map fun o=>o.bind fun j=>(σ[j]?).join
theorem fC {env:Env}:∀{names:List (Str×NameKind)}{x:Str}{k:NameKind},(names.map fun (n,k)=>if (k==NameKind.free&&env.scope.kind == .function&&env.kindOf n==some .cell) then (n,NameKind.cell) else (n,k)).lookup x=some k →
  ∃ k0,names.lookup x=some k0∧(k=k0∨(k0 = .free∧k = .cell))
 |[],_,_,h=>by simp at h
 | (n,k0)::r,x,k,h=>by
  rw[ba] at h;by_cases hc:(k0==NameKind.free&&env.scope.kind == .function&&env.kindOf n==some .cell)=true
  ·simp only[hc,if_true,List.lookup_cons] at h;simp only[List.lookup_cons];cases hx:x==n with
   |true =>
    rw[hx] at h;cases h;rw[ax,ax] at hc;exact⟨k0,rfl,.inr ⟨by simpa using hc.1.1,rfl⟩⟩
   |false=>rw[hx] at h;exact fC h
  ·have hc:(k0==NameKind.free&&env.scope.kind == .function&&env.kindOf n==some .cell)=false:=by simpa using hc
   simp only[hc,Bool.false_eq_true,if_false,List.lookup_cons] at h;simp only[List.lookup_cons];cases hx:x==n with
   |true=>rw[hx] at h;cases h;exact⟨k0,rfl,.inl rfl⟩
   |false=>rw[hx] at h;exact fC h
theorem fK {env:Env}:∀{names:List (Str×NameKind)}{x:Str},names.lookup x=some .free →
  (names.map fun (n,k)=>if (k==NameKind.free&&env.scope.kind == .function&&env.kindOf n==some .cell) then (n,NameKind.cell) else (n,k)).lookup x=some .cell ∨
  (names.map fun (n,k)=>if (k==NameKind.free&&env.scope.kind == .function&&env.kindOf n==some .cell) then (n,NameKind.cell) else (n,k)).lookup x=some .free
 |[],_,h=>by simp at h
 | (n,k0)::r,x,h=>by
  rw[ba];by_cases hc:(k0==NameKind.free&&env.scope.kind == .function&&env.kindOf n==some .cell)=true
  ·simp only[hc,if_true,List.lookup_cons] at h ⊢;cases hx:x==n with
   |true=>left;rfl
   |false=>rw[hx] at h;exact fK h
  ·have hc:(k0==NameKind.free&&env.scope.kind == .function&&env.kindOf n==some .cell)=false:=by simpa using hc
   simp only[hc,Bool.false_eq_true,if_false,List.lookup_cons] at h ⊢;cases hx:x==n with
   |true=>rw[hx] at h;cases h;right;rfl
   |false=>rw[hx] at h;exact fK h
theorem gU:∀(names:List (Str×NameKind)) (n:Nat) (acc:List (Str×Addr)),cellsFrom n names acc=cellsFrom n names []++acc
 |[],_,_=>rfl
 | (nm,k)::r,n,acc=>by
  unfold cellsFrom;split
  ·rw[gU r (n+1) ((nm,n)::acc),gU r (n+1) [(nm,n)],dq];rfl
  ·exact gU r n acc
theorem rS:∀(names:List (Str×NameKind)) (n:Nat) {x:Str}{c:Addr},(x,c)∈cellsFrom n names []→(x,NameKind.cell)∈names
 |[],_,_,_,h=>by cases h
 | (nm,k)::r,n,x,c,h=>by
  unfold cellsFrom at h;split at h
  ·rename_i hk;rw[gU] at h;rcases bo.mp h with h | h
   ·exact aa _ (rS r _ h)
   ·have e:(x,c)=(nm,n):=by simpa using h
    cases e;rw[show k = .cell by simpa using hk];exact ae
  ·exact aa _ (rS r _ h)
theorem oR:∀(names:List (Str×NameKind)) (n:Nat) {x:Str},(x,NameKind.cell)∈names→∃ c,(cellsFrom n names []).lookup x=some c
 | (nm,k)::r,n,x,h=>by
  unfold cellsFrom;rcases az.mp h with e | h
  ·cases e;rw[if_pos (by decide),gU,List.lookup_append];cases (cellsFrom (n+1) r []).lookup nm with
   |some c=>exact⟨c,rfl⟩
   |none=>exact⟨n,by simp⟩
  ·split
   ·obtain⟨c,hc⟩:=oR r (n+1) h;rw[gU,List.lookup_append,hc];exact⟨c,rfl⟩
   ·exact oR r n h
theorem nfe {M:Model}{A:Around}{E:Value→Shared→Prop}{s:Shared}{scope:Scope}{globals:Addr}{cl:List (Str×Addr)}{qual:Str}{env:Env}{Q:Env→Shared→Prop}
  (h:Q { scope:=scope,locals:=s.heap.objs.size,globals:=globals,cells:=cellsFrom (s.heap.objs.size+1) scope.names cl,qual:=qual,func:=none,code:=env.code,frame:=env.frame,builtins:=env.builtins } { s with heap:=pushCells (s.heap.push { cls:=.type "dict",data:=.dict #[] }) scope.names }) :
  wpAny M A (newFunctionEnv scope globals cl [] qual none .none (some env)) Q E s:=by
 simp only[newFunctionEnv,Option.isSome_some,if_true];refine wpAny_bind (wpAny_alloc (wpAny_bind (wpAny_layCells _ (fun name kind cells=>by cases hkc:kind==NameKind.cell<;>simp[hkc]) _ _ _ _ ?_)));rw[show ({ s with heap:=s.heap.push { cls:=.type "dict",data:=.dict #[] } }:Shared).heap.objs.size=s.heap.objs.size+1 from Heap.size_push ..];exact wpAny_pure h
section
variable {X:Cx}{scope:Scope}{N':List Str}{pick:List (Option Nat)}{pins:List (Addr×Obj)}{σ:L2.St}{H:Hp}{s:Shared}
theorem qM (S:eT X scope N' pick) (I:Inv X pins σ H s) {fp:List Addr}(hf:∀ b∈fp,i7 X pins H b) (hl:∀ b∈fp,b<s.heap.objs.size) :
  Inv (inner X scope N' s.heap.objs.size s H fp) [] (fX σ pick) H { s with heap:=pushCells (s.heap.push { cls:=.type "dict",data:=.dict #[] }) scope.names }:=by
 have old:∀ x c,(gB X.env.cells scope.names []).lookup x=some c→X.env.cells.lookup x=some c:=fun x c h=>nW (acc:=[]) (fun y d q=>by simp at q) h
 have hk:∀ b o,s.heap.get? b=some o→(pushCells (s.heap.push { cls:=.type "dict",data:=.dict #[] }) scope.names).get? b=some o:=fun b o e=>pushCells_keeps _ _ b o (Heap.get?_push_of_some _ e)
 have hn:(pushCells (s.heap.push { cls:=.type "dict",data:=.dict #[] }) scope.names).Ns s.heap.objs.size (fun _=>none):=(Heap.Ns.new s.heap (.type "dict")).keeps (pushCells_keeps _ _);have ok:=cellsFrom_ok scope.names (s.heap.push { cls:=.type "dict",data:=.dict #[] }) (s.heap.objs.size+1) [] ⟨fun _ _ hm=>(nomatch hm),List.Pairwise.nil⟩ (by rw[Heap.size_push];exact aw _);rw[Heap.size_push] at ok;generalize hh:pushCells (s.heap.push { cls:=.type "dict",data:=.dict #[] }) scope.names=h' at *;have oldlt:∀ x c,X.env.cells.lookup x=some c→c<s.heap.objs.size:=fun x c h=>by
  obtain⟨v,hv⟩:=I.cell x c h;exact hv.lt
 have look:∀ x c,(cellsFrom (s.heap.objs.size+1) scope.names (gB X.env.cells scope.names [])).lookup x=some c→((x,c)∈cellsFrom (s.heap.objs.size+1) scope.names []∧s.heap.objs.size+1≤c)∨((x,NameKind.cell)∉scope.names∧X.env.cells.lookup x=some c):=fun x c h=>by
  rw[gU,List.lookup_append] at h;cases q:(cellsFrom (s.heap.objs.size+1) scope.names []).lookup x with
  |some c' =>
   rw[q] at h;cases h;have hm:=cq q;exact .inl ⟨hm,(ok.empty _ _ hm).2⟩
  |none =>
   rw[q] at h;refine .inr ⟨fun z=>?_,old x c h⟩;obtain⟨c',hc'⟩:=oR scope.names (s.heap.objs.size+1) z;rw[q] at hc';cases hc'
 have sees:∀ x c,scope.names.lookup x=some .free→(gB X.env.cells scope.names []).lookup x=some c→(cellsFrom (s.heap.objs.size+1) scope.names (gB X.env.cells scope.names [])).lookup x=some c:=fun x c hx h=>by
  rw[gU,List.lookup_append];cases q:(cellsFrom (s.heap.objs.size+1) scope.names []).lookup x with
  |some c' =>
   have:=S.cells _ (rS _ _ (cq q)) rfl;rw[hx] at this;cases this
  |none=>rw[h];rfl
 refine⟨⟨I.ok.mod,S.kind,I.ok.glob,I.ok.blt,aw _,fun x y c h1 h2=>?inj,fun x hx=>?_,fun x c hx h=>?cab,I.ok.hd,I.ok.frames,.inl rfl,fun b hb=>?_,I.bs,cv I.ok.bsz I.sz,fun b o e hb=>?_,fun b hb hb'=>?_,I.stack,I.stkFree⟩,
  rfl,I.bare,Un.kept hk,⟨_,hn,fun i x v h1 h2 h3=>?_⟩,fun x c h=>?_,I.hok.fresh (Nat.le_refl _),fun x c h=>?frc,fun p hp=>absurd (show p∈([]:List (Addr×Obj)) from hp) (by simp),I.hok.kept hk,?_⟩
 case inj =>
  rcases look x c h1 with ⟨m1,l1⟩ | ⟨_,o1⟩<;>rcases look y c h2 with ⟨m2,l2⟩ | ⟨_,o2⟩
  ·exact name_of_addr ok.apart m1 m2
  ·exact absurd (bg (oldlt y c o2) (Nat.le_of_succ_le l1)) (ff _)
  ·exact absurd (bg (oldlt x c o1) (Nat.le_of_succ_le l2)) (ff _)
  ·exact I.ok.inj x y c o1 o2
 case cab =>
  have hx:scope.names.lookup x=some .cell:=by simpa[inner] using hx
  rcases look x c h with ⟨_,l1⟩ | ⟨n1,_⟩
  ·exact cv (Nat.le_succ _) l1
  ·exact absurd (cq hx) n1
 case frc =>
  rcases look x c h with ⟨_,l1⟩ | ⟨_,o1⟩
  ·exact I.hok.fresh (cv (Nat.le_succ _) l1)
  ·exact I.freeC x c o1
 ·have hx:(relabel scope X.env).names.lookup x=some .cell∨(relabel scope X.env).names.lookup x=some .free:=hx;have hfree:scope.names.lookup x=some .free∨scope.names.lookup x=some .cell:=by
   rcases hx with hx | hx
   ·obtain⟨k0,h1,h2 | ⟨h2,_⟩⟩:=fC hx
    ·subst h2;exact .inr h1
    ·rw[h2] at h1;exact .inl h1
   ·obtain⟨k0,h1,h2 | ⟨h2,h3⟩⟩:=fC hx
    ·subst h2;exact .inl h1
    ·cases h3
  rcases hfree with hfree | hfree
  ·obtain⟨c,hc⟩:=I.ok.has x (S.outer x hfree);obtain⟨c',hc'⟩:=mN (acc:=[]) hc (cq hfree);exact⟨c',sees x c' hfree hc'⟩
  ·obtain⟨c,hc⟩:=oR scope.names (s.heap.objs.size+1) (cq hfree);refine⟨c,?_⟩;show (cellsFrom (s.heap.objs.size+1) scope.names (gB X.env.cells scope.names [])).lookup x=some c;rw[gU,List.lookup_append,hc];rfl
 ·refine⟨cj (hl b hb),fun x c h=>?_⟩;rcases look x c h with ⟨_,l1⟩ | ⟨_,o1⟩
  ·exact fun e=>ff _ (bg (hl b hb) (e ▸ Nat.le_of_succ_le l1))
  ·exact (hf b hb).2.2.2.2.1 x c o1
 ·obtain⟨f0,f1,f2,f3,f4,f5⟩:=hf b hb;rcases f3 with f3 | f3
  ·exact I.ok.noex b o e f3
  ·exact absurd (bg (Heap.lt_size e) (cv I.ok.bsz f3)) (ff _)
 ·obtain⟨f0,f1,f2,f3,f4,f5⟩:=hf b hb;exact (az.mp (I.stkSub b hb')).elim f1 f2
 ·
  have h2':(pick.map fun o=>o.bind fun j=>(σ[j]?).join)[i]? = some (some v):=h2;rw[av] at h2';cases hp:pick[i]? with
  |none=>rw[hp] at h2';cases h2'
  |some o =>
   rw[hp] at h2';cases o with
   |none=>simp at h2'
   |some j =>
    simp only[Option.map_some,Option.bind_some,Option.some.injEq] at h2';have hj:σ[j]? = some (some v):=by
     cases q:σ[j]? with
     |none=>rw[q] at h2';cases h2'
     |some o=>rw[q] at h2';cases o with
      |none=>cases h2'
      |some w=>simp at h2';rw[h2']
    obtain⟨k1,k2⟩:=S.pick i j x hp h1;obtain⟨m0,hn0,hl0⟩:=I.loc;have vis:Bv X.env.scope x:=by
     rcases S.outer x k1 with q | q
     ·exact .inr (.inl q)
     ·exact .inr (.inr q)
    obtain⟨u,r,lk⟩:=hl0 j x v k2 hj vis;refine⟨u,r,?_⟩;rcases lk with ⟨z,_⟩ | ⟨_,c,hc,hcell⟩
    ·rcases S.outer x k1 with q | q<;>· rw[z] at q;cases q
    ·obtain⟨c',hc'⟩:=mN (names:=scope.names) (acc:=[]) hc (cq k1);have:=old x c' hc';rw[hc] at this;cases this;refine .inr ⟨fK k1,c,sees x c k1 hc',?_⟩;obtain⟨o,ho,hd⟩:=hcell;exact⟨o,hk c o ho,hd⟩
 ·rcases look x c h with ⟨m1,_⟩ | ⟨_,o1⟩
  ·exact⟨none,(ok.empty _ _ m1).1⟩
  ·obtain⟨v,o,ho,hd⟩:=I.cell x c o1;exact⟨v,o,hk c o ho,hd⟩
 ·show (pick.map _).length=N'.length;rw[aj,S.len]
end
end Pc
end
section
namespace Pc
open PySem PySem.Spec PyProof.Rows L2
noncomputable abbrev uu (ifs:List Expr) (env:Env):Sem Bool:=forIn ifs true fun c r=>if r=true then do let ok ← isTrue c env (eval c env);pure (ForInStep.yield ok) else pure (ForInStep.yield r)
noncomputable def EF (X:Cx) (ifs:List Expr) (t:TT):Prop :=
 ∀(pins:List (Addr×Obj)) (s:Shared) (σ:L2.St) (H:Hp) (Q:Bool→Hp→Prop),Inv X pins σ H s→t σ H Q→wpAny (model X.prog X.w) X.A (uu ifs X.env) (TP X pins σ Q) X.xe s
theorem zP {X:Cx}:EF X [] (fun _ H Q=>Q true H):=fun _ _ _ H Q I h=>wpAny_tests_nil ⟨H,I,h⟩
theorem A6 {X:Cx}{c:Expr}{t:TT}(h:PT X c t):EF X [c] t:=fun pins s σ H Q I q=>wpAny_tests_one (h pins s σ H Q I q)
section
variable {prog:Program}{w:World}{A:Around}{R:Result→Shared→Prop}{s:Shared}
theorem pZ {elt target iter:Expr}{ifs:List Expr}{scope:Scope}{pos:Pos}{it acc:Value}{env:Env}(I:Nat→Shared→Prop)
  (turn:∀ n s,I n s→wpAny (model prog w) A (pyNext it) (fun r s₁=>match r with
   |none=>R (.ok .next) s₁
   |some v=>wpAny (model prog w) A (letOwnedTupleGo target it v) (fun _ s₀=>wpAny (model prog w) A (assign target env v) (fun _ s₂ =>
     wpAny (model prog w) A (uu ifs env) (fun ok s₃ =>
      if ok=true then wpAny (model prog w) A (eval elt env) (fun x s₄ =>
       wpAny (model prog w) A (call (.builtin "list.append") [acc,x]) (fun _ s₅=>∃ m,m<n∧I m s₅) (fun _ _=>False) s₄) (fun _ _=>False) s₃
      else ∃ m,m<n∧I m s₃) (fun _ _=>False) s₂) (fun _ _=>False) s₀) (fun _ _=>False) s₁) (fun _ _=>False) s)
  (n:Nat) (h:I n s):codeAny (model prog w) A (.compLoop (.ListComp elt [⟨target,iter,ifs,0⟩] scope pos) 0 it acc env) R s:=by
 refine codeAny_loop rfl I (fun n s hI=>?_) n h;show wpAny _ A ((compTurn (.ListComp elt [⟨target,iter,ifs,0⟩] scope pos) 0 it acc env).onRaise (fun x=>do noteFrame x env;theTreesLotGoes x)) _ _ s;refine wpAny_noted ?_;rw[compTurn_list];refine wpAny_bind (wpAny_standAt (wpAny_bind (wpAny_mono (turn n s hI) (fun r s₁ h₁=>?_) fun _ _ h'=>h'.elim)));cases r with
 |none=>exact wpAny_pure h₁
 |some v =>
  refine wpAny_bind (wpAny_mono h₁ (fun _ s₀ h₀=>?_) fun _ _ h'=>h'.elim);refine wpAny_bind (wpAny_mono h₀ (fun _ s₂ h₂=>wpAny_bind (wpAny_mono h₂ (fun ok s₃ h₃=>?_) fun _ _ h'=>h'.elim)) fun _ _ h'=>h'.elim);cases ok with
  |false=>exact wpAny_pure ⟨rfl,h₃⟩
  |true =>
   exact wpAny_bind (wpAny_bind (wpAny_mono h₃ (fun x s₄ h₄=>wpAny_bind (wpAny_mono h₄ (fun _ s₅ h₅=>wpAny_pure (wpAny_pure ⟨rfl,h₅⟩)) fun _ _ h'=>h'.elim)) fun _ _ h'=>h'.elim))
end
noncomputable def ym (pick:List (Option Nat)) (wi:TI) (g:TG) (tt:TT) (te:TE):TE:=fun σ H Q=>wi σ H fun J H1=>∀ l,H1 l=none→∃ W:Nat→Nat→Hp→Prop,(∃ m,W 0 m (upd H1 l (.lst [])))∧∀ i m H,W i m H →
 (J.stop i H∧Q (.ref l) H)∨(J.go i H∧∃ N:Hp→Prop,(∀ H',N H'→∃ m',m'<m∧W (i+1) m' H')∧∀ x H',J.yld i H x H'→g x (fX σ pick) H' fun σ2 H2 =>
  tt σ2 H2 fun b H3=>if b=true then te σ2 H3 fun y H4=>∃ xs,H4 l=some (.lst xs)∧xs.length<sizeLine∧N (upd H4 l (.lst (xs ++ [y]))) else N H3)
section
variable {X:Cx}{scope:Scope}{N':List Str}{pick:List (Option Nat)}{tg iter elt:Expr}{ifs:List Expr}{pos:Pos}{wi:TI}{g:TG}{tt:TT}{te:TE}
theorem mJ (S:eT X scope N' pick) (hc:X.calm=true) (hin:∀ C s0 H0 ex,PG (inner X scope N' C s0 H0 ex) tg g∧EF (inner X scope N' C s0 H0 ex) ifs tt∧PE (inner X scope N' C s0 H0 ex) elt te)
  (gk:∀(v:V) (σ:L2.St) (H:Hp) (Q:L2.St→Hp→Prop),g v σ H Q→g v σ H fun σ' H'=>Q σ' H'∧σ'.length=σ.length∧∀(i:Nat) u,pick[i]?≠some none→σ[i]? = some u→σ'[i]? = some u)
  {pins:List (Addr×Obj)}{σ:L2.St}{H:Hp}{s:Shared}{it:Addr}{fp:List Addr}{tn:Nat→Heap→Prop}{J:It}{E:Value→Shared→Prop}{RR:Value→Addr→Result→Shared→Prop}(I:Inv X pins σ H s) (T:Turn X.prog X.w X.K tg J fp it tn) (st:tn 0 s.heap) (hf:∀ b∈fp,i7 X pins H b)
  (Q:VK) (h:∀ l,H l=none→∃ W:Nat→Nat→Hp→Prop,(∃ m,W 0 m (upd H l (.lst [])))∧∀ i m H,W i m H →
   (J.stop i H∧Q (.ref l) H)∨(J.go i H∧∃ N:Hp→Prop,(∀ H',N H'→∃ m',m'<m∧W (i+1) m' H')∧∀ x H',J.yld i H x H'→g x (fX σ pick) H' fun σ2 H2 =>
    tt σ2 H2 fun b H3=>if b=true then te σ2 H3 fun y H4=>∃ xs,H4 l=some (.lst xs)∧xs.length<sizeLine∧N (upd H4 l (.lst (xs ++ [y]))) else N H3))
  (hR:∀(l C:Addr) (s':Shared) (H':Hp) (m:Str→Option Value),s'.heap.Ns C m→i7 X pins H' C→Q (.ref l) H'→Inv X pins σ H' s'→RR (.ref l) C (.ok .next) s') :
  wpAny (model X.prog X.w) X.A (newList []) (fun acc s₃=>wpAny (model X.prog X.w) X.A (newFunctionEnv scope X.env.globals (gB X.env.cells scope.names []) [] X.env.qual none .none (some X.env)) (fun cenv s₄ =>
   codeAny (model X.prog X.w) X.A (.compStart (.ListComp elt [⟨tg,iter,ifs,0⟩] scope pos) 0 (.ref it) acc { cenv with scope:=relabel scope X.env }) (RR acc cenv.locals) s₄) E s₃) E s:=by
 have hltI:∀ b∈fp,b<s.heap.objs.size:=fun b hb=>let ⟨o,e,_⟩:=T.obj 0 _ st b hb;Heap.lt_size e
 refine wpAny_newObj_type (nfe ?_);dsimp only;have I3:Inv X pins σ (upd H s.heap.objs.size (.lst [])) { s with heap:=s.heap.push { cls:=.type "list",data:=.seq ([]:List Value).toArray } }:=I.lnew (ys:=[]) (its:=[]) (t':=s.toks) .nil (de _);obtain⟨W,⟨m0,w0⟩,turn⟩:=h s.heap.objs.size I.fresh;have hC:(s.heap.push { cls:=.type "list",dict:=none,data:=.seq ([]:List Value).toArray }).objs.size=s.heap.objs.size+1:=Heap.size_push ..;have hf3:∀ b∈fp,i7 X pins (upd H s.heap.objs.size (.lst [])) b:=fun b hb=>⟨by rw[aP (cj (hltI b hb))];exact (hf b hb).1,(hf b hb).2⟩
 have keep3:∀ b o,(s.heap.push { cls:=.type "list",dict:=none,data:=.seq ([]:List Value).toArray }).get? b=some o→(pushCells ((s.heap.push { cls:=.type "list",dict:=none,data:=.seq ([]:List Value).toArray }).push { cls:=.type "dict",data:=.dict #[] }) scope.names).get? b=some o:=fun b o e=>pushCells_keeps _ _ b o (Heap.get?_push_of_some _ e)
 have I4:=qM (s:={ s with heap:=s.heap.push { cls:=.type "list",dict:=none,data:=.seq ([]:List Value).toArray } }) S I3 hf3 (fun b hb=>by show b<(s.heap.push _).objs.size;rw[hC];exact Nat.lt_succ_of_lt (hltI b hb));dsimp only at I4;generalize hh₁:pushCells ((s.heap.push { cls:=.type "list",dict:=none,data:=.seq ([]:List Value).toArray }).push { cls:=.type "dict",data:=.dict #[] }) scope.names=h₁ at *;have st4:tn 0 h₁:=T.keep 0 _ _ st fun b hb o e=>keep3 b o (Heap.get?_push_of_some _ e)
 generalize hY:inner X scope N' (s.heap.push { cls:=.type "list",dict:=none,data:=.seq ([]:List Value).toArray }).objs.size { s with heap:=s.heap.push { cls:=.type "list",dict:=none,data:=.seq ([]:List Value).toArray } } (upd H s.heap.objs.size (.lst [])) fp=Y at I4;have hYin:=hin (s.heap.push { cls:=.type "list",dict:=none,data:=.seq ([]:List Value).toArray }).objs.size { s with heap:=s.heap.push { cls:=.type "list",dict:=none,data:=.seq ([]:List Value).toArray } } (upd H s.heap.objs.size (.lst [])) fp;rw[hY] at hYin;obtain⟨yg,yt,ye⟩:=hYin;have yE:Y.env=compEnvC scope (cellsFrom ((s.heap.push { cls:=.type "list",dict:=none,data:=.seq ([]:List Value).toArray }).objs.size+1) scope.names (gB X.env.cells scope.names [])) (s.heap.push { cls:=.type "list",dict:=none,data:=.seq ([]:List Value).toArray }).objs.size X.env:=by rw[←hY];rfl
 have hCL:(s.heap.push { cls:=.type "list",dict:=none,data:=.seq ([]:List Value).toArray }).objs.size≠X.env.locals:=by
  rw[hC];exact Nat.ne_of_gt (Nat.lt_succ_of_lt I.lt)
 have back:∀{H5:Hp}{s5:Shared},Inv Y [] (fX σ pick) H5 s5→Q (.ref s.heap.objs.size) H5→RR (.ref s.heap.objs.size) (s.heap.push { cls:=.type "list",dict:=none,data:=.seq ([]:List Value).toArray }).objs.size (.ok .next) s5:=fun {H5 s5} I5 q=>by
  subst hY;obtain⟨m,hn,_⟩:=I5.loc;have J5:Inv X pins σ H5 s5:=Inv.call' I3 I5.os I5.base I5.hok I5.bare fun b hb=>by
   obtain⟨f0,f1,f2,f3,f4,f5⟩:=hf b hb;exact⟨f3,f1,f4,f5⟩
  have lt3:∀{b:Addr}{o:Obj},s.heap.get? b=some o→b≠(s.heap.push { cls:=.type "list",dict:=none,data:=.seq ([]:List Value).toArray }).objs.size:=fun e=>by rw[hC];exact cj (Nat.lt_succ_of_lt (Heap.lt_size e))
  refine hR _ _ s5 H5 m hn ⟨I5.free,hCL,I.nofs (by rw[hC];exact Nat.le_succ _),.inr (by rw[hC];exact Nat.le_succ_of_le I.sz),fun x c e z=>?_,fun p hp z=>?_⟩ q J5
  ·obtain⟨v,o,ho,_⟩:=I.cell x c e;exact lt3 ho z
  ·exact lt3 (I.pin p hp).1 z
 have yP:Y.prog=X.prog:=by rw[←hY];rfl
 have yw:Y.w=X.w:=by rw[←hY];rfl
 have yK:Y.K=X.K:=by rw[←hY];rfl
 have yA:Y.A=X.A:=by rw[←hY];rfl
 have yc:Y.calm=true:=by rw[←hY];exact hc
 have yx:Y.xe=fun _ _=>False:=by rw[←hY];rfl
 have yp:Y.pn=[]:=by rw[←hY];rfl
 have yex:Y.ex=fp:=by rw[←hY];rfl
 have stat:∀{H':Hp},(∀ b∈fp,H' b=none)→∀ b∈fp,i7 Y [] H' b:=fun {H'} hn b hb=>by
  have hb':b∈Y.ex:=by rw[yex];exact hb
  obtain⟨x1,x2⟩:=I4.ok.exf b hb';exact⟨hn b hb,x1,I4.ok.exfs b hb',.inl hb',x2,fun p hp=>by rw[yp] at hp;cases hp⟩
 rw[←yP,←yw,←yA];have loop:codeAny (model Y.prog Y.w) Y.A (.compLoop (.ListComp elt [⟨tg,iter,ifs,0⟩] scope pos) 0 (.ref it) (.ref s.heap.objs.size) Y.env) (RR (.ref s.heap.objs.size) (s.heap.push { cls:=.type "list",dict:=none,data:=.seq ([]:List Value).toArray }).objs.size) { s with heap:=h₁ }:=by
  refine pZ (fun n s5=>∃ i H5,Inv Y [] (fX σ pick) H5 s5∧tn i s5.heap∧(∀ b∈fp,H5 b=none)∧W i n H5) ?_ m0 ⟨0,_,I4,st4,fun b hb=>(hf3 b hb).1,w0⟩;rintro n s5 ⟨i,H5,I5,st5,fr5,w5⟩;rcases turn i n H5 w5 with ⟨stop,qn⟩ | ⟨go,N,hN,step⟩
  ·have d:=T.done Y yP yw yK yc i [] s5 (fX σ pick) H5 (fun _ _=>False) I5 (stat fr5) st5 stop;rw[←yP,←yw] at d;refine dD d fun r s6 ⟨hr,I6⟩=>?_
   subst hr;exact back I6 qn
  ·have d:=T.item Y yP yw yK yc i [] s5 (fX σ pick) H5 (fun _ _=>False) I5 (stat fr5) st5 go;rw[←yP,←yw] at d;refine dD d fun r s6 ⟨u,hr,h6⟩=>?_
   subst hr;refine dD h6 fun _ s7 ⟨x,H7,I7,r7,y7,st7,fr7⟩=>?_
   have I7':=I7.pinned (stat fr7) (T.obj _ _ st7);have yg':=yg _ s7 (fX σ pick) H7 x u _ I7' r7 (gk _ _ _ _ (step x H7 y7));rw[yx] at yg';refine dD yg' fun _ s8 ⟨σ8,H8,I8,q8,l8,k8⟩=>?_
   have yt':=yt _ s8 σ8 H8 _ I8 q8;rw[yx] at yt';refine dD yt' fun b s9 ⟨H9,I9,q9⟩=>?_
   have again:∀{σ':L2.St}{H':Hp}{s':Shared},Inv Y ([]++lQ fp s7.heap) σ' H' s'→σ'=σ8→N H'→∃ m,m<n∧∃ i H5,Inv Y [] (fX σ pick) H5 s'∧tn i s'.heap∧(∀ b∈fp,H5 b=none)∧W i m H5:=fun {σ' H' s'} J e nn=>by
    subst e;obtain⟨m',hm,w'⟩:=hN H' nn;refine⟨m',hm,i+1,H',(J.unpinned).weak (l8.symm) (fun j v e=>?_),T.keep _ _ _ st7 fun b hb o e=>(J.pin (b,o) (aq _ (aq _ (fN hb e)))).1,fun b hb=>?_,w'⟩
    ·refine k8 j _ (fun z=>?_) e;unfold fX at e;rw[av,z] at e;simp at e
    ·obtain⟨o,e,_⟩:=T.obj _ _ st7 b hb;exact (J.pin (b,o) (aq _ (aq _ (fN hb e)))).2.1
   cases b with
   |false =>
    rw[if_neg bj];exact again I9 rfl q9
   |true =>
    rw[if_pos rfl];have q9:te σ8 H9 fun y H4=>∃ xs,H4 s.heap.objs.size=some (.lst xs)∧xs.length<sizeLine∧N (upd H4 s.heap.objs.size (.lst (xs ++ [y]))):=q9
    have ye':=ye _ s9 σ8 H9 _ I9 q9;rw[yx] at ye';refine dD ye' fun v s10 ⟨y,H10,I10,r10,xs,e10,z10,n10⟩=>?_
    have ap:=m9 _ s10 σ8 H10 (.ref s.heap.objs.size) [y] (.ref s.heap.objs.size) [v] (fun _ H'=>N H') I10 rfl (.cons r10 .nil) ⟨s.heap.objs.size,xs,y,rfl,rfl,e10,z10,n10⟩;rw[yx] at ap;exact dD ap fun _ s11 ⟨_,H11,I11,_,n11⟩=>again I11 rfl n11
 show codeAny (model Y.prog Y.w) Y.A (.compStart (.ListComp elt [⟨tg,iter,ifs,0⟩] scope pos) 0 (.ref it) (.ref s.heap.objs.size) (compEnvC scope (cellsFrom ((s.heap.push { cls:=.type "list",dict:=none,data:=.seq ([]:List Value).toArray }).objs.size+1) scope.names (gB X.env.cells scope.names [])) (s.heap.push { cls:=.type "list",dict:=none,data:=.seq ([]:List Value).toArray }).objs.size X.env))
  (RR (.ref s.heap.objs.size) (s.heap.push { cls:=.type "list",dict:=none,data:=.seq ([]:List Value).toArray }).objs.size) { s with heap:=h₁ }
 rw[←yE];refine codeAny_compStart_list loop ?_;have l2:=loop;rw[yP,yw] at l2 ⊢;exact T.self Y.A 0 _ _ _ st4 l2
theorem fY (S:eT X scope N' pick) (hh:∀ x,(X.env.kindOf x=some .cell∨X.env.kindOf x=some .free)→∃ c,X.env.cells.lookup x=some c):closureFor scope X.env=pure (gB X.env.cells scope.names []) :=
 sk fun x hx=>hh x (S.outer x (S.free x hx))
theorem zK (S:eT X scope N' pick) (hc:X.calm=true) (hi:PI X tg iter wi) (hin:∀ C s0 H0 ex,PG (inner X scope N' C s0 H0 ex) tg g∧EF (inner X scope N' C s0 H0 ex) ifs tt∧PE (inner X scope N' C s0 H0 ex) elt te)
  (gk:∀(v:V) (σ:L2.St) (H:Hp) (Q:L2.St→Hp→Prop),g v σ H Q→g v σ H fun σ' H'=>Q σ' H'∧σ'.length=σ.length∧∀(i:Nat) u,pick[i]?≠some none→σ[i]? = some u→σ'[i]? = some u) (hs:∀ x,foldedSetIterable iter X.env x=pure x) :
  PE X (.ListComp elt [⟨tg,iter,ifs,0⟩] scope pos) (ym pick wi g tt te):=by
 intro pins s σ H Q I h;rw[eval_ListComp];refine wpAny_comprehension_free (use:=none) rfl hs (fY S I.ok.has) S.kind S.names (dD (hi pins s σ H _ I h) fun v s1 h1=>dD h1 fun itv s2 h2=>?_);obtain⟨it,fp,tn,J,H2,e,I2,T,st2,f2,q⟩:=h2;subst e;refine mJ (RR:=fun acc C=>compPost (model X.prog X.w) X.A X.xe none (EP X pins σ Q) acc C) S hc hin gk I2 T st2 f2 Q q fun l C s' H' m hn fc hq J0=>?_
 obtain⟨f0,f1,f2,f3,f4,f5⟩:=fc;exact⟨m,hn,fun h' sb=>⟨.ref l,H',J0.turned (t':=s'.toks) (fun b o hb e=>sb.extBut b o hb e) f0 f1 f3 f4 f5,rfl,hq⟩⟩
theorem rK {i:Nat}{x:Str}{pos' spos:Pos}(S:eT X scope N' pick) (hc:X.calm=true) (hi:PI X tg iter wi) (hin:∀ C s0 H0 ex,PG (inner X scope N' C s0 H0 ex) tg g∧EF (inner X scope N' C s0 H0 ex) ifs tt∧PE (inner X scope N' C s0 H0 ex) elt te)
  (gk:∀(v:V) (σ:L2.St) (H:Hp) (Q:L2.St→Hp→Prop),g v σ H Q→g v σ H fun σ' H'=>Q σ' H'∧σ'.length=σ.length∧∀(i:Nat) u,pick[i]?≠some none→σ[i]? = some u→σ'[i]? = some u) (hs:∀ x,foldedSetIterable iter X.env x=pure x)
  (hN:X.N.Nodup) (hx:X.N[i]? = some x) (hl:Loc X.env.scope x) (hf:X.fn x=true∨X.env.scope.names.lookup x=some .local) (hsw:swapsWith (.ListComp elt [⟨tg,iter,ifs,0⟩] scope pos) (some (.Name x pos')) spos.line X.env=pure true) :
  PS X (.Assign [.Name x pos'] (.ListComp elt [⟨tg,iter,ifs,0⟩] scope pos) spos) (zX (ym pick wi g tt te) (nu i)):=by
 intro pins s σ H D I h;rw[exec_Assign_Name_used _ _ _ _ hsw];refine wpAny_bind (wpAny_standAt (wpAny_bind ?_));show wpAny _ X.A (do let _ ← comprehension (.ListComp elt [⟨tg,iter,ifs,0⟩] scope pos) scope X.env _ (newList []) false (eval iter X.env) (some (assign (.Name x pos') X.env))) _ _ s;refine wpAny_bind (wpAny_mono (wpAny_comprehension_free (use:=some (assign (.Name x pos') X.env)) (Q:=fun _ s'=>SP X pins D .next s') rfl hs (fY S I.ok.has) S.kind S.names
  (dD (hi pins s σ H _ I h) fun v s1 h1=>dD h1 fun itv s2 h2=>?_)) (fun _ s' hq=>wpAny_pure (wpAny_pure hq)) fun _ _ e=>e)
 obtain⟨it,fp,tn,J,H2,e,I2,T,st2,f2,q⟩:=h2;subst e;refine mJ (RR:=fun acc C=>compPost (model X.prog X.w) X.A X.xe (some (assign (.Name x pos') X.env)) (fun _ s'=>SP X pins D .next s') acc C) S hc hin gk I2 T st2 f2 (fun x H1=>nu i x σ H1 D.nx) q fun l C s' H' m hn fc hq J0=>?_
 obtain⟨o,es,ep,ho,hd,hr⟩:=id hn;have J1:=J0.pinned (fp:=[C]) (fun b hb=>by rw[dh.mp hb];exact fc) fun b hb=>by rw[dh.mp hb];exact⟨o,ho,fun v z=>by rw[hd] at z;cases z⟩
 show wpAny (model X.prog X.w) X.A (assign (.Name x pos') X.env (.ref l)) _ _ s';refine wpAny_assign_Name (lY J1 hN hx hl (v:=.ref l) rfl (fun s2 I2=>?_) hf);have hC2:=(I2.pin (C,o) (List.mem_append_right _ (List.mem_append_right _ (fN (by simp) ho)))).1;obtain⟨f0,f1,f2,f3,f4,f5⟩:=fc;refine⟨m,⟨o,es,ep,hC2,hd,hr⟩,fun h' sb=>?_⟩;exact⟨_,H',I2.unpinned.turned (t':=s2.toks) (fun b o hb e=>sb.extBut b o hb e) f0 f1 f3 f4 f5,hq⟩
end
end Pc
end
section
namespace Pc
open PySem PySem.Spec PyProof.Rows L2
noncomputable def eX (own:Nat) (pick:List Nat):List (Option Nat):=List.replicate own none++pick.map some
theorem pF (σ:L2.St) (pk:List (Option Nat)):(fX σ pk).length=pk.length:=by simp[fX]
theorem mW (env:En) (own:Nat) (pick:List Nat):(aJ env own pick).length=own+pick.length:=by simp[aJ]
noncomputable def nM (F:Nat→List Addr) (env:En) (own:Nat) (pick:List Nat):Nat→List Addr:=fun i=>match (aJ env own pick)[i]? with
 | some (some _)=>match pick[i - own]? with
  |some j=>F j
  |none=>[]
 |_=>[]
theorem fP {env:En}{own:Nat}{pick:List Nat}{i:Nat}{d:D}{t:Tg}(h:(aJ env own pick)[i]? = some (some (d,t))):t = .sh []∧own≤i∧∃ j t0,pick[i - own]? = some j∧env[j]? = some (some (d,t0)):=by
 unfold aJ at h;by_cases hi:i<own
 ·rw[List.getElem?_append_left (by simpa using hi),List.getElem?_replicate] at h;split at h<;>cases h
 ·have hi:own≤i:=Nat.le_of_not_lt hi;rw[List.getElem?_append_right (by simpa using hi),List.length_replicate,List.getElem?_map] at h;cases hp:pick[i - own]? with
  |none=>rw[hp] at h;cases h
  |some j =>
   rw[hp] at h;simp only[Option.map_some,Option.some.injEq] at h;split at h
   ·rename_i d0 t0 q;cases h;exact⟨rfl,hi,j,t0,rfl,q⟩
   ·cases h
section
variable {K:Frag}{P:Addr→Prop}{env:En}{σ:L2.St}{H:Hp}{F:Nat→List Addr}
theorem RE.picked (re:RE K P env σ H F) (own:Nat) (pick:List Nat):RE K (fun _=>False) (aJ env own pick) (fX σ (eX own pick)) H (nM F env own pick) where
 len:=by rw[mW,pF];simp[eX]
 val:=fun i d t h=>by
  obtain⟨rfl,hi,j,t0,hp,he⟩:=fP h;obtain⟨v,e,r⟩:=re.val j d t0 he;refine⟨v,?_,?_⟩
  ·unfold fX eX;rw[List.getElem?_map,List.getElem?_append_right (by simpa using hi),List.length_replicate,List.getElem?_map,hp];simp[e]
  ·unfold nM;rw[h,hp];exact r
 emp:=fun i h=>by
  unfold nM;split
  ·rename_i p q;exact absurd q (h p.1 p.2)
  ·rfl
 one:=fun i d t h o=>by
  obtain⟨rfl,_⟩:=fP h;cases o
 wr:=fun i d h=>by
  obtain⟨q,_⟩:=fP h;cases q
 pl:=fun _ h=>h.elim
theorem uO {own:Nat}{pick:List Nat}{i:Nat}{a:Addr}(re:RE K P env σ H F) (h:a∈nM F env own pick i):∃ j∈pick,∃ d t,a∈F j∧env[j]? = some (some (d,t)):=by
 unfold nM at h;split at h
 ·rename_i p q;obtain⟨_,hi,j,t0,hp,he⟩:=fP (d:=p.1) (t:=p.2) q;rw[hp] at h;exact⟨j,bu hp,p.1,t0,h,he⟩
 ·cases h
end
noncomputable def D7 (K:Frag) (T:Tb):lJ→TT
 |.none=>fun _ H Q=>Q true H
 |.some c=>m7 K T c
section
variable {X:Cx}{T:Tb}{scope:Scope}{N':List Str}{own:Nat}{pick:List Nat}{t:lj}{it:qE}{c:lJ}{e:Ex}
theorem Dp {σ:L2.St}{H:Hp}{Q:Bool→Hp→Prop}{P:Addr→Prop}{env:En}{F:Nat→List Addr}{k:Bool}(re:RE X.K P env σ H F) (hk:j9 T c env = .ok k) (q:∀ H',aO H H'→Q k H'):D7 X.K T c σ H Q:=by
 cases c with
 |none =>
  unfold j9 at hk;cases hk;exact q H (aO.refl _)
 |some c =>
  unfold j9 at hk;obtain⟨p,h1,h2⟩:=Rs.bind_ok hk;exact⟨P,env,F,re,p,k,h1,dI h2,q⟩
theorem nh {σ:L2.St}{H:Hp}{Q:VK}(h:tE X.K T (.comp own pick t it c e) σ H Q):ym (eX own pick) (tI X.K T it) (rj X.K t) (D7 X.K T c) (tE X.K T e) σ H Q:=by
 obtain⟨P,env,F,re,p0,hev,k⟩:=h;unfold ev at hev;obtain⟨p,h1,hev⟩:=Rs.bind_ok hev;obtain⟨tot,h2,hev⟩:=Rs.bind_ok hev;have hlim:p.1.length≤lim:=Decidable.byContradiction fun hn=>by rw[if_neg hn] at hev;cases hev
 rw[if_pos hlim] at hev;cases hev;refine⟨P,env,F,re,p,h1,fun J H1 Gs s1 rt nn wk l hl=>?_⟩;have re1:=re.same s1;have wk:=wk (fun a=>a∈Gs) fun a ha=>ha
 let S0:Addr→Prop:=fun a=>a∈Gs∨∃ j∈pick,∃ d t,a∈F j∧env[j]? = some (some (d,t))
 have S0n:∀ a,S0 a→H1 a≠none:=fun a ha=>by
  rcases ha with ha | ⟨j,_,d,t,m,ej⟩
  ·exact nn a ha
  ·exact re1.nn ej m
 have lS:¬ S0 l:=fun z=>S0n l z hl
 refine⟨fun i m H2=>m=p.1.length - i∧i≤p.1.length∧∃(acc rest:List (D×Rt)) (vs:List V) (G:List Addr),cR (fun d=>aU (aS [] t d (aJ env own pick)) (j9 T c) (ev T e)) (p.1.drop i) = .ok rest∧tot=acc++rest∧acc.length≤i∧H2 l=some (.lst vs)∧aM X.K H2 (acc.map (·.1)) vs G∧aO H1 H2∧l∉G ∧
  (∀ a∈G,H1 a=none∨S0 a)∧(acc.all (fun q=>q.1.flat || eV q.2)=true→G.Nodup∧∀ a∈G,H1 a=none∧∃ ws:ML,H2 a=some ws.o),?_,?_⟩
 ·refine⟨p.1.length,by simp,Nat.zero_le _,[],tot,[],[],by simpa using h2,rfl,Nat.le_refl _,aW,.nil,aO.new hl,by simp,fun _ h=>(nomatch h),fun _=>⟨List.nodup_nil,fun _ h=>(nomatch h)⟩⟩
 ·rintro i m H2 ⟨rfl,hi,acc,rest,vs,G,hgo,htot,hacc,hl2,rs,s2,hlG,hG,hfr⟩;obtain⟨w1,w2⟩:=wk H2 (j7.of_same (fun a ha=>nn a ha) s2);by_cases hlt:i<p.1.length
  ·right;have hd:p.1[i]? = some p.1[i]:=by simp[hlt]
   obtain⟨g1,g2⟩:=w1 i _ hd;refine⟨g1,fun H3=>i+1≤p.1.length∧∃(acc rest:List (D×Rt)) (vs:List V) (G:List Addr),cR (fun d=>aU (aS [] t d (aJ env own pick)) (j9 T c) (ev T e)) (p.1.drop (i+1)) = .ok rest∧tot=acc++rest∧acc.length≤i+1∧H3 l=some (.lst vs)∧aM X.K H3 (acc.map (·.1)) vs G∧aO H1 H3∧l∉G ∧
    (∀ a∈G,H1 a=none∨S0 a)∧(acc.all (fun q=>q.1.flat || eV q.2)=true→G.Nodup∧∀ a∈G,H1 a=none∧∃ ws:ML,H3 a=some ws.o),fun H3 q=>⟨p.1.length - (i+1),by omega,rfl,q⟩,fun x H3 y=>?_⟩
   obtain⟨s3,G3,rp3,sub3⟩:=g2 x H3 y;rw[List.drop_eq_getElem_cons hlt] at hgo;unfold cR at hgo;obtain⟨o,hstep,hgo⟩:=Rs.bind_ok hgo;obtain⟨rest',hrest,hgo⟩:=Rs.bind_ok hgo;cases hb:aS [] t p.1[i] (aJ env own pick) with
   |none=>rw[hb] at hstep;cases hstep
   |some env4 =>
    rw[hb] at hstep;unfold aU at hstep;obtain⟨kc,hkc,hstep⟩:=Rs.bind_ok hstep;have rep:=(re1.same (s2.trans s3)).picked own pick;let Z:Addr→Prop:=fun a=>S0 a
    have zF:∀ i,∀ a∈nM F env own pick i,Z a:=fun i a ha=>by
     obtain⟨j,hj,d,t,m,ej⟩:=uO (re1.same (s2.trans s3)) ha;exact .inr ⟨j,hj,d,t,m,ej⟩
    refine p4 (Z:=Z) rep zF rp3 (fun a ha=>.inl (sub3 a ha)) (fun a ha j d' t' ej o m=>?_) hb fun σ4 F4 re4 z4 _=>?_
    ·obtain⟨rfl,_⟩:=fP ej;cases o
    ·refine Dp re4 hkc fun H5 s5=>?_
     have base5:=s2.trans (s3.trans s5);have l5:H5 l=some (.lst vs):=s5 _ _ (s3 _ _ hl2);cases kc with
     |false =>
      show if false=true then _ else _
      rw[if_neg bj];simp only[Bool.false_eq_true,if_false] at hstep;cases hstep;cases hgo;refine⟨hlt,acc,rest',vs,G,hrest,htot,Nat.le_succ_of_le hacc,l5,rs.same (s3.trans s5),base5,hlG,hG,fun f=>?_⟩;obtain⟨n1,n2⟩:=hfr f;exact⟨n1,fun a ha=>⟨(n2 a ha).1,let ⟨ws,q⟩:=(n2 a ha).2;⟨ws,s5 _ _ (s3 _ _ q)⟩⟩⟩
     |true =>
      show if true=true then _ else _
      rw[if_pos rfl];simp only[if_true] at hstep;obtain⟨q,hq,hstep⟩:=Rs.bind_ok hstep;cases hstep;cases hgo;refine⟨_,env4,F4,re4.same s5,q,hq,fun yv H6 Gy s6 rpy rty=>?_⟩;have l6:H6 l=some (.lst vs):=s6 _ _ l5;have base6:=base5.trans s6;have old6:=s3.trans (s5.trans s6);have yS:∀ a∈Gy,H5 a=none∨S0 a:=fun a ha=>(rty.cont a ha).imp id fun ⟨i,d,t,m,_⟩=>z4 i a m
      have ly:l∉Gy:=fun z=>by
       rcases yS l z with q | q
       ·rw[l5] at q;cases q
       ·exact lS q
      have len6:vs.length=acc.length:=by have:=rs.len;rw[aj] at this;exact this.symm
      refine⟨vs,l6,Nat.lt_of_le_of_lt (Nat.le_trans (Nat.le_of_eq len6) (Nat.le_trans hacc (Nat.le_of_lt (Nat.lt_of_lt_of_le hlt hlim)))) (by decide),hlt,acc ++ [q],rest',vs ++ [yv],G++(Gy ++ []),hrest,by rw[htot];simp,by simp;exact hacc,aW,?_,?_,?_,?_,?_⟩
      ·rw[fm];exact (aM.append (rs.same old6) (.cons rpy .nil)).upd l6 (by simp;exact⟨hlG,ly⟩)
      ·intro b o e;rw[aP (fun z=>by subst z;rw[hl] at e;cases e)];exact base6 _ _ e
      ·simp;exact⟨hlG,ly⟩
      ·intro a ha;rw[cg] at ha;rcases bo.mp ha with ha | ha
       ·exact hG a ha
       ·exact (yS a ha).imp (aO.no base5) id
      ·intro f;rw[List.all_append,ax] at f;obtain⟨n1,n2⟩:=hfr f.1;have fy:Gy.Nodup∧∀ a∈Gy,H5 a=none∧∃ ws:ML,H6 a=some ws.o:=by
        have f2:q.1.flat=true∨eV q.2=true:=by simpa using f.2
        rcases f2 with f2 | f2
        ·rw[rpy.flat f2];exact⟨c7,fun _ h=>(nomatch h)⟩
        ·have:q.2 = .mv []:=by
          cases hr:q.2 with
          |sh R=>rw[hr] at f2;cases f2
          |mv R=>cases R with
           |nil=>rfl
           |cons a b=>rw[hr] at f2;cases f2
         obtain⟨m1,m2,m3⟩:=rty.mv [] this;refine⟨m1,fun a ha=>⟨?_,m2 a ha⟩⟩;rcases m3 a ha with z | ⟨_,_,_,z,_⟩
         ·exact z
         ·cases z
       rw[cg];refine⟨bt.mpr ⟨n1,fy.1,fun a ha b hb z=>?_⟩,fun a ha=>?_⟩
       ·subst z;obtain⟨_,ws,w⟩:=n2 a ha;have:=s5 _ _ (s3 _ _ w);rw[(fy.2 a hb).1] at this;cases this
       ·have ne:a≠l:=fun z=>by
         subst z;rcases bo.mp ha with ha | ha
         ·exact hlG ha
         ·exact ly ha
        rcases bo.mp ha with ha | ha
        ·obtain⟨u1,ws,w⟩:=n2 a ha;exact⟨u1,ws,by rw[aP ne];exact old6 _ _ w⟩
        ·obtain⟨u1,ws,w⟩:=fy.2 a ha;exact⟨aO.no base5 u1,ws,by rw[aP ne];exact w⟩
  ·left;have ei:i=p.1.length:=by omega
   subst ei;refine⟨w2,?_⟩;rw[List.drop_length] at hgo;unfold cR at hgo;cases hgo;rw[cg] at htot;subst htot;refine k _ H2 (l::G) (s1.trans s2) (.lst (.inl hl2) rs) ?_;have hl0:=aO.no s1 hl;cases hf:tot.all (fun q=>q.1.flat || eV q.2) with
   |true =>
    obtain⟨n1,n2⟩:=hfr hf;have new:∀ a∈l::G,H a=none:=fun a ha=>by
     rcases az.mp ha with rfl | ha
     ·exact hl0
     ·exact aO.no s1 (n2 a ha).1
    refine⟨fun a ha=>.inl (new a ha),fun R e=>⟨dk.mpr ⟨hlG,n1⟩,fun a ha=>?_,fun a ha=>.inl (new a ha)⟩⟩;rcases az.mp ha with rfl | ha
    ·exact⟨.l _,hl2⟩
    ·exact (n2 a ha).2
   |false =>
    refine⟨fun a ha=>?_,fun R e=>by cases e⟩;rcases az.mp ha with rfl | ha
    ·exact .inl hl0
    ·rcases hG a ha with q | q | ⟨j,hj,d,t,m,ej⟩
     ·exact .inl (aO.no s1 q)
     ·exact (rt.cont a q).imp id fun ⟨i,d,t,x,y,z⟩=>⟨i,d,t,x,y,fun r hr=>bf _ (z r hr)⟩
     ·refine .inr ⟨j,d,t,m,ej,fun r hr=>aq _ ?_⟩;unfold oq;rw[List.mem_flatten];exact⟨bN j t,au.mpr ⟨j,hj,by rw[ej]⟩,hr⟩
theorem nU {K:Frag}{t:lj}{pk:List (Option Nat)}(ht:∀ i,(t = .nm i∨∃ is,t = .tp is∧i∈is)→pk[i]? = some none) (v:V) (σ:L2.St) (H:Hp) (Q:L2.St→Hp→Prop) (h:rj K t v σ H Q) :
  rj K t v σ H fun σ' H'=>Q σ' H'∧σ'.length=σ.length∧∀(i:Nat) u,pk[i]?≠some none→σ[i]? = some u→σ'[i]? = some u:=by
 cases t with
 |nm i=>exact⟨h,by simp,fun j u hj e=>by rw[List.getElem?_set_ne];exact e;rintro rfl;exact hj (ht i (.inl rfl))⟩
 |tp is =>
  obtain⟨a,xs,e1,e2,e3,h⟩:=h;refine⟨a,xs,e1,e2,e3,?_⟩;have gen:∀(is:List Nat) (xs:List V) (σ1:L2.St),(∀ i∈is,pk[i]? = some none)→σ1.length=σ.length→(∀(i:Nat) u,pk[i]?≠some none→σ[i]? = some u→σ1[i]? = some u)→gP is xs σ1 H Q→gP is xs σ1 H fun σ' H'=>Q σ' H'∧σ'.length=σ.length∧∀(i:Nat) u,pk[i]?≠some none→σ[i]? = some u→σ'[i]? = some u:=by
   intro is
   induction is with
   |nil=>intro xs σ1 _ hl hk h;exact⟨h.1,h.2,hl,hk⟩
   |cons j js ih =>
    intro xs σ1 hi hl hk h;obtain⟨v,r,e,h⟩:=h;refine⟨v,r,e,ih r (σ1.set j (some v)) (fun i hm=>hi i (List.mem_cons_of_mem _ hm)) (by simp[hl]) (fun i u hi' e'=>?_) h⟩;rw[ai];exact hk i u hi' e';rintro rfl;exact hi' (hi j ae)
  exact gen is xs σ (fun i hm=>ht i (.inr ⟨is,rfl,hm⟩)) rfl (fun _ _ _ e=>e) h
end
end Pc
end
section
namespace Pc
open PySem PySem.Spec PyProof.Rows L2
noncomputable def i9 (K:Frag) (T:Tb) (x:Nat) (path:lJ):TE:=fun σ H Q=>∃ P env F po v p,RE K P env σ H F∧kU T path env = .ok po∧σ[x]? = some (some v)∧PV K H v po p∧∀ H',aO H H'→Q (.ref p) H'
section
variable {X:Cx}{T:Tb}{pos:Pos}{i:Nat}{x:Str}
theorem D4 (hN:X.N[i]? = some x) (hv:Bv X.env.scope x) (hd:(x==("__debug__" : Str))=false) (hcd:(x==("__classdict__" : Str))=false):PE X (.Name x pos) (i9 X.K T i .none):=by
 refine bV (sH hN hv hd hcd) fun σ H Q ⟨P,env,F,po,v,p,re,hpo,hv,pv,k⟩=>?_
 unfold kU at hpo;cases hpo;cases pv;exact⟨_,hv,k H (aO.refl _)⟩
theorem A5 {e:Expr}{c:Ex}{pos':Pos}(hN:X.N[i]? = some x) (hv:Bv X.env.scope x) (hd:(x==("__debug__" : Str))=false) (hcd:(x==("__classdict__" : Str))=false) (he:PE X e (tE X.K T c)) (hs:k7 e):PE X (.Subscript (.Name x pos') e pos) (i9 X.K T i (.some c)):=by
 refine bV (Bs (um.or yB) (sH hN hv hd hcd) he hs) fun σ H Q ⟨P,env,F,po,v,p,re,hpo,hv,pv,k⟩=>?_
 unfold kU at hpo;obtain⟨q,h1,hpo⟩:=Rs.bind_ok hpo;cases hq:q.1 with
 |int j =>
  rw[hq] at hpo;cases hpo;refine⟨v,hv,P,env,F,re,q,h1,fun w H1 G s rpi rti=>?_⟩;rw[hq] at rpi;obtain⟨rfl,_⟩:=rpi.int_inv;cases pv with
  |item h hj e =>
   rename_i r ws n;have hat:By ws j=some (.ref p):=by
    unfold By;rw[←y4,hj];exact e
   rcases h with h | h
   ·exact .inl ⟨r,ws,j,.ref p,rfl,rfl,.inl (aO.rd s h),hat,k H1 s⟩
   ·exact .inr ⟨r,ws,j,.ref p,rfl,rfl,aO.sqT s h,hat,k H1 s⟩
 |_=>rw[hq] at hpo;cases hpo
end
noncomputable def vt (K:Frag) (m:rb):V→List V→Hp→VK→Prop:=fun x vs H Q=>∃ l ws xs ds Gx G ys,x = .ref l∧H l=some (.lst ws)∧aM K H xs ws Gx∧aM K H ds vs G∧Aq m xs ds=some ys∧ys.length≤lim∧l∉Gx∧l∉G∧Gx.Nodup ∧
 ∀ us Gy v,aM K (upd H l (.lst us)) ys us Gy→(∀ a∈Gy,a∈Gx∨(m.copies=false∧a∈G))→((∀ a∈Gx,a∉G)→G.Nodup∨m.copies=true→Gy.Nodup)→Q v (upd H l (.lst us))
section
variable {X:Cx}
theorem lH:GH X "list.append" (vt X.K .append):=by
 intro pins s σ H x vs v us Q I rx rv h;obtain⟨l,ws,xs,ds,Gx,G,ys,rfl,hl,r1,r2,hm,hlen,n1,n2,nd,k⟩:=h
 match ds,hm with
 |[d],hm =>
  cases hm;obtain⟨y,rfl,rp⟩:=r2.of1;refine m9 pins s σ H _ _ v us Q I rx rv ⟨l,ws,y,rfl,rfl,hl,?_,k (ws ++ [y]) (Gx++(G ++ [])) _ ?_ (fun a ha=>?_) fun dj o=>?_⟩
  ·rw[←r1.len];simp only[List.length_append,List.length_singleton] at hlen;exact bg (bg (Nat.lt_succ_self _) hlen) sf
  ·exact (r1.append (.cons rp .nil)).upd hl (by simp;exact⟨n1,n2⟩)
  ·simp at ha;exact ha.imp id fun z=>⟨rfl,z⟩
  ·rcases o with o | o
   ·rw[cg];exact bt.mpr ⟨nd,o,fun a ha b hb z=>by subst z;exact dj a ha hb⟩
   ·cases o
theorem aM.erase {K:Frag}{H:Hp}:∀{xs:List Pc.D}{ws:List V}{G:List Addr}{j:Nat}{r:Pc.D},aM K H xs ws G→xs[j]? = some r→∃ u B A,ws[j]? = some u∧Rep K H r u B∧aM K H (xs.eraseIdx j) (ws.eraseIdx j) A∧List.Perm G (B++A)
 |_,_,_,_,_,.nil,e=>by simp at e
 | _,_,_,0,_,.cons (G:=G) (G':=G') h r,e=>by
  simp at e;subst e;exact⟨_,G,G',rfl,h,r,.refl _⟩
 | _,_,_,j+1,d,.cons (G:=G) (G':=G') h r,e=>by
  obtain⟨u,B,A,e1,e2,e3,e4⟩:=aM.erase (j:=j) r (by simpa using e);refine⟨u,B,G++A,by simpa using e1,e2,.cons h e3,?_⟩;refine (List.Perm.append_left G e4).trans ?_;rw[←dq,←dq];exact List.Perm.append_right A List.perm_append_comm
noncomputable def Bz (K:Frag):V→List V→Hp→VK→Prop:=fun x vs H Q=>∃ l ws xs ds Gx G q,x = .ref l∧H l=some (.lst ws)∧aM K H xs ws Gx∧aM K H ds vs G∧o9 xs ds=some q∧l∉Gx∧Gx.Nodup ∧
 ∀ w us Gy,Rep K (upd H l (.lst us)) q.1 w []→aM K (upd H l (.lst us)) q.2 us Gy→(∀ a∈Gy,a∈Gx)→Gy.Nodup→Q w (upd H l (.lst us))
theorem mh {K:Frag}{H:Hp}{xs:List Pc.D}{ws:List V}{Gx:List Addr}{j:Nat}{q:Pc.D×List Pc.D}{l:Addr}(hl:H l=some (.lst ws)) (r1:aM K H xs ws Gx) (n1:l∉Gx) (nd:Gx.Nodup) (hp:kN xs j=some q) :
  ∃ u Gy,ws[j]? = some u∧Rep K (upd H l (.lst (ws.eraseIdx j))) q.1 u []∧aM K (upd H l (.lst (ws.eraseIdx j))) q.2 (ws.eraseIdx j) Gy∧(∀ a∈Gy,a∈Gx)∧Gy.Nodup:=by
 unfold kN at hp;cases hj:xs[j]? with
 |none=>rw[hj] at hp;cases hp
 |some r =>
  rw[hj] at hp;by_cases hf:r.flat=true
  ·simp only[hf,if_true] at hp;cases hp;obtain⟨u,B,A,e1,e2,e3,e4⟩:=r1.erase hj;have eb:=e2.flat hf;subst eb;exact⟨u,A,e1,e2.upd hl (by simp),e3.upd hl (fun z=>n1 (e4.symm.subset z)),fun a ha=>e4.symm.subset ha,e4.nodup_iff.mp nd⟩
  ·simp only[hf,if_false] at hp;cases hp
theorem yy (n:Nat) (i:Int) {j:Nat}(h:Pc.kZ n i=some j):seqIndex? i n=some j:=by
 unfold Pc.kZ at h;unfold seqIndex?;by_cases h0:0≤i
 ·rw[if_pos h0] at h;by_cases h1:i<n
  ·rw[if_pos h1] at h;cases h;have:¬ i<0:=by omega
   simp[this];omega
  ·rw[if_neg h1] at h;cases h
 ·rw[if_neg h0] at h;by_cases h1 : -(n:Int)≤i
  ·rw[if_pos h1] at h;cases h;have:i<0:=by omega
   simp[this];omega
  ·rw[if_neg h1] at h;cases h
theorem Am:GH X "list.pop" (Bz X.K):=by
 intro pins s σ H x vs v us Q I rx rv h;obtain⟨l,ws,xs,ds,Gx,G,q,rfl,hl,r1,r2,hm,n1,nd,k⟩:=h
 match ds,hm with
 |[],hm =>
  cases r2;obtain⟨u,Gy,e1,e2,e3,e4,e5⟩:=mh hl r1 n1 nd hm;rw[r1.len] at e1 e2 e3;have kk:=k u _ Gy e2 e3 e4 e5;rw[mm] at kk;exact DF pins s σ H _ _ v us Q I rx rv ⟨l,ws,u,rfl,rfl,hl,e1,kk⟩
 |[.int i],hm =>
  simp only[o9] at hm;by_cases hi : -(2 ^ 63)≤i∧i<2 ^ 63
  ·rw[if_pos hi,ah] at hm;obtain⟨j,hj,hm⟩:=hm;obtain⟨y,rfl,rp⟩:=r2.of1;obtain⟨rfl,_⟩:=rp.int_inv;obtain⟨u,Gy,e1,e2,e3,e4,e5⟩:=mh hl r1 n1 nd hm;rw[r1.len] at hj;exact yn pins s σ H _ _ v us Q I rx rv ⟨l,ws,i,j,u,rfl,rfl,hl,hi.1,hi.2,yy _ _ hj,e1,k u _ Gy e2 e3 e4 e5⟩
  ·rw[if_neg hi] at hm;cases hm
theorem yX {x:Nat}{p:Option Int}{env:En}{d:D}{ys:List D}{rs:List Rt}:(∃ e,eC x p env d ys rs = .nx e)∨eC x p env d ys rs = .bad:=by
 unfold eC;split
 ·exact .inr rfl
 ·split
  ·exact .inl ⟨_,rfl⟩
  ·exact .inr rfl
theorem uS {T:Tb}{i y:Nat}{cs:la}{D:Ends}{σ:L2.St}{H:Hp}(h:tS X.K T (.apop y i cs) D σ H):uC (tBM X.K "list" (vt X.K .append) (i9 X.K T y .none) (ub (tBM X.K "list" (Bz X.K) (i9 X.K T i .none) (uw X.K T cs)) Ae)) D σ H:=by
 obtain⟨P,Z,env,F,re,hz,zp,h⟩:=h;unfold bA at h;by_cases hyi:y=i
 ·rw[if_pos hyi] at h;exact h.elim
 rw[if_neg hyi] at h;cases hx:ownAt env i with
 |none=>rw[hx] at h;exact h.elim
 |some d =>
  rw[hx] at h;simp only at h;cases hat:d.at1 none with
  |none=>rw[hat] at h;exact h.elim
  |some xs =>
   rw[hat] at h;obtain⟨l,hl,h⟩:=cF h;cases hm:o9 xs (l.map (·.1)) with
   |none=>rw[hm] at h;exact h.elim
   |some q =>
    rw[hm] at h;simp only at h;rcases yX (x:=i) (p:=none) (env:=env) (d:=d) (ys:=q.2) (rs:=[]) with ⟨env',hmt⟩ | hmt
    rotate_left
    ·rw[hmt] at h;exact h.elim
    rw[hmt] at h;have h:post X.K P Z env F H D (match ownAt env' y with
     |none=>.bad
     |some dy=>(match dy.at1 none with
      |none=>.bad
      |some ys=>eC y none env' dy (ys ++ [q.1]) [])):=h
    cases hy:ownAt env' y with
    |none=>rw[hy] at h;exact h.elim
    |some dy =>
     rw[hy] at h;simp only at h;cases haty:dy.at1 none with
     |none=>rw[haty] at h;exact h.elim
     |some ys =>
      rw[haty] at h;simp only at h;have hx':=cN hx;have hy':=cN hy;have hy0:ownAt env y=some dy:=by
       unfold eC at hmt;split at hmt
       ·cases hmt
       ·split at hmt
        ·cases hmt;rw[ai (Ne.symm hyi)] at hy';unfold ownAt;rw[(bI hy').1]
        ·cases hmt
      have hy0':=cN hy0;obtain⟨vy,hvy,_⟩:=re.val y dy .own hy0';obtain⟨py,pvy,fy⟩:=gO re hy0 hvy haty;obtain⟨v,hv,_⟩:=re.val i d .own hx';obtain⟨p,pv,f⟩:=gO re hx hv hat;refine⟨P,env,F,none,vy,py,re,rfl,hvy,pvy,fun Ha sa=>?_⟩;obtain⟨wsa,ga,ea,_⟩:=fy Ha sa;refine⟨.inl ⟨rfl,wsa,.inl (.inl ea)⟩,?_⟩;refine⟨P,env,F,none,v,p,re.same sa,rfl,hv,by cases pv;exact .top _,fun H1 s1'=>?_⟩;have s1:=sa.trans s1';obtain⟨ws1,g1,e1,_⟩:=f H1 s1;refine⟨.inl ⟨rfl,ws1,.inl (.inl e1)⟩,P,env,F,re.same s1,l,hl,fun vs H2 G ar=>?_⟩;have s2:=s1.trans ar.same;obtain⟨ws,Gx,a1,a2,a3,a4,a5,a6,fs⟩:=f H2 s2;refine⟨p,ws,xs,l.map (·.1),Gx,G,q,rfl,a1,a2,ar.reps,hm,a6,a5,fun w us Gy eY rs sub nd=>?_⟩;have key:=jK (K:=X.K) (P:=P) (Z:=Z) (D:=⟨fun σ' H'=>∃ F',After X.K P Z env F H env' σ' H' F',fun _ _=>True,fun _ _=>True,fun _ _=>True⟩) (N:=[]) (us:=us) re hz zp s2 hx hv a3 (fun R hR ndR=>⟨c7,fun _ h=>(nomatch h),fun _ h=>(nomatch h)⟩) (fun hN hNd=>by
       obtain⟨G',b1,b2,b3⟩:=fs q.2 us Gy rs nd (fun z=>a6 (sub p z)) fun a ha=>.inl (sub a ha)
       exact⟨G',b1,b2,fun a ha=>.inl ((b3 a ha).elim id fun z=>a4 a (sub a z))⟩) (by rw[hmt];exact fun σ' H' F' af=>⟨F',af⟩)
      obtain⟨F',af⟩:=key;have hvy':=hvy;obtain⟨py',pvy',fy'⟩:=gO af.re hy hvy haty;obtain⟨ws',Gx',c1,c2,c3,c4,c5,c6,fs'⟩:=fy' _ (aO.refl _);have epy:py'=py:=by cases pvy;cases pvy';rfl
      subst epy;have h':=post.trans af h;refine⟨py',ws',ys,[q.1],Gx',[] ++ [],ys ++ [q.1],rfl,c1,c2,.cons eY .nil,rfl,nR h',c6,fun z=>(nomatch z),c5,fun us' Gy' w' rs' sub' nd'=>?_⟩;refine jK (N:=[]) af.re af.z zp (aO.refl _) hy hvy c3 (fun R hR ndR=>⟨c7,fun _ h=>(nomatch h),fun _ h=>(nomatch h)⟩) (fun hN hNd=>?_) h';have sub2:∀ a∈Gy',a∈Gx':=fun a ha=>(sub' a ha).elim id fun z=>(nomatch z.2)
      obtain⟨G',b1,b2,b3⟩:=fs' (ys ++ [q.1]) us' Gy' rs' (nd' (fun _ _ z=>nomatch z) (.inl c7)) (fun z=>c6 (sub2 _ z)) fun a ha=>.inl (sub2 a ha)
      exact⟨G',b1,b2,fun a ha=>.inl ((b3 a ha).elim id fun z=>c4 a (sub2 a z))⟩
theorem mR {T:Tb}{i:Nat}{path:lJ}{m:rb}{cs:la}{D:Ends}{σ:L2.St}{H:Hp}(h:tS X.K T (.mut i path m cs) D σ H):uC (tBM X.K "list" (vt X.K m) (i9 X.K T i path) (uw X.K T cs)) D σ H:=by
 obtain⟨P,Z,env,F,re,hz,zp,h⟩:=h;unfold bA at h;cases hx:ownAt env i with
 |none=>rw[hx] at h;exact h.elim
 |some d =>
  rw[hx] at h;obtain⟨po,hpo,h⟩:=cF h;cases hat:d.at1 po with
  |none=>rw[hat] at h;exact h.elim
  |some xs =>
   rw[hat] at h;obtain⟨l,hl,h⟩:=cF h;cases hm:Aq m xs (l.map (·.1)) with
   |none=>rw[hm] at h;exact h.elim
   |some ys =>
    rw[hm] at h;have hx':=cN hx;obtain⟨v,hv,_⟩:=re.val i d .own hx';obtain⟨p,pv,f⟩:=gO re hx hv hat;refine⟨P,env,F,po,v,p,re,hpo,hv,pv,fun H1 s1=>?_⟩;obtain⟨ws1,g1,e1,_⟩:=f H1 s1;refine⟨.inl ⟨rfl,ws1,.inl (.inl e1)⟩,P,env,F,re.same s1,l,hl,fun vs H2 G ar=>?_⟩;have s2:=s1.trans ar.same;obtain⟨ws,Gx,a1,a2,a3,a4,a5,a6,fs⟩:=f H2 s2;by_cases hroot:(bD (l.map (·.2))).contains i=true
    ·simp only[hroot,if_true] at h;exact h.elim
    simp only[hroot,if_false] at h;have disj:∀ a∈F i,a∉G:=fun a ha hg=>by
     rcases ar.cont a hg with q | ⟨j,d2,t2,m2,e2,sr⟩
     ·exact (re.same s1).nn hx' ha q
     ·exact hroot (by simpa using sr i ((re.one i d .own hx' rfl).2.2 a ha j d2 t2 e2 m2))
    have nG:=disj p a3;refine⟨p,ws,xs,l.map (·.1),Gx,G,ys,rfl,a1,a2,ar.reps,hm,nR h,a6,nG,a5,fun us Gy w rs sub nd=>?_⟩;refine jK (N:=if m.copies then [] else G) re hz zp s2 hx hv a3 (fun R hR ndR=>?_) (fun hN hNd=>?_) h
    ·cases hc:m.copies with
     |true=>exact⟨c7,fun _ h=>(nomatch h),fun _ h=>(nomatch h)⟩
     |false =>
      rw[hc] at hR;obtain⟨n1,n2,n3⟩:=Args.mv (re.same s1) ar hR ndR;exact⟨n1,n2,fun a ha=>(n3 a ha).imp (aO.no s1) id⟩
    ·have ngy:Gy.Nodup:=nd (fun a ha=>disj a (a4 a ha)) (by
      cases hc:m.copies with
      |true=>exact .inr rfl
      |false=>rw[hc] at hNd;exact .inl hNd)
     obtain⟨G',b1,b2,b3⟩:=fs ys us Gy rs ngy (fun z=>(sub p z).elim a6 fun q=>nG q.2) fun a ha=>(sub a ha).imp id fun q z=>disj a z q.2
     refine⟨G',b1,b2,fun a ha=>?_⟩;rcases b3 a ha with q | q
     ·exact .inl q
     ·rcases sub a q with z | ⟨z1,z2⟩
      ·exact .inl (a4 a z)
      ·rw[z1];exact .inr z2
theorem vM {T:Tb}{i:Nat}{path:lJ}{m:rb}{D:Ends}{σ:L2.St}{H:Hp}(h:tS X.K T (.mut i path m .nil) D σ H):uC (Gd X.K "list" (vt X.K m) (i9 X.K T i path)) D σ H:=by
 obtain⟨P,env,F,po,v,p,re,hpo,hv,pv,k⟩:=mR h;refine⟨P,env,F,po,v,p,re,hpo,hv,pv,fun H' s=>?_⟩;obtain⟨ty,P',env',F',re',l,hl,f⟩:=k H' s;unfold bM at hl;cases hl;exact⟨ty,f [] H' [] (.nil (aO.refl _))⟩
theorem yo {T:Tb}{i:Nat}{path:lJ}{c e:Ex}{D:Ends}{σ:L2.St}{H:Hp}(h:tS X.K T (.setix i path c e) D σ H):zX (tE X.K T e) (FG (i9 X.K T i path) (tE X.K T c) BE) D σ H:=by
 obtain⟨P,Z,env,F,re,hz,zp,h⟩:=h;unfold bA at h;cases hx:ownAt env i with
 |none=>rw[hx] at h;exact h.elim
 |some d =>
  rw[hx] at h;obtain⟨q,hq,h⟩:=cF h;obtain⟨po,hpo,h⟩:=cF h;cases hat:d.at1 po with
  |none=>rw[hat] at h;exact h.elim
  |some xs =>
   rw[hat] at h;obtain⟨qi,hqi,h⟩:=cF h;cases hqq:qi.1 with
   |int n =>
    rw[hqq] at h;cases hj:kZ xs.length n with
    |none=>simp only[hj] at h;exact h.elim
    |some j =>
     simp only[hj] at h;have hx':=cN hx;obtain⟨v,hv,_⟩:=re.val i d .own hx';refine⟨P,env,F,re,q,hq,fun w H1 G s1 rp rt=>?_⟩;have re1:=re.same s1;obtain⟨p,pv,f⟩:=gO re1 hx hv hat;refine⟨P,env,F,po,v,p,re1,hpo,hv,pv,fun H2 s2=>⟨P,env,F,re1.same s2,qi,hqi,fun wi H3 Gi s3 rpi rti=>?_⟩⟩;rw[hqq] at rpi;obtain⟨rfl,_⟩:=rpi.int_inv;obtain⟨ws,Gx,a1,a2,a3,a4,a5,a6,fs⟩:=f H3 (s2.trans s3);have jl:=Ed hj;refine⟨p,ws,n,j,rfl,rfl,a1,by rw[←a2.len];exact hj,?_⟩;have hroots:∀ R,q.2 = .mv R→i∉R→∀ a∈F i,a∉G:=fun R hr hiR a ha hg=>by
      rcases rt.cont a hg with z | ⟨k,d2,t2,m2,e2,sr⟩
      ·exact re.nn hx' ha z
      ·have:=sr i ((re.one i d .own hx' rfl).2.2 a ha k d2 t2 e2 m2);rw[hr] at this;exact hiR this
     have s13:=s2.trans s3;refine jK (N:=G) re hz zp (s1.trans s13) hx hv a3 (fun R hR ndR=>?_) (fun hN hNd=>?_) h
     ·have hr:q.2 = .mv R:=by
       cases hr:q.2 with
       |sh Q=>rw[hr] at hR;cases hR
       |mv Q=>rw[hr] at hR;simp[dJ] at hR;rw[hR]
      obtain⟨n1,n2,n3⟩:=rt.mv R hr;exact⟨n1,fun a ha=>let ⟨ws,z⟩:=n2 a ha;⟨ws,s13 _ _ z⟩,n3⟩
     ·obtain⟨u,A,B,C,e1,e2,r1,g⟩:=a2.split (i:=j) (d:=xs[j]) (bc jl);subst e2;have hpG:p∉G:=fun z=>hN p z a3
      have pAC:∀ b∈A++C,b≠p:=fun b hb z=>by
       rw[z] at hb;refine a6 ?_;rcases bo.mp hb with hb | hb
       ·exact bf _ hb
       ·exact aq _ (aq _ hb)
      have rs:=g (upd H3 p (.lst (ws.set j w))) q.1 w G (fun _ _=>pM a1) (jr (ws:=.l _) a1) (fun b hb _ h=>(aP (pAC b hb)).trans h) ((rp.same s13).upd a1 hpG);have gsub:∀ a∈A++(G++C),a∈A++(B++C)∨a∈G:=fun a ha=>by
       simp only[List.mem_append] at ha ⊢;rcases ha with ha | ha | ha
       ·exact .inl (.inl ha)
       ·exact .inr ha
       ·exact .inl (.inr (.inr ha))
      have ng:(A++(G++C)).Nodup:=by
       rw[bt] at a5;obtain⟨nA,nB,nAB⟩:=a5;rw[bt] at nB;obtain⟨_,nC,_⟩:=nB;rw[bt];refine⟨nA,bt.mpr ⟨hNd,nC,fun a ha b hb z=>?_⟩,fun a ha b hb z=>?_⟩
       ·subst z;exact hN a ha (a4 a (by simp[hb]))
       ·subst z;rcases bo.mp hb with hb | hb
        ·exact hN a hb (a4 a (by simp[ha]))
        ·exact nAB a ha a (by simp[hb]) rfl
      obtain⟨G',b1,b2,b3⟩:=fs (xs.set j q.1) (ws.set j w) _ rs ng (fun z=>(gsub p z).elim a6 hpG) fun a ha=>(gsub a ha).imp id fun z y=>hN a z y
      refine⟨G',b1,b2,fun a ha=>?_⟩;rcases b3 a ha with z | z
      ·exact .inl z
      ·exact (gsub a z).imp (a4 a) id
   |_=>rw[hqq] at h;exact h.elim
end
end Pc
end
section
namespace Pc
open PySem PySem.Spec PyProof.Rows L2
section
variable {X:Cx}
noncomputable def iW:List String:=["int","bool","str","list","tuple"]
theorem ty_type {T:String}(h:T∈iW):typeOf (.type T)=pure (.type "type"):=by
 simp only[iW,List.mem_cons,List.not_mem_nil,or_false] at h;rcases h with rfl | rfl | rfl | rfl | rfl<;>kernel_rfl
noncomputable def F9 (K:Frag):List V→Hp→VK→Prop:=fun xs H Q=>∃ x T d G,xs=[x,.ty T]∧T∈iW∧((∀ kvs,d≠.dct kvs)∧(∀ ks,d≠.mpi ks)∧(∀ ks,d≠.mpt ks)∧∀ ks,d≠.mpz ks)∧Rep K H d x G∧Q (.bl (zh T d)) H
theorem u9:fV X (.builtin "isinstance") (F9 X.K):=by
 intro pins s σ H xs us Q I r h;obtain⟨x,T,d,G,rfl,hT,hnd,rp,q⟩:=h;obtain⟨u,w,rfl,rx,rt⟩:=r.two;obtain rfl:w=Value.type T:=rt;have hty:=ty_type hT;have yes:∀{Tx:String},s.TypeIs u Tx→isSubtype (.type Tx) (.type T)=pure true→zh T d=true→wpAny (model X.prog X.w) X.A (call (.builtin "isinstance") [u,.type T]) (EP X pins σ Q) X.xe s:=fun h1 h2 h3 =>
  call_isinstance (isinstance_true hty h2) ⟨h1,⟨.bl true,H,I,rfl,by rw[h3] at q;exact q⟩⟩
 have no:zh T d=false→EP X pins σ Q (.bool false) { s with toks:=s.toks+1 }:=fun h=>⟨.bl false,H,I.tok _,rfl,by rw[h] at q;exact q⟩
 simp only[iW,List.mem_cons,List.not_mem_nil,or_false] at hT;cases d with
 |dct kvs=>exact absurd rfl (hnd.1 kvs)
 |mpi ks=>exact absurd rfl (hnd.2.1 ks)
 |mpt ks=>exact absurd rfl (hnd.2.2.1 ks)
 |mpz ks=>exact absurd rfl (hnd.2.2.2 ks)
 |non =>
  obtain⟨rfl,_⟩:=rp.non_inv;cases rx;rcases hT with rfl | rfl | rfl | rfl | rfl
  ·exact call_isinstance (isinstance_false_none (by decide) hty F.sub_NoneType_int) (no rfl)
  ·exact call_isinstance (isinstance_false_none (by decide) hty F.sub_NoneType_bool) (no rfl)
  ·exact call_isinstance (isinstance_false_none (by decide) hty F.sub_NoneType_str) (no rfl)
  ·exact call_isinstance (isinstance_false_none (by decide) hty F.sub_NoneType_list) (no rfl)
  ·exact call_isinstance (isinstance_false_none (by decide) hty F.sub_NoneType_tuple) (no rfl)
 |bl b =>
  obtain⟨rfl,_⟩:=rp.bl_inv;cases rx;rcases hT with rfl | rfl | rfl | rfl | rfl
  ·exact yes (PySem.typeIs_bool s b) F.sub_bool_int rfl
  ·exact yes (PySem.typeIs_bool s b) F.sub_bool_bool rfl
  ·exact call_isinstance (isinstance_false_bool (by decide) hty F.sub_bool_str) (no rfl)
  ·exact call_isinstance (isinstance_false_bool (by decide) hty F.sub_bool_list) (no rfl)
  ·exact call_isinstance (isinstance_false_bool (by decide) hty F.sub_bool_tuple) (no rfl)
 |int i =>
  obtain⟨rfl,_⟩:=rp.int_inv;obtain⟨t,rfl⟩:=rx;rcases hT with rfl | rfl | rfl | rfl | rfl
  ·exact yes (typeIs_int s i t) F.sub_int_int rfl
  ·exact call_isinstance (isinstance_false_int (by decide) hty F.sub_int_bool) (no rfl)
  ·exact call_isinstance (isinstance_false_int (by decide) hty F.sub_int_str) (no rfl)
  ·exact call_isinstance (isinstance_false_int (by decide) hty F.sub_int_list) (no rfl)
  ·exact call_isinstance (isinstance_false_int (by decide) hty F.sub_int_tuple) (no rfl)
 |str z =>
  obtain⟨rfl,_⟩:=rp.str_inv;obtain⟨t,rfl⟩:=rx;rcases hT with rfl | rfl | rfl | rfl | rfl
  ·exact call_isinstance (isinstance_false_str (by decide) hty F.sub_str_int) (no rfl)
  ·exact call_isinstance (isinstance_false_str (by decide) hty F.sub_str_bool) (no rfl)
  ·exact yes (typeIs_str s z t) F.sub_str_str rfl
  ·exact call_isinstance (isinstance_false_str (by decide) hty F.sub_str_list) (no rfl)
  ·exact call_isinstance (isinstance_false_str (by decide) hty F.sub_str_tuple) (no rfl)
 |lst ds =>
  obtain⟨p,vs,g,rfl,_,a1,_⟩:=rp.lst_inv;cases rx;obtain⟨its,_,pl,_⟩:=I.list (.inl a1);obtain⟨o,ho,hc,_⟩:=pl.isList;rcases hT with rfl | rfl | rfl | rfl | rfl
  ·exact call_isinstance (isinstance_false_list (by decide) hty F.sub_list_int) ⟨⟨o,ho,hc⟩,no rfl⟩
  ·exact call_isinstance (isinstance_false_list (by decide) hty F.sub_list_bool) ⟨⟨o,ho,hc⟩,no rfl⟩
  ·exact call_isinstance (isinstance_false_list (by decide) hty F.sub_list_str) ⟨⟨o,ho,hc⟩,no rfl⟩
  ·exact yes ⟨o,ho,hc⟩ F.sub_list_list rfl
  ·exact call_isinstance (isinstance_false_list (by decide) hty F.sub_list_tuple) ⟨⟨o,ho,hc⟩,no rfl⟩
 |tup ds =>
  obtain⟨p,vs,rfl,a1,_⟩:=rp.tup_inv;cases rx;obtain⟨its,_,pl,_⟩:=I.tuple a1;obtain⟨o,ho,hc,_⟩:=pl;rcases hT with rfl | rfl | rfl | rfl | rfl
  ·exact call_isinstance (isinstance_false_tuple (by decide) hty F.sub_tuple_int) ⟨⟨o,ho,hc⟩,no rfl⟩
  ·exact call_isinstance (isinstance_false_tuple (by decide) hty F.sub_tuple_bool) ⟨⟨o,ho,hc⟩,no rfl⟩
  ·exact call_isinstance (isinstance_false_tuple (by decide) hty F.sub_tuple_str) ⟨⟨o,ho,hc⟩,no rfl⟩
  ·exact call_isinstance (isinstance_false_tuple (by decide) hty F.sub_tuple_list) ⟨⟨o,ho,hc⟩,no rfl⟩
  ·exact yes ⟨o,ho,hc⟩ F.sub_tuple_tuple rfl
theorem w9 {T:Tb}{b:String}{c:Ex}{σ:L2.St}{H:Hp}{Q:VK}(hb:b∈iW) (h:tE X.K T (.blt (.isi b) (.cons c .nil)) σ H Q):tCB (F9 X.K) (ub (tE X.K T c) (ub (tC (.ty b)) Ae)) σ H Q:=by
 obtain⟨P,env,F,re,p,hev,k⟩:=h;unfold ev bM bM at hev;obtain⟨l,h1,hev⟩:=Rs.bind_ok hev;obtain⟨q,h2,h1⟩:=Rs.bind_ok h1;cases h1;obtain⟨d',h3,hev⟩:=Rs.bind_ok hev;have h3:jN (.isi b) [q.1]=some d':=dI h3;have hnd:(∀ kvs,q.1≠.dct kvs)∧(∀ ks,q.1≠.mpi ks)∧(∀ ks,q.1≠.mpt ks)∧∀ ks,q.1≠.mpz ks:=⟨fun kvs e=>(by rw[e] at h3;cases h3),fun kvs e=>(by rw[e] at h3;cases h3),fun kvs e=>(by rw[e] at h3;cases h3),fun kvs e=>(by rw[e] at h3;cases h3)⟩;have hd:d' = .bl (zh b q.1):=by
  cases hq:q.1 with
  |dct kvs=>exact absurd hq (hnd.1 kvs)
  |mpi ks=>exact absurd hq (hnd.2.1 ks)
  |mpt ks=>exact absurd hq (hnd.2.2.1 ks)
  |mpz ks=>exact absurd hq (hnd.2.2.2 ks)
  |_=>rw[hq] at h3;cases h3;rfl
 subst hd;cases hev;exact⟨P,env,F,re,q,h2,fun v H1 G s rp rt=>⟨v,b,q.1,G,rfl,hb,hnd,rp,k _ H1 [] s (.bl _) bX.nil⟩⟩
theorem qw:∀{r:List D},r.all D.isBl=true→∃ bs:List Bool,r=bs.map D.bl
 |[],_=>⟨[],rfl⟩
 | x::r,ha=>by
  rw[dz,ax] at ha;obtain⟨bs,rfl⟩:=qw ha.2;cases x with
  |bl c=>exact⟨c::bs,rfl⟩
  |_=>cases ha.1
theorem all_range (bs:List Bool):(List.range bs.length).all (fun i=>bs[i]?.getD true)=bs.all id:=by
 rw[Bool.eq_iff_iff,cy,cy];constructor
 ·intro h x hx;obtain⟨i,hi,rfl⟩:=List.mem_iff_getElem.mp hx;have:=h i (by simpa using hi);simpa[hi] using this
 ·intro h i hi;have hi:i<bs.length:=by simpa using hi
  simpa[hi] using h bs[i] (List.getElem_mem hi)
theorem l9:∀{ds:List D}{b:Bool},allB ds=some b→ds.all D.isBl=true→∃ bs:List Bool,ds=bs.map D.bl∧b=bs.all id
 |[],b,h,_=>by cases h;exact⟨[],rfl,rfl⟩
 | .bl c::r,b,h,ha=>by
  have ha':r.all D.isBl=true:=by simpa[D.isBl] using ha
  cases c with
  |false =>
   cases h;have:=qw ha';obtain⟨bs,rfl⟩:=this;exact⟨false::bs,rfl,by simp⟩
  |true =>
   obtain⟨bs,rfl,rfl⟩:=l9 (ds:=r) h ha';exact⟨true::bs,rfl,by simp⟩
 |.non::r,b,h,_=>by cases h
 |.int _::r,b,h,_=>by cases h
 |.str _::r,b,h,_=>by cases h
 |.lst _::r,b,h,_=>by cases h
 |.tup _::r,b,h,_=>by cases h
theorem lX {K:Frag}{H:Hp}:∀{bs:List Bool}{vs:List V}{G:List Addr}{us:List Value},aM K H (bs.map D.bl) vs G→aQ vs us→us=bs.map Value.bool
 |[],_,_,_,.nil,.nil=>rfl
 | b::bs,_,_,_,.cons h r,.cons x y=>by
  obtain⟨rfl,_⟩:=h.bl_inv;cases x;rw[ba,←lX r y]
theorem vk (hc:X.calm=true):fV X (.builtin "all") (pS X.K .all):=by
 intro pins s σ H xs us Q I r h;obtain⟨ds,d,G,rs,hd,k⟩:=h
 match ds,hd with
 |[.lst ys],hd =>
  simp only[jN,BV] at hd;by_cases hb:ys.all D.isBl=true
  ·rw[if_pos hb,ab] at hd;obtain⟨b,hb',rfl⟩:=hd;obtain⟨bs,rfl,rfl⟩:=l9 hb' hb;obtain⟨x,rfl,rp⟩:=rs.of1;obtain⟨p,vs,g,rfl,rfl,a1,a2⟩:=rp.lst_inv;obtain⟨u,rfl,ru⟩:=r.one;cases ru;obtain⟨its,rv,pl,_⟩:=I.list (.inl a1);have ei:=lX a2 rv;subst ei;have hlt:p<s.heap.objs.size:=by
    obtain⟨o,ho,_⟩:=pl.isList;exact Heap.lt_size ho
   refine call_all_walk (wpAny_pyIter_list pl.isList ⟨s.heap.objs.size,[s.heap.objs.size,p],[s.heap.objs.size],(bs.map Value.bool).toArray.size,_,_,fun i=>bs[i]?.getD true,rfl,Walks.list (A:=X.A.in1) (show X.A.in1.handled=none from I.ok.hd hc) s.heap.objs.size p (cj hlt) (bs.map Value.bool).toArray,⟨⟨_,Heap.get?_push_size _ rfl,rfl,rfl⟩,pl.isList.at fun o e=>Heap.get?_push_of_some _ e⟩,fun i v s' Q' E' hP hQ=>?_,fun h' tk hk=>?_⟩)
   ·have hP:(bs.map Value.bool).toArray[i]? = some v:=hP;rw[List.getElem?_toArray,av,ab] at hP;obtain⟨b,e1,rfl⟩:=hP;have hQ:Q' (bs[i]?.getD true) s':=hQ;rw[e1] at hQ;exact wpAny_truthy_bool hQ
   ·have e:(List.range (bs.map Value.bool).toArray.size).all (fun i=>bs[i]?.getD true)=bs.all id:=by
     simp only[List.size_toArray,List.length_map];exact all_range bs
    rw[e];refine⟨.bl (bs.all id),H,?_,rfl,k _ H [] (.bl _) i4.nil⟩;have I1:Inv X pins σ H { s with heap:=s.heap.push { cls:=.type "list_iterator",data:=.fields #[.ref p,.int 0 0] } }:=I.kept (t':=s.toks) fun b o e=>Heap.get?_push_of_some _ e
    obtain⟨f0,f1,f2,f3,f4,f5⟩:=I.fpOk (b:=s.heap.objs.size) (aw _) (I.hok.fresh (aw _));exact I1.turned (t':=tk) (fun b o hb e=>hk b o (by simpa using hb) e) f0 f1 f3 f4 f5
  ·rw[if_neg hb] at hd;cases hd
end
end Pc
end
section
namespace Pc
open PySem PySem.Spec PyProof.Rows L2
section
variable {prog:Program}{w:World}{A:Around}{E:Value→Shared→Prop}{s:Shared}
end
section
variable {X:Cx}{T:Tb}
end
end Pc
end
section
namespace Pc
open PySem PySem.Spec PyProof.Rows L2
theorem uH:∀(xs:List V) (us:List Value),xs.length=us.length→(∀(i:Nat) (x:V),xs[i]? = some x→∃ u,us[i]? = some u∧RelV x u)→aQ xs us
 |[],[],_,_=>.nil
 |[],_::_,h,_=>by simp at h
 |_::_,[],h,_=>by simp at h
 | x::xs,u::us,h,f=>by
  obtain⟨u',e,r⟩:=f 0 x rfl;cases e;exact .cons r (uH xs us (by simpa using h) fun i y hy=>by simpa using f (i+1) y (by simpa using hy))
theorem rN {a c:Int}{acc:Array Value}{n:Nat}(h:ItemsOf (fun i v=>∃ t,v = .int (a+i*c) t) acc n):aQ (eJ a c n) acc.toList:=by
 obtain⟨h1,h2⟩:=h;refine uH _ _ (by simp[eJ,h1]) fun i x hx=>?_
 unfold eJ at hx;rw[av,ab] at hx;obtain⟨k,hk,rfl⟩:=hx;obtain⟨hk1,hk2⟩:=ak.mp hk;have hk1':i<n:=by simpa using hk1
 have hik:k=i:=by rw[←hk2];simp
 subst hik;have hlt:k<acc.toList.length:=by simp[h1];exact hk1'
 refine⟨acc.toList[k],bc hlt,?_⟩;obtain⟨t,ht⟩:=h2 k acc[k] (by simp[h1,hk1']);have:acc.toList[k]=acc[k]'(by simpa using hlt):=by simp
 rw[this,ht];exact⟨t,rfl⟩
section
variable {X:Cx}{T:Tb}
theorem nV {pins:List (Addr×Obj)}{σ:L2.St}{H:Hp}{s:Shared}{E:Value→Shared→Prop}{lo hi:Int}{t u v:Tok}{tk:Nat}{Q:VK}(hc:X.calm=true) (I:Inv X pins σ H s) (h1 : -(2 ^ 62)≤lo) (h2:lo<2 ^ 62) (h3 : -(2 ^ 62)≤hi) (h4:hi<2 ^ 62) (h5:hi - lo≤1000000)
  (q:∀ l,H l=none→Q (.ref l) (upd H l (.lst (eJ lo 1 (hi - lo).toNat)))):wpAny (model X.prog X.w) X.A (call (.type "list") [.ref s.heap.objs.size]) (EP X pins σ Q) E { s with heap:=s.heap.push { cls:=.type "range",data:=.fields #[.int lo t,.int hi u,.int 1 v] },toks:=tk }:=by
 have I1:Inv X pins σ H { s with heap:=s.heap.push { cls:=.type "range",data:=.fields #[.int lo t,.int hi u,.int 1 v] },toks:=tk }:=I.kept fun b o e=>Heap.get?_push_of_some _ e
 refine call_list_range (n:=(hi - lo).toNat) (I1.ok.hd hc) (IsRange.new ..) (small_one h1 h2 h3 h4) (by rw[rangeSize_one];split<;>omega) (by omega) fun h' tk' acc' c' hk hS hacc=>?_
 have hv:=rN hacc;have h0:H (s.heap.push { cls:=.type "range",data:=.fields #[.int lo t,.int hi u,.int 1 v] }).objs.size=none:=I1.fresh;have I2:=I1.laid (a:=(s.heap.push { cls:=.type "range",data:=.fields #[.int lo t,.int hi u,.int 1 v] }).objs.size) (o:=.lst (eJ lo 1 (hi - lo).toNat)) (t':=tk') (h':=h') hk (aw _) ⟨by rw[jt];have:=sf;have:lim=1000000:=rfl;omega,acc'.toList,c',hv,hS⟩;exact⟨.ref _,_,I2,rfl,q _ h0⟩
theorem tB {es:List Expr}{cs:la}{p q pos pos':Pos}(hc:X.calm=true) (hg:Gl X "list") (hm:X.mg "list" = none) (hg':Gl X "range") (hm':X.mg "range" = none) (ha:PA X es (uw X.K T cs)) (hs:∃ e r,es=e::r∧starEach es X.env=(false,eval e X.env)::starEach r X.env∧((backTo pos' (starEach r X.env)).any fun x=>x.1)=false) :
  PE X (.Call (.Name "list" p) [.Call (.Name "range" q) es [] pos'] [] pos) (tE X.K T (.blt .lrng cs)):=by
 intro pins s σ H Q I h;obtain⟨P,env,F,re,r,hev,k⟩:=h;unfold ev at hev;obtain⟨l,h1,hev⟩:=Rs.bind_ok hev;obtain⟨d,h2,hev⟩:=Rs.bind_ok hev;have h2:=dI h2;cases hev;obtain⟨e,rs,rfl,hs1,hs2⟩:=hs;refine Call_ (iL I hg hm boot_list (da ?_ rfl rfl));show wpAny _ _ (spliced ((false,eval (.Call (.Name "range" q) (e::rs) [] pos') X.env) :: [])) _ _ s;refine Calls.spliced_cons ?_;refine Call_ (iL I hg' hm' boot_range (da (dD (ha pos' pins s σ H (fun vs H'=>∃ G,Args X.K env F H H' l vs G) I ⟨P,env,F,re,l,h1,fun vs H' G ar=>⟨G,ar⟩⟩) fun us s1 ⟨vs,H1,I1,r1,G,ar⟩=>?_) hs1 hs2));have rps:aM X.K H1 (l.map (·.1)) vs G:=ar.reps;generalize hl:l.map (·.1)=ds at h2 rps
 match ds,h2 with
 |[.int n],h2 =>
  simp only[jN,sd] at h2;by_cases hk:fO n=true∧n≤1000000
  ·rw[if_pos hk] at h2;cases h2;obtain⟨x,rfl,rp⟩:=rps.of1;obtain⟨rfl,rfl⟩:=rp.int_inv;obtain⟨u,rfl,t,rfl⟩:=r1.one;unfold fO at hk;simp only[decide_eq_true_eq] at hk;refine call_range_1 (Calls.spliced_nil (nV hc I1 (by omega) (by omega) hk.1.1 hk.1.2 (by omega) fun a h0=>?_));obtain⟨n1,n2⟩:=g9 (G0:=[]) (gZ (K:=X.K) (H:=H1) 1 (n - 0).toNat 0) (fun z hz=>hz) h0;rw[Int.sub_zero] at n1 n2 ⊢;exact k _ _ _ (ar.same.trans n2.same) n1 (bX.new ar n2 fun _ z=>z)
  ·rw[if_neg hk] at h2;cases h2
 |[.int a,.int b],h2 =>
  simp only[jN,sd] at h2;by_cases hk:fO a=true∧fO b=true∧b - a≤1000000
  ·rw[if_pos hk] at h2;cases h2;cases rps with
   |cons ra rps =>
    obtain⟨rfl,rfl⟩:=ra.int_inv;obtain⟨x,rfl,rp⟩:=rps.of1;obtain⟨rfl,rfl⟩:=rp.int_inv;obtain⟨u,w,rfl,⟨t,rfl⟩,⟨t',rfl⟩⟩:=r1.two;unfold fO at hk;simp only[decide_eq_true_eq] at hk;refine call_range_2 (Calls.spliced_nil (nV hc I1 hk.1.1 hk.1.2 hk.2.1.1 hk.2.1.2 hk.2.2 fun c h0=>?_));obtain⟨n1,n2⟩:=g9 (G0:=[]) (gZ (K:=X.K) (H:=H1) 1 (b - a).toNat a) (fun z hz=>hz) h0;exact k _ _ _ (ar.same.trans n2.same) n1 (bX.new ar n2 fun _ z=>z)
  ·rw[if_neg hk] at h2;cases h2
end
end Pc
end
section
namespace Pc
open PySem PySem.Spec PyProof.Rows L2
section
variable {prog:Program}{w:World}{A:Around}{R:Result→Shared→Prop}{it:Addr}{fp wr:List Addr}{n:Nat}{P:Nat→Value→Prop}{Sta:Nat→Heap→Prop}{dv:Value}{bx:Addr}
end
section
variable {X:Cx}{T:Tb}
end
end Pc
end
section
namespace Pc
open PySem PySem.Spec PyProof.Rows L2
section
variable {X:Cx}{T:Tb}
theorem vK {σ:L2.St}{H:Hp}{Q:VK}(h:tE X.K T .dnew σ H Q):xY σ H Q:=by
 obtain⟨P,env,F,re,p,hev,k⟩:=h;unfold ev at hev;cases hev;intro p hp;refine k _ _ [p] (aO.new hp) (.mpi (ks:=[]) (xs:=[]) aW trivial) ⟨fun a ha=>?_,fun R hR=>⟨by simp,fun a ha=>?_,fun a ha=>?_⟩⟩
 ·obtain rfl:=dh.mp ha;exact .inl hp
 ·obtain rfl:=dh.mp ha;exact⟨.k _,aW⟩
 ·obtain rfl:=dh.mp ha;exact .inl hp
theorem jc.map {K:Frag}{H:Hp}(k:Int) {m:MV}{v:V}(hm:rf K H m v):∀{q:List (Int×MV)}{x:List (Key×V)},jc K H q x→jc K H (q.map fun z=>if z.1=k then (z.1,m) else z) (x.map fun z=>if z.1=Sum.inl k then (z.1,v) else z)
 |[],[],_=>trivial
 | (j,n)::q,p::x,⟨a,b,c⟩=>by
  refine⟨?_,?_,c.map k hm⟩
  ·show (if p.1=Sum.inl k then (p.1,v) else p).1=Sum.inl (if j=k then (j,m) else (j,n)).1;rw[show (if p.1=Sum.inl k then (p.1,v) else p).1=p.1 by split<;>rfl,show (if j=k then (j,m) else (j,n)).1=j by split<;>rfl];exact a
  ·show rf K H (if j=k then (j,m) else (j,n)).2 (if p.1=Sum.inl k then (p.1,v) else p).2;by_cases e:j=k
   ·rw[if_pos e,if_pos (by rw[a,←e])];exact hm
   ·rw[if_neg e,if_neg (by rw[a];exact fun z=>e (by injection z))];exact b
 |[],_::_,h=>h.elim
 |_::_,[],h=>h.elim
theorem jc.snoc {K:Frag}{H:Hp}(k:Int) {m:MV}{v:V}(hm:rf K H m v):∀{q:List (Int×MV)}{x:List (Key×V)},jc K H q x→jc K H (q ++ [(k,m)]) (x ++ [(.inl k,v)])
 |[],[],_=>⟨rfl,hm,trivial⟩
 |_::_,_::_,⟨a,b,c⟩=>⟨a,b,c.snoc k hm⟩
 |[],_::_,h=>h.elim
 |_::_,[],h=>h.elim
theorem jc.put {K:Frag}{H:Hp}(k:Int) {m:MV}{v:V}(hm:rf K H m v) {q:List (Int×MV)}{x:List (Key×V)}(h:jc K H q x):jc K H (sJ q k m) (putK x (.inl k) v):=by
 unfold sJ putK;rw[h.any k];split
 ·exact h.map k hm
 ·exact h.snoc k hm
theorem kD {K:Frag}{H:Hp}:∀{xs:List D}{k:List Int}{vs:List V}{G:List Addr},iK xs=some k→aM K H xs vs G→vs=k.map V.int
 |[],k,vs,G,h,r=>by cases h;cases r;rfl
 | .int i::xs,k,vs,G,h,r=>by
  have h:(iK xs).map (i :: ·)=some k:=h;rw[ab] at h;obtain⟨k',h1,rfl⟩:=h;cases r with
  |cons r1 r2 =>
   obtain⟨rfl,_⟩:=r1.int_inv;rw[kD h1 r2];rfl
 |.non::_,_,_,_,h,_=>by cases h
 |.bl _::_,_,_,_,h,_=>by cases h
 |.str _::_,_,_,_,h,_=>by cases h
 |.lst _::_,_,_,_,h,_=>by cases h
 |.tup _::_,_,_,_,h,_=>by cases h
 |.dct _::_,_,_,_,h,_=>by cases h
 |.mpi _::_,_,_,_,h,_=>by cases h
 |.mpt _::_,_,_,_,h,_=>by cases h
 |.mpz _::_,_,_,_,h,_=>by cases h
theorem DN {K:Frag}{H:Hp}{d:D}{m:MV}{v:V}{G:List Addr}(h:AH d=some m) (r:Rep K H d v G):rf K H m v:=by
 cases d with
 |bl b =>
  cases b with
  |true=>cases h;cases r;rfl
  |false=>cases h
 |int i=>cases h;cases r;rfl
 |tup xs =>
  have h:(iK xs).map MV.tup=some m:=h;rw[ab] at h;obtain⟨k,h1,rfl⟩:=h;obtain⟨q,vs,rfl,a1,a2⟩:=r.tup_invT;rw[kD h1 a2] at a1;exact⟨q,rfl,a1⟩
 |_=>cases h
theorem Ap {K:Frag}{H:Hp}{p:Addr}{o o':ML}(h:H p=some o.o) (b:Addr) (vs:List V) (t:kQ K H b vs):kQ K (upd H p o'.o) b vs:=by
 rcases t with t | t
 ·refine .inl ((aP fun e=>?_).trans t);subst e;rw[h] at t;cases o<;>cases t
 ·exact .inr t
theorem tK {K:Frag}{P:Addr→Prop}{env:En}{σ:L2.St}{H:Hp}{F:Nat→List Addr}(re:RE K P env σ H F) {i:Nat}{ks:List (Int×MV)}(hx:env[i]? = some (some (.mpi ks,.own))):∃ p xs,σ[i]? = some (some (.ref p))∧F i=[p]∧H p=some (.dK xs)∧jc K H ks xs:=by
 obtain⟨v,hv,rp⟩:=re.val i _ _ hx;obtain⟨_,lv,_⟩:=re.one i _ _ hx rfl;generalize hF:F i=G at rp lv;cases rp with
 |@mpi p _ xs h kr=>exact⟨p,xs,hv,rfl,h,kr⟩
theorem zk {pins:List (Addr×Obj)}{σ:L2.St}{H:Hp}{s:Shared}{a:Addr}(I:Inv X pins σ H s) (e:H a=some (.dK [])):Inv X pins σ (upd H a (.dT [])) s:=by
 obtain⟨z,hd,vs,rel,o,es,ep,h1,h2,h3,h4,h5,h6⟩:=xw I.hok e;cases rel;have hes:es.toList=[]:=by
  cases q:es.toList with
  |nil=>rfl
  |cons x r=>rw[q] at h5;cases h5
 exact lh (t':=s.toks) I (by rw[e];exact True.intro) ⟨rfl,fun _ _=>rfl⟩ ⟨o,h1⟩ ⟨de _,hd,[],.nil,o,es,ep,h1,h2,h3,hes,c7⟩
noncomputable def BX (H:Hp) (a:Addr) (y v:V) (H':Hp):Prop:=pT H a y v H'∨∃ k b,H a=some (.dK [])∧y = .ref b∧H b=some (.tup (k.map kV))∧H'=upd H a (.dT (putK [] k v))
noncomputable def wg (td ty tv:TE):TS:=fun D σ H=>tv σ H fun v H1=>td σ H1 fun x H2=>ty σ H2 fun y H3=>∃ a H4,x = .ref a∧BX H3 a y v H4∧D.nx σ H4
theorem AR (H:Hp) (a:Addr) (o o':HO):upd (upd H a o) a o'=upd H a o':=by
 funext b;by_cases h:b=a
 ·subst h;rw[aW,aW]
 ·rw[aP h,aP h,aP h]
theorem xk {o i value:Expr}{pos pos':Pos}{td ty tv:TE}(hu:X.A.units+1<cLine) (ho:PE X o td) (hi:PE X i ty) (hv:PE X value tv) (hs:swapsWith value (some (.Subscript o i pos')) pos.line X.env=pure false) :
  PS X (.Assign [.Subscript o i pos'] value pos) (wg td ty tv):=by
 intro pins s σ H D I h;refine wpAny_Assign_Subscript (dD (hv pins s σ H _ I h) fun r s1 ⟨v,H1,I1,rv,q1⟩=>dD (ho pins s1 σ H1 _ I1 q1) fun u s2 ⟨x,H2,I2,rx,q2⟩=>dD (hi pins s2 σ H2 _ I2 q2) fun iv s3 ⟨y,H3,I3,ry,a,H4,ex,g,q3⟩=>?_) hs;subst ex;obtain rfl:u=Value.ref a:=rx;rcases g with g | ⟨k,b,e1,e2,e3,e4⟩
 ·exact oA hu I3 g ry rv fun s4 I4=>⟨σ,H4,I4,q3⟩
 ·subst e2 e4;have hb:b≠a:=fun z=>by subst z;rw[e1] at e3;cases e3
  refine oA hu (zk I3 e1) (pT.t (kvs:=[]) aW (by rw[aP hb];exact e3) (by decide)) ry rv fun s4 I4=>⟨σ,_,I4,?_⟩
  rw[AR];exact q3
theorem xZ {K:Frag}{P:Addr→Prop}{env:En}{σ:L2.St}{H:Hp}{F:Nat→List Addr}(re:RE K P env σ H F) {i:Nat}{d d' y u:D}(hx:env[i]? = some (some (d,.own))) (hp:zS d y u=some d') :
  ∃ p,∃ m:ML,σ[i]? = some (some (.ref p))∧F i=[p]∧H p=some m.o∧∀ H3 wi Gi wv Gv,aO H H3→Rep K H3 y wi Gi→Rep K H3 u wv Gv→∃ m':ML,BX H3 p wi wv (upd H3 p m'.o)∧Rep K (upd H3 p m'.o) d' (.ref p) [p]:=by
 cases d with
 |mpi ks=>cases y with
  |int n =>
   have hp:(if ks.length<lim then (AH u).map fun m=>D.mpi (sJ ks n m) else none)=some d':=hp;by_cases hl:ks.length<lim
   ·rw[if_pos hl,ab] at hp;obtain⟨mv,hmv,rfl⟩:=hp;obtain⟨p,xs,hv,hF,hH,kr⟩:=tK re hx;refine⟨p,.k xs,hv,hF,hH,fun H3 wi Gi wv Gv sm rp ru=>?_⟩;have h3:H3 p=some (ML.k xs).o:=sm _ _ hH;have kr3:=kr.keep fun _ _=>aO.tqT sm
    have mr:=DN hmv ru;obtain⟨rfl,_⟩:=rp.int_inv;refine⟨.k (putK xs (.inl n) wv),.inl (pT.k (k:=.inl n) h3 ?_),.mpi aW ((kr3.put n mr).keep fun b vs=>Ap (o':=.k _) h3 b vs)⟩;rw[kr.len,sizeLine_eq];unfold lim at hl;omega
   ·rw[if_neg hl] at hp;cases hp
  |_=>cases hp
 |_=>cases hp
theorem vg {i:Nat}{c e:Ex}{D:Ends}{σ:L2.St}{H:Hp}(h:tS X.K T (.putd i c e) D σ H):wg (i9 X.K T i .none) (tE X.K T c) (tE X.K T e) D σ H:=by
 obtain⟨P,Z,env,F,re,hz,zp,h⟩:=h;unfold bA at h;cases hx:ownAt env i with
 |none=>rw[hx] at h;exact h.elim
 |some d =>
  rw[hx] at h;obtain⟨u,hu,h⟩:=cF h;obtain⟨q,hq,h⟩:=cF h;cases hp:zS d q.1 u.1 with
  |none=>rw[hp] at h;exact h.elim
  |some d' =>
   rw[hp] at h;have hx':=cN hx;obtain⟨p,m,hv,hF,hH,inv⟩:=xZ re hx' hp;refine⟨P,env,F,re,u,hu,fun wv H1 Gv s1 rpv rtv=>⟨P,env,F,none,.ref p,p,re.same s1,by unfold kU;rfl,hv,.top p,fun H2 s2=>⟨P,env,F,re.same (s1.trans s2),q,hq,fun wi H3 Gi s3 rpi rti=>?_⟩⟩⟩;have e:=(s1.trans s2).trans s3;have hp3:H3 p=some m.o:=e _ _ hH;obtain⟨m',i1,i2⟩:=inv H3 wi Gi wv Gv e rpi (rpv.same (s2.trans s3));refine⟨p,upd H3 p m'.o,rfl,i1,?_⟩;have hpx:p∈F i:=by rw[hF];simp
   have re1:=re.same e;have re2:=re1.mutateM (vs:=m') (R:=[]) (N:=[]) (G:=[p]) (d':=d') hx' hv hpx i2 (by simp) (fun a ha=>.inl (by rw[hF];exact ha)) (fun a ha=>nomatch ha);have nPp:¬ P p:=re.wr i _ hx' p hpx;refine h σ _ _ ⟨re2,fun j a ha=>?_,(j7.of_same re.pl e).trans ⟨fun a z=>aP (fun q=>nPp (q ▸ z)),fun b xs r=>?_,jr hp3⟩,fun j dj ej=>?_⟩
   ·unfold ir at ha;split at ha
    ·exact hz i a (by rw[hF];exact ha)
    ·split at ha
     ·exact hz j a ha
     ·cases ha
   ·refine (aP (fun q=>?_)).trans r;subst q;rw[hp3] at r;cases m<;>cases r
   ·by_cases hj:j=i
    ·subst hj;rw[ao (by rw[bT];exact (ak.mp hx').1)] at ej;cases ej
    ·rw[ai (Ne.symm hj)] at ej;refine⟨(bI ej).1,?_⟩;unfold ir;rw[if_neg hj,ej]
theorem sE (hc:X.calm=true):fV X (.type "list") (pS X.K .list):=by
 intro pins s σ H xs us Q I r h;obtain⟨ds,d,G,rs,hd,k⟩:=h;exact pY I r rs hd k fun ks e=>by subst e;cases hd
end
end Pc
end
section
namespace Pc
open PySem PySem.Spec PyProof.Rows L2
theorem cG.live' {P:Program}{w:World}{H:Hp}{h:Heap}{a:Addr}{o:HO}(x:cG P w H h a o):∃ ob,h.get? a=some ob:=by
 cases o with
 |lst xs=>obtain⟨_,_,_,_,e⟩:=x;exact⟨_,e⟩
 |tup xs=>obtain⟨_,_,_,ob,e,_⟩:=x;exact⟨_,e⟩
 |dK kvs=>obtain⟨_,_,_,_,o,_,_,e,_⟩:=x;exact⟨_,e⟩
 |dT kvs=>obtain⟨_,_,_,_,o,_,_,e,_⟩:=x;exact⟨_,e⟩
 |set S n=>obtain⟨o,_,_,_,e,_⟩:=x;exact⟨_,e⟩
 |ins C dx fs=>obtain⟨_,_,_,e,_⟩:=x;exact⟨_,e⟩
 |own y=>obtain⟨_,e⟩:=x;exact⟨_,e⟩
 |xd fs=>obtain⟨_,⟨_,_,_,e,_⟩,_⟩:=x;exact⟨_,e⟩
 |rng lo hi=>obtain⟨_,_,_,e⟩:=x;exact⟨_,e⟩
 |frz ob u=>obtain⟨e,_⟩:=x;exact⟨_,e⟩
 |tbl ps=>exact⟨_,(show h.get? a=some _ from x)⟩
 |met f y=>exact⟨_,(show h.get? a=some _ from x)⟩
 |ext φ=>obtain⟨_,⟨_,e⟩,_⟩:=x;exact⟨_,e⟩
theorem qN {X:Cx}{pins:List (Addr×Obj)}{σ:L2.St}{H:Hp}{s:Shared}{h':Heap}{m:Str→Option Value}{B:Addr}{o:HO}{t':Nat}(I:Inv X pins σ H s) (hn:s.heap.Ns X.env.locals m) (hn':h'.Ns X.env.locals m)
  (k:∀ b o,b≠X.env.locals→s.heap.get? b=some o→h'.get? b=some o) (hB:∀ b o,s.heap.get? b=some o→b≠B) (new:cG X.prog X.w (upd H B o) h' B o):Inv X pins σ (upd H B o) { s with heap:=h',toks:=t' }:=by
 have hnB:H B=none:=by
  cases e:H B with
  |none=>rfl
  |some u =>
   obtain⟨ob,q⟩:=cG.live' (I.hok B u e);exact absurd rfl (hB B ob q)
 have nL:∀ b u,H b=some u→b≠X.env.locals:=fun b u e z=>by rw[z,I.free] at e;cases e
 refine I.step (g':=s.gens) (d':=s.drawn) (ch:=[]) (fun b hb=>nomatch hb) (fun b o' hL _ _ e _=>k b o' hL e) (fun b o' hL _ _ e _=>⟨o'.slots,k b o' hL e⟩) (fun b o' _ e n=>by rw[aP (hB b o' e)];exact n) (fun b o' _ e=>?_)
  (fun b xs e=>by rw[aP (cD e hnB)];exact e) (fun b ob u e=>by rw[aP (cD e hnB)];exact e) (fun b ps e=>⟨#[],by rw[aP (cD e hnB),e];simp⟩) (fun m' hm=>?_) (fun b u e=>?_) I.bare
 ·by_cases hL:b=X.env.locals
  ·subst hL;obtain⟨o2,_,_,q,_⟩:=hn';exact⟨o2,q⟩
  ·exact⟨o',k b o' hL e⟩
 ·obtain⟨o1,es,ep,e1,e2,e3,e4⟩:=hn;obtain⟨o2,es',ep',f1,f2,f3,f4⟩:=hm;rw[e1] at f1;cases f1;rw[e2] at f2;cases f2;have:m'=m:=funext fun x=>by rw[←f4 x,e4 x]
  rw[this];exact hn'
 ·by_cases hb:b=B
  ·subst hb;rw[aW] at e;cases e;exact new
  ·rw[aP hb] at e;refine (I.hok b u e).stay (fun c v hc q=>k c v ?_ q) (fun c q=>?_) fun c xs q=>?_
   ·rcases hc with z | z
    ·rw[z];exact nL b u e
    ·exact nL c _ z
   ·rw[aP (cD q hnB)];exact q
   ·rw[aP (cD q hnB)];exact q
section
variable {prog:Program}{w:World}{A:Around}
theorem xW {Q:Bool→Shared→Prop}{fin:Bool}{s:Shared}:∀{us ws:List Value}{a b:List Int}(i:Nat),IntsAre us a→IntsAre ws b→fin=decide (us.length<ws.length)→Q (mX a b) s→PySem.W.KatLex prog w A true fin Q (us.zip ws) i s
 | _,_,_,_,i,.nil,.nil,hf,h=>by
  have:fin=false:=by rw[hf];rfl
  subst this;exact h
 | _,_,_,_,i,.nil,.cons _ _ r,hf,h=>by
  have:fin=true:=by rw[hf];simp
  subst this;exact h
 | _,_,_,_,i,.cons _ _ r,.nil,hf,h=>by
  have:fin=false:=by rw[hf];simp
  subst this;exact h
 | _,_,_,_,i,.cons (ns:=a) x t r,.cons (ns:=b) y u r',hf,h=>by
  rw[List.zip_cons_cons];refine PySem.W.kat_cons (wpAny_eqBool_int ?_);by_cases e:(x==y)=true
  ·rw[e];refine PySem.W.kat_yes (xW (i+1) r r' ?_ ?_)
   ·rw[hf];simp only[List.length_cons];exact decide_eq_decide.mpr (by omega)
   ·have:mX (x::a) (y::b)=mX a b:=by
     show (if x==y then mX a b else decide (x<y))=_;rw[if_pos e]
    rw[this] at h;exact h
  ·have e':(x==y)=false:=by simpa using e
   rw[e'];have hx:mX (x::a) (y::b)=decide (x<y):=by
    show (if x==y then mX a b else decide (x<y))=_;rw[if_neg e]
   rw[hx] at h;refine PySem.W.kat_no ?_;by_cases hi:i=0
   ·subst hi;exact oneLt_int h
   ·have:(true&&i==0)=false:=by simp[hi]
    rw[this];exact PySem.W.kat_one _ _ (wpAny_lt_int h)
noncomputable def Ab (h:Heap) (v:Value) (k:List Int):Prop:=∃ a o its n,v = .ref a∧h.get? a=some o∧o.cls = .type "tuple"∧o.data = .seq its n∧IntsAre its.toList k
theorem B2 {vs:List Value}{ks:List (List Int)}{i j:Nat}{a b:List Int}{C:Bool→Shared→Prop}{s:Shared}(hv:∀ i k,ks[i]? = some k→Ab s.heap (vs.getD i .none) k) (ha:ks[i]? = some a) (hb:ks[j]? = some b) (h:C (mX a b) s) :
  PySem.W.kas_ask prog w A (tuples' true) vs i j C s:=by
 obtain⟨x,ox,xs,n,e1,h1,_,d1,i1⟩:=hv i a ha;obtain⟨y,oy,ys,n',e2,h2,_,d2,i2⟩:=hv j b hb;unfold PySem.W.kas_ask;rw[e1,e2];exact PySem.W.kat_lt h1 d1 h2 d2 (xW 0 i1 i2 (by simp) h)
theorem zj {α:Type}{f:Nat→Nat→Option Bool}{cmp:Nat→Nat→(Bool→Shared→Prop)→Shared→Prop}{s:Shared}(hf:∀ i j b C,f i j=some b→C b s→cmp i j C s) {Q:α→Shared→Prop}:∀{t:PySem.W.KasT α}{a:α},zT f t=some a→Q a s→t.kasWp cmp Q s
 | .ret x,a,h,q=>by
  cases h;exact q
 | .ask i j k,a,h,q=>by
  have h:((f i j).bind fun b=>zT f (k b))=some a:=h;rw[ah] at h;obtain⟨b,h1,h2⟩:=h;exact hf i j b _ h1 (zj hf h2 q)
end
theorem og:∀ k:List Int,D.flats (k.map D.int)=true
 |[]=>rfl
 |_::k=>og k
section
variable {X:Cx}{pins:List (Addr×Obj)}{σ:L2.St}{H:Hp}{s:Shared}
theorem oz (I:Inv X pins σ H s):∀{ys:List D}{ks:List (List Int)}{vs:List V}{G:List Addr}{us:List Value},qm ys=some ks→aM X.K H ys vs G→aQ vs us→ks.length=us.length∧(∀ i k,ks[i]? = some k→Ab s.heap (us.getD i .none) k)∧(∀ k∈ks,k≠[])∧G=[]
 | [],ks,_,_,_,h,.nil,.nil=>by
  cases h;exact⟨rfl,fun i k h=>(by simp at h),fun k h=>(nomatch h),rfl⟩
 | .tup xs::r,ks,_,_,_,h,.cons r1 r2,.cons (b:=u) v1 v2=>by
  have h:((iK xs).bind fun k=>if k.isEmpty then none else (qm r).map (k :: ·))=some ks:=h;rw[ah] at h;obtain⟨k,h1,h2⟩:=h;by_cases he:k.isEmpty=true
  ·rw[if_pos he] at h2;cases h2
  ·rw[if_neg he,ab] at h2;obtain⟨ks',h3,rfl⟩:=h2;obtain⟨l,t,ne,g⟩:=oz I h3 r2 v2;have:=om h1;subst this;have gf:=r1.flat (og k);obtain⟨p,vs',rfl,a1,a2⟩:=r1.tup_inv;obtain rfl:u = .ref p:=v1;obtain⟨its,rv,⟨o,e1,e2,n,e3⟩,_⟩:=I.tuple a1;refine⟨by simp[l],fun i k' hk=>?_,fun k' hk=>?_,by rw[gf,g];rfl⟩
   ·cases i with
    |zero =>
     have hk:some k=some k':=hk;cases hk;exact⟨p,o,_,n,rfl,e1,e2,e3,tF a2 rv⟩
    |succ i=>exact t i k' hk
   ·rcases az.mp hk with rfl | hk
    ·intro z;subst z;exact he rfl
    ·exact ne k' hk
theorem kL {h:Heap}:∀{ks:List (List Int)}{us:List Value},ks.length=us.length→(∀ i k,ks[i]? = some k→Ab h (us.getD i .none) k)→(∀ k∈ks,k≠[])→∃ fs,PySem.W.KatTups h us fs∧fs.length=us.length∧∀ v∈fs,∃ i t,v=Value.int i t
 |[],[],_,_,_=>⟨[],.nil,rfl,fun _ h=>(nomatch h)⟩
 | k::ks,u::us,hl,ht,hn=>by
  obtain⟨fs,f1,f2,f3⟩:=kL (ks:=ks) (us:=us) (Nat.succ.inj hl) (fun i k' h=>ht (i+1) k' h) fun k' h=>hn k' (aa _ h)
  obtain⟨a,o,its,n,e1,e2,e3,e4,e5⟩:=ht 0 k rfl;have e1:u = .ref a:=e1;subst e1;have hk:=hn k (ae ..);cases k with
  |nil=>exact absurd rfl hk
  |cons x k =>
   obtain⟨l⟩:=its;cases e5 with
   | cons _ t r=>exact⟨_,.cons e2 e3 e4 (by rfl) f1,by simp[f2],fun v hv=>by
     rcases az.mp hv with rfl | hv
     ·exact⟨x,t,rfl⟩
     ·exact f3 v hv⟩
theorem oI {K:Frag}:∀{ys:List D}{vs:List V},aM K H ys vs []→∀ p:List Nat,aM K H (p.map fun i=>ys.getD i .non) (p.map fun i=>vs.getD i .non) []
 |ys,vs,r,[]=>.nil
 | ys,vs,r,i::p=>by
  refine .cons (G:=[]) (G':=[]) ?_ (oI r p);dsimp only;rw[ag,ag];cases h:ys[i]? with
  |none =>
   have:vs[i]? = none:=by
    rw[List.getElem?_eq_none_iff] at h ⊢;rw[←r.len];exact h
   rw[this];exact .non
  |some d =>
   obtain⟨v,G',e1,e2,e3⟩:=r.get h;rw[e1];obtain rfl:=List.sublist_nil.mp e3;exact e2
theorem oF {vs:List V}{us:List Value}(r:aQ vs us):∀ p:List Nat,aQ (p.map fun i=>vs.getD i .non) (p.map fun i=>us.getD i .none)
 |[]=>.nil
 | i::p=>by
  refine .cons ?_ (oF r p);dsimp only;rw[ag,ag];cases h:vs[i]? with
  |none =>
   have:us[i]? = none:=by
    rw[List.getElem?_eq_none_iff] at h ⊢;rw[←r.length];exact h
   rw[this];exact (rfl:RelV .non .none)
  |some v =>
   obtain⟨u,e1,e2⟩:=r.get h;rw[e1];exact e2
end
theorem insI_perm (a:Int):∀ l:List Int,(insI a l).Perm (a::l)
 |[]=>.refl _
 | b::l=>by
  unfold insI;split
  ·exact .refl _
  ·exact ((insI_perm a l).cons b).trans (.swap a b l)
theorem kR:∀ l:List Int,(eR l).Perm l
 |[]=>.refl _
 |a::l=>(insI_perm a _).trans ((kR l).cons a)
theorem qf (a:Int):∀{l:List Int},l.Pairwise (·≤·)→(insI a l).Pairwise (·≤·)
 |[],_=>List.pairwise_singleton _ _
 | b::l,h=>by
  have h':=dt.mp h;unfold insI;split
  ·rename_i e;refine dt.mpr ⟨fun x hx=>?_,h⟩;rcases az.mp hx with rfl | hx
   ·exact e
   ·exact Int.le_trans e (h'.1 x hx)
  ·rename_i e;refine dt.mpr ⟨fun x hx=>?_,qf a h'.2⟩;rcases az.mp ((insI_perm a l).mem_iff.mp hx) with rfl | hx
   ·omega
   ·exact h'.1 x hx
theorem mD:∀ l:List Int,(eR l).Pairwise (·≤·)
 |[]=>.nil
 |a::l=>qf a (mD l)
theorem gN:∀{ns:List Int}{us:List Value},aQ (ns.map V.int) us→IntsAre us ns
 |[],us,h=>by cases h;exact .nil
 | n::ns,us,h=>by
  cases h with
  |cons a b =>
   obtain⟨t,rfl⟩:=a;exact .cons _ t (gN b)
theorem oE:∀{ns:List Int}{us:List Value},IntsAre us ns→aQ (ns.map V.int) us
 |[],us,h=>by cases h;exact .nil
 | n::ns,us,h=>by
  cases h with
  |cons _ t b=>exact .cons ⟨t,rfl⟩ (oE b)
section
variable {X:Cx}
theorem pC:fV X (.builtin "sorted") (pS X.K .sorted):=by
 intro pins s σ H xs us Q I r h;obtain⟨ds,d,G,rs,hd,k⟩:=h
 match ds,hd with
 |[.lst ys],hd =>
  have hd:(match iK ys with
   |some ns=>if ns.length<64 then some (D.lst ((eR ns).map .int)) else none
   |none=>(qe ys).map .lst)=some d:=hd
  cases hki:iK ys with
  |some ns =>
   rw[hki] at hd;by_cases h64:ns.length<64
   ·simp only[if_pos h64] at hd;cases hd;obtain⟨x,rfl,rp⟩:=rs.of1;obtain⟨l,vs,g,rfl,rfl,a1,a2⟩:=rp.lst_inv;obtain⟨u,rfl,rx⟩:=r.one;obtain rfl:u = .ref l:=rx;obtain⟨its,rv,pl,_⟩:=I.list (.inl a1);obtain rfl:=kD hki a2;obtain⟨m,hn,_⟩:=id I.loc;have F:=Att.wX hn;have N:News (Att.mM s.heap) X.env.locals s.heap (Att.ledger s.heap X.env.locals X.env.locals):=fun ⟨a,o⟩ hp=>by
     obtain⟨n1,_,e⟩:=Att.dU.mp hp;exact⟨e,n1,Att.jn _ _⟩
    refine PySem.W.kso_sorted F N pl.isList (gN rv) h64 fun B vs' ns' c h' F' N' l1 hi' len perm asc _=>?_
    obtain rfl:ns'=eR ns:=PySem.W.lks_uniq (perm.trans (kR ns).symm) asc (mD ns);have hB:∀ b o,s.heap.get? b=some o→b≠B:=fun b o e z=>by
     by_cases hb:b=X.env.locals
     ·exact (N' _ (ae ..)).2.1 (z.symm.trans hb)
     ·exact absurd z (cj (l1 _ (Att.dU.mpr ⟨hb,hb,e⟩)))
    have hI:=qN (t':=s.toks) (o:=.lst ((eR ns).map V.int)) I hn F'.ns (fun b o hb e=>N'.get (aa _ (Att.dU.mpr ⟨hb,hb,e⟩))) hB ⟨by rw[aj,len,sizeLine_eq];omega,_,c,oE hi',N'.get (ae ..)⟩;refine⟨.ref B,_,hI,rfl,?_⟩;have hnB:H B=none:=by
     cases e:H B with
     |none=>rfl
     |some u =>
      obtain⟨ob,q⟩:=cG.live' (I.hok B u e);exact absurd rfl (hB B ob q)
    obtain⟨n1,n2⟩:=g9 (G0:=l::g) (ky (K:=X.K) (H:=H) (eR ns)) (fun a ha=>nomatch ha) hnB;exact k _ _ _ n1 n2
   ·simp only[if_neg h64] at hd;cases hd
  |none =>
  rw[hki] at hd;have hd:(qe ys).map D.lst=some d:=hd;rw[ab] at hd;obtain⟨zs,hs,rfl⟩:=hd;unfold qe at hs;by_cases hl:2≤ys.length∧ys.length<64
  ·rw[if_pos hl,ah] at hs;obtain⟨ks,hk,hs⟩:=hs;rw[ah] at hs;obtain⟨p,hp,hs⟩:=hs;by_cases hz:p.size≤64
   ·rw[if_pos hz] at hs;cases hs;obtain⟨x,rfl,rp⟩:=rs.of1;obtain⟨l,vs,g,rfl,rfl,a1,a2⟩:=rp.lst_inv;obtain⟨u,rfl,rx⟩:=r.one;obtain rfl:u = .ref l:=rx;obtain⟨its,rv,pl,_⟩:=I.list (.inl a1);obtain⟨kl,kt,kn,rfl⟩:=oz I hk a2 rv;have hlen:its.length=ys.length:=by rw[←rv.length,←a2.len]
    obtain⟨m,hn,_⟩:=id I.loc;have F:=Att.wX hn;have N:News (Att.mM s.heap) X.env.locals s.heap (Att.ledger s.heap X.env.locals X.env.locals):=fun ⟨a,o⟩ hp=>by
     obtain⟨n1,_,e⟩:=Att.dU.mp hp;exact⟨e,n1,Att.jn _ _⟩
    refine PySem.W.kat_sorted F N pl.isList (by omega) (by omega) fun B e1 h' F' N' l1=>?_
    have keep:∀ b o,b≠X.env.locals→s.heap.get? b=some o→h'.get? b=some o:=fun b o hb e=>N'.get (aa _ (Att.dU.mpr ⟨hb,hb,e⟩))
    have notL:∀{a:Addr}{o:Obj}{its:Array Value}{n:Nat},s.heap.get? a=some o→o.data = .seq its n→a≠X.env.locals:=fun {a o its n} e d z=>by
     obtain⟨o',es,ep,q1,q2,_⟩:=hn;rw[z,q1] at e;cases e;rw[q2] at d;cases d
    have kt':∀ i k,ks[i]? = some k→Ab h' (its.getD i .none) k:=fun i k h=>by
     obtain⟨a,o,it,n,q1,q2,q3,q4,q5⟩:=kt i k h;exact⟨a,o,it,n,q1,keep a o (notL q2 q4) q2,q3,q4,q5⟩
    obtain⟨fs,f1,f2,f3⟩:=kL kl kt' kn;refine PySem.W.kat_kind (s:={ s with heap:=h' }) (T:=.type "int") f1 (by omega) (fun v hv=>?_) rfl ?_
    ·obtain⟨i,t,rfl⟩:=f3 v hv;exact (PySem.W.Looks.now:PySem.W.Looks _ _ (pure (Value.type "int")) (Value.type "int"))
    ·rw[hlen];refine zj (fun i j b C hb hC=>?_) hp ?_
     ·rw[ah] at hb;obtain⟨ka,e1,e2⟩:=hb;rw[ab] at e2;obtain⟨kb,e3,rfl⟩:=e2;exact B2 kt' e1 e3 hC
     ·refine PySem.W.KasFin.intro (s:={ s with heap:=h' }) F' N' (.head fun ⟨a,o⟩ hq=>cj (l1 _ hq)) fun h2 c F2 N2=>?_
      have hv:=oF rv p.toList;have hB:∀ b o,s.heap.get? b=some o→b≠B:=fun b o e z=>by
       by_cases hb:b=X.env.locals
       ·exact (N' _ (ae ..)).2.1 (z.symm.trans hb)
       ·exact absurd z (cj (l1 _ (Att.dU.mpr ⟨hb,hb,e⟩)))
      have hI:=qN (t':=s.toks) (o:=.lst (p.toList.map fun i=>vs.getD i .non)) I hn F2.ns (fun b o hb e=>N2.get (aa _ (Att.dU.mpr ⟨hb,hb,e⟩))) hB ⟨by rw[aj,Array.length_toList,sizeLine_eq];omega,_,c,hv,N2.get (ae ..)⟩;refine⟨.ref B,_,hI,rfl,?_⟩;have hnB:H B=none:=by
       cases e:H B with
       |none=>rfl
       |some u =>
        obtain⟨ob,q⟩:=cG.live' (I.hok B u e);exact absurd rfl (hB B ob q)
      obtain⟨n1,n2⟩:=g9 (G0:=[l]) (oI a2 p.toList) (fun a ha=>nomatch ha) hnB;exact k _ _ _ n1 n2
   ·rw[if_neg hz] at hs;cases hs
  ·rw[if_neg hl] at hs;cases hs
end
end Pc
end
section
namespace Pc
open PySem PySem.Spec PyProof.Rows L2
section
variable {X:Cx}{T:Tb}
theorem RE.freeze {K:Frag}{P:Addr→Prop}{env:En}{σ:L2.St}{H:Hp}{F:Nat→List Addr}(re:RE K P env σ H F) {x:Nat}{ks:List (Int×MV)}{p:Addr}{xs:List (Key×V)}{o:Obj}(hx:env[x]? = some (some (.mpi ks,.own))) (hv:σ[x]? = some (some (.ref p))) (hF:F x=[p]) (hH:H p=some (.dK xs)) (kr:jc K H ks xs) :
  RE K P ((kill [x] env).set x (some (.mpz ks,.own))) σ (upd H p (.frz o (.dK xs))) (ir F env x [] []):=by
 have hpl:H p=some (ML.k xs).o:=hH;have hpx:p∈F x:=by rw[hF];simp
 obtain⟨ndx,lsx,onx⟩:=re.one x _ .own hx rfl;have hxl:x<(kill [x] env).length:=by
  rw[bT];exact (ak.mp hx).1
 have other:∀{j:Nat}{d2:D}{t2:Tg},j≠x→((kill [x] env).set x (some (.mpz ks,.own)))[j]? = some (some (d2,t2))→(kill [x] env)[j]? = some (some (d2,t2)):=fun {j d2 t2} hj e=>by
  rw[ai (Ne.symm hj)] at e;exact e
 have apart:∀{j:Nat}{d2:D}{t2:Tg},j≠x→(kill [x] env)[j]? = some (some (d2,t2))→p∉F j:=fun {j d2 t2} hj e hb=>by
  obtain⟨e0,_,h3⟩:=bI e;exact h3 x ae (onx p hpx j d2 t2 e0 hb)
 have fj:∀{j:Nat}{d2:D}{t2:Tg},j≠x→(kill [x] env)[j]? = some (some (d2,t2))→ir F env x [] [] j=F j:=fun {j d2 t2} hj e=>by
  unfold ir;rw[if_neg hj,e]
 have fx:ir F env x [] [] x=[]:=if_pos rfl;refine⟨?_,fun j d2 t2 e=>?_,fun j h=>?_,fun j d2 t2 e ow=>?_,fun j d2 e=>?_,fun a h=>?_⟩
 ·rw[ay,bT];exact re.len
 ·by_cases hj:j=x
  ·subst hj;rw[ao hxl] at e;cases e;exact⟨.ref p,hv,by rw[fx];exact .mpz aW (kr.keep fun b vs=>qZ hpl)⟩
  ·have e1:=other hj e;obtain⟨e0,_,_⟩:=bI e1;obtain⟨u,h1,h2⟩:=re.val j d2 t2 e0;exact⟨u,h1,by rw[fj hj e1];exact h2.updM hpl (apart hj e1)⟩
 ·by_cases hj:j=x
  ·subst hj;exact absurd (ao hxl) (h _ .own)
  ·unfold ir;rw[if_neg hj];split
   ·rename_i q e;exact absurd (by rw[ai (Ne.symm hj)];exact e) (h q.1 q.2)
   ·rfl
 ·by_cases hj:j=x
  ·subst hj;rw[fx];exact⟨c7,fun a ha=>(nomatch ha),fun a ha=>(nomatch ha)⟩
  ·have e1:=other hj e;obtain⟨e0,_,_⟩:=bI e1;obtain⟨n1,n2,n3⟩:=re.one j d2 t2 e0 ow;rw[fj hj e1];refine⟨n1,fun a ha=>?_,fun a ha k d3 t3 e3 m=>?_⟩
   ·obtain⟨vs,z⟩:=n2 a ha;exact⟨vs,by rw[aP fun (q:a=p)=>apart hj e1 (q ▸ ha)];exact z⟩
   ·by_cases hk:k=x
    ·subst hk;rw[fx] at m;cases m
    ·have e4:=other hk e3;rw[fj hk e4] at m;exact n3 a ha k d3 t3 (bI e4).1 m
 ·by_cases hj:j=x
  ·subst hj;rw[fx];exact fun a ha=>(nomatch ha)
  ·have e1:=other hj e;rw[fj hj e1];exact re.wr j d2 (bI e1).1
 ·by_cases z:a=p
  ·subst z;rw[aW];simp
  ·rw[aP z];exact re.pl a h
theorem A1 {st:Stmt}{x:Nat}{c:St}(h:PS X st (tS X.K T c)):PS X st (tS X.K T (.frzd x c)):=by
 intro pins s σ H D I ⟨P,Z,env,F,re,hz,zp,k⟩;unfold bA at k;unfold md at k;cases hx:ownAt env x with
 |none=>rw[hx] at k;exact h pins s σ H D I ⟨P,Z,env,F,re,hz,zp,k⟩
 |some d =>
  rw[hx] at k;cases d with
  |mpi ks =>
   have hx':=cN hx;obtain⟨p,xs,hv,hF,hH,kr⟩:=tK re hx';obtain⟨ob,ho⟩:=cG.live' (I.hok p _ hH);have I1:Inv X pins σ (upd H p (.frz ob (.dK xs))) s:=lh (t':=s.toks) I (by rw[hH];exact True.intro) ⟨rfl,fun _ _=>rfl⟩ ⟨ob,ho⟩ ⟨ho,by
    obtain⟨z,lo,vs,rel,dd⟩:=xw I.hok hH;exact⟨z,lo,vs,rel,dd⟩⟩
   have re1:=re.freeze (o:=ob) hx' hv hF hH kr;have nP:¬ P p:=re.wr x _ hx' p (by rw[hF];simp);have af:After X.K P Z env F H ((kill [x] env).set x (some (.mpz ks,.own))) σ (upd H p (.frz ob (.dK xs))) (ir F env x [] []):=by
    refine⟨re1,fun j a ha=>?_,⟨fun a z=>aP (fun q=>nP (q ▸ z)),fun b xs' r=>?_,jr (ws:=.k xs) hH⟩,fun j dj ej=>?_⟩
    ·unfold ir at ha;split at ha
     ·cases ha
     ·split at ha
      ·exact hz j a ha
      ·cases ha
    ·refine (aP (fun q=>?_)).trans r;subst q;rw[hH] at r;cases r
    ·by_cases hj:j=x
     ·subst hj;rw[ao (by rw[bT];exact (ak.mp hx').1)] at ej;cases ej
     ·rw[ai (Ne.symm hj)] at ej;refine⟨(bI ej).1,?_⟩;unfold ir;rw[if_neg hj,ej]
   exact h pins s σ _ D I1 ⟨P,Z,_,_,re1,af.z,zp,post.trans af k⟩
  |_=>exact h pins s σ H D I ⟨P,Z,env,F,re,hz,zp,k⟩
end
end Pc
end
section
namespace Pc
open PySem PySem.Spec PyProof.Rows L2
end Pc
end
section
namespace Pc
open PySem PySem.Spec PyProof.Rows L2
section
variable {prog:Program}{w:World}{A:Around}{R:Result→Shared→Prop}{it:Addr}{fp wr:List Addr}{n:Nat}{P:Nat→Value→Prop}{Sta:Nat→Heap→Prop}{bx:Addr}{val:Nat→Value}{lt:Nat→Nat→Bool}{h0:Heap}
end
end Pc
end
section
namespace Pc
open PySem PySem.Spec PyProof.Rows L2
section
variable {X:Cx}{pins:List (Addr×Obj)}{σ:L2.St}{H:Hp}{s:Shared}
end
section
variable {X:Cx}
end
end Pc
end
section
namespace Pc
open PySem PySem.Spec PyProof.Rows L2
section
variable {X:Cx}
end
end Pc
end
section
namespace Pc
open PySem PySem.Spec PyProof.Rows L2
section
variable {X:Cx}
end
end Pc
end
section
namespace Pc
open PySem PySem.Spec PyProof.Rows L2
structure Sc where
 N:List Str
 sc:Scope
 fns:List Str
 xE:List Str
 fw:List Str
noncomputable def idxOf:List Str→Str→Option Nat
 |[],_=>none
 |y::r,x=>if y=x then some 0 else (idxOf r x).map (· + 1)
theorem cC:∀{l:List Str}{x:Str}{i:Nat},idxOf l x=some i→l[i]? = some x
 | y::r,x,i,h=>by
  simp only[idxOf] at h;by_cases e:y=x
  ·rw[if_pos e] at h;cases h;rw[e];rfl
  ·rw[if_neg e,ab] at h;obtain⟨j,hj,rfl⟩:=h;simpa using cC hj
noncomputable def eB (sc:Scope) (x:Str):Option NameKind:=sc.names.lookup x
noncomputable def m6 (sc:Scope) (x:Str):Bool:=match eB sc x with
 |some .local=>true
 |some .cell=>true
 |some .free=>true
 |_=>false
noncomputable def km (sc:Scope) (x:Str):Bool:=match eB sc x with
 |some .local=>true
 |some .cell=>true
 |_=>false
noncomputable def rk (sc:Scope) (x:Str):Bool:=match eB sc x with
 |some .globalImplicit=>true
 |_=>false
noncomputable def eM (x:Str):Bool:=!(x==("__debug__" : Str)) && !(x==("__classdict__" : Str)) && !(x==("__name__" : Str))
noncomputable def notStar:Expr→Bool
 |.Starred _ _=>false
 |_=>true
noncomputable def g8:Expr→Bool
 |.Set _ _ _=>false
 |_=>true
noncomputable def gm:Expr→Bool
 |.Slice _ _ _ _=>false
 |_=>true
noncomputable def gj:Expr→Bool
 |.ListComp _ _ _ _=>true
 |.SetComp _ _ _ _=>true
 |.DictComp _ _ _ _ _=>true
 |_=>false
noncomputable def dM (f:Expr→Option Ex):List Expr→Option la
 |[]=>some .nil
 |e::es=>if notStar e then (f e).bind fun c=>(dM f es).map fun cs=>.cons c cs else none
noncomputable def GG (f:Expr→Option Ex) (op:BoolOp):List Expr→Option Ex
 |[]=>none
 |[a]=>f a
 |a::r=>(f a).bind fun c=>(GG f op r).map fun d=>match op with
  |.And=>.and c d
  |.Or=>.or c d
noncomputable def lP (S:Sc):List Expr→Option (List Nat)
 |[]=>some []
 |.Name x _::r=>if km S.sc x then (idxOf S.N x).bind fun i=>(lP S r).map fun is=>i::is else none
 |_::_=>none
noncomputable def vq (S:Sc):Expr→Option lj
 |.Name x _=>if km S.sc x then (idxOf S.N x).map .nm else none
 |.Tuple es _ _=>(lP S es).map .tp
 |_=>none
noncomputable def y6 (f:Expr→Option Ex):Option Expr→Option lJ
 |none=>some .none
 |some e=>(f e).map .some
noncomputable def kS (S:Sc) (x:Str):Bool:=rk S.sc x&&S.fw.contains x
noncomputable def isTup:Expr→Bool
 |.Tuple _ _ _=>true
 |_=>false
noncomputable def EA (S:Sc) (f:Expr→Option Ex) (tp:Bool):Expr→Option qE
 | .Call (.Name x p) es [] pos=>if x = "range" then (if kS S "range" then (match dM f es with
   | some (.cons a .nil)=>some (.rng1 a)
   | some (.cons a (.cons b .nil))=>some (.rng2 a b)
   | some (.cons a (.cons b (.cons c .nil)))=>some (.rng3 a b c)
   |_=>none) else none) else if x = "enumerate" then (if kS S "enumerate" && tp then (match es with
   |[e]=>if notStar e then (f e).map .enum else none
   |_=>none) else none) else if x = "reversed" then none else if x = "zip" then (if kS S "zip" && tp then (match es with
   |[e,g]=>if notStar e&&notStar g then (f e).bind fun c=>(f g).map fun d=>.zip c d else none
   |_=>none) else none) else (f (.Call (.Name x p) es [] pos)).map .seq
 |e=>if g8 e then (f e).map .seq else none
noncomputable def bQ (sc:Scope):List Str:=(sc.names.filter fun p=>(p.2 == .local || p.2 == .cell)&&p.1 != (".0" : Str)).map (·.1)
noncomputable def bR (sc:Scope):List Str:=(sc.names.filter fun p=>p.2 == .free).map (·.1)
noncomputable def jE:List (Option Nat)→Option (List Nat)
 |[]=>some []
 |some i::r=>(jE r).map (i :: ·)
 |none::_=>none
noncomputable def kf (S:Sc) (sc:Scope):Bool :=
 sc.kind == .function&&sc.names.all (fun p=>p.2 != .cell || eB sc p.1==some .cell)&&sc.names.all (fun p=>p.2 != .local || eB sc p.1==some .local)&&sc.names.all (fun p=>p.2 != .free || (eB sc p.1==some .free&&(eB S.sc p.1==some .cell || eB S.sc p.1==some .free))) &&
 decide (bQ sc++bR sc).Nodup
noncomputable def vz (own:Nat):lj→Bool
 |.nm i=>decide (i<own)
 |.tp is=>is.all fun i=>decide (i<own)
noncomputable def ER (x:Str):Option AZ:=if x = "len" then some .len else if x = "all" then some .all else if x = "abs" then some .abs else if x = "list" then some .list else if x = "sorted" then some .sorted else none
noncomputable def Ek (t:Str):Option String:=if t = "int" then some "int" else if t = "bool" then some "bool" else if t = "str" then some "str" else if t = "list" then some "list" else if t = "tuple" then some "tuple" else none
noncomputable def EJ (S:Sc) (f:Expr→Option Ex):List Expr→Option Ex
 |[a,.Name t _]=>if rk S.sc t&&S.fw.contains t&&eM t&&notStar a then (Ek t).bind fun u=>(f a).map fun ca=>.blt (.isi u) (.cons ca .nil) else none
 |_=>none
noncomputable def oP:List Expr→Bool
 | [.Call (.Name r _) [_] [] _]=>r==("reversed" : Str)
 |_=>false
noncomputable def GB (S:Sc) (f:Expr→Option Ex):List Expr→Option Ex
 |_=>none
noncomputable def n6:List Expr→Bool
 | [.Call (.Name r _) _ [] _]=>r==("range" : Str)
 |_=>false
noncomputable def BL (S:Sc) (f:Expr→Option Ex):List Expr→Option Ex
 | [.Call (.Name r _) es [] _]=>if r = "range" then (if kS S "range" then (match es with
  |[a]=>(dM f [a]).map fun cs=>.blt .lrng cs
  |[a,b]=>(dM f [a,b]).map fun cs=>.blt .lrng cs
  |_=>none) else none) else none
 |_=>none
noncomputable def ur (S:Sc) (f:Expr→Option Ex) (x:Str) (es:List Expr):Option Ex :=
 if eM x&&rk S.sc x then (match idxOf S.fns x with
  |some i=>(dM f es).map fun cs=>.call i cs
  |none=>if S.fw.contains x then (if x = "isinstance" then EJ S f es else if x = "list"∧oP es=true then GB S f es else if x = "list"∧n6 es=true then BL S f es else match es with
    |[]=>none
    |e::r=>(ER x).bind fun b=>(dM f (e::r)).map fun cs=>.blt b cs) else none) else none
noncomputable def zm (S:Sc) (f:Expr→Option Ex) (x:Str) (a d:Expr) (k:Str):Option Ex :=
 none
noncomputable def DU (f:Expr→Option Ex) (o:Expr) (name:Str) (es:List Expr) (apos cpos:Pos):Option Ex:=none
noncomputable def Gb (f:Expr→Option Ex):List Expr→Option lJ
 |[]=>some .none
 |[c]=>(f c).map .some
 |_=>none
noncomputable def qP (S:Sc) (f:Sc→Expr→Option Ex) (elt tg iter:Expr) (ifs:List Expr) (sc:Scope):Option Ex :=
 if kf S sc&&g8 iter then
  (EA S (f S) (isTup tg) iter).bind fun it=>(jE ((bR sc).map (idxOf S.N))).bind fun pick =>
   (vq { S with N:=bQ sc++bR sc,sc:=sc } tg).bind fun t=>if vz (bQ sc).length t then
    (Gb (f { S with N:=bQ sc++bR sc,sc:=sc }) ifs).bind fun c=>(f { S with N:=bQ sc++bR sc,sc:=sc } elt).map fun ce=>.comp (bQ sc).length pick t it c ce
   else none
 else none
noncomputable def xB (S:Sc) (x:Str):Option Ex:=if eM x then (if m6 S.sc x then (idxOf S.N x).map .var else if rk S.sc x then (idxOf S.xE x).map .glb else none) else none
noncomputable def Fm:Const→Option Ex
 |.int i=>some (.cst (.int i))
 |.bool b=>some (.cst (.bl b))
 |.none=>some (.cst .non)
 |.str s=>some (.cst (.str s))
 |_=>none
noncomputable def cUn (op:UnaryOp) (o:Option Ex):Option Ex:=match op with
 |.USub=>o.map .neg
 |.Not=>o.map .not
 |_=>none
noncomputable def y9 (f:Expr→Option Ex) (a:Expr) (op:CmpOp) (b:Expr):Option Ex:=if behindInMarks op b then none else (f a).bind fun ca=>(f b).map fun cb=>.cmp op ca cb
noncomputable def BR (f:Expr→Option Ex) (a:Expr) (op op':CmpOp) (b c:Expr):Option Ex:=none
noncomputable def FD (f:Expr→Option Ex) (a:Expr):List CmpOp→List Expr→Option Ex
 |[],_=>none
 |[op],bs=>(match bs with
  |[]=>none
  |[b]=>y9 f a op b
  |_::_::_=>none)
 |op::op'::ops,bs=>(match ops with
  |[]=>(match bs with
   |[]=>none
   |[_]=>none
   |b::c::r=>(match r with
    |[]=>BR f a op op' b c
    |_::_=>none))
  |_::_=>none)
noncomputable def Bq (f:Expr→Option Ex) (a b:Expr):Option Ex:=match b with
 |.Slice lo hi st _=>(match st with
  |none=>(f a).bind fun ca=>(y6 f lo).bind fun l=>(y6 f hi).map fun h=>.sl ca l h
  |some _=>none)
 |b=>if gm b then (f a).bind fun ca=>(f b).map fun cb=>.ix ca cb else none
noncomputable def xK (S:Sc) (f:Expr→Option Ex) (x:Str) (es:List Expr):List Keyword→Option Ex
 |[]=>ur S f x es
 |[⟨k,d,_⟩]=>(match k with
  |none=>none
  |some k=>(match es with
   |[]=>none
   |[a]=>zm S f x a d k
   |_::_::_=>none))
 |_::_::_=>none
noncomputable def xH (S:Sc) (f:Expr→Option Ex) (g:Expr) (es:List Expr) (ks:List Keyword) (cpos:Pos):Option Ex:=match g with
 |.Name x _=>xK S f x es ks
 |.Attribute o name apos=>(match ks with
  |[]=>DU f o name es apos cpos
  |_::_=>none)
 |_=>none
noncomputable def cLC (S:Sc) (f:Sc→Expr→Option Ex) (elt:Expr) (sc:Scope):List Comprehension→Option Ex
 |[]=>none
 |[⟨tg,iter,ifs,as⟩]=>if as=0 then qP S f elt tg iter ifs sc else none
 |_::_::_=>none
noncomputable def Cy:List (Option Expr)→List Expr→Option Ex
 |[],[]=>some .dnew
 |_,_=>none
noncomputable def cE:Nat→Sc→Expr→Option Ex
 |0,_,_=>none
 |n+1,S,e=>match e with
  |.Name x _=>xB S x
  |.Constant c _ _=>Fm c
  |.BinOp a op b _=>(cE n S a).bind fun ca=>(cE n S b).map fun cb=>.bin op ca cb
  |.UnaryOp op a _=>cUn op (cE n S a)
  |.BoolOp op es _=>GG (cE n S) op es
  |.Compare a ops bs _=>FD (cE n S) a ops bs
  |.IfExp c a b _=>(cE n S c).bind fun cc=>(cE n S a).bind fun ca=>(cE n S b).map fun cb=>.ite cc ca cb
  |.List es _=>(dM (cE n S) es).map .lst
  |.Tuple es _ _=>(dM (cE n S) es).map .tup
  |.Subscript a b _=>Bq (cE n S) a b
  |.Call g es ks pos=>xH S (cE n S) g es ks pos
  |.ListComp elt gens sc _=>cLC S (cE n) elt sc gens
  |.Dict ks vs _=>Cy ks vs
  |_=>none
end Pc
end
section
namespace Pc
open PySem PySem.Spec PyProof.Rows L2
structure Ctx (X:Cx) (S:Sc) (T:Tb):Prop where
 N:X.N=S.N
 nd:S.N.Nodup
 vis:∀ x,m6 S.sc x=true→Bv X.env.scope x
 loc:∀ x,km S.sc x=true→Loc X.env.scope x∧(X.fn x=true∨X.env.scope.names.lookup x=some .local)
 gl:∀ x,rk S.sc x=true→Gl X x
 cel:∀ x,(eB S.sc x=some .cell∨eB S.sc x=some .free)→(X.env.kindOf x=some .cell∨X.env.kindOf x=some .free)
 units:X.A.units+40<cLine∧BC X.w X.K
 calm:X.calm=true
 fns:∀ i x,idxOf S.fns x=some i→∃ f fd ps k,oT X.prog X.w X.K X.mg X.base Cz k f fd ps (Dz X.K ps.length (T.cl i))∧iE k X.A∧X.mg x=some (.ref f)∧PySem.W.keepIn X.K (.ref f)=true∧Binds X.K fd ps []∧∀ ds r,T.cl i ds = .ok r→ds.length=ps.length
 xE:∀ i x,idxOf S.xE x=some i→∃ v u,X.mg x=some u∧RelV v u∧∀ H,Rep X.K H (T.gl i) v []
 fw:∀ x,S.fw.contains x=true→X.mg x=none
theorem bG {e:Expr}{es:List Expr}{env:Env}(h:notStar e=true):starEach (e::es) env=(false,eval e env)::starEach es env:=by
 cases e<;>first | rfl | (cases h)
theorem se {e:Expr}{env:Env}(h:g8 e=true) (x:Value):foldedSetIterable e env x=pure x:=by
 cases e<;>first | rfl | (cases h)
theorem qO {e:Expr}(h:gm e=true):k7 e:=by
 intro o i;cases e<;>first | rfl | (cases h)
theorem bO {f:Expr→Option Ex}{e:Expr}{es:List Expr}{cs:la}(h:dM f (e::es)=some cs):notStar e=true∧∃ c d,f e=some c∧dM f es=some d∧cs = .cons c d:=by
 unfold dM at h;by_cases hs:notStar e=true
 ·rw[if_pos hs] at h;rw[ah] at h;obtain⟨c,h1,h2⟩:=h;rw[ab] at h2;obtain⟨d,h2,rfl⟩:=h2;exact⟨hs,c,d,h1,h2,rfl⟩
 ·rw[if_neg hs] at h;cases h
theorem eD {f:Expr→Option Ex}{env:Env}{pos:Pos}:∀{es:List Expr}{cs:la},dM f es=some cs→(backTo pos (starEach es env)).any (·.1)=false
 |[],cs,_=>rfl
 | e::es,cs,h=>by
  obtain⟨hs,c,d,_,h2,_⟩:=bO h;rw[bG hs];show (false || (backTo pos (starEach es env)).any (·.1))=false;rw[eD h2];rfl
theorem dZ {x:Str}(h:eM x=true):(x==("__debug__" : Str))=false∧(x==("__classdict__" : Str))=false∧x≠"__name__":=by
 unfold eM at h;rw[ax,ax] at h;obtain⟨⟨h1,h2⟩,h3⟩:=h;refine⟨by simpa using h1,by simpa using h2,fun e=>?_⟩;subst e;simp at h3
theorem CG {X:Cx}{T:Tb}{c a b:Expr}{cc ca cb:Ex}{pos:Pos}(hc:PT X c (m7 X.K T cc)) (ha:PT X a (m7 X.K T ca)) (hb:PT X b (m7 X.K T cb)):PT X (.IfExp c a b pos) (m7 X.K T (.ite cc ca cb)):=by
 intro pins s σ H Q I h;obtain⟨P,env,F,re,p,bb,hev,ht,k⟩:=h;unfold ev at hev;obtain⟨q,h1,hev⟩:=Rs.bind_ok hev;obtain⟨kb,h2,hev⟩:=Rs.bind_ok hev;refine isTrue_IfExp (dD (hc pins s σ H (fun d H'=>d=kb∧aO H H') I ⟨P,env,F,re,q,kb,h1,dI h2,fun H' s=>⟨rfl,s⟩⟩) fun d s1 ⟨H1,I1,e,s⟩=>?_);subst e;cases d with
 |true=>exact ha pins s1 σ H1 Q I1 ⟨P,env,F,re.same s,p,bb,hev,ht,fun H' s'=>k H' (s.trans s')⟩
 |false=>exact hb pins s1 σ H1 Q I1 ⟨P,env,F,re.same s,p,bb,hev,ht,fun H' s'=>k H' (s.trans s')⟩
theorem yu {T:Tb}{a:Ex}{env:En}{p} (hev:eW T (.rng1 a) env = .ok p):p.2=[]∧∃ l,bM T (.cons a .nil) env = .ok l∧((∃ j,l.map (·.1)=[.int j]∧fO j=true∧p.1=bH 0 1 j.toNat)∨(∃ i j,l.map (·.1)=[.int i,.int j]∧fO i=true∧fO j=true∧p.1=bH i 1 (j - i).toNat) ∨
   ∃ i j k,l.map (·.1)=[.int i,.int j,.int k]∧fO i=true∧fO j=true∧k≠0∧k.natAbs<1073741824∧p.1=bH i k (Builtin.Range.rangeSize i j k).toNat):=by
 unfold eW at hev;obtain⟨q,h1,hev⟩:=Rs.bind_ok hev;split at hev
 ·rename_i j hj;split at hev
  ·rename_i ho;cases hev;exact⟨rfl,[q],by unfold bM;rw[h1];unfold bM;rfl,.inl ⟨j,by simp[hj],ho,rfl⟩⟩
  ·cases hev
 ·cases hev
theorem wt {T:Tb}{a b:Ex}{env:En}{p} (hev:eW T (.rng2 a b) env = .ok p):p.2=[]∧∃ l,bM T (.cons a (.cons b .nil)) env = .ok l∧((∃ j,l.map (·.1)=[.int j]∧fO j=true∧p.1=bH 0 1 j.toNat)∨(∃ i j,l.map (·.1)=[.int i,.int j]∧fO i=true∧fO j=true∧p.1=bH i 1 (j - i).toNat) ∨
   ∃ i j k,l.map (·.1)=[.int i,.int j,.int k]∧fO i=true∧fO j=true∧k≠0∧k.natAbs<1073741824∧p.1=bH i k (Builtin.Range.rangeSize i j k).toNat):=by
 unfold eW at hev;obtain⟨q,h1,hev⟩:=Rs.bind_ok hev;obtain⟨r,h2,hev⟩:=Rs.bind_ok hev;split at hev
 ·rename_i i j hi hj;split at hev
  ·rename_i ho;cases hev;rw[ax] at ho;exact⟨rfl,[q,r],by unfold bM;rw[h1];unfold bM;rw[h2];unfold bM;rfl,.inr (.inl ⟨i,j,by simp[hi,hj],ho.1,ho.2,rfl⟩)⟩
  ·cases hev
 ·cases hev
theorem yI {T:Tb}{a b c:Ex}{env:En}{p} (hev:eW T (.rng3 a b c) env = .ok p):p.2=[]∧∃ l,bM T (.cons a (.cons b (.cons c .nil))) env = .ok l∧((∃ j,l.map (·.1)=[.int j]∧fO j=true∧p.1=bH 0 1 j.toNat)∨(∃ i j,l.map (·.1)=[.int i,.int j]∧fO i=true∧fO j=true∧p.1=bH i 1 (j - i).toNat) ∨
   ∃ i j k,l.map (·.1)=[.int i,.int j,.int k]∧fO i=true∧fO j=true∧k≠0∧k.natAbs<1073741824∧p.1=bH i k (Builtin.Range.rangeSize i j k).toNat):=by
 unfold eW at hev;obtain⟨q,h1,hev⟩:=Rs.bind_ok hev;obtain⟨r,h2,hev⟩:=Rs.bind_ok hev;obtain⟨t,h3,hev⟩:=Rs.bind_ok hev;split at hev
 ·rename_i i j k hi hj hk;split at hev
  ·rename_i ho;cases hev;simp only[Bool.and_eq_true,bne_iff_ne,decide_eq_true_eq] at ho;exact⟨rfl,[q,r,t],by unfold bM;rw[h1];unfold bM;rw[h2];unfold bM;rw[h3];unfold bM;rfl,.inr (.inr ⟨i,j,k,by simp[hi,hj,hk],ho.1.1.1,ho.1.1.2,ho.1.2,ho.2,rfl⟩)⟩
  ·cases hev
 ·cases hev
noncomputable def SE (X:Cx) (T:Tb) (e:Expr) (c:Ex):Prop:=PE X e (tE X.K T c)∧PT X e (m7 X.K T c)
section
variable {X:Cx}{S:Sc}{T:Tb}
theorem dQ {f:Expr→Option Ex}(hf:∀ e c,f e=some c→SE X T e c):∀{es:List Expr}{cs:la},dM f es=some cs→PA X es (uw X.K T cs)
 |[],cs,h=>by cases h;exact rR
 | e::es,cs,h=>by
  obtain⟨hs,c,d,h1,h2,rfl⟩:=bO h;exact k9 (hf e c h1).1 (dQ hf h2) (bG hs)
theorem Bw {f:Expr→Option Ex}{op:BoolOp}{pos:Pos}(hf:∀ e c,f e=some c→SE X T e c):∀{es:List Expr}{c:Ex},GG f op es=some c→PE X (.BoolOp op es pos) (tE X.K T c)∧PW X (.BoolOp op es pos) (m7 X.K T c)
 |[],c,h=>by cases h
 | [a],c,h=>by
  have h:f a=some c:=h;have ⟨h1,h2⟩:=hf a c h;refine⟨Cg h1,?_⟩;cases op with
  |And=>exact Af h2
  |Or=>exact DT h2
 | a::b::r,c,h=>by
  unfold GG at h;rw[ah] at h;obtain⟨ca,h1,h2⟩:=h;rw[ab] at h2;obtain⟨cb,h2,h3⟩:=h2;subst h3;have ⟨ia,ta⟩:=hf a ca h1;have ⟨ib,tb⟩:=Bw (pos:=pos) hf h2;cases op with
  |And=>exact⟨D9 ia ib,CH ta tb⟩
  |Or=>exact⟨GU ia ib,Gp ta tb⟩
theorem p8 (C:Ctx X S T):∀{es:List Expr}{is:List Nat},lP S es=some is→EK X es (gP is)∧(assignEach es X.env).length=is.length∧(assignEach es X.env).findIdx? (·.1)=none:=by
 intro es
 induction es with
 |nil=>intro is h;cases h;exact⟨Al,rfl,rfl⟩
 |cons e es ih =>
  intro is h;cases e with
  |Name x p =>
   unfold lP at h;by_cases hl:km S.sc x=true
   ·rw[if_pos hl,ah] at h;obtain⟨i,h1,h2⟩:=h;rw[ab] at h2;obtain⟨js,h2,rfl⟩:=h2;obtain⟨a,b,c⟩:=ih h2;have hN:=C.nd;rw[←C.N] at hN;have hi:=cC h1;rw[←C.N] at hi;refine⟨zc (uF hN hi (C.loc x hl).1 (C.loc x hl).2) a,?_,?_⟩
    ·show (assignEach es X.env).length+1=js.length+1;rw[b]
    ·show List.findIdx? (·.1) ((false,_)::assignEach es X.env)=none;rw[List.findIdx?_cons];simp[c]
   ·rw[if_neg hl] at h;cases h
  |_=>cases h
theorem xj (C:Ctx X S T) {e:Expr}{t:lj}(h:vq S e=some t):PG X e (rj X.K t):=by
 cases e with
 |Name x p =>
  unfold vq at h;dsimp only at h;by_cases hl:km S.sc x=true
  ·rw[if_pos hl,ab] at h;obtain⟨i,h1,rfl⟩:=h;have hN:=C.nd;rw[←C.N] at hN;have hi:=cC h1;rw[←C.N] at hi;exact uF hN hi (C.loc x hl).1 (C.loc x hl).2
  ·rw[if_neg hl] at h;cases h
 |Tuple es a b =>
  unfold vq at h;rw[ab] at h;obtain⟨is,h1,rfl⟩:=h;obtain⟨a,b,c⟩:=p8 C h1;exact zl C.calm a b c
 |_=>cases h
theorem BH (C:Ctx X S T) {f:Expr→Option Ex}(hf:∀ e c,f e=some c→SE X T e c) {tg e:Expr}{it:qE}(h:EA S f (isTup tg) e=some it):PI X tg e (tI X.K T it):=by
 unfold EA at h;split at h
 ·rename_i x p es pos;by_cases hx:x = "range"
  ·subst hx;rw[if_pos rfl] at h;by_cases hg:kS S "range" = true
   ·rw[if_pos hg] at h;have hg2:rk S.sc "range" = true∧S.fw.contains "range" = true:=by
     unfold kS at hg
     rwa [ax] at hg
    cases hc:dM f es with
    |none=>rw[hc] at h;cases h
    |some cs =>
     rw[hc] at h;cases es with
     |nil=>cases hc;cases h
     |cons e0 rest =>
      obtain⟨hs,c0,d0,_,hd,rfl⟩:=bO hc;refine DK rfl (C.gl _ hg2.1) (C.fw _ hg2.2) (dQ hf hc) (bG hs) (eD hd) ?_;intro env p hev;cases d0 with
      |nil =>
       cases h;exact yu hev
      |cons c1 d1 =>
       cases d1 with
       |nil =>
        cases h;exact wt hev
       |cons c2 d2 =>
        cases d2 with
        |nil =>
         cases h;exact yI hev
        |cons c3 d3=>cases h
   ·rw[if_neg hg] at h;cases h
  rw[if_neg hx] at h;by_cases hx:x = "enumerate"
  ·subst hx;rw[if_pos rfl] at h;by_cases hg:(kS S "enumerate" && isTup tg)=true
   ·rw[if_pos hg] at h;rw[ax] at hg;have hg2:rk S.sc "enumerate" = true∧S.fw.contains "enumerate" = true:=by
     have:=hg.1;unfold kS at this
     rwa [ax] at this
    cases tg with
    |Tuple elts x1 tp =>
     split at h
     ·rename_i e0;by_cases hs:notStar e0=true
      ·rw[if_pos hs,ab] at h;obtain⟨c,h1,rfl⟩:=h;exact zI (C.gl _ hg2.1) (C.fw _ hg2.2) (k9 (hf _ _ h1).1 rR (bG hs)) (bG hs)
      ·rw[if_neg hs] at h;cases h
     ·cases h
    |_=>cases hg.2
   ·rw[if_neg hg] at h;cases h
  rw[if_neg hx] at h;by_cases hx:x = "reversed"
  ·subst hx;rw[if_pos rfl] at h;cases h
  rw[if_neg hx] at h;by_cases hx:x = "zip"
  ·subst hx;rw[if_pos rfl] at h;by_cases hg:(kS S "zip" && isTup tg)=true
   ·rw[if_pos hg] at h;rw[ax] at hg;have hg2:rk S.sc "zip" = true∧S.fw.contains "zip" = true:=by
     have:=hg.1;unfold kS at this
     rwa [ax] at this
    cases tg with
    |Tuple elts x1 tp =>
     split at h
     ·rename_i e0 e1;by_cases hs:(notStar e0&&notStar e1)=true
      ·rw[if_pos hs,ah] at h;obtain⟨c,h1,h⟩:=h;rw[ab] at h;obtain⟨d,h2,rfl⟩:=h;rw[ax] at hs;exact CQ (C.gl _ hg2.1) (C.fw _ hg2.2) (k9 (hf _ _ h1).1 (k9 (hf _ _ h2).1 rR (bG hs.2)) (bG hs.1)) (bG hs.1) (by rw[bG hs.2];rfl)
      ·rw[if_neg hs] at h;cases h
     ·cases h
    |_=>cases hg.2
   ·rw[if_neg hg] at h;cases h
  ·rw[if_neg hx,ab] at h;obtain⟨c,h1,rfl⟩:=h;exact x8 (hf _ _ h1).1
 ·by_cases hn:g8 e=true
  ·rw[if_pos hn,ab] at h;obtain⟨c,h1,rfl⟩:=h;exact x8 (hf _ _ h1).1
  ·rw[if_neg hn] at h;cases h
end
end Pc
end
section
namespace Pc
open PySem PySem.Spec PyProof.Rows L2
theorem gR {env:Env}:∀{names:List (Str×NameKind)}{x:Str}{k:NameKind},names.lookup x=some k→k≠.free →
  (names.map fun (n,k)=>if (k==NameKind.free&&env.scope.kind == .function&&env.kindOf n==some .cell) then (n,NameKind.cell) else (n,k)).lookup x=some k
 |[],_,_,h,_=>by simp at h
 | (n,k0)::r,x,k,h,hk=>by
  rw[ba];by_cases hc:(k0==NameKind.free&&env.scope.kind == .function&&env.kindOf n==some .cell)=true
  ·simp only[hc,if_true,List.lookup_cons] at h ⊢;cases hx:x==n with
   |true =>
    rw[hx] at h;cases h;rw[ax,ax] at hc;exact absurd (by simpa using hc.1.1) hk
   |false=>rw[hx] at h;exact gR h hk
  ·have hc:(k0==NameKind.free&&env.scope.kind == .function&&env.kindOf n==some .cell)=false:=by simpa using hc
   simp only[hc,Bool.false_eq_true,if_false,List.lookup_cons] at h ⊢;cases hx:x==n with
   |true=>rw[hx] at h;exact h
   |false=>rw[hx] at h;exact gR h hk
theorem kG:∀{l:List (Option Nat)}{p:List Nat},jE l=some p→l=p.map some
 |[],p,h=>by cases h;rfl
 | some i::r,p,h=>by
  simp only[jE,Option.map_eq_some_iff] at h;obtain⟨q,h1,rfl⟩:=h;rw[kG h1];rfl
 |none::r,p,h=>by cases h
theorem mQ {S:Sc}{sc:Scope}(h:kf S sc=true):sc.kind = .function∧(∀ y∈sc.names,y.2 = .cell→sc.names.lookup y.1=some .cell)∧(∀ y∈sc.names,y.2 = .local→sc.names.lookup y.1=some .local) ∧
  (∀ y∈sc.names,y.2 = .free→sc.names.lookup y.1=some .free∧(eB S.sc y.1=some .cell∨eB S.sc y.1=some .free))∧(bQ sc++bR sc).Nodup:=by
 unfold kf at h;simp only[Bool.and_eq_true,List.all_eq_true,Bool.or_eq_true,beq_iff_eq,bne_iff_ne,decide_eq_true_eq,eB] at h;obtain⟨⟨⟨⟨h1,h2⟩,h3⟩,h4⟩,h5⟩:=h;refine⟨h1,fun y hy e=>?_,fun y hy e=>?_,fun y hy e=>?_,h5⟩
 ·rcases h2 y hy with h | h
  ·exact absurd e h
  ·exact h
 ·rcases h3 y hy with h | h
  ·exact absurd e h
  ·exact h
 ·rcases h4 y hy with h | h
  ·exact absurd e h
  ·exact h
section
variable {X:Cx}{S:Sc}{T:Tb}{sc:Scope}{pick:List Nat}
theorem r8 (C:Ctx X S T) (h:kf S sc=true) (hp:jE ((bR sc).map (idxOf S.N))=some pick):eT X sc (bQ sc++bR sc) (eX (bQ sc).length pick):=by
 obtain⟨h1,h2,h3,h4,h5⟩:=mQ h;have hp:=kG hp;have hlen:(bR sc).length=pick.length:=by simpa using congrArg List.length hp
 refine⟨h1,h2,h3,by simp[eX,hlen],fun x hx=>C.cel x (h4 _ (PySem.mem_of_lookup hx) rfl).2,fun x hx=>(h4 _ hx rfl).1,fun i j x hi hx=>?_⟩;unfold eX at hi;by_cases hlt:i<(bQ sc).length
 ·rw[List.getElem?_append_left (by simpa using hlt),List.getElem?_replicate] at hi;split at hi<;>cases hi
 ·have hle:=Nat.le_of_not_lt hlt;rw[List.getElem?_append_right (by simpa using hle),List.length_replicate,←hp,List.getElem?_map] at hi;rw[dw hle] at hx;rw[hx] at hi;simp only[Option.map_some,Option.some.injEq] at hi;have hm:=bu hx;unfold bR at hm;rw[au] at hm;obtain⟨p,hp1,rfl⟩:=hm;rw[cm] at hp1;have hf:p.2 = .free:=by simpa using hp1.2
  refine⟨(h4 p hp1.1 hf).1,?_⟩;rw[C.N];exact cC hi
theorem vo (C:Ctx X S T) (h:kf S sc=true) (Ca:Addr) (s0:Shared) (H0:Hp) (ex:List Addr):Ctx (inner X sc (bQ sc++bR sc) Ca s0 H0 ex) { S with N:=bQ sc++bR sc,sc:=sc } T:=by
 obtain⟨h1,h2,h3,h4,h5⟩:=mQ h;have keep:∀ x k,sc.names.lookup x=some k→k≠.free→(relabel sc X.env).names.lookup x=some k:=fun x k e hk=>gR e hk
 refine⟨rfl,h5,fun x hx=>?_,fun x hx=>?_,fun x hx=>?_,fun x hx=>?_,C.units,C.calm,C.fns,C.xE,C.fw⟩
 ·unfold m6 eB at hx;dsimp only at hx;split at hx
  ·rename_i e;exact .inl (keep _ _ e (by simp))
  ·rename_i e;exact .inr (.inl (keep _ _ e (by simp)))
  ·rename_i e;exact .inr (fK e)
  ·cases hx
 ·unfold km eB at hx;dsimp only at hx;split at hx
  ·rename_i e;exact⟨.inl (keep _ _ e (by simp)),.inr (keep _ _ e (by simp))⟩
  ·rename_i e;exact⟨.inr (keep _ _ e (by simp)),.inl (by show (sc.names.lookup x==some NameKind.cell)=true;rw[e];rfl)⟩
  ·cases hx
 ·unfold rk eB at hx;dsimp only at hx;split at hx
  ·rename_i e;exact keep _ _ e (by simp)
  ·cases hx
 ·unfold eB at hx;rcases hx with hx | hx
  ·exact .inl (keep _ _ hx (by simp))
  ·exact fK hx
end
end Pc
end
section
namespace Pc
open PySem PySem.Spec PyProof.Rows L2
theorem ko (n d:Nat) (o:Option Int):bY n d o=HT.bY n d o:=by cases o<;>rfl
theorem Ag (n d:Nat) (hd:d≤n) (o:Option Int):bY n d o≤n∨∃ i,o=some i∧i<0∧(n:Int)<i+n:=by
 cases o with
 |none=>exact .inl hd
 |some i =>
  left;simp only[bY];split<;>omega
theorem pD {n d:Nat}(hd:d≤n) (o:Option Int):bY n d o≤n:=by
 rcases Ag n d hd o with h | ⟨i,_,h1,h2⟩
 ·exact h
 ·omega
theorem CD (lo hi:Option Int) (n:Nat):Builtin.Str.strSliceIndices lo hi 1 n=(List.range (bY n n hi - bY n 0 lo)).map (bY n 0 lo + ·):=by
 unfold Builtin.Str.strSliceIndices;have h1:∀(o:Option Int) (d:Nat),d≤n→(match o with | none=>(d:Int) | some i=>if (1:Int) > 0 then max 0 (min (if i<0 then i+(n:Int) else i) n) else max (-1) (min (if i<0 then i+(n:Int) else i) (n - 1)))=((bY n d o:Nat):Int):=by
  intro o d hd;cases o with
  |none=>rfl
  |some i =>
   simp only[bY];rw[if_pos (by decide)];by_cases hi:i<0
   ·rw[if_pos hi,if_pos hi];omega
   ·rw[if_neg hi,if_neg hi];omega
 have e1:=h1 lo 0 (de _);have e2:=h1 hi n (aw _);dsimp only;rw[if_pos (by decide),if_pos (by decide)];refine Eq.trans ?_ (sliceRange_one (bY n 0 lo) (bY n n hi));have gen:∀ a b a' b':Int,a=a'→b=b'→sliceRange a b 1=sliceRange a' b' 1:=fun a b a' b' h h'=>by rw[h,h']
 exact gen _ _ _ _ e1 e2
theorem Dk {X:Cx}:Bx X (fun x lo hi H Q=>∃ z,x = .str z∧z.length≤lim∧Q (.str ⟨(cut z.cps.toList lo hi).toArray⟩) H):=by
 intro pins s σ H x v vl vu lo hi sl Q I rx hs pl pu h;obtain⟨z,rfl,hzl,q⟩:=h;obtain⟨t,rfl⟩:=rx;have part:∀{v:Value}{o:Option Int},IsPart v o→∃ l:Option (Int×Tok),partValue l=v∧l.map (·.1)=o:=fun h=>by
  cases h with
  |none=>exact⟨none,rfl,rfl⟩
  |int i t=>exact⟨some (i,t),rfl,rfl⟩
 obtain⟨l,rfl,rfl⟩:=part pl;obtain⟨u,rfl,rfl⟩:=part pu;refine⟨"str",_,PySem.F.slot_str_getitem.lookup,typeIs_str s z t,wpAny_getItem_str_slice (l:=l) (u:=u) (st:=none) hs rfl ?_⟩;have hp:slicePicked z l u none=(List.range (bY z.length z.length (u.map (·.1)) - bY z.length 0 (l.map (·.1)))).map (bY z.length 0 (l.map (·.1)) + ·):=CD _ _ _;have hc:(slicePicked z l u none).filterMap (z.cps[·]?)=cut z.cps.toList (l.map (·.1)) (u.map (·.1)):=by
  rw[hp,pick_run];rfl
 unfold sliceMade;split
 ·rename_i hw;have hl:(slicePicked z l u none).length=z.length:=by
   have:=(ax _ _ ▸ hw).2;simpa using this
  rw[hp,aj,dg] at hl;have hz:(⟨(cut z.cps.toList (l.map (·.1)) (u.map (·.1))).toArray⟩:Str)=z:=by
   have a1:=pD (n:=z.length) (de _) (l.map (·.1));have a2:=pD (n:=z.length) (aw _) (u.map (·.1));have:cut z.cps.toList (l.map (·.1)) (u.map (·.1))=z.cps.toList:=by
    have hlen:z.cps.toList.length=z.length:=rfl;unfold cut;rw[hlen];dsimp only;by_cases h0:z.length=0
    ·have:z.cps.toList=[]:=List.eq_nil_of_length_eq_zero (hlen.trans h0);rw[this];simp
    ·rw[show bY z.length 0 (l.map (·.1))=0 by omega,show bY z.length z.length (u.map (·.1))=z.length by omega,List.drop_zero,Nat.sub_zero];exact List.take_of_length_le (Nat.le_of_eq hlen)
   rw[this]
  rw[hz] at q;exact⟨.str z,H,I,⟨t,rfl⟩,q⟩
 ·rw[hc];refine⟨?_,.str _,H,I.tok _,⟨_,rfl⟩,q⟩;show (cut z.cps.toList (l.map (·.1)) (u.map (·.1))).toArray.size≤sizeLine;rw[bh];refine cv ?_ (jo hzl);unfold cut;rw[eh,fu];exact cv (Nat.min_le_right _ _) (Nat.sub_le _ _)
section
variable {X:Cx}{T:Tb}{a:Expr}{ca:Ex}{lo hi:Option Expr}{cl ch:lJ}{pos p2:Pos}
noncomputable def tO (K:Frag) (T:Tb) (c:lJ):TO:=fun σ H Q=>∃ P env F,RE K P env σ H F∧∃ o,kU T c env = .ok o∧∀ H',aO H H'→Q o H'
theorem xo {X:Cx}{e:Option Expr}{t t':TO}(h:PO X e t) (k:∀ σ H Q,t' σ H Q→t σ H Q):PO X e t':=fun pins s σ H Q I q=>h pins s σ H Q I (k σ H Q q)
theorem Bg:PO X none (tO X.K T .none):=xo Bi fun σ H Q ⟨P,env,F,re,o,h,k⟩=>by
 unfold kU at h;cases h;exact k H (aO.refl _)
theorem zJ (h:PE X a (tE X.K T ca)):PO X (some a) (tO X.K T (.some ca)):=xo (AW h) fun σ H Q ⟨P,env,F,re,o,h,k⟩=>by
 unfold kU at h;obtain⟨p,h1,h2⟩:=Rs.bind_ok h;refine⟨P,env,F,re,p,h1,fun v H' G s rp rt=>?_⟩;split at h2
 ·rename_i i hi;cases h2;rw[hi] at rp;obtain⟨rfl,rfl⟩:=rp.int_inv;exact⟨i,rfl,k H' s⟩
 ·cases h2
theorem Gn (ha:PE X a (tE X.K T ca)) (hl:PO X lo (tO X.K T cl)) (hh:PO X hi (tO X.K T ch)):PE X (.Subscript a (.Slice lo hi none p2) pos) (tE X.K T (.sl ca cl ch)):=by
 refine bV (wU (zO.or (Dk.or DE)) ha hl hh) fun σ H Q ⟨P,env,F,re,p,hev,k⟩=>?_
 unfold ev at hev;obtain⟨q,h1,hev⟩:=Rs.bind_ok hev;obtain⟨ol,h2,hev⟩:=Rs.bind_ok hev;obtain⟨oh,h3,hev⟩:=Rs.bind_ok hev;obtain⟨d,h4,hev⟩:=Rs.bind_ok hev;have h4:=dI h4;cases hev;refine⟨P,env,F,re,q,h1,fun v H1 G s rp rt=>⟨P,env,F,re.same s,ol,h2,fun H2 s2=>⟨P,env,F,re.same (s.trans s2),oh,h3,fun H3 s3=>?_⟩⟩⟩;have s23:=s2.trans s3;cases hq:q.1 with
 |lst xs =>
  rw[hq] at rp h4;cases h4;obtain⟨pa,vs,G',rfl,rfl,hr,rs⟩:=Rep.lst_inv (rp.same s23);refine .inl ⟨pa,vs,rfl,.inl hr,fun pn hn=>?_⟩;obtain⟨G1,r1,u1⟩:=rs.drop (bY xs.length 0 ol);obtain⟨G2,r2,u2⟩:=r1.take (bY xs.length xs.length oh - bY xs.length 0 ol);have hc:mU vs ol oh=(vs.drop (bY xs.length 0 ol)).take (bY xs.length xs.length oh - bY xs.length 0 ol):=by
   unfold mU;rw[rs.len,ko,ko]
  rw[hc];have sub:∀ a∈G2,a∈pa::G':=fun a ha=>aa _ (u1.mem (u2.mem ha))
  obtain⟨rp',nv⟩:=g9 (G0:=pa::G') r2 sub hn;have ar:Args X.K env F H H3 [q] [.ref pa] ((pa::G') ++ []):=.cons s (by rw[hq];exact rp) rt (.nil s23);rw[cg] at ar;exact k _ _ _ ((s.trans s23).trans nv.same) rp' (bX.new ar nv (by simp[bD]))
 |str z =>
  rw[hq] at rp h4;obtain⟨rfl,rfl⟩:=rp.str_inv;have h4:(if z.length≤lim then some (D.str ⟨(cut z.cps.toList ol oh).toArray⟩) else none)=some d:=h4;by_cases hz:z.length≤lim
  ·rw[if_pos hz] at h4;cases h4;exact .inr (.inl ⟨z,rfl,hz,k _ H3 [] (s.trans s23) (.str _) bX.nil⟩)
  ·rw[if_neg hz] at h4;cases h4
 |tup xs =>
  rw[hq] at rp h4;have h4:(if bY xs.length 0 ol=0∧bY xs.length xs.length oh=xs.length then none else some (D.tup (cut xs ol oh)))=some d:=h4;by_cases hw:bY xs.length 0 ol=0∧bY xs.length xs.length oh=xs.length
  ·rw[if_pos hw] at h4;cases h4
  ·rw[if_neg hw] at h4;cases h4;obtain⟨pa,vs,rfl,hr,rs⟩:=Rep.tup_inv (rp.same s23);refine .inr (.inr ⟨pa,vs,rfl,hr,by rw[←rs.len,←ko,←ko];exact hw,fun pn hn=>?_⟩);obtain⟨G1,r1,u1⟩:=rs.drop (bY xs.length 0 ol);obtain⟨G2,r2,u2⟩:=r1.take (bY xs.length xs.length oh - bY xs.length 0 ol);have hc:mU vs ol oh=(vs.drop (bY xs.length 0 ol)).take (bY xs.length xs.length oh - bY xs.length 0 ol):=by
    unfold mU;rw[rs.len,ko,ko]
   rw[hc];obtain⟨rp',nv⟩:=Ep (G0:=G) r2 (fun a ha=>u1.mem (u2.mem ha)) hn;have ar:Args X.K env F H H3 [q] [.ref pa] (G ++ []):=.cons s (by rw[hq];exact rp) rt (.nil s23);rw[cg] at ar;exact k _ _ _ ((s.trans s23).trans nv.same) rp' (bX.new ar nv (by simp[bD]))
 |_=>rw[hq] at h4;cases h4
end
end Pc
end
section
namespace Pc
open PySem PySem.Spec PyProof.Rows L2
section
variable {X:Cx}{S:Sc}{T:Tb}
theorem yq {f:Expr→Option Ex}(hf:∀ e c,f e=some c→SE X T e c) {o:Option Expr}{c:lJ}(h:y6 f o=some c):PO X o (tO X.K T c):=by
 cases o with
 |none=>cases h;exact Bg
 |some e =>
  have h:(f e).map lJ.some=some c:=h;rw[ab] at h;obtain⟨d,h1,rfl⟩:=h;exact zJ (hf e d h1).1
theorem AG {x id:String}{b:AZ}{f:Expr→Option Ex}(hf:∀ e c,f e=some c→SE X T e c) {e:Expr}{r:List Expr}{cs:la}{p pos:Pos}(hr:fV X (.builtin id) (pS X.K b)) (hv:bootBuiltins x=some (.builtin id)) (hg:Gl X x) (hm:X.mg x=none) (hn:eM x=true) (ha:dM f (e::r)=some cs) :
  PE X (.Call (.Name x p) (e::r) [] pos) (tE X.K T (.blt b cs)):=by
 obtain⟨hs,_,_,_,h2,_⟩:=bO ha;obtain⟨n1,n2,n3⟩:=dZ hn;exact bV (pU hr hg hm hv (dQ hf ha) n3 n1 (bG hs) (eD h2)) fun σ H Q h=>p9 h
theorem bltT {x id:String}{b:AZ}{f:Expr→Option Ex}(hf:∀ e c,f e=some c→SE X T e c) {e:Expr}{r:List Expr}{cs:la}{p pos:Pos}(hr:fV X (.type id) (pS X.K b)) (hv:bootBuiltins x=some (.type id)) (hg:Gl X x) (hm:X.mg x=none) (hn:eM x=true) (ha:dM f (e::r)=some cs) :
  PE X (.Call (.Name x p) (e::r) [] pos) (tE X.K T (.blt b cs)):=by
 obtain⟨hs,_,_,_,h2,_⟩:=bO ha;obtain⟨n1,n2,n3⟩:=dZ hn;exact bV (vI hr hg hm hv (dQ hf ha) n3 n1 (bG hs) (eD h2)) fun σ H Q h=>p9 h
theorem wL {t:Str}{u:String}(h:Ek t=some u):u∈iW∧bootBuiltins t=some (.type u):=by
 unfold Ek at h;split at h
 ·rename_i e;cases h;subst e;exact⟨by decide,boot_int⟩
 split at h
 ·rename_i e;cases h;subst e;exact⟨by decide,boot_bool⟩
 split at h
 ·rename_i e;cases h;subst e;exact⟨by decide,boot_str⟩
 split at h
 ·rename_i e;cases h;subst e;exact⟨by decide,boot_list⟩
 split at h
 ·rename_i e;cases h;subst e;exact⟨by decide,boot_tuple⟩
 cases h
theorem Bk (C:Ctx X S T) {f:Expr→Option Ex}(hf:∀ e c,f e=some c→SE X T e c) {x:Str}{es:List Expr}{c:Ex}{p pos:Pos}(h:ur S f x es=some c):PE X (.Call (.Name x p) es [] pos) (tE X.K T c):=by
 unfold ur at h;by_cases hk:(eM x&&rk S.sc x)=true
 ·rw[if_pos hk] at h;rw[ax] at hk;obtain⟨hn,hg⟩:=hk;have hg:=C.gl x hg;obtain⟨n1,n2,n3⟩:=dZ hn;cases hi:idxOf S.fns x with
  |some i =>
   rw[hi] at h;dsimp only at h;rw[ab] at h;obtain⟨cs,h1,rfl⟩:=h;obtain⟨fa,fd,ps,k,FO,hr,hm,hkp,hb,hl⟩:=C.fns i x hi;cases es with
   |nil =>
    cases h1;refine bV (wu FO hr hg hm hkp hb .nil BJ n1) fun σ H Q h=>?_
    have:=nJ hl h;obtain⟨P,env,F,re,l,hev,k⟩:=this;unfold bM at hev;cases hev;exact k [] H [] (.nil (aO.refl _))
   |cons e r =>
    obtain⟨hs,_,_,_,h2,_⟩:=bO h1;exact bV (A0 FO hr hg hm hkp hb .nil BJ (dQ hf h1) n1 (bG hs) (eD h2)) fun σ H Q h=>nJ hl h
  |none =>
   rw[hi] at h;dsimp only at h;by_cases hb:S.fw.contains x=true
   ·rw[if_pos hb] at h;have hm:=C.fw x hb;by_cases hx:x = "isinstance"
    ·rw[if_pos hx] at h;subst hx;unfold EJ at h;split at h
     ·rename_i a t pt;by_cases hc:(rk S.sc t&&S.fw.contains t&&eM t&&notStar a)=true
      ·rw[if_pos hc] at h;simp only[Bool.and_eq_true] at hc;obtain⟨⟨⟨c1,c2⟩,c3⟩,c4⟩:=hc;rw[ah] at h;obtain⟨u,h1,h2⟩:=h;rw[ab] at h2;obtain⟨ca,h2,rfl⟩:=h2;obtain⟨hu,hbt⟩:=wL h1;obtain⟨m1,m2,m3⟩:=dZ c3;refine bV (pU u9 hg hm boot_isinstance (lq (hf a ca h2).1 (lq (AV (v:=.ty u) (C.gl t c1) (C.fw t c2) hbt rfl m3 m1) rD rfl) (bG c4)) n3 n1 (bG c4) rfl) fun σ H Q h=>w9 hu h
      ·rw[if_neg hc] at h;cases h
     ·cases h
    ·rw[if_neg hx] at h;by_cases hlr:x = "list"∧oP es=true
     ·rw[if_pos hlr] at h;obtain⟨rfl,_⟩:=hlr;cases h
     rw[if_neg hlr] at h;by_cases hlg:x = "list"∧n6 es=true
     ·rw[if_pos hlg] at h;obtain⟨rfl,_⟩:=hlg;unfold BL at h;split at h
      ·rename_i r pr es' pp zz;by_cases hrr:r = "range"
       ·rw[if_pos hrr] at h;subst hrr;by_cases hgr:kS S "range" = true
        ·rw[if_pos hgr] at h;have hg2:rk S.sc "range" = true∧S.fw.contains "range" = true:=by
          have:=hgr;unfold kS at this
          rwa [ax] at this
         split at h
         ·rename_i a;rw[ab] at h;obtain⟨cs,ha,rfl⟩:=h;obtain⟨n1,c1,d1,_,hd,_⟩:=bO ha;exact tB C.calm hg hm (C.gl _ hg2.1) (C.fw _ hg2.2) (dQ hf ha) ⟨_,_,rfl,bG n1,rfl⟩
         ·rename_i a b;rw[ab] at h;obtain⟨cs,ha,rfl⟩:=h;obtain⟨n1,c1,d1,_,hd,_⟩:=bO ha;obtain⟨n2,_,_,_,_,_⟩:=bO hd;exact tB C.calm hg hm (C.gl _ hg2.1) (C.fw _ hg2.2) (dQ hf ha) ⟨_,_,rfl,bG n1,by rw[bG n2];rfl⟩
         ·cases h
        ·rw[if_neg hgr] at h;cases h
       ·rw[if_neg hrr] at h;cases h
      ·cases h
     rw[if_neg hlg] at h;cases es with
     |nil=>cases h
     |cons e r =>
      dsimp only at h;rw[ah] at h;obtain⟨b,h1,h2⟩:=h;rw[ab] at h2;obtain⟨cs,h2,rfl⟩:=h2;unfold ER at h1;split at h1
      ·rename_i e;cases h1;subst e;exact AG hf u7 boot_len hg hm hn h2
      split at h1
      ·rename_i e;cases h1;subst e;exact AG hf (vk C.calm) boot_all hg hm hn h2
      split at h1
      ·rename_i e;cases h1;subst e;exact AG hf uL boot_abs hg hm hn h2
      split at h1
      ·rename_i e;cases h1;subst e;exact bltT hf (sE C.calm) boot_list hg hm hn h2
      split at h1
      ·rename_i e;cases h1;subst e;exact AG hf pC boot_sorted hg hm hn h2
      cases h1
   ·rw[if_neg hb] at h;cases h
 ·rw[if_neg hk] at h;cases h
theorem DY {f:Expr→Option Ex}(hf:∀ e c,f e=some c→SE X T e c) {o:Expr}{name:Str}{es:List Expr}{c:Ex}{apos cpos:Pos}(h:DU f o name es apos cpos=some c):PE X (.Call (.Attribute o name apos) es [] cpos) (tE X.K T c):=by
 cases h
theorem sZ {own:Nat}{pick:List Nat}{t:lj}(h:vz own t=true) (i:Nat) (hi:t = .nm i∨∃ is,t = .tp is∧i∈is):(eX own pick)[i]? = some none:=by
 have:i<own:=by
  rcases hi with rfl | ⟨is,rfl,hm⟩
  ·simpa[vz] using h
  ·simp only[vz,List.all_eq_true,decide_eq_true_eq] at h;exact h i hm
 unfold eX;rw[List.getElem?_append_left (by simpa using this),List.getElem?_replicate,if_pos this]
structure nQ (X:Cx) (S:Sc) (T:Tb) (elt tg iter:Expr) (ifs:List Expr) (sc:Scope) (c:Ex):Prop where
 ex:∃ pick t it ci ce,c = .comp (bQ sc).length pick t it ci ce∧eT X sc (bQ sc++bR sc) (eX (bQ sc).length pick)∧PI X tg iter (tI X.K T it) ∧
  (∀ C s0 H0 ex,PG (inner X sc (bQ sc++bR sc) C s0 H0 ex) tg (rj X.K t)∧EF (inner X sc (bQ sc++bR sc) C s0 H0 ex) ifs (D7 X.K T ci)∧PE (inner X sc (bQ sc++bR sc) C s0 H0 ex) elt (tE X.K T ce)) ∧
  vz (bQ sc).length t=true∧g8 iter=true
theorem mo (C:Ctx X S T) {f:Sc→Expr→Option Ex}(hf:∀{X:Cx}{S:Sc},Ctx X S T→∀ e c,f S e=some c→SE X T e c) {elt tg iter:Expr}{ifs:List Expr}{sc:Scope}{c:Ex}(h:qP S f elt tg iter ifs sc=some c):nQ X S T elt tg iter ifs sc c:=by
 unfold qP at h;by_cases hk:(kf S sc&&g8 iter)=true
 ·rw[if_pos hk] at h;rw[ax] at hk;rw[ah] at h;obtain⟨it,h1,h⟩:=h;rw[ah] at h;obtain⟨pick,h2,h⟩:=h;rw[ah] at h;obtain⟨t,h3,h⟩:=h;by_cases ho:vz (bQ sc).length t=true
  ·rw[if_pos ho] at h;rw[ah] at h;obtain⟨ci,h4,h⟩:=h;rw[ab] at h;obtain⟨ce,h5,rfl⟩:=h;refine⟨pick,t,it,ci,ce,rfl,r8 C hk.1 h2,BH C (hf C) h1,fun Ca s0 H0 ex=>?_,ho,hk.2⟩;have C':=vo C hk.1 Ca s0 H0 ex;refine⟨xj C' h3,?_,(hf C' elt ce h5).1⟩;unfold Gb at h4;split at h4
   ·cases h4;exact zP
   ·rw[ab] at h4;obtain⟨cc,h4,rfl⟩:=h4;exact A6 (hf C' _ cc h4).2
   ·cases h4
  ·rw[if_neg ho] at h;cases h
 ·rw[if_neg hk] at h;cases h
theorem AQ (C:Ctx X S T) {elt tg iter:Expr}{ifs:List Expr}{sc:Scope}{c:Ex}{pos:Pos}(h:nQ X S T elt tg iter ifs sc c):PE X (.ListComp elt [⟨tg,iter,ifs,0⟩] sc pos) (tE X.K T c):=by
 obtain⟨pick,t,it,ci,ce,rfl,h1,h2,h3,h4,h5⟩:=h;exact bV (zK h1 C.calm h2 h3 (nU (sZ h4)) (se h5)) fun σ H Q h=>nh h
theorem AL (C:Ctx X S T) {f:Expr→Option Ex}(hf:∀ e c,f e=some c→SE X T e c) {x kn:Str}{a d:Expr}{c:Ex}{p kp pos:Pos}(h:zm S f x a d kn=some c):PE X (.Call (.Name x p) [a] [⟨some kn,d,kp⟩] pos) (tE X.K T c):=by
 cases h
theorem eZ:∀(n:Nat) {X:Cx}{S:Sc}{T:Tb}(C:Ctx X S T) (e:Expr) (c:Ex),cE n S e=some c→SE X T e c:=by
 intro n
 induction n with
 |zero=>intro X S T C e c h;cases h
 |succ n ih =>
  intro X S T C e c h;have ihX:=ih C;cases e with
  |Name x p =>
   have h:xB S x=some c:=h;unfold xB at h;by_cases hn:eM x=true
   ·rw[if_pos hn] at h;obtain⟨n1,n2,n3⟩:=dZ hn;by_cases hv:m6 S.sc x=true
    ·rw[if_pos hv,ab] at h;obtain⟨i,h1,rfl⟩:=h;have hi:=cC h1;rw[←C.N] at hi;have:=D2 (T:=T) (pos:=p) hi (C.vis x hv) n1 n2;exact⟨this,cX this fun _=>rfl⟩
    ·rw[if_neg hv] at h;by_cases hg:rk S.sc x=true
     ·rw[if_pos hg,ab] at h;obtain⟨i,h1,rfl⟩:=h;obtain⟨v,u,g1,g2,g3⟩:=C.xE i x h1;have:=Dh (A2 (pos:=p) (C.gl x hg) g1 g2 n1) g3;exact⟨this,cX this fun _=>rfl⟩
     ·rw[if_neg hg] at h;cases h
   ·rw[if_neg hn] at h;cases h
  |Constant k x1 p =>
   have h:Fm k=some c:=h;cases k with
   |int i=>cases h;exact⟨iB (T:=T) xu fun H=>Rep.int _,cX (iB (T:=T) xu fun H=>Rep.int _) fun _=>rfl⟩
   |bool b=>cases h;exact⟨iB (T:=T) BN fun H=>Rep.bl _,cX (iB (T:=T) BN fun H=>Rep.bl _) fun _=>rfl⟩
   |none=>cases h;exact⟨iB (T:=T) xp fun H=>Rep.non,cX (iB (T:=T) xp fun H=>Rep.non) fun _=>rfl⟩
   |str s=>cases h;exact⟨iB (T:=T) wF fun H=>Rep.str _,cX (iB (T:=T) wF fun H=>Rep.str _) fun _=>rfl⟩
   |_=>cases h
  |BinOp a op b p =>
   have h:((cE n S a).bind fun ca=>(cE n S b).map fun cb=>.bin op ca cb)=some c:=h;rw[ah] at h;obtain⟨ca,h1,h⟩:=h;rw[ab] at h;obtain⟨cb,h2,rfl⟩:=h;have:=Dr (pos:=p) (zB op) (ihX a ca h1).1 (ihX b cb h2).1;exact⟨this,cX this fun _=>rfl⟩
  |UnaryOp op a p =>
   have h:cUn op (cE n S a)=some c:=h;cases op with
   |USub =>
    have h:(cE n S a).map .neg=some c:=h;rw[ab] at h;obtain⟨ca,h1,rfl⟩:=h;have:=Dx (pos:=p) (ihX a ca h1).1;exact⟨this,cX this fun _=>rfl⟩
   |Not =>
    have h:(cE n S a).map .not=some c:=h;rw[ab] at h;obtain⟨ca,h1,rfl⟩:=h;exact⟨CU (ihX a ca h1).1,Er (ihX a ca h1).2⟩
   |_=>cases h
  |BoolOp op es p =>
   have h:GG (cE n S) op es=some c:=h;have ⟨h1,h2⟩:=Bw (pos:=p) ihX h;exact⟨h1,h2.pt⟩
  |Compare a ops bs p =>
   have h:FD (cE n S) a ops bs=some c:=h;cases ops with
   |nil=>cases h
   |cons op r=>cases r with
    |nil=>cases bs with
     |nil=>cases h
     |cons b r2=>cases r2 with
      |cons _ _=>cases h
      |nil =>
       have h:y9 (cE n S) a op b=some c:=h;unfold y9 at h;by_cases hb:behindInMarks op b=true
       ·rw[if_pos hb] at h;cases h
       ·rw[if_neg hb] at h;have hb:behindInMarks op b=false:=by simpa using hb
        rw[ah] at h;obtain⟨ca,h1,h⟩:=h;rw[ab] at h;obtain⟨cb,h2,rfl⟩:=h;exact⟨D5 (tZ op C.units) (ihX a ca h1).1 (ihX b cb h2).1 hb,CJ C.units (ihX a ca h1).1 (ihX b cb h2).1 hb⟩
    |cons op' r2=>cases r2 with
     |cons _ _=>cases bs<;>cases h
     |nil=>cases bs with
      |nil=>cases h
      |cons b r3=>cases r3 with
       |nil=>cases h
       |cons d r4=>cases r4 with
        |cons _ _=>cases h
        |nil =>
         have h:BR (cE n S) a op op' b d=some c:=h;cases h
  |IfExp t a b p =>
   have h:((cE n S t).bind fun cc=>(cE n S a).bind fun ca=>(cE n S b).map fun cb=>.ite cc ca cb)=some c:=h;rw[ah] at h;obtain⟨cc,h1,h⟩:=h;rw[ah] at h;obtain⟨ca,h2,h⟩:=h;rw[ab] at h;obtain⟨cb,h3,rfl⟩:=h;exact⟨C6 (ihX t cc h1).2 (ihX a ca h2).1 (ihX b cb h3).1,CG (ihX t cc h1).2 (ihX a ca h2).2 (ihX b cb h3).2⟩
  |List es p =>
   have h:(dM (cE n S) es).map .lst=some c:=h;rw[ab] at h;obtain⟨cs,h1,rfl⟩:=h;have:=C1 (pos:=p) (dQ ihX h1);exact⟨this,cX this fun _=>rfl⟩
  |Dict ks vs p =>
   have h:Cy ks vs=some c:=h;unfold Cy at h;split at h
   ·cases h;have:PE X (.Dict [] [] p) (tE X.K T .dnew):=bV xT fun σ H Q h=>vK h
    exact⟨this,cX this fun _=>rfl⟩
   ·cases h
  |Tuple es x1 p =>
   have h:(dM (cE n S) es).map .tup=some c:=h;rw[ab] at h;obtain⟨cs,h1,rfl⟩:=h;have:=Cw (pos:=p) (x1:=x1) (dQ ihX h1);exact⟨this,cX this fun _=>rfl⟩
  |Subscript a b p =>
   have h:Bq (cE n S) a b=some c:=h;by_cases hb:gm b=true
   ·have h:(if gm b then (cE n S a).bind fun ca=>(cE n S b).map fun cb=>.ix ca cb else none)=some c:=by
     cases b<;>first | exact h | cases hb
    rw[if_pos hb] at h;rw[ah] at h;obtain⟨ca,h1,h⟩:=h;rw[ab] at h;obtain⟨cb,h2,rfl⟩:=h;have:=FA (pos:=p) (zA C.units.2) (ihX a ca h1).1 (ihX b cb h2).1 (qO hb);exact⟨this,cX this fun _=>rfl⟩
   ·cases b with
    |Slice lo hi st p2 =>
     cases st with
     |none =>
      have h:((cE n S a).bind fun ca=>(y6 (cE n S) lo).bind fun l=>(y6 (cE n S) hi).map fun h=>.sl ca l h)=some c:=h;rw[ah] at h;obtain⟨ca,h1,h⟩:=h;rw[ah] at h;obtain⟨cl,h2,h⟩:=h;rw[ab] at h;obtain⟨ch,h3,rfl⟩:=h;have:=Gn (pos:=p) (p2:=p2) (ihX a ca h1).1 (yq ihX h2) (yq ihX h3);exact⟨this,cX this fun _=>rfl⟩
     |some _=>cases h
    |_=>exact absurd rfl hb
  |Call g es ks pos =>
   have h:xH S (cE n S) g es ks pos=some c:=h;cases g with
   |Name x p =>
    have h:xK S (cE n S) x es ks=some c:=h;cases ks with
    |nil =>
     have h:ur S (cE n S) x es=some c:=h;have:=Bk (p:=p) (pos:=pos) C ihX h;exact⟨this,cX this fun _=>rfl⟩
    |cons k r=>cases r with
     |cons _ _=>obtain⟨_,_,_⟩:=k;cases h
     |nil =>
      obtain⟨k,d,kp⟩:=k;cases k with
      |none=>cases h
      |some kn=>cases es with
       |nil=>cases h
       |cons a r2=>cases r2 with
        |cons _ _=>cases h
        |nil =>
         have h:zm S (cE n S) x a d kn=some c:=h;have:=AL (p:=p) (kp:=kp) (pos:=pos) C ihX h;exact⟨this,cX this fun _=>rfl⟩
   |Attribute o name apos =>
    cases ks with
    |nil =>
     have h:DU (cE n S) o name es apos pos=some c:=h;have:=DY (apos:=apos) (cpos:=pos) ihX h;exact⟨this,cX this fun _=>rfl⟩
    |cons _ _=>cases h
   |_=>cases h
  |ListComp elt gens sc pos =>
   have h:cLC S (cE n) elt sc gens=some c:=h;cases gens with
   |nil=>cases h
   |cons g r=>cases r with
    |cons _ _=>obtain⟨_,_,_,_⟩:=g;cases h
    |nil =>
     obtain⟨tg,iter,ifs,as⟩:=g;have h:(if as=0 then qP S (cE n) elt tg iter ifs sc else none)=some c:=h;by_cases ha:as=0
     ·rw[if_pos ha] at h;subst ha;have:=AQ (pos:=pos) C (mo C (fun C'=>ih C') h);exact⟨this,cX this fun _=>rfl⟩
     ·rw[if_neg ha] at h;cases h
  |_=>cases h
end
end Pc
end
section
namespace Pc
open PySem PySem.Spec PyProof.Rows L2
structure vC (X:Cx) (S:Sc) (T:Tb):Prop where
 c:Ctx X S T
 sc:X.env.scope=S.sc
 fn:S.sc.kind = .function
 own:PassesOwn (model X.prog X.w) X.A X.env X.xe
noncomputable def BF (m:Str):Option rb:=if m = "append" then some .append else none
noncomputable def yl (m:Str):Option rb:=none
noncomputable def ja (n:Nat) (S:Sc):Expr→Option (Nat×lJ)
 |.Name x _=>if eM x&&m6 S.sc x then (idxOf S.N x).map fun i=>(i,.none) else none
 | .Subscript (.Name x _) e _=>if eM x&&m6 S.sc x&&gm e then (idxOf S.N x).bind fun i=>(cE n S e).map fun c=>(i,.some c) else none
 |_=>none
noncomputable def yd:Expr→Bool
 | .Constant (.bool true) _ _=>true
 |.Tuple _ _ _=>true
 |.IfExp _ _ _ _=>true
 |_=>false
noncomputable def zy (n:Nat) (S:Sc) (tg e:Expr):Option St:=match tg with
 |.Name x px=>match e with
  |.ListComp elt [⟨tg',iter,ifs,0⟩] sc p=>if km S.sc x then (idxOf S.N x).bind fun i=>(cE n S (.ListComp elt [⟨tg',iter,ifs,0⟩] sc p)).map fun c=>.asg (.nm i) c false else none
  |e=>if gj e then none else if km S.sc x then (idxOf S.N x).bind fun i=>(cE n S e).map fun c=>.asg (.nm i) c false else none
 |.Tuple es k p=>if gj e || isTup e then none else (lP S es).bind fun is=>(cE n S e).map fun c=>.asg (.tp is) c false
 |.Subscript o ix p=>if yd e then (if gm ix then (match ja n S o with
   | some (i,.none)=>(cE n S ix).bind fun ci=>(cE n S e).map fun ce=>.putd i ci ce
   |_=>none) else none) else if gj e || !gm ix then none else (ja n S o).bind fun q=>(cE n S ix).bind fun ci=>(cE n S e).map fun c=>.setix q.1 q.2 ci c
 |_=>none
noncomputable def A4 (n:Nat) (S:Sc) (o:Expr) (name:Str) (es:List Expr) (apos cpos:Pos):Option St :=
 if apos.endLine==cpos.line then (if es.isEmpty then (yl name).bind fun m=>(ja n S o).map fun q=>.mut q.1 q.2 m .nil else (BF name).bind fun m=>(ja n S o).bind fun q=>match es with
  |[a]=>(dM (cE n S) [a]).map fun cs=>.mut q.1 q.2 m cs
  |[a,b]=>(dM (cE n S) [a,b]).map fun cs=>.mut q.1 q.2 m cs
  |_=>none)
 else none
noncomputable def qv (n:Nat) (S:Sc) (o:Expr) (name:Str) (es:List Expr) (apos cpos:Pos):Option St:=match es with
 | [.Call (.Attribute o2 name2 apos2) [a] [] cpos2]=>if name = "append"∧name2 = "pop"∧(apos.endLine==cpos.line)=true∧(apos2.endLine==cpos2.line)=true then (match ja n S o,ja n S o2 with
  | some (y,.none),some (x,.none)=>(dM (cE n S) [a]).map fun cs=>.apop y x cs
  |_,_=>none) else none
 |_=>none
noncomputable def cAug (n:Nat) (S:Sc) (tg:Expr) (op:Operator) (e:Expr):Option St:=none
noncomputable def Ay (n:Nat) (S:Sc) (tg e:Expr):Option St:=none
noncomputable def EE (n:Nat) (S:Sc) (e:Expr):Option St:=if gj e then none else (cE n S e).map .expr
noncomputable def Fz (n:Nat) (S:Sc):Expr→Option St
 |.Constant k x1 p=>(match k with
  |.str _=>some .pass
  |k=>EE n S (.Constant k x1 p))
 |.Call g es ks cpos=>(match g with
  |.Attribute o name apos=>(match ks with
   |[]=>(match qv n S o name es apos cpos with
    |some c=>some c
    |none=>A4 n S o name es apos cpos)
   |k::ks=>EE n S (.Call (.Attribute o name apos) es (k::ks) cpos))
  |g=>EE n S (.Call g es ks cpos))
 |e=>EE n S e
noncomputable def cAs (n:Nat) (S:Sc) (e:Expr):List Expr→Option St
 |[]=>none
 |[tg]=>(match Ay n S tg e with
  |some c=>some c
  |none=>zy n S tg e)
 |_::_::_=>none
noncomputable def cRet (n:Nat) (S:Sc):Option Expr→Option St
 |none=>some .retN
 |some e=>(cE n S e).map .ret
noncomputable def uE:lj→bJ→Option Nat
 |_,_=>none
theorem wW {t:lj}{cb:bJ}{x:Nat}(h:uE t cb=some x):t = .nm x:=by
 cases h
noncomputable def FU (n:Nat) (S:Sc) (tg iter:Expr) (ob:Option bJ):List Stmt→Option St
 |[]=>if g8 iter then (vq S tg).bind fun t=>ob.bind fun cb=>(match uE t cb with
  |some x=>(cE n S iter).map fun c=>.forw x c cb
  |none=>(EA S (cE n S) (isTup tg) iter).map fun it=>.forr t it cb) else none
 |_::_=>none
noncomputable def CK (S:Sc):Expr→Option St→Option St
 |.Name x _,o=>if x = "_law_picked"∨x = "_law_picked_here" then (idxOf S.N x).bind fun i=>o.map fun c=>.frzd i c else o
 |_,o=>o
theorem zb {S:Sc}{e:Expr}{o:Option St}{c:St}(h:CK S e o=some c):o=some c∨∃ i c',o=some c'∧c = .frzd i c':=by
 unfold CK at h;split at h
 ·split at h
  ·rw[ah] at h;obtain⟨i,_,h⟩:=h;rw[ab] at h;obtain⟨c',h1,h2⟩:=h;exact .inr ⟨i,c',h1,h2.symm⟩
  ·exact .inl h
 ·exact .inl h
noncomputable def cWhl (n:Nat) (S:Sc) (e:Expr) (ob:Option bJ):List Stmt→Option St
 |[]=>(cE n S e).bind fun c=>ob.map fun cb=>.whl c cb
 |_::_=>none
mutual
noncomputable def cS:Nat→Sc→Stmt→Option St
 |0,_,_=>none
 |n+1,S,st=>match st with
  |.Assign tgs e _=>cAs n S e tgs
  |.AugAssign tg op e _=>cAug n S tg op e
  |.Expr e _=>Fz n S e
  |.Return o _=>cRet n S o
  |.If e a b _=>(cE n S e).bind fun c=>(sP n S a).bind fun ca=>(sP n S b).map fun cb=>.ite c ca cb
  |.For tg iter b oe _=>CK S iter (FU n S tg iter (sP n S b) oe)
  |.While e b oe _=>cWhl n S e (sP n S b) oe
  |.Pass _=>some .pass
  |.Raise _ _ _=>some (.expr (.neg (.cst .non)))
  |.Break _=>some .brk
  |.Continue _=>some .cnt
  |_=>none
noncomputable def sP:Nat→Sc→List Stmt→Option bJ
 |0,_,_=>none
 |_+1,_,[]=>some .nil
 |n+1,S,s::r=>(cS n S s).bind fun c=>(sP n S r).map fun d=>.cons c d
end
theorem oY {e:Expr}{t:Option Expr}{l:Nat}{env:Env}(h:gj e=false):swapsWith e t l env=pure false:=by
 cases e<;>first | rfl | (cases h)
theorem oN {e t:Expr}{l:Nat}{env:Env}(h:gj e=false):swapsWithSole [t] e l env=pure false:=oY h
section
variable {X:Cx}{S:Sc}{T:Tb}
theorem Aa {st:Stmt}:PS X st (tS X.K T (.expr (.neg (.cst .non)))):=by
 intro pins s σ H D I h;obtain⟨P,Z,env,F,re,hz,zp,h⟩:=h;exact h.elim
theorem gT (C:Ctx X S T) {n:Nat}{o:Expr}{q:Nat×lJ}(h:ja n S o=some q):PE X o (i9 X.K T q.1 q.2):=by
 unfold ja at h;split at h
 ·rename_i x p;by_cases hk:(eM x&&m6 S.sc x)=true
  ·rw[if_pos hk,ab] at h;rw[ax] at hk;obtain⟨i,h1,rfl⟩:=h;obtain⟨n1,n2,n3⟩:=dZ hk.1;have hi:=cC h1;rw[←C.N] at hi;exact D4 hi (C.vis x hk.2) n1 n2
  ·rw[if_neg hk] at h;cases h
 ·rename_i x p e pos;by_cases hk:(eM x&&m6 S.sc x&&gm e)=true
  ·rw[if_pos hk,ah] at h;rw[ax,ax] at hk;obtain⟨i,h1,h⟩:=h;rw[ab] at h;obtain⟨c,h2,rfl⟩:=h;obtain⟨n1,n2,n3⟩:=dZ hk.1.1;have hi:=cC h1;rw[←C.N] at hi;exact A5 hi (C.vis x hk.1.2) n1 n2 (eZ n C e c h2).1 (qO hk.2)
  ·rw[if_neg hk] at h;cases h
 ·cases h
theorem gF {n:Nat}{o:Expr}{q:Nat×lJ}{name:Str}{env:Env}(h:ja n S o=some q):attributeBase o name env (eval o env)=eval o env:=by
 unfold ja at h;split at h
 ·rfl
 ·rfl
 ·cases h
theorem Ds (C:vC X S T) {n:Nat}{tg e:Expr}{c:St}{pos:Pos}(h:zy n S tg e=some c):PS X (.Assign [tg] e pos) (tS X.K T c):=by
 have hN:=C.c.nd;rw[←C.c.N] at hN;unfold zy at h;split at h
 ·rename_i x px;split at h
  ·rename_i elt tg' iter ifs sc p;by_cases hl:km S.sc x=true
   ·rw[if_pos hl,ah] at h;obtain⟨i,h1,h⟩:=h;rw[ab] at h;obtain⟨ce,h2,rfl⟩:=h;have hi:=cC h1;rw[←C.c.N] at hi;have hsw:swapsWith (.ListComp elt [⟨tg',iter,ifs,0⟩] sc p) (some (.Name x px)) pos.line X.env=pure (X.env.blockKind == .function&&X.env.kindOf x==some .local&&px.line==p.line && !(sc.names.any fun (n,k)=>n==x&&(k == .local || k == .cell))):=rfl;cases hb:(X.env.blockKind == .function&&X.env.kindOf x==some .local&&px.line==p.line && !(sc.names.any fun (n,k)=>n==x&&(k == .local || k == .cell))) with
    |false =>
     rw[hb] at hsw;exact zi hN hi (C.c.loc x hl).1 (eZ n C.c _ _ h2).1 hsw (C.c.loc x hl).2
    |true =>
     rw[hb] at hsw;cases n with
     |zero=>cases h2
     |succ n =>
      have h2:qP S (cE n) elt tg' iter ifs sc=some ce:=h2;obtain⟨pick,t,it,ci,ce',rfl,g1,g2,g3,g4,g5⟩:=mo C.c (fun C'=>eZ n C') h2;refine cO (rK g1 C.c.calm g2 g3 (nU (sZ g4)) (se g5) hN hi (C.c.loc x hl).1 (C.c.loc x hl).2 hsw) fun D σ H h=>?_
      obtain⟨P,Z,env,F,re,hz,zp,h⟩:=h;unfold bA at h;obtain⟨p,hp,h⟩:=cF h;exact nh ⟨P,env,F,re,p,hp,fun v H' G s rp rt=>xO re hz zp s rp rt h⟩
   ·rw[if_neg hl] at h;cases h
  ·by_cases hc:gj e=true
   ·rw[if_pos hc] at h;cases h
   ·rw[if_neg hc] at h;by_cases hl:km S.sc x=true
    ·rw[if_pos hl,ah] at h;obtain⟨i,h1,h⟩:=h;rw[ab] at h;obtain⟨ce,h2,rfl⟩:=h;have hi:=cC h1;rw[←C.c.N] at hi;exact zi hN hi (C.c.loc x hl).1 (eZ n C.c _ _ h2).1 (oY (by simpa using hc)) (C.c.loc x hl).2
    ·rw[if_neg hl] at h;cases h
 ·rename_i es k p;by_cases hc:(gj e || isTup e)=true
  ·rw[if_pos hc] at h;cases h
  ·rw[if_neg hc,ah] at h;simp only[Bool.or_eq_true,not_or,Bool.not_eq_true] at hc;obtain⟨is,h1,h⟩:=h;rw[ab] at h;obtain⟨ce,h2,rfl⟩:=h;obtain⟨a1,a2,a3⟩:=p8 C.c h1;refine AU (zl C.c.calm a1 a2 a3) (eZ n C.c _ _ h2).1 (oN hc.1) ?_ rfl;obtain⟨_,hc⟩:=hc;cases e<;>first | rfl | (cases hc)
 ·rename_i o ix p;by_cases ht:yd e=true
  ·rw[if_pos ht] at h;by_cases hp:gm ix=true
   ·rw[if_pos hp] at h;split at h
    ·rename_i i hq;rw[ah] at h;obtain⟨ci,h2,h⟩:=h;rw[ab] at h;obtain⟨ce,h3,rfl⟩:=h;have hpth:PE X o (i9 X.K T i .none):=gT C.c hq;refine cO (xk ?_ hpth (eZ n C.c _ _ h2).1 (eZ n C.c _ _ h3).1 ?_) fun D σ H h=>vg h
     ·have:=C.c.units;omega
     ·cases e<;>first | rfl | (cases ht)
    ·cases h
   ·rw[if_neg hp] at h;cases h
  rw[if_neg ht] at h;by_cases hc:(gj e || !gm ix)=true
  ·rw[if_pos hc] at h;cases h
  ·rw[if_neg hc,ah] at h;simp only[Bool.or_eq_true,not_or,Bool.not_eq_true,Bool.not_eq_false'] at hc;obtain⟨q,h1,h⟩:=h;rw[ah] at h;obtain⟨ci,h2,h⟩:=h;rw[ab] at h;obtain⟨ce,h3,rfl⟩:=h;refine cO (wY (eZ n C.c _ _ h3).1 (CL (gT C.c h1) (eZ n C.c _ _ h2).1 set_list ?_) (oN hc.1) ?_ rfl) fun D σ H h=>yo h
   ·intro v;obtain⟨_,hc⟩:=hc;cases ix<;>first | rfl | (cases hc)
   ·cases e<;>rfl
 ·cases h
theorem CW (C:vC X S T) {n:Nat}{o:Expr}{name:Str}{es:List Expr}{c:St}{apos cpos pos:Pos}(h:A4 n S o name es apos cpos=some c):PS X (.Expr (.Call (.Attribute o name apos) es [] cpos) pos) (tS X.K T c):=by
 unfold A4 at h;by_cases hl:(apos.endLine==cpos.line)=true
 ·rw[if_pos hl] at h;by_cases he:es.isEmpty=true
  ·rw[if_pos he,ah] at h;have he:es=[]:=by simpa using he
   subst he;obtain⟨m,hm,h⟩:=h;rw[ab] at h;obtain⟨q,hq,rfl⟩:=h;have slot:∃ id,PySem.Slot "list" name id∧typeOf (.builtin id)=pure (.type "method_descriptor")∧MtR X id (vt X.K m):=by
    unfold yl at hm;cases hm
   obtain⟨id,s1,s2,s3⟩:=slot;exact cO (jz (Dt en s1 s2 s3 (gT C.c hq) (gF hq) hl) rfl) fun D σ H h=>vM h
  rw[if_neg he,ah] at h;obtain⟨m,hm,h⟩:=h;rw[ah] at h;obtain⟨q,hq,h⟩:=h;have slot:∃ id,PySem.Slot "list" name id∧typeOf (.builtin id)=pure (.type "method_descriptor")∧MtR X id (vt X.K m):=by
   unfold BF at hm;split at hm
   ·rename_i e;cases hm;subst e;exact⟨_,PySem.F.slot_list_append,by rfl,lH⟩
   cases hm
  obtain⟨id,s1,s2,s3⟩:=slot;split at h
  ·rename_i a;rw[ab] at h;obtain⟨cs,ha,rfl⟩:=h;obtain⟨n1,c1,d1,_,hd,_⟩:=bO ha;refine cO (jz (tR en s1 s2 s3 (gT C.c hq) (dQ (eZ n C.c) ha) (gF hq) ?_ hl (bG n1) (eD hd)) rfl) fun D σ H h=>mR h
   rw[bG n1];rfl
  ·rename_i a b;rw[ab] at h;obtain⟨cs,ha,rfl⟩:=h;obtain⟨n1,c1,d1,_,hd,_⟩:=bO ha;obtain⟨n2,_,_,_,_,_⟩:=bO hd;refine cO (jz (tR en s1 s2 s3 (gT C.c hq) (dQ (eZ n C.c) ha) (gF hq) ?_ hl (bG n1) (eD hd)) rfl) fun D σ H h=>mR h
   rw[bG n1,bG n2];rfl
  ·cases h
 ·rw[if_neg hl] at h;cases h
theorem A9 (C:vC X S T) {n:Nat}{o:Expr}{name:Str}{es:List Expr}{c:St}{apos cpos pos:Pos}(h:qv n S o name es apos cpos=some c):PS X (.Expr (.Call (.Attribute o name apos) es [] cpos) pos) (tS X.K T c):=by
 unfold qv at h;split at h
 ·rename_i o2 name2 apos2 a cpos2;by_cases hc:name = "append"∧name2 = "pop"∧(apos.endLine==cpos.line)=true∧(apos2.endLine==cpos2.line)=true
  ·rw[if_pos hc] at h;obtain⟨rfl,rfl,h1,h2⟩:=hc;split at h
   ·rename_i y x hy hx;rw[ab] at h;obtain⟨cs,ha,rfl⟩:=h;obtain⟨n1,c1,d1,_,hd,_⟩:=bO ha;refine cO (jz (tR en PySem.F.slot_list_append (by rfl) lH (gT C.c hy) (lq (tR en PySem.F.slot_list_pop (by rfl) Am (gT C.c hx) (dQ (eZ n C.c) ha) (gF hx) ?_ h2 (bG n1) (eD hd)) rD) (gF hy) rfl h1 rfl rfl) rfl) fun D σ H h=>uS h
    rw[bG n1];rfl
   ·cases h
  ·rw[if_neg hc] at h;cases h
 ·cases h
theorem Cj (C:vC X S T) {n:Nat}{tg e:Expr}{c:St}{pos:Pos}(h:Ay n S tg e=some c):PS X (.Assign [tg] e pos) (tS X.K T c):=by
 cases h
theorem FP (C:vC X S T):∀(n:Nat),(∀(st:Stmt) (c:St),cS n S st=some c→PS X st (tS X.K T c))∧∀(l:List Stmt) (c:bJ),sP n S l=some c→mT X l (Bt X.K T c):=by
 intro n
 induction n with
 |zero=>exact⟨fun st c h=>(by cases h),fun l c h=>(by cases h)⟩
 |succ n ih =>
  obtain⟨i1,i2⟩:=ih;refine⟨fun st c h=>?_,fun l c h=>?_⟩
  ·cases st with
   |Assign tgs e p =>
    have h:cAs n S e tgs=some c:=h;cases tgs with
    |nil=>cases h
    |cons tg r=>cases r with
     |cons _ _=>cases h
     |nil =>
      have h:(match Ay n S tg e with
       |some c=>some c
       |none=>zy n S tg e)=some c:=h
      cases hp:Ay n S tg e with
      |some c'=>rw[hp] at h;cases h;exact Cj C hp
      |none=>rw[hp] at h;exact Ds C h
   |AugAssign tg op e p=>cases h
   |Expr e p =>
    have h:Fz n S e=some c:=h;have plain:EE n S e=some c→PS X (.Expr e p) (tS X.K T c):=fun h=>by
     unfold EE at h;by_cases hc:gj e=true
     ·rw[if_pos hc] at h;cases h
     ·rw[if_neg hc,ab] at h;obtain⟨ce,h1,rfl⟩:=h;exact zE (eZ n C.c _ _ h1).1 (oY (by simpa using hc))
    cases e with
    |Constant k x1 q=>cases k with
     |str s=>cases h;exact DL
     |_=>exact plain h
    |Call g es ks q=>cases g with
     |Attribute o name apos=>cases ks with
      |nil =>
       have h:(match qv n S o name es apos q with
        |some c=>some c
        |none=>A4 n S o name es apos q)=some c:=h
       cases ha:qv n S o name es apos q with
       |some c'=>rw[ha] at h;cases h;exact A9 C ha
       |none=>rw[ha] at h;exact CW C h
      |cons k ks=>exact plain h
     |_=>exact plain h
    |_=>exact plain h
   |Return o p=>cases o with
    |none=>cases h;exact zG
    |some e =>
     have h:(cE n S e).map .ret=some c:=h;rw[ab] at h;obtain⟨ce,h1,rfl⟩:=h;exact C5 (eZ n C.c _ _ h1).1
   |If e a b p =>
    have h:((cE n S e).bind fun c=>(sP n S a).bind fun ca=>(sP n S b).map fun cb=>St.ite c ca cb)=some c:=h;rw[ah] at h;obtain⟨cc,h1,h⟩:=h;rw[ah] at h;obtain⟨ca,h2,h⟩:=h;rw[ab] at h;obtain⟨cb,h3,rfl⟩:=h;exact CZ (eZ n C.c _ _ h1).2 (i2 _ _ h2) (i2 _ _ h3)
   |For tg iter b oe p =>
    have key:∀ c,FU n S tg iter (sP n S b) oe=some c→PS X (.For tg iter b oe p) (tS X.K T c):=by
     intro c h;cases oe with
      |cons _ _=>cases h
      |nil =>
       have h:(if g8 iter then (vq S tg).bind fun t=>(sP n S b).bind fun cb=>(match uE t cb with
        |some x=>(cE n S iter).map fun c=>St.forw x c cb
        |none=>(EA S (cE n S) (isTup tg) iter).map fun it=>St.forr t it cb) else none)=some c:=h
       by_cases hs:g8 iter=true
       ·rw[if_pos hs,ah] at h;obtain⟨t,h1,h⟩:=h;rw[ah] at h;obtain⟨cb,h3,h⟩:=h;cases hx:uE t cb with
        |some x =>
         rw[hx] at h;have h:(cE n S iter).map (fun c=>St.forw x c cb)=some c:=h;rw[ab] at h;obtain⟨ci,h2,rfl⟩:=h;have ht:=wW hx;subst ht;cases hx
        |none =>
         rw[hx] at h;have h:(EA S (cE n S) (isTup tg) iter).map (fun it=>St.forr t it cb)=some c:=h;rw[ab] at h;obtain⟨it,h2,rfl⟩:=h;exact Cd C.own C.c.calm (BH C.c (eZ n C.c) h2) (xj C.c h1) (i2 _ _ h3) (se hs)
       ·rw[if_neg hs] at h;cases h
    rcases zb h with q | ⟨x,c',q,rfl⟩
    ·exact key c q
    ·exact A1 (key c' q)
   |While e b oe p=>cases oe with
    |cons _ _=>cases h
    |nil =>
     have h:((cE n S e).bind fun c=>(sP n S b).map fun cb=>St.whl c cb)=some c:=h;rw[ah] at h;obtain⟨cc,h1,h⟩:=h;rw[ab] at h;obtain⟨cb,h3,rfl⟩:=h;exact Du C.own (eZ n C.c _ _ h1).2 (i2 _ _ h3)
   |Pass p=>cases h;exact Bc
   |Raise a b p=>cases h;exact Aa
   |Break p=>cases h;exact DP
   |Continue p=>cases h;exact Cq
   |_=>cases h
  ·cases l with
   |nil=>cases h;exact Au
   |cons st r =>
    unfold sP at h;rw[ah] at h;obtain⟨cc,h1,h⟩:=h;rw[ab] at h;obtain⟨cb,h3,rfl⟩:=h;exact yO (i1 _ _ h1) (i2 _ _ h3)
end
end Pc
end
section
namespace Pc
open PySem PySem.Spec PyProof.Rows L2
structure Df where
 nm:Str
 st:Stmt
 ps:List Str
 N:List Str
 body:bJ
structure Pg where
 dfs:List Df
 xE:List Str
 fw:List Str
 gl:Nat→D
 fuel:Nat
noncomputable def Pg.fns (p:Pg):List Fn:=p.dfs.map fun d=>⟨d.ps.length,d.N.length,d.body⟩
noncomputable def Pg.run (p:Pg):Nat→Nat→List D→Rs (D×Bool):=Pc.run p.fns p.gl p.fuel
noncomputable def Pg.sc (p:Pg) (d:Df):Sc:=⟨d.N,bF d.st,p.dfs.map (·.nm),p.xE,p.fw⟩
noncomputable def Df.okB (p:Pg) (n:Nat) (d:Df):Bool :=
 decide ((bF d.st).kind = .function) && !(bF d.st).isCoroutine && !(bF d.st).isGenerator&&decide d.N.Nodup&&decide (d.N.take d.ps.length=d.ps)&&d.ps.all (fun x=>km (bF d.st) x)&&(bF d.st).names.all (fun y=>decide (y.2≠.free))
structure Df.Ok (p:Pg) (d:Df):Prop where
 b:∃ n,sP n (p.sc d) (dP d.st)=some d.body
 S:k5 d.N d.ps (bF d.st)
 bd:∀(kV doc pm:Value) (an:Option Addr) (cdv ct:Value) (us:List Value),us.length=d.ps.length→bindArgs (PySem.W.fnOf d.nm d.nm (fF d.st) (dP d.st) (bF d.st) .none kV doc pm an cdv ct) ⟨us,[]⟩=pure (d.ps.zip us)
theorem qg {sc:Scope}{x:Str}(h:km sc x=true):Loc sc x:=by
 unfold km eB at h;split at h
 ·rename_i e;exact .inl e
 ·rename_i e;exact .inr e
 ·cases h
theorem we {sc:Scope}{x:Str}(h:m6 sc x=true):Bv sc x:=by
 unfold m6 eB at h;split at h
 ·rename_i e;exact .inl e
 ·rename_i e;exact .inr (.inl e)
 ·rename_i e;exact .inr (.inr e)
 ·cases h
theorem Ba {sc:Scope}{x:Str}(h:rk sc x=true):sc.names.lookup x=some .globalImplicit:=by
 unfold rk eB at h;split at h
 ·rename_i e;exact e
 ·cases h
theorem len0 {P:List Value→Prop}{us:List Value}(h:us.length=0) (f:P []):P us:=by
 cases us with
 |nil=>exact f
 |cons a r=>cases h
theorem Fv {P:List Value→Prop}{us:List Value}(h:us.length=1) (f:∀ a,P [a]):P us:=by
 cases us with
 |nil=>cases h
 |cons a r=>exact len0 (P:=fun r=>P (a::r)) (Nat.succ.inj h) (f a)
theorem ET {P:List Value→Prop}{us:List Value}(h:us.length=2) (f:∀ a b,P [a,b]):P us:=by
 cases us with
 |nil=>cases h
 |cons a r=>exact Fv (P:=fun r=>P (a::r)) (Nat.succ.inj h) (f a)
theorem GK {P:List Value→Prop}{us:List Value}(h:us.length=3) (f:∀ a b c,P [a,b,c]):P us:=by
 cases us with
 |nil=>cases h
 |cons a r=>exact ET (P:=fun r=>P (a::r)) (Nat.succ.inj h) (f a)
theorem len4 {P:List Value→Prop}{us:List Value}(h:us.length=4) (f:∀ a b c d,P [a,b,c,d]):P us:=by
 cases us with
 |nil=>cases h
 |cons a r=>exact GK (P:=fun r=>P (a::r)) (Nat.succ.inj h) (f a)
theorem Df.ok_of {p:Pg}{d:Df}{n:Nat}(h:d.okB p n=true) (hb:sP n (p.sc d) (dP d.st)=some d.body)
  (bd:∀(kV doc pm:Value) (an:Option Addr) (cdv ct:Value) (us:List Value),us.length=d.ps.length→bindArgs (PySem.W.fnOf d.nm d.nm (fF d.st) (dP d.st) (bF d.st) .none kV doc pm an cdv ct) ⟨us,[]⟩=pure (d.ps.zip us)):d.Ok p:=by
 unfold Df.okB at h;simp only[Bool.and_eq_true,decide_eq_true_eq,Bool.not_eq_true',List.all_eq_true] at h;obtain⟨⟨⟨⟨⟨⟨h1,h2⟩,h3⟩,h4⟩,h5⟩,h6⟩,h7⟩:=h;exact⟨⟨n,hb⟩,⟨h1,h2,h3,h4,h5,fun x hx=>qg (h6 x hx),h7⟩,bd⟩
structure Pg.In (p:Pg) (K:Frag) (mg:Str→Option Value):Prop where
 fn:∀(i:Nat) (d:Df),p.dfs[i]? = some d→∃ f fd,L2.D1 K d.nm d.nm d.st f fd∧mg d.nm=some (.ref f)
 gl:∀ i x,idxOf p.xE x=some i→∃ v u,mg x=some u∧RelV v u∧∀ H,Rep K H (p.gl i) v []
 blt:∀ x,p.fw.contains x=true→mg x=none
theorem kO {ds:List D}{n i:Nat}{d:D}{t:Tg}(h:(aE ds n)[i]? = some (some (d,t))):ds[i]? = some d∧t=cH d []:=by
 unfold aE at h;by_cases hi:i<ds.length
 ·rw[List.getElem?_append_left (by simpa using hi),List.getElem?_map] at h;rw[bc hi] at h ⊢;simp only[Option.map_some,Option.some.injEq,Prod.mk.injEq] at h;obtain⟨h1,h2⟩:=h;subst h1;exact⟨rfl,h2.symm⟩
 ·rw[List.getElem?_append_right (by simpa using Nat.le_of_not_lt hi),List.getElem?_replicate] at h;split at h<;>cases h
theorem aM.parts {K:Frag}{H:Hp}:∀{ds:List D}{vs:List V}{G:List Addr},aM K H ds vs G→∃ F:Nat→List Addr,(∀ i d,ds[i]? = some d→∃ v,vs[i]? = some v∧Rep K H d v (F i))∧(∀ i,ds[i]? = none→F i=[])∧∀ i,∀ a∈F i,a∈G
 |_,_,_,.nil=>⟨fun _=>[],fun i d h=>(by simp at h),fun _ _=>rfl,fun _ _ h=>(nomatch h)⟩
 | _,_,_,.cons (d:=d) (v:=v) (ds:=ds) (vs:=vs) (G:=G1) (G':=G2) r s=>by
  obtain⟨F,h1,h2,h3⟩:=aM.parts s;refine⟨fun i=>match i with | 0=>G1 | j+1=>F j,fun i e h=>?_,fun i h=>?_,fun i a h=>?_⟩
  ·cases i with
   |zero=>cases h;exact⟨v,rfl,r⟩
   |succ j=>exact h1 j e (by simpa using h)
  ·cases i with
   |zero=>cases h
   |succ j=>exact h2 j (by simpa using h)
  ·cases i with
   |zero=>exact bf _ h
   |succ j=>exact aq _ (h3 j a h)
theorem entry {K:Frag}{H:Hp}{ds:List D}{vs:List V}{G:List Addr}{N:List Str}(hr:aM K H ds vs G) (hl:ds.length≤N.length):∃ F,RE K (fun a=>H a≠none) (aE ds N.length) (L2.start N vs) H F∧∀ i,∀ a∈F i,a∈G:=by
 obtain⟨F,h1,h2,h3⟩:=hr.parts;have flat:∀ i d t,(aE ds N.length)[i]? = some (some (d,t))→bP t=true→F i=[]:=fun i d t h o=>by
  obtain⟨e1,e2⟩:=kO h;obtain⟨v,_,rp⟩:=h1 i d e1;unfold cH at e2;by_cases hf:d.flat=true
  ·exact rp.flat hf
  ·rw[if_neg hf] at e2;subst e2;cases o
 refine⟨F,⟨?_,fun i d t h=>?_,fun i h=>?_,fun i d t h o=>?_,fun i d h a ha=>?_,fun a h=>h⟩,h3⟩
 ·simp only[aE,L2.start,List.length_append,List.length_map,List.length_replicate,hr.len]
 ·obtain⟨e1,e2⟩:=kO h;obtain⟨v,e3,rp⟩:=h1 i d e1;refine⟨v,?_,rp⟩;unfold L2.start;have hi:i<vs.length:=(ak.mp e3).1;rw[List.getElem?_append_left (by simpa using hi),List.getElem?_map,e3];rfl
 ·cases e:ds[i]? with
  |none=>exact h2 i e
  |some d =>
   refine absurd ?_ (h d (cH d []));unfold aE;have hi:i<ds.length:=(ak.mp e).1;rw[List.getElem?_append_left (by simpa using hi),List.getElem?_map,e];rfl
 ·rw[flat i d t h o];exact⟨c7,fun _ h=>(nomatch h),fun _ h=>(nomatch h)⟩
 ·rw[flat i d _ h rfl] at ha;cases ha
theorem uQ {α:Type}{g:α→Str}:∀{l:List α}{x:Str}{i:Nat},idxOf (l.map g) x=some i→∃ a,l[i]? = some a∧g a=x:=by
 intro l x i h;have:=cC h;rw[av,ab] at this;exact this
theorem pN {H H':Hp}(e:j7 (fun a=>H a≠none) H H'):aO H H':=fun b u h=>(e.keep b (by rw[h];exact fun z=>(by cases z))).trans h
section
variable {p:Pg}{P:Program}{w:World}{K:Frag}{mg:Str→Option Value}{base:Heap}
theorem El (hp:∀ d∈p.dfs,d.Ok p) (hi:p.In K mg) (hh:BC w K):∀(n i:Nat) (d:Df),p.dfs[i]? = some d→∀ f fd,L2.D1 K d.nm d.nm d.st f fd→oT P w K mg base Cz n f fd d.ps (Dz K d.ps.length (p.run n i)):=by
 intro n
 induction n with
 |zero =>
  intro i d hd f fd F;refine⟨fun vs H Q E h=>t9 h,fun A outer s H args us vs Q E hr he hb hv hs=>?_⟩;obtain⟨ds,G,_,_,r,h,_⟩:=hs;cases h
 |succ n ih =>
  intro i d hd f fd F;obtain⟨⟨m,hb⟩,S,_⟩:=hp d (bu hd);refine F.ok S (fun vs H Q E h=>t9 h) fun cdv A outer s H vs Q E hr hs=>?_
  have C:vC (rg Cz P w K mg base d.N d.nm (bF d.st) f cdv A outer s H E).nox (p.sc d) ⟨p.run n,p.gl,p.fuel⟩:=by
   refine⟨⟨rfl,S.nd,fun x h=>we h,fun x h=>⟨qg h,.inl rfl⟩,fun x h=>Ba h,fun x h=>h,?_,rfl,fun j x hj=>?_,fun j x hj=>hi.gl j x hj,fun x h=>hi.blt x h⟩,rfl,S.kind,PassesOwn.never⟩
   ·exact⟨Nat.lt_of_le_of_lt (Nat.add_le_add_left (by decide:40≤64) _) hr.units,hh⟩
   ·obtain⟨e,he,hx⟩:=uQ hj;obtain⟨f',fd',F',M'⟩:=hi.fn j e he;have B':=F'.binds (hp e (bu he)).bd;subst hx;refine⟨f',fd',e.ps,n,ih j e he f' fd' F',hr,M',F'.kp,B',fun ds r h=>?_⟩;have h:p.run n j ds = .ok r:=h;cases n with
    |zero=>cases h
    |succ n =>
     unfold Pg.run Pc.run at h;have:p.fns[j]? = some ⟨e.ps.length,e.N.length,e.body⟩:=by unfold Pg.fns;rw[av,he];rfl
     rw[this] at h;dsimp only at h;by_cases hl:ds.length=e.ps.length
     ·exact hl
     ·rw[if_neg hl] at h;cases h
  refine⟨_,(FP C m).2 _ _ hb,?_⟩;obtain⟨ds,G,hl,rs,r,hrun,k⟩:=hs;unfold Pg.run Pc.run at hrun;have:p.fns[i]? = some ⟨d.ps.length,d.N.length,d.body⟩:=by unfold Pg.fns;rw[av,hd];rfl
  rw[this] at hrun;dsimp only at hrun;rw[if_pos hl] at hrun;have hN:ds.length≤d.N.length:=by
   rw[hl,←S.pre,eh];exact Nat.min_le_right _ _
  obtain⟨F0,re,hF⟩:=entry rs hN;refine⟨fun a=>H a≠none,fun a=>H a=none∨a∈G,aE ds d.N.length,F0,re,fun j a ha=>.inr (hF j a ha),fun a h=>.inl (Classical.not_not.mp h),?_⟩;show post K _ _ _ _ H _ (aD ⟨p.run n,p.gl,p.fuel⟩ d.body (aE ds d.N.length));have hrun:(match aD ⟨p.run n,p.gl,p.fuel⟩ d.body (aE ds d.N.length) with
   |.rt d fr=>Rs.ok (d,fr)
   |.nx _=>.ok (.non,true)
   |.xc e _=>.exc e
   |_=>.bad) = .ok r:=hrun
  cases hq:aD ⟨p.run n,p.gl,p.fuel⟩ d.body (aE ds d.N.length) with
  |rt dd fr =>
   rw[hq] at hrun;cases hrun;intro v H' G' rp ev z fz;exact k v H' G' (pN ev) rp z fun hf=>let ⟨a,b⟩:=fz hf;⟨a,fun x hx=>⟨Classical.not_not.mp (b x hx).1,(b x hx).2⟩⟩
  |nx e =>
   rw[hq] at hrun;cases hrun;intro σ' H' F' af;exact k .non H' [] (pN af.ev) .non (fun _ h=>(nomatch h)) fun _=>⟨c7,fun _ h=>(nomatch h)⟩
  |bk e=>rw[hq] at hrun;cases hrun
  |ct e=>rw[hq] at hrun;cases hrun
  |xc e e'=>rw[hq] at hrun;cases hrun
  |bad=>rw[hq] at hrun;cases hrun
end
end Pc
end
section
namespace Pc
open PySem PySem.Spec PyProof.Rows L2
noncomputable def noL (K:Frag):Bool:=K.all fun p=>match p.2.cls with
 |.type n=>!(n == "list")
 |_=>true
theorem lookup_mem:∀{K:Frag}{a:Addr}{o:Obj},K.lookup a=some o→(a,o)∈K
 |[],_,_,h=>by cases h
 | (b,x)::r,a,o,h=>by
  rw[List.lookup_cons] at h;cases e:a==b with
  |true =>
   rw[e] at h;cases h;rw[beq_iff_eq] at e;rw[e];exact ae
  |false=>rw[e] at h;exact aa _ (lookup_mem h)
theorem Ej {K:Frag}{a:Addr}{o:Obj}(h:noL K=true) (l:K.lookup a=some o) (c:o.cls = .type "list"):False:=by
 unfold noL at h;rw[cy] at h;have:=h _ (lookup_mem l);rw[c] at this;simp at this
theorem nE {K:Frag}{H:Hp}:∀ ns:List Int,aM K H (ns.map D.int) (ns.map V.int) []
 |[]=>.nil
 |n::r=>.cons (.int n) (nE r)
theorem Ef {K:Frag}{H:Hp}{a:Addr}{ns:List Int}{f:List D→Rs (D×Bool)}{E:XK}{fr:Bool}(hL:noL K=true) (hS:j8 K H a (ns.map V.int)) (hf:f [.lst (ns.map D.int)] = .ok (.bl true,fr)):Dz K 1 f [.ref a] H (fun v _=>v = .bl true) E:=by
 rcases hS with h | ⟨o,its,n,h1,h2,_⟩
 ·refine⟨[.lst (ns.map D.int)],[a] ++ [],rfl,.cons (.lst h (nE ns)) .nil,(.bl true,fr),hf,fun v H' G' _ rp _ _=>?_⟩;exact rp.bl_inv.1
 ·exact (Ej hL h1 h2).elim
noncomputable def uD (es:List DictEntry):Bool:=es.all (fun e=>match e.val with
  |.int _ _=>true
  |.none=>true
  |_=>false)&&es.any (fun e=>match e.key with
  |.str _ _=>true
  |_=>false)
noncomputable def noS (as:List Addr) (K:Frag):Bool:=K.all fun p=>as.contains p.1 || match p.2.data with
 |.dict es _=>!uD es.toList
 |_=>true
theorem iP.vals {es:List DictEntry}{kvs:List (Key×Option Int)}(h:iP es kvs):es.all (fun e=>match e.val with
  |.int _ _=>true
  |.none=>true
  |_=>false)=true:=by
 induction h with
 |nil=>rfl
 |cons hh hk hv r ih=>rw[dz,hv,ih];rfl
 |si hk hv r ih=>rw[dz,hv,ih];rfl
 |sn hk hv r ih=>rw[dz,hv,ih];rfl
theorem Fy {w:World}{K:Frag}(as:List Addr) (h:noS as K=true) (h0:∀ a∈as,∀ o es ep,K.lookup a=some o→o.data = .dict es ep→∀ e∈es.toList,∀ s t,e.key = .str s t→(a==sysModules)=false∧e.hash=hashStr w s):BC w K:=by
 intro a o es ep hl hd kvs he e hm s t hk;by_cases ha:a∈as
 ·exact h0 a ha o es ep hl hd e hm s t hk
 ·unfold noS at h;rw[cy] at h;have:=h _ (lookup_mem hl);dsimp only at this;rw[hd,show as.contains a=false by rw[Bool.eq_false_iff];intro z;exact ha (ef.mp z),Bool.false_or] at this;dsimp only at this;unfold uD at this;rw[he.vals,Bool.true_and,Bool.not_eq_true'] at this;have h2:es.toList.any (fun e=>match e.key with
   |.str _ _=>true
   |_=>false)=true:=by
   rw[List.any_eq_true];exact⟨e,hm,by rw[hk]⟩
  rw[h2] at this;cases this
noncomputable def hashes (w:World):List DictEntry→Prop
 |[]=>True
 |e::r=>(match e.key with
  |.str s _=>e.hash=hashStr w s
  |_=>True)∧hashes w r
theorem FN {w:World}{K:Frag}(h:noS [] K=true):BC w K:=Fy [] h fun a ha=>(nomatch ha)
noncomputable def Has (K:Frag) (d:Df):Prop:=∃(f:Addr) (oc:Value) (od:Option Addr) (kV dc pm:Value) (an:Option Addr) (cd ct:Value) (sl:Array (Option Value)),
 PySem.W.nsIn K mainGlobals d.nm=some (some (.ref f))∧K.lookup f=some ⟨oc,od,.func (PySem.W.fnOf d.nm d.nm (fF d.st) (dP d.st) (bF d.st) .none kV dc pm an cd ct),sl⟩∧PySem.W.codeIn K cd d.nm=true∧PySem.W.keepIn K (.ref f)=true
noncomputable def qp (K:Frag) (x:Str) (d:D):Prop:=∃ v u,PySem.W.nsIn K mainGlobals x=some (some u)∧RelV v u∧∀ H,Rep K H d v []
noncomputable def vL {α:Type}(P:α→Prop):List α→Prop
 |[]=>True
 |a::r=>P a∧vL P r
theorem iO {α:Type}{P:α→Prop}:∀{l:List α},vL P l→∀ a∈l,P a
 |[],_,a,h=>by cases h
 | b::r,⟨h1,h2⟩,a,h=>by
  rcases az.mp h with rfl | h
  ·exact h1
  ·exact iO h2 a h
structure rO (p:Pg) (K:Frag):Prop where
 fn:vL (Has K) p.dfs
 gl:∀ i x,idxOf p.xE x=some i→qp K x (p.gl i)
 blt:vL (fun x=>PySem.W.nsIn K mainGlobals x=some none) p.fw
theorem rO.isin {p:Pg}{K:Frag}{h:Heap}{mg:Str→Option Value}(s:rO p K) (X:K.In h) (G:h.Ns mainGlobals mg):p.In K mg where
 fn:=fun i d hd=>by
  obtain⟨f,oc,od,kV,dc,pm,an,cd,ct,sl,a,l,c,k⟩:=iO s.fn d (bu hd);exact⟨f,_,C2 (st:=d.st) l c k,PySem.W.mg_of X G a⟩
 gl:=fun i x hx=>by
  obtain⟨v,u,a,b,c⟩:=s.gl i x hx;exact⟨v,u,PySem.W.mg_of X G a,b,c⟩
 blt:=fun x hx=>PySem.W.mg_none_of X G (iO s.blt x (by simpa using hx))
theorem walk {l:PySem.W.OpenLaw}{q:Program}{loose:List Str}{XP:(Str→Option Value)→Heap→Prop}{YP:World→Heap→Prop}{d:DefRec}{K:Params→PySem.W.Frag}(p:Pg) (n i:Nat) (x:Str) (e:Df) (hn:l.most=some 63) (hdf:d.params.defaults=[])
  (hY:∀(w:World) (h:Heap),YP w h→(K w.params).In h) (hd:p.dfs[i]? = some e) (hps:e.ps=[x]) (hnm:d.name=e.nm) (hr:iE n callerA) (ok:vL (Df.Ok p) p.dfs) (st:∀ w:World,rO p (K w.params)) (hL:∀ w:World,noL (K w.params)=true) (hH:∀ w:World,BC w (K w.params))
  (law:∀ ns:List Int,ns.length≤63→∃ fr,p.run n i [.lst (ns.map D.int)] = .ok (.bl true,fr)) :
  PySem.W.WalkO q loose XP YP l.row.toRowW d [] (fun f vs=>PySem.call f vs):=by
 refine L2.AF (n:=63) (k:=n) (x:=x) (CX:=fun _=>Cz) (sp:=fun w=>Dz (K w.params) 1 (p.run n i)) hn (by decide) hdf hr hY (fun w mg fa h KX G hm=>?_) (fun w H a ns hl _ hS=>?_) fun _ _ _ _ _ z=>z
 ·have I:=(st w).isin KX G;obtain⟨f,fd,F,m⟩:=I.fn i e hd;rw[hnm,m] at hm;obtain rfl:f=fa:=by cases hm;rfl
  refine⟨fd,fun s u=>?_,fun base kb nb=>?_⟩
  ·obtain⟨oc,od,kV,doc,pm,an,cdv,ct,osl,rfl,lk,hcd⟩:=F.ex;have:=(iO ok e (bu hd)).bd kV doc pm an cdv ct [u] (by rw[hps];rfl);rw[hps] at this;exact .of_eq this
  ·have:=El (P:=l.prog) (w:=w) (base:=base) (iO ok) I (hH w) n i e hd f fd F;rw[hps] at this;exact this
 ·obtain⟨fr,h⟩:=law ns hl;exact Ef (hL w) hS h
end Pc
end
section
namespace Pc
open PySem PySem.Spec PyProof.Rows L2
end Pc
end
section
namespace Pc
open PySem
theorem aA {α β:Type}(a:α) (f:α→Rs β):(Rs.ok a).bind f=f a:=rfl
theorem aN {α:Type}(env:En) (a:α) (k:α→Fl):gY env (.ok a) k=k a:=rfl
theorem aC (e:En) (k:En→Fl):(Fl.nx e).andThen k=k e:=rfl
theorem fB (d:D) (b:Bool) (k:En→Fl):(Fl.rt d b).andThen k = .rt d b:=rfl
theorem aK {α:Type}(a:α):fR (some a) = .ok a:=rfl
theorem aL (op:Operator) (i j:Int):kY op (.int i) (.int j)=(Pc.binI op i j).map .int:=by cases op<;>rfl
theorem bE (i:Int) (R:List Nat):ik (.int i) R = .mv []:=rfl
theorem mC:∀ l:List Int,D.flats (l.map D.int)=true
 |[]=>rfl
 |_::r=>mC r
theorem pX (n:Nat):∀ a b:List Int,a.length=b.length→va (D.eqf (n+1)) (a.map D.int) (b.map D.int)=some (a==b)
 |[],[],_=>rfl
 | x::a,y::b,h=>by
  simp only[List.map_cons,va,D.eqf,Option.bind_some];rw[pX n a b (by simpa using h)];simp
 |[],_::_,h=>by simp at h
 |_::_,[],h=>by simp at h
theorem tP (n:Nat) (a b:List Int):D.eqf (n+2) (.lst (a.map D.int)) (.lst (b.map D.int))=some (a==b):=by
 unfold D.eqf;by_cases h:a.length=b.length
 ·rw[if_pos (by simpa using h),pX n a b h]
 ·rw[if_neg (by simpa using h)];have:(a==b)=false:=by
   rw[beq_eq_false_iff_ne];rintro rfl;exact h rfl
  rw[this]
theorem rA {x:Int}(h:0≤x):Builtin.bitAnd x 1=x%2:=by
 unfold Builtin.bitAnd;rw[decide_eq_true h];show ((x.toNat &&& 1:Nat):Int)=_;rw[Nat.and_one_is_mod];omega
theorem mE {t:lj}{R:List Nat}{b:En→Fl}(J:Nat→En→Prop):∀(l:List D) (k:Nat) (env:En),J k env →
  (∀(i:Nat) (d:D) (e:En),l[i]? = some d→J (k+i) e→∃ e1 e2,aS R t d e=some e1∧b e1 = .nx e2∧J (k+i+1) e2)→∃ e,bL t R b l env = .nx e∧J (k+l.length) e
 |[],k,env,h,_=>⟨env,rfl,h⟩
 | d::r,k,env,h,st=>by
  obtain⟨e1,e2,h1,h2,h3⟩:=st 0 d env rfl h;obtain⟨e,q1,q2⟩:=mE J r (k+1) e2 h3 fun i d' e hi hj=>by
   have:=st (i+1) d' e (by simpa using hi) (by rw[show k+(i+1)=k+1+i by omega];exact hj);rw[show k+(i+1)+1=k+1+i+1 by omega] at this;exact this
  refine⟨e,?_,by rw[du,show k+(r.length+1)=k+1+r.length by omega];exact q2⟩;unfold bL;rw[h1];dsimp only;rw[h2];exact q1
end Pc
end
section
namespace Pc
open PySem PySem.Spec PyProof.Rows L2
theorem Dn {K:Frag}{d:Df}{f:Addr}{oc:Value}{od:Option Addr}{kV dc pm:Value}{an:Option Addr}{cd ct:Value}{sl:Array (Option Value)}
 (a:PySem.W.nsIn K mainGlobals d.nm=some (some (.ref f))) (l:K.lookup f=some ⟨oc,od,.func (PySem.W.fnOf d.nm d.nm (fF d.st) (dP d.st) (bF d.st) .none kV dc pm an cd ct),sl⟩) (c:PySem.W.codeIn K cd d.nm=true) (k:PySem.W.keepIn K (.ref f)=true):Has K d :=
 ⟨f,oc,od,kV,dc,pm,an,cd,ct,sl,a,l,c,k⟩
theorem gl_int {K:Frag}{x:Str}{i:Int}{t:Tok}(h:PySem.W.nsIn K mainGlobals x=some (some (.int i t))):qp K x (.int i):=⟨.int i,_,h,⟨t,rfl⟩,fun _=>.int i⟩
noncomputable def pI (K:Frag) (g:Nat→D):Nat→List Str→Prop
 |_,[]=>True
 |i,x::r=>qp K x (g i)∧pI K g (i+1) r
theorem qr {K:Frag}{g:Nat→D}:∀{l:List Str}{k i:Nat}{x:Str},pI K g k l→idxOf l x=some i→qp K x (g (k+i))
 | y::r,k,i,x,⟨h1,h2⟩,e=>by
  unfold idxOf at e;by_cases hx:y=x
  ·rw[if_pos hx] at e;cases e;subst hx;exact h1
  ·rw[if_neg hx,ab] at e;obtain⟨j,hj,rfl⟩:=e;have:=qr h2 hj;rw[show k+1+j=k+(j+1) by omega] at this;exact this
theorem z5 {K:Frag}{g:Nat→D}{l:List Str}(h:pI K g 0 l):∀ i x,idxOf l x=some i→qp K x (g i):=fun i x e=>by
 have:=qr h e
 rwa [Nat.zero_add] at this
end Pc
end
section
namespace Fl64
noncomputable def dbl (a:Nat):Nat:=if 64≤2*a then (2*a)^^^67 else 2*a
noncomputable def g6:Nat→Nat→Nat→Nat→Nat
 |0,p,_,_=>p
 |n+1,p,d,l=>if l=0 then p else g6 n (if l%2=1 then p^^^d else p) (dbl d) (l / 2)
noncomputable def tm (a b:Nat):Nat:=g6 6 0 a b
noncomputable def allB (n:Nat) (f:Nat→Bool):Bool:=match n with
 |0=>true
 |k+1=>f k&&allB k f
theorem eU:∀{n:Nat}{f:Nat→Bool},allB n f=true→∀ i,i<n→f i=true
 |0,_,_,i,h=>absurd h (Nat.not_lt_zero i)
 | k+1,f,h,i,hi=>by
  unfold allB at h;rw[ax] at h;rcases Nat.lt_succ_iff_lt_or_eq.mp hi with q | q
  ·exact eU h.2 i q
  ·subst q;exact h.1
theorem all2 {f:Nat→Nat→Bool}(h:allB 64 (fun a=>allB 64 (f a))=true) {a b:Nat}(ha:a<64) (hb:b<64):f a b=true:=eU (eU h a ha) b hb
theorem bC {a b:Nat}(ha:a<64) (hb:b<64):tm a b<64:=by
 have:=all2 (f:=fun a b=>decide (tm a b<64)) (by decide +kernel) ha hb;exact of_decide_eq_true this
theorem dO {a b:Nat}(ha:a<64) (hb:b<64):tm a b=tm b a:=by
 have:=all2 (f:=fun a b=>decide (tm a b=tm b a)) (by decide +kernel) ha hb;exact of_decide_eq_true this
theorem ke {a:Nat}(ha:a<64):tm a 1=a:=by
 have:=eU (n:=64) (f:=fun a=>decide (tm a 1=a)) (by decide +kernel) a ha;exact of_decide_eq_true this
theorem lZ {a:Nat}(ha:a<64):tm 1 a=a:=by rw[dO (by decide) ha,ke ha]
theorem fS (a:Nat):tm a 0=0:=rfl
theorem cA {a:Nat}(ha:a<64):tm 0 a=0:=by rw[dO (by decide) ha,fS]
theorem aT {a b:Nat}(ha:a<64) (hb:b<64):a^^^b<64:=Nat.xor_lt_two_pow (n:=6) ha hb
theorem yZ (b c:Nat):(b^^^c) / 2=(b / 2)^^^(c / 2):=by
 have:=@Nat.shiftRight_xor_distrib 1 b c;simpa[Nat.shiftRight_eq_div_pow] using this
theorem zQ (b c:Nat):(b^^^c)%2=(b%2+c%2)%2:=by
 have:=@Nat.xor_mod_two_pow b c 1;rw[Nat.pow_one] at this;rw[this];rcases Nat.mod_two_eq_zero_or_one b with hb | hb<;>rcases Nat.mod_two_eq_zero_or_one c with hc | hc<;>simp[hb,hc]
theorem jj:∀(n p d l:Nat),g6 n p d l=p^^^g6 n 0 d l
 |0,p,_,_=>by simp[g6]
 | n+1,p,d,l=>by
  unfold g6;by_cases h:l=0
  ·simp[h]
  ·rw[if_neg h,if_neg h,jj n,jj n (if l%2=1 then 0^^^d else 0)];by_cases o:l%2=1
   ·rw[if_pos o,if_pos o,cu,br]
   ·rw[if_neg o,if_neg o,cu]
theorem kh (n d l:Nat):g6 (n+1) 0 d l=(if l%2=1 then d else 0)^^^g6 n 0 (dbl d) (l / 2):=by
 have z:∀ n d,g6 n 0 d 0=0:=fun n d=>by cases n<;>simp[g6]
 conv=>lhs;unfold g6
 by_cases h:l=0
 ·subst h;simp[z]
 ·rw[if_neg h,jj];by_cases o:l%2=1
  ·rw[if_pos o,if_pos o,cu]
  ·rw[if_neg o,if_neg o]
theorem qW:∀(n d b c:Nat),g6 n 0 d (b^^^c)=g6 n 0 d b^^^g6 n 0 d c
 |0,_,_,_=>by simp[g6]
 | n+1,d,b,c=>by
  rw[kh,kh,kh,yZ,qW n,zQ];have e:(if (b%2+c%2)%2=1 then d else 0)=(if b%2=1 then d else 0)^^^(if c%2=1 then d else 0):=by
   rcases Nat.mod_two_eq_zero_or_one b with hb | hb<;>rcases Nat.mod_two_eq_zero_or_one c with hc | hc<;>simp[hb,hc]
  rw[e];generalize (if b%2=1 then d else 0)=x;generalize (if c%2=1 then d else 0)=y;generalize g6 n 0 (dbl d) (b / 2)=u;generalize g6 n 0 (dbl d) (c / 2)=v;rw[br,br,←br y,Nat.xor_comm y u,br u y v]
theorem iz (a b c:Nat):tm a (b^^^c)=tm a b^^^tm a c:=qW 6 a b c
theorem iF {a b c:Nat}(ha:a<64) (hb:b<64) (hc:c<64):tm (a^^^b) c=tm a c^^^tm b c:=by
 rw[dO (aT ha hb) hc,iz,dO hc ha,dO hc hb]
noncomputable def fL (c k:Nat):Nat:=if c / 2 ^ k%2=1 then 2 ^ k else 0
theorem zd {c:Nat}(hc:c<64):c=fL c 0^^^(fL c 1^^^(fL c 2^^^(fL c 3^^^(fL c 4^^^fL c 5)))):=by
 have:=eU (n:=64) (f:=fun c=>decide (c=fL c 0^^^(fL c 1^^^(fL c 2^^^(fL c 3^^^(fL c 4^^^fL c 5)))))) (by decide +kernel) c hc;exact of_decide_eq_true this
noncomputable def asB (a b:Nat):Bool:=allB 6 fun k=>decide (tm (tm a b) (2 ^ k)=tm a (tm b (2 ^ k)))
theorem Ah {a b k:Nat}(ha:a<64) (hb:b<64) (hk:k<6):tm (tm a b) (2 ^ k)=tm a (tm b (2 ^ k)):=by
 have:=all2 (f:=asB) (by decide +kernel) ha hb;exact of_decide_eq_true (eU this k hk)
theorem kx {a b c k:Nat}(ha:a<64) (hb:b<64) (hk:k<6):tm (tm a b) (fL c k)=tm a (tm b (fL c k)):=by
 unfold fL;by_cases h:c / 2 ^ k%2=1
 ·rw[if_pos h,Ah ha hb hk]
 ·rw[if_neg h,fS,fS,fS]
theorem dA {a b c:Nat}(ha:a<64) (hb:b<64) (hc:c<64):tm (tm a b) c=tm a (tm b c):=by
 rw[zd hc];simp only[iz];rw[kx ha hb (by decide),kx ha hb (by decide),kx ha hb (by decide),kx ha hb (by decide),kx ha hb (by decide),kx ha hb (by decide)]
end Fl64
end
section
namespace Pc
open PySem
theorem qU:∀(n a b:Nat),a<2 ^ n→(a^^^b)+(a &&& b)=a ||| b
 | 0,a,b,h=>by
  have:a=0:=by simpa using h
  subst this;simp
 | n+1,a,b,h=>by
  have ih:=qU n (a / 2) (b / 2) (by rw[Nat.pow_succ] at h;omega);have x1:(a^^^b) / 2=(a / 2)^^^(b / 2):=by have:=@Nat.shiftRight_xor_distrib 1 a b;simpa[Nat.shiftRight_eq_div_pow] using this
  have x2:(a &&& b) / 2=(a / 2) &&& (b / 2):=by have:=@Nat.shiftRight_and_distrib 1 a b;simpa[Nat.shiftRight_eq_div_pow] using this
  have x3:(a ||| b) / 2=(a / 2) ||| (b / 2):=by have:=@Nat.shiftRight_or_distrib 1 a b;simpa[Nat.shiftRight_eq_div_pow] using this
  have y1:=@Nat.xor_mod_two_pow a b 1;have y2:=@Nat.and_mod_two_pow a b 1;have y3:=@Nat.or_mod_two_pow a b 1;rw[Nat.pow_one] at y1 y2 y3;have z:(a%2^^^b%2)+(a%2 &&& b%2)=a%2 ||| b%2:=by
   rcases Nat.mod_two_eq_zero_or_one a with ha | ha<;>rcases Nat.mod_two_eq_zero_or_one b with hb | hb<;>rw[ha,hb]<;>rfl
  have d1:=Nat.div_add_mod (a^^^b) 2;have d2:=Nat.div_add_mod (a &&& b) 2;have d3:=Nat.div_add_mod (a ||| b) 2;rw[x1,y1] at d1;rw[x2,y2] at d2;rw[x3,y3] at d3;omega
theorem rH (a b:Nat):Builtin.bitAnd (a:Int) (b:Int)=((a &&& b:Nat):Int):=by
 unfold Builtin.bitAnd;rw[decide_eq_true (fi a),decide_eq_true (fi b)];rfl
theorem vO (a b:Nat):Builtin.bitOr (a:Int) (b:Int)=((a ||| b:Nat):Int):=by
 unfold Builtin.bitOr Builtin.bitAnd Builtin.bitNot;rw[decide_eq_false (by omega),decide_eq_false (by omega)];have e:∀ c:Nat,(-(-(c:Int) - 1) - 1).toNat=c:=fun c=>by omega
 show -(-((((-(-(a:Int) - 1) - 1).toNat ||| (-(-(b:Int) - 1) - 1).toNat:Nat):Int)) - 1) - 1=_;rw[e,e];omega
theorem dG (a b:Nat):Builtin.bitXor (a:Int) (b:Int)=((a^^^b:Nat):Int):=by
 unfold Builtin.bitXor;rw[rH,vO,←qU a a b (Nat.lt_two_pow_self)];omega
noncomputable def jB (g f:Nat):bJ:=(.cons (.ite (.cmp .Eq (.bin .Mod (.var 4) (.cst (.int (2)))) (.cst (.int (1)))) (.cons (.asg (.nm 2) (.bin .BitXor (.var 2) (.var 3)) false)
  .nil) .nil)
  (.cons (.asg (.nm 3) (.bin .Mult (.cst (.int (2))) (.var 3)) false)
  (.cons (.ite (.cmp .GtE (.var 3) (.glb g)) (.cons (.asg (.nm 3) (.bin .BitXor (.var 3) (.glb f)) false)
  .nil) .nil)
  (.cons (.asg (.nm 4) (.bin .FloorDiv (.var 4) (.cst (.int (2)))) false)
  .nil))))
noncomputable def rF (g f:Nat):bJ:=(.cons (.asg (.nm 2) (.cst (.int (0))) false)
  (.cons (.asg (.nm 3) (.var 0) false)
  (.cons (.asg (.nm 4) (.var 1) false)
  (.cons (.whl (.cmp .Gt (.var 4) (.cst (.int (0)))) (jB g f))
  (.cons (.ret (.var 2))
  .nil)))))
noncomputable abbrev sI (i:Int):Slot:=some (.int i,.own)
noncomputable abbrev sN (i:Nat):Slot:=some (.int (i:Int),.own)
theorem C9:small 2=true:=by decide
theorem r9 {T:Tb}{g f:Nat}(hg:T.gl g = .int 64) (hf:T.gl f = .int 67) (A B p d l:Int) :
  aD T (jB g f) [sI A,sI B,sI p,sI d,sI l] = .nx [sI A,sI B,sI (if l%2=1 then Builtin.bitXor p d else p),sI (if 64≤2*d then Builtin.bitXor (2*d) 67 else 2*d),sI (l / 2)]:=by
 have e1:(l%2==1)=decide (l%2=1):=rfl;by_cases h1:l%2=1<;>by_cases h2:64≤2*d <;>
  simp[e1,jB,aD,bA,ev,aA,aN,aK,aL,Pc.binI,iu,iZ,D.eqf,truth,D.flat,bE,iI,put,Tg.drop,aC,hg,hf,h1,h2,C9]
theorem hV (T:Tb) (A B p d l:Int):((ev T (.cmp .Gt (.var 4) (.cst (.int 0))) [sI A,sI B,sI p,sI d,sI l]).bind fun p=>fR (truth p.1)) = .ok (decide (0<l)):=by
 simp[ev,aA,aK,iu,iZ,truth,D.flat]
theorem oC {T:Tb}{g f:Nat}(hg:T.gl g = .int 64) (hf:T.gl f = .int 67) (A B:Int):∀(n fuel p d l:Nat),l<2 ^ n→n<fuel →
  ∃ d' l':Int,eP (fun env=>(ev T (.cmp .Gt (.var 4) (.cst (.int 0))) env).bind fun p=>fR (truth p.1)) (aD T (jB g f)) fuel [sI A,sI B,sN p,sN d,sN l] = .nx [sI A,sI B,sN (Fl64.g6 n p d l),sI d',sI l']
 |n,0,p,d,l,_,hf'=>absurd hf' (Nat.not_lt_zero _)
 | 0,fuel+1,p,d,l,hl,_=>by
  have:l=0:=by simpa using hl
  subst this;refine⟨d,0,?_⟩;rw[eP,hV];rfl
 | n+1,fuel+1,p,d,l,hl,hn=>by
  rw[eP,hV,aN];by_cases h0:l=0
  ·subst h0;refine⟨d,0,?_⟩;rfl
  ·have hp:decide ((0:Int)<(l:Int))=true:=by rw[decide_eq_true_eq];omega
   rw[if_pos hp,r9 hg hf];have e1:(if (l:Int)%2=1 then Builtin.bitXor (p:Int) (d:Int) else (p:Int))=((if l%2=1 then p^^^d else p:Nat):Int):=by
    rw[dG];by_cases h:l%2=1
    ·rw[if_pos h,if_pos (by omega)]
    ·rw[if_neg h,if_neg (by omega)]
   have e2:(if 64≤2*(d:Int) then Builtin.bitXor (2*(d:Int)) 67 else 2*(d:Int))=((Fl64.dbl d:Nat):Int):=by
    unfold Fl64.dbl;by_cases h:64≤2*d
    ·rw[if_pos h,if_pos (by omega)];exact dG (2*d) 67
    ·rw[if_neg h,if_neg (by omega)];simp
   have e3:(l:Int) / 2=((l / 2:Nat):Int):=by omega
   rw[e1,e2,e3];obtain⟨d',l',h⟩:=oC hg hf A B n fuel (if l%2=1 then p^^^d else p) (Fl64.dbl d) (l / 2) (by rw[Nat.pow_succ] at hl;omega) (by omega);refine⟨d',l',?_⟩;dsimp only;rw[h]
   conv=>rhs;unfold Fl64.g6
   rw[if_neg h0]
noncomputable def ret (f:Fl):Rs (D×Bool):=match f with
 |.rt d fr=>.ok (d,fr)
 |.nx _=>.ok (.non,true)
 |.xc e _=>.exc e
 |_=>.bad
theorem aY {fns:List Fn}{gl:Nat→D}{fuel n i:Nat}{F:Fn}{ds:List D}(h:fns[i]? = some F) (hl:ds.length=F.ps):Pc.run fns gl fuel (n+1) i ds=ret (aD ⟨Pc.run fns gl fuel n,gl,fuel⟩ F.body (aE ds F.slots)):=by
 unfold Pc.run;rw[h];dsimp only;rw[if_pos hl];rfl
theorem yh {T:Tb}{g f:Nat}(hg:T.gl g = .int 64) (hf:T.gl f = .int 67) (hfu:7≤T.fuel) (a b:Nat) (hb:b<64):ret (aD T (rF g f) (aE [.int a,.int b] 5)) = .ok (.int (Fl64.tm a b:Nat),true):=by
 have hst:aE [.int a,.int b] 5=[sN a,sN b,none,none,none]:=rfl;rw[hst];unfold rF;have h1:bA T (.asg (.nm 2) (.cst (.int 0)) false) [sN a,sN b,none,none,none] = .nx [sN a,sN b,sI 0,none,none]:=rfl;have h2:bA T (.asg (.nm 3) (.var 0) false) [sN a,sN b,sI 0,none,none] = .nx [sN a,sN b,sI 0,sN a,none]:=rfl;have h3:bA T (.asg (.nm 4) (.var 1) false) [sN a,sN b,sI 0,sN a,none] = .nx [sN a,sN b,sI 0,sN a,sN b]:=rfl;rw[aD,h1,aC,aD,h2,aC,aD,h3,aC,aD];obtain⟨d',l',h⟩:=oC (T:=T) hg hf a b 6 T.fuel 0 a b hb (by omega);have h4:bA T (.whl (.cmp .Gt (.var 4) (.cst (.int 0))) (jB g f)) [sN a,sN b,sI 0,sN a,sN b] = .nx [sN a,sN b,sN (Fl64.tm a b),sI d',sI l']:=by
  rw[bA];exact h
 rw[h4,aC];show ret (aD T (.cons (.ret (.var 2)) .nil) [sN a,sN b,sI ((Fl64.tm a b:Nat):Int),sI d',sI l'])=_;generalize ((Fl64.tm a b:Nat):Int)=x;rfl
theorem mG {a m:Int}(h0:0≤a) (h1:a<m):∃ n:Nat,a=(n:Int)∧(n:Int)<m:=⟨a.toNat,by omega,by omega⟩
noncomputable abbrev sS (S:List D):Slot:=some (.lst S,.sh [])
theorem xF {x:Int}(h0:0≤x) (h1:x<2147483648):small x=true:=decide_eq_true ⟨by omega,by omega⟩
theorem f7 {n k:Nat}(h:k<n):kZ n (k:Int)=some k:=by
 unfold kZ;rw[if_pos (by omega),if_pos (by omega),cz]
theorem ou:∀(n:Nat) (a:Int) (i:Nat) (d:D),(bH a 1 n)[i]? = some d→i<n∧d = .int (a+i)
 |0,a,i,d,h=>by simp[bH] at h
 |n+1,a,0,d,h=>by simp[bH] at h;exact⟨by omega,by rw[←h];simp⟩
 | n+1,a,i+1,d,h=>by
  rw[bH,List.getElem?_cons_succ] at h;obtain⟨h1,h2⟩:=ou n (a+1) i d h;refine⟨by omega,?_⟩;rw[h2];congr 1;omega
theorem yb (env:En):lock [] env=env:=by
 unfold lock;have:∀(l:En) (k:Nat),(l.mapIdx fun i (s:Slot)=>match s with
  | some (d,.own)=>if ([]:List Nat).contains i then some (d,.lk) else some (d,.own)
  |s=>s)=l:=fun l k=>by
  rw[List.mapIdx_eq_iff];intro i;cases h:l[i]? with
  |none=>rfl
  |some s =>
   cases s with
   |none=>rfl
   |some p=>obtain⟨d,t⟩:=p;cases t<;>rfl
 exact this env 0
theorem fin (T:Tb) (e:En):ret (aD T (.cons (.ret (.cst (.bl true))) .nil) e) = .ok (.bl true,true):=rfl
theorem sC (e0 env:En):unlock [] e0 env=env:=by
 unfold unlock;rw[List.mapIdx_eq_iff];intro i;cases h:env[i]? with
 |none=>rfl
 |some s =>
  cases s with
  |none=>rfl
  |some p =>
   obtain⟨d,t⟩:=p;cases t with
   |lk =>
    simp only[Option.map_some];split<;>rfl
   |own=>rfl
   |sh R=>rfl
theorem bW {T:Tb}{t:lj}{it:qE}{b:bJ}{env e:En}{l:List D}(hit:eW T it env = .ok (l,[])) (h:bL t [] (aD T b) l env = .nx e):bA T (.forr t it b) env = .nx e:=by
 rw[bA,hit,aN];dsimp only;rw[yb,h];dsimp only;rw[sC]
end Pc
end
section
namespace Pc
open PySem
noncomputable abbrev sq (M:List (List D)):D:=.lst (M.map D.lst)
noncomputable def okC:D→Bool
 |.int _=>true
 |.non=>true
 |_=>false
structure Sqr (n:Nat) (M:List (List D)):Prop where
 len:M.length=n
 row:∀ r∈M,r.length=n
 cell:∀ r∈M,∀ d∈r,okC d=true
theorem lC {f:D→Rs (Option (D×Rt))}{g:D→D×Rt}:∀{l:List D},(∀ d∈l,f d = .ok (some (g d)))→cR f l = .ok (l.map g)
 |[],_=>rfl
 | d::l,h=>by
  simp only[List.map_cons,cR];rw[h d ae,lC fun j hj=>h j (aa _ hj)];rfl
theorem jU {T:Tb}{own:Nat}{pick:List Nat}{t:lj}{it:qE}{e:Ex}{env:En}{l:List D}{R:List Nat}{g:D→D×Rt}(hit:eW T it env = .ok (l,R)) (hl:l.length≤lim) (hg:∀ d∈l,aU (aS [] t d (aJ env own pick)) (j9 T .none) (ev T e) = .ok (some (g d))) (hf:∀ d∈l,((g d).1.flat || eV (g d).2)=true) :
  ev T (.comp own pick t it .none e) env = .ok (.lst (l.map fun d=>(g d).1),.mv []):=by
 rw[ev,hit,aA,lC hg,aA];dsimp only;rw[if_pos hl,if_pos]
 ·rw[bq];rfl
 ·rw[List.all_map,cy];exact hf
theorem dB {l:List D}(h:D.flats l=true) (R:List Nat):ik (.lst l) R = .mv []:=by
 unfold ik;rw[if_pos];exact h
theorem gu {T:Tb}{e:Ex}{env:En}{d:D}(h:ev T e env = .ok (d,.mv [])):ret (aD T (.cons (.ret e) .nil) env) = .ok (d,true):=by
 rw[aD,bA,h,aN];rfl
theorem cU {n:Nat}(h:n≤1000):n≤lim:=cv h (by decide)
theorem pG (T:Tb) (env:En) (e:Ex) (j:Int) (r:Rt) (he:ev T e env = .ok (.int j,r)) (h1:fO j=true):eW T (.rng1 e) env = .ok (bH 0 1 j.toNat,[]):=by
 rw[eW,he,aA];show (if fO j=true then Rs.ok (bH 0 1 j.toNat,[]) else .bad)=_;rw[if_pos h1]
theorem pQ {n:Nat}(h:n≤1000):fO (n:Int)=true:=by
 unfold fO;exact decide_eq_true ⟨Int.le_trans (by decide) (fi n),Int.lt_of_le_of_lt (Int.ofNat_le.mpr h) (by decide)⟩
end Pc
end
section
namespace Pc
open PySem
noncomputable def bK (s:Slot):Prop:=s=none∨(∃ d,s=some (d,.own))∨(∃ d,s=some (d,.sh []))∨∃ d,s=some (d,.lk)
noncomputable def Tame (env:En):Prop:=∀ s∈env,bK s
theorem aG:bK none:=.inl rfl
theorem aB (d:D):bK (some (d,.own)):=.inr (.inl ⟨d,rfl⟩)
theorem aI (d:D):bK (some (d,.sh [])):=.inr (.inr (.inl ⟨d,rfl⟩))
theorem pq (d:D):bK (some (d,.lk)):=.inr (.inr (.inr ⟨d,rfl⟩))
theorem Tame.nil:Tame []:=fun _ h=>(nomatch h)
theorem Tame.cons {s:Slot}{e:En}(h:bK s) (t:Tame e):Tame (s::e):=fun x hx=>by
 rcases az.mp hx with rfl | hx
 ·exact h
 ·exact t x hx
theorem Tame.set {e:En}{s:Slot}(t:Tame e) (h:bK s) (i:Nat):Tame (e.set i s):=fun x hx=>by
 rcases List.mem_or_eq_of_mem_set hx with q | q
 ·exact t x q
 ·rw[q];exact h
theorem fH {env:En}(h:Tame env) (i:Nat) (d:D) (t:Tg):put env i d t=env.set i (some (d,t)):=by
 unfold put;have:env.map (fun (s:Slot)=>s.map fun (p:D×Tg)=>(p.1,p.2.drop i))=env:=by
  conv=>rhs;rw[←List.map_id env]
  refine dn fun s hs=>?_
  rcases h s hs with rfl | ⟨d,rfl⟩ | ⟨d,rfl⟩ | ⟨d,rfl⟩<;>rfl
 rw[this]
theorem vA {env:En}(h:Tame env) (R:List Nat):kill R env=env.mapIdx fun i s=>if R.contains i then none else s:=by
 unfold kill;apply List.ext_getElem?;intro i;rw[cx,cx];cases q:env[i]? with
 |none=>rfl
 |some s =>
  rcases h s (bu q) with rfl | ⟨d,rfl⟩ | ⟨d,rfl⟩ | ⟨d,rfl⟩
  ·simp
  ·simp[iR]
  ·simp[iR]
  ·simp[iR]
theorem gM {env:En}(h:Tame env) (x:Nat) (s:Slot):(kill [x] env).set x s=env.set x s:=by
 rw[vA h];apply List.ext_getElem?;intro i;by_cases hi:i=x
 ·subst hi;by_cases hl:i<env.length
  ·rw[List.getElem?_set_self (by simpa using hl),List.getElem?_set_self hl]
  ·rw[List.getElem?_eq_none (by simp;omega),List.getElem?_eq_none (by simp;omega)]
 ·rw[ai (Ne.symm hi),ai (Ne.symm hi),cx];cases q:env[i]? with
  |none=>rfl
  |some s=>simp[hi]
section
variable {T:Tb}{env:En}
theorem aX {i:Nat}{e:Ex}{d:D}(ht:Tame env) (hi:i<env.length) (h:ev T e env = .ok (d,.mv [])):bA T (.asg (.nm i) e false) env = .nx (env.set i (some (d,.own))):=by
 rw[bA,h,aN];show (if i<env.length then Fl.nx (put env i d .own) else .bad)=_;rw[if_pos hi,fH ht]
theorem dN {i:Nat}{d:D}(ht:Tame env) (hi:i<env.length):aS [] (.nm i) d env=some (env.set i (some (d,cH d []))):=by
 show (if i<env.length then some (put env i d (cH d [])) else none)=_;rw[if_pos hi,fH ht]
theorem cV {i:Nat}{d:D}(h:env[i]? = some (some (d,.own))) (hf:d.flat=false):ev T (.var i) env = .ok (d,.mv [i]):=by
 rw[ev,h];dsimp only;rw[hf];rfl
theorem aH {i:Nat}{d:D}{t:Tg}(h:env[i]? = some (some (d,t))) (hf:d.flat=true):ev T (.var i) env = .ok (d,.mv []):=by
 rw[ev,h];dsimp only;rw[if_pos hf]
theorem sO {i:Nat}{d:D}{t:Tg}(h:env[i]? = some (some (d,t))):∃ R,ev T (.var i) env = .ok (d,R):=by
 rw[ev,h];exact⟨_,rfl⟩
theorem Ax {x:Nat}{e:Ex}{xs:List D}{d:D}(ht:Tame env) (hx:env[x]? = some (some (.lst xs,.own))) (h:ev T e env = .ok (d,.mv [])) (hl:xs.length+1≤lim):bA T (.mut x .none .append (.cons e .nil)) env = .nx (env.set x (some (.lst (xs ++ [d]),.own))):=by
 have ho:ownAt env x=some (.lst xs):=by unfold ownAt;rw[hx]
 have hs:bM T (.cons e .nil) env = .ok [(d,.mv [])]:=by
  rw[bM,h,aA];rfl
 rw[bA,ho];simp only[kU,aN,D.at1,hs,List.map_cons,List.map_nil,Aq,bD,Rt.roots,List.flatten_cons,List.flatten_nil,List.append_nil,List.contains_nil,Bool.false_eq_true,if_false,rb.copies,eC,dJ,Option.map_some];have:(xs ++ [d]).length≤lim:=by rw[bw];exact hl
 simp only[List.nodup_nil,decide_true,bZ,List.all_nil,Bool.not_false,Bool.and_self,this,if_true,D.set1,Bool.true_and];rw[gM ht]
theorem gS {x:Nat}{k e:Ex}{xs:List D}{d:D}{l:Int}{m:Nat}{R':Rt}(ht:Tame env) (hx:env[x]? = some (some (.lst xs,.own))) (hk:ev T k env = .ok (.int l,R')) (hm:Pc.kZ xs.length l=some m) (h:ev T e env = .ok (d,.mv [])) (hl:xs.length≤lim) :
  bA T (.setix x .none k e) env = .nx (env.set x (some (.lst (xs.set m d),.own))):=by
 have ho:ownAt env x=some (.lst xs):=by unfold ownAt;rw[hx]
 have hll:(xs.set m d).length≤lim:=by rw[ay];exact hl
 rw[bA,ho];simp only[h,aN,kU,D.at1,hk,hm,eC,dJ,Option.map_some,List.append_nil,List.nodup_nil,decide_true,bZ,List.all_nil,List.contains_nil,Bool.not_false,Bool.and_self,hll,if_true,D.set1,Bool.true_and];rw[gM ht]
theorem za {i j:Nat}{e:Ex}{x y:D}(ht:Tame env) (hi:i<env.length) (hj:j<env.length) (h:ev T e env = .ok (.tup [x,y],.mv [])):bA T (.asg (.tp [i,j]) e false) env = .nx ((env.set i (some (x,.own))).set j (some (y,.own))):=by
 rw[bA,h,aN];show vE (bindM (fun _=>Tg.own) [i,j] [x,y] env)=_;simp only[bindM,hi,if_true];rw[fH ht,if_pos (by rw[ay];exact hj),fH (ht.set (aB x) i)];rfl
theorem ite_ff {c:Ex}{a:bJ}{R:Rt}(h:ev T c env = .ok (.bl false,R)):bA T (.ite c a .nil) env = .nx env:=by
 rw[bA,h,aN];rfl
theorem xX {a b:Ex}{R R':Rt}(h:ev T a env = .ok (.bl false,R)) (h':ev T b env = .ok (.bl false,R')):ev T (.or a b) env = .ok (.bl false,R'):=by
 rw[ev,h,aA,h']
theorem Bo {a:Ex}{R:Rt}(h:ev T a env = .ok (.bl true,R)):ev T (.not a) env = .ok (.bl false,.mv []):=by
 rw[ev,h,aA];rfl
theorem xr {a b:Ex}{d:D}{R R':Rt}(h:ev T a env = .ok (d,R)) (h':ev T b env = .ok (d,R')) (he:D.eqf 40 d d=some true):ev T (.cmp .NotEq a b) env = .ok (.bl false,.mv []):=by
 rw[ev,h,aA,h',aA];show (fR ((D.eqf 40 d d).map (!·))).bind _=_;rw[he];rfl
theorem xI {x:Nat}{d:D}(hx:env[x]? = some (some (d,.own))):lock [x] env=env.set x (some (d,.lk)):=by
 unfold lock;apply List.ext_getElem?;intro i;rw[cx];by_cases hi:i=x
 ·subst hi;have hl:i<env.length:=(ak.mp hx).1;rw[ao hl,hx];simp
 ·rw[ai (Ne.symm hi)];cases q:env[i]? with
  |none=>rfl
  |some s =>
   cases s with
   |none=>rfl
   |some p =>
    obtain⟨d,t⟩:=p;cases t with
    |own=>simp[hi]
    |lk=>rfl
    |sh R=>rfl
theorem rJ {x:Nat}{d d':D}{e:En}(hx:env[x]? = some (some (d,.own))) (he:e[x]? = some (some (d',.lk))):unlock [x] env e=e.set x (some (d',.own)):=by
 unfold unlock;apply List.ext_getElem?;intro i;rw[cx];by_cases hi:i=x
 ·subst hi;have hl:i<e.length:=(ak.mp he).1;rw[ao hl,he];simp[hx]
 ·rw[ai (Ne.symm hi)];cases q:e[i]? with
  |none=>rfl
  |some s =>
   cases s with
   |none=>rfl
   |some p =>
    obtain⟨d,t⟩:=p;cases t with
    |own=>rfl
    |lk =>
     simp only[Option.map_some];split
     ·simp[hi]
     ·rfl
    |sh R=>rfl
theorem AM {t:lj}{it:qE}{b:bJ}{e:En}{l:List D}{x:Nat}{d d':D}(hx:env[x]? = some (some (d,.own))) (hit:eW T it env = .ok (l,[x])) (h:bL t [x] (aD T b) l (env.set x (some (d,.lk))) = .nx e) (he:e[x]? = some (some (d',.lk))):bA T (.forr t it b) env = .nx (e.set x (some (d',.own))):=by
 rw[bA,hit,aN];dsimp only;rw[xI hx,h];dsimp only;rw[rJ hx he]
theorem gL {i j:Nat}{x y:D}{R:List Nat}(ht:Tame env) (hi:i<env.length) (hj:j<env.length) (fx:x.flat=true) (fy:y.flat=true):aS R (.tp [i,j]) (.tup [x,y]) env=some ((env.set i (some (x,.own))).set j (some (y,.own))):=by
 show bindM (fun d=>cH d R) [i,j] [x,y] env=_;have tx:cH x R = .own:=by unfold cH;rw[if_pos fx]
 have ty:cH y R = .own:=by unfold cH;rw[if_pos fy]
 simp only[bindM,hi,if_true,tx,ty];rw[fH ht,if_pos (by rw[ay];exact hj),fH (ht.set (aB x) i)]
end
end Pc
end
section
namespace Pc
end Pc
namespace Pc.Sm
open PySem Pc
noncomputable def b6:bJ:=(.cons (.ret (.bin .Mod (.bin .Mult (.bin .Add (.bin .Add (.var 0) (.bin .Mult (.var 1) (.var 1))) (.cst (.int (1)))) (.var 2)) (.cst (.int (2305843009213693951)))))
  .nil)
noncomputable def e7:Ex:=.comp 1 [] (.nm 0) (.seq (.sl (.var 0) .none (.some (.cst (.int (63)))))) .none (.bin .Mod (.var 0) (.cst (.int (1000003))))
noncomputable def b7:bJ:=(.cons (.ret (.call 6 (.cons (.blt .sum (.cons e7 .nil)) (.cons (.bin .Mod (.blt .len (.cons (.var 0) .nil)) (.cst (.int (64)))) (.cons (.var 1) .nil)))))
  .nil)
noncomputable def b8:bJ:=(.cons (.ret (.ix (.lst (.cons (.cst (.int (15))) (.cons (.cst (.int (15))) (.cons (.cst (.int (15))) (.cons (.cst (.int (19))) (.cons (.cst (.int (15))) (.cons (.cst (.int (15))) (.cons (.cst (.int (23))) (.cons (.cst (.int (15))) (.cons (.cst (.int (19))) (.cons (.cst (.int (15))) (.cons (.cst (.int (27))) (.cons (.cst (.int (15))) (.cons (.cst (.int (15))) (.cons (.cst (.int (19))) (.cons (.cst (.int (15))) (.cons (.cst (.int (31))) .nil))))))))))))))))) (.bin .Mod (.var 0) (.cst (.int (16))))))
  .nil)
noncomputable def b9c:bJ:=(.cons (.asg (.nm 1) (.bin .Mod (.bin .Mult (.bin .Add (.var 1) (.var 5)) (.cst (.int (40692)))) (.cst (.int (2147483399)))) false)
  (.cons (.mut 4 .none .append (.cons (.ix (.lst (.cons (.cst (.int (0))) (.cons (.cst (.int (1))) (.cons (.cst (.int (0))) (.cons (.cst (.int (1))) (.cons (.cst .non) .nil)))))) (.bin .Mod (.bin .FloorDiv (.var 1) (.cst (.int (7)))) (.cst (.int (5))))) .nil))
  .nil))
noncomputable def s9:St:=.mut 2 .none .append (.cons (.var 4) .nil)
noncomputable def b9r:bJ:=(.cons (.asg (.nm 4) (.lst .nil) false)
  (.cons (.forr (.nm 5) (.rng1 (.var 0)) b9c)
  (.cons s9
  .nil)))
noncomputable def b9:bJ:=(.cons (.asg (.nm 2) (.lst .nil) false)
  (.cons (.forr (.nm 3) (.rng1 (.var 0)) b9r)
  (.cons (.ret (.var 2))
  .nil)))
theorem uU (p:D×Rt):List.map (fun x:D×Rt=>x.1) [p]=[p.1]:=rfl
theorem map2 (p q:D×Rt):List.map (fun x:D×Rt=>x.1) [p,q]=[p.1,q.1]:=rfl
theorem i8 {T:Tb}{f:Nat}{e1:Ex}{env:En}{d1 r:D}{R1:Rt}(h1:ev T e1 env = .ok (d1,R1)) (h:T.cl f [d1] = .ok (r,true)):ev T (.call f (.cons e1 .nil)) env = .ok (r,.mv []):=by
 have:bM T (.cons e1 .nil) env = .ok [(d1,R1)]:=by
  rw[bM,h1,aA];rfl
 rw[ev,this,aA,uU,h,aA];rfl
theorem be {T:Tb}{f:Nat}{e1 e2:Ex}{env:En}{d1 d2 r:D}{R1 R2:Rt}(h1:ev T e1 env = .ok (d1,R1)) (h2:ev T e2 env = .ok (d2,R2)) (h:T.cl f [d1,d2] = .ok (r,true)):ev T (.call f (.cons e1 (.cons e2 .nil))) env = .ok (r,.mv []):=by
 have:bM T (.cons e1 (.cons e2 .nil)) env = .ok [(d1,R1),(d2,R2)]:=by
  rw[bM,h1,aA,bM,h2,aA];rfl
 rw[ev,this,aA,map2,h,aA];rfl
noncomputable def e8:Ex:=(.lst (.cons (.cst (.int (15))) (.cons (.cst (.int (15))) (.cons (.cst (.int (15))) (.cons (.cst (.int (19))) (.cons (.cst (.int (15))) (.cons (.cst (.int (15))) (.cons (.cst (.int (23))) (.cons (.cst (.int (15))) (.cons (.cst (.int (19))) (.cons (.cst (.int (15))) (.cons (.cst (.int (27))) (.cons (.cst (.int (15))) (.cons (.cst (.int (15))) (.cons (.cst (.int (19))) (.cons (.cst (.int (15))) (.cons (.cst (.int (31))) .nil)))))))))))))))))
end Pc.Sm
end
section
namespace Fl64
noncomputable def Gr (l:List Nat):Prop:=∀ g∈l,g<64
theorem Gr.nil:Gr []:=fun _ h=>(nomatch h)
theorem Gr.cons {g:Nat}{l:List Nat}(h:g<64) (t:Gr l):Gr (g::l):=fun x hx=>by
 rcases az.mp hx with rfl | hx
 ·exact h
 ·exact t x hx
theorem Gr.append {l m:List Nat}(a:Gr l) (b:Gr m):Gr (l++m):=fun x hx=>(bo.mp hx).elim (a x) (b x)
noncomputable def gb (x w:Nat) (l:List Nat):Nat:=l.foldl (fun w g=>tm w x^^^g) w
noncomputable abbrev cT (x:Nat) (l:List Nat):Nat:=gb x 0 l
theorem jX (x w g:Nat) (l:List Nat):gb x w (g::l)=gb x (tm w x^^^g) l:=rfl
theorem rB (x w:Nat) (l m:List Nat):gb x w (l++m)=gb x (gb x w l) m:=by unfold gb;rw[List.foldl_append]
theorem eE {x w:Nat}(hx:x<64) (hw:w<64):∀{l:List Nat},Gr l→gb x w l<64:=by
 intro l
 induction l generalizing w with
 |nil=>exact fun _=>hw
 |cons g r ih=>exact fun h=>ih (aT (bC hw hx) (h g ae)) fun z hz=>h z (aa _ hz)
noncomputable def pw (x:Nat):Nat→Nat
 |0=>1
 |n+1=>tm (pw x n) x
theorem bB {x:Nat}(hx:x<64):∀ n,pw x n<64
 |0=>by show 1<64;decide
 |n+1=>bC (bB hx n) hx
theorem gJ {x w:Nat}(hx:x<64) (hw:w<64) {l:List Nat}(h:Gr l):gb x w l=tm w (pw x l.length)^^^cT x l:=by
 induction l generalizing w with
 |nil=>simp[gb,pw,ke hw]
 |cons g r ih =>
  have g64:=h g ae;have hr:Gr r:=fun z hz=>h z (aa _ hz)
  have p64:=bB hx r.length;rw[jX,ih (aT (bC hw hx) g64) hr];show _=tm w (pw x (r.length+1))^^^gb x (tm 0 x^^^g) r;rw[cA hx,cu,ih g64 hr,iF (bC hw hx) g64 p64,dA hw hx p64,dO hx p64,br];rfl
noncomputable def fv (a b:List Nat):List Nat:=List.zipWith (· ^^^ ·) a b
theorem wd {a b:List Nat}(h:a.length=b.length):(fv a b).length=a.length:=by simp[fv,h]
theorem tG:∀{a b:List Nat},Gr a→Gr b→Gr (fv a b)
 |[],_,_,_=>Gr.nil
 |_::_,[],_,_=>by simpa[fv] using Gr.nil
 | x::a,y::b,ha,hb=>by
  show Gr ((x^^^y)::fv a b);exact .cons (aT (ha x ae) (hb y ae)) (tG (fun z hz=>ha z (aa _ hz)) fun z hz=>hb z (aa _ hz))
theorem Ga (a b c d:Nat):(a^^^b)^^^(c^^^d)=(a^^^c)^^^(b^^^d):=by
 rw[br,br,←br b,Nat.xor_comm b c,br c]
theorem uA {x:Nat}(hx:x<64):∀{a b:List Nat},a.length=b.length→Gr a→Gr b→∀{u v:Nat},u<64→v<64→gb x (u^^^v) (fv a b)=gb x u a^^^gb x v b
 |[],[],_,_,_,_,_,_,_=>rfl
 | p::a,q::b,hl,ha,hb,u,v,hu,hv=>by
  have p64:=ha p ae;have q64:=hb q ae;show gb x (tm (u^^^v) x^^^(p^^^q)) (fv a b)=gb x (tm u x^^^p) a^^^gb x (tm v x^^^q) b;rw[iF hu hv hx,Ga];exact uA hx (by simpa using hl) (fun z hz=>ha z (List.mem_cons_of_mem _ hz)) (fun z hz=>hb z (List.mem_cons_of_mem _ hz)) (aT (bC hu hx) p64) (aT (bC hv hx) q64)
 |[],_::_,h,_,_,_,_,_,_=>by simp at h
 |_::_,[],h,_,_,_,_,_,_=>by simp at h
theorem Ac {x:Nat}(hx:x<64) {a b:List Nat}(h:a.length=b.length) (ha:Gr a) (hb:Gr b):cT x (fv a b)=cT x a^^^cT x b:=uA (u:=0) (v:=0) hx h ha hb (by decide) (by decide)
theorem kA (x:Nat) (hx:x<64):∀ n,cT x (List.replicate n 0)=0
 |0=>rfl
 | n+1=>by
  show gb x (tm 0 x^^^0) (List.replicate n 0)=0;rw[cA hx];exact kA x hx n
theorem iy (n:Nat):Gr (List.replicate n 0):=fun g hg=>by rw[List.eq_of_mem_replicate hg];decide
theorem yk {x:Nat}(hx:x<64) (n:Nat) (l:List Nat):cT x (List.replicate n 0++l)=cT x l:=by
 show gb x 0 _=_;rw[rB];show gb x (cT x (List.replicate n 0)) l=_;rw[kA x hx]
noncomputable def mulR (f:Nat) (l:List Nat):List Nat:=l.map fun g=>tm f g
theorem lb {f:Nat}(hf:f<64) {l:List Nat}(h:Gr l):Gr (mulR f l):=fun g hg=>by
 obtain⟨y,hy,rfl⟩:=au.mp hg;exact bC hf (h y hy)
theorem AJ {x f:Nat}(hx:x<64) (hf:f<64) {l:List Nat}(h:Gr l):∀{w:Nat},w<64→gb x (tm f w) (mulR f l)=tm f (gb x w l):=by
 induction l with
 |nil=>exact fun _=>rfl
 |cons g r ih =>
  intro w hw;have g64:=h g ae;show gb x (tm (tm f w) x^^^tm f g) (mulR f r)=tm f (gb x (tm w x^^^g) r);rw[dA hf hw hx,←iz,ih (fun z hz=>h z (aa _ hz)) (aT (bC hw hx) g64)]
theorem zD {x f:Nat}(hx:x<64) (hf:f<64) {l:List Nat}(h:Gr l):cT x (mulR f l)=tm f (cT x l):=by
 have:=AJ hx hf h (w:=0) (by decide);rw[fS] at this;exact this
theorem eA {a b:Nat}(ha:a<64) (hb:b<64) (h:tm a b=0):a=0∨b=0:=by
 have:=all2 (f:=fun a b=>decide (tm a b=0→a=0∨b=0)) (by decide +kernel) ha hb;exact of_decide_eq_true this h
theorem cI {a b:Nat}(h:a^^^b=0):a=b:=by
 have:(a^^^b)^^^b=0^^^b:=by rw[h]
 rwa [br,fq,Nat.xor_zero,cu] at this
noncomputable def wz (a w:Nat):List Nat→List Nat
 |[]=>[]
 |g::r=>w::wz a (tm w a^^^g) r
theorem uK (a:Nat):∀(w:Nat) (l:List Nat),(wz a w l).length=l.length
 |_,[]=>rfl
 |w,g::r=>by rw[wz,du,uK,du]
theorem rG {a:Nat}(ha:a<64):∀{w:Nat}{l:List Nat},w<64→Gr l→Gr (wz a w l)
 |_,[],_,_=>Gr.nil
 |w,g::r,hw,h=>.cons hw (rG ha (aT (bC hw ha) (h g ae)) fun z hz=>h z (aa _ hz))
theorem qF {a b c:Nat}(ha:a<64) (hb:b<64) (hc:c<64):tm (tm a b) c=tm (tm a c) b:=by rw[dA ha hb hc,dO hb hc,dA ha hc hb]
theorem ua {x a:Nat}(hx:x<64) (ha:a<64):∀{l:List Nat}{u w:Nat},Gr l→u<64→w<64→gb x (tm u (x^^^a)^^^w) l=tm (gb x u (wz a w l)) (x^^^a)^^^gb a w l
 |[],u,w,_,_,_=>rfl
 | g::r,u,w,h,hu,hw=>by
  have g64:=h g ae;have xa:=aT hx ha;have ux:=bC hu hx;rw[wz,jX,jX,jX];have e:tm (tm u (x^^^a)^^^w) x^^^g=tm (tm u x^^^w) (x^^^a)^^^(tm w a^^^g):=by
   rw[iF (bC hu xa) hw hx,iF ux hw xa,qF hu xa hx,iz w x a];generalize tm (tm u x) (x^^^a)=p;generalize tm w x=q;generalize tm w a=s;rw[br,br,br,←br s s,fq,cu]
  rw[e];exact ua hx ha (fun z hz=>h z (aa _ hz)) (aT ux hw) (aT (bC hw ha) g64)
theorem zx {x a:Nat}(hx:x<64) (ha:a<64) {g:Nat}{r:List Nat}(h:Gr (g::r)):cT x (g::r)=tm (cT x (wz a g r)) (x^^^a)^^^cT a (g::r):=by
 have g64:=h g ae;have hr:Gr r:=fun z hz=>h z (aa _ hz)
 have:=ua hx ha (u:=0) (w:=g) hr (by decide) g64;rw[cA (aT hx ha),cu] at this;show gb x (tm 0 x^^^g) r=tm (gb x 0 (wz a g r)) (x^^^a)^^^gb a (tm 0 a^^^g) r;rw[cA hx,cA ha,cu];exact this
theorem qH {a:Nat}(ha:a<64):∀{g:Nat}{r:List Nat},Gr (g::r)→(∀ z∈wz a g r,z=0)→cT a (g::r)=0→∀ z∈g::r,z=0
 | g,[],h,_,hw,z,hz=>by
  have:cT a [g]=g:=by show tm 0 a^^^g=g;rw[cA ha,cu]
  rw[this] at hw;have:=dh.mp hz;rw[this,hw]
 | g,g'::r,h,hq,hw,z,hz=>by
  have g0:g=0:=hq g (by rw[wz];exact ae);subst g0;rcases az.mp hz with rfl | hz
  ·rfl
  have e:tm 0 a^^^g'=g':=by rw[cA ha,cu]
  refine qH ha (fun z hz=>h z (aa _ hz)) (fun z hz=>hq z ?_) ?_ z hz
  ·rw[wz,e];exact aa _ hz
  ·have:cT a (0::g'::r)=cT a (g'::r):=yk ha 1 (g'::r);rw[←this];exact hw
theorem mI:∀{xs l:List Nat},xs.Nodup→Gr xs→Gr l→l.length≤xs.length→(∀ x∈xs,cT x l=0)→∀ z∈l,z=0
 |_,[],_,_,_,_,_,z,hz=>(nomatch hz)
 |[],g::r,_,_,_,hl,_,_,_=>by simp at hl
 | a::xs,g::r,hn,hx,hl,hle,hw,z,hz=>by
  have a64:=hx a ae;have g64:=hl g ae;have hr:Gr r:=fun z hz=>hl z (aa _ hz)
  have hn':=dk.mp hn;have wa:=hw a ae;refine qH a64 hl (mI hn'.2 (fun z hz=>hx z (aa _ hz)) (rG a64 g64 hr) ?_ fun x hxm=>?_) wa z hz
  ·rw[uK];simpa using hle
  ·have x64:=hx x (aa _ hxm);have wx:=hw x (aa _ hxm);rw[zx x64 a64 hl,wa,Nat.xor_zero] at wx;rcases eA (eE x64 (by decide) (rG a64 g64 hr)) (aT x64 a64) wx with q | q
   ·exact q
   ·have:=cI q;subst this;exact absurd hxm hn'.1
theorem pA {x:Nat}(hx:x<64) (m:Nat):∀ n,pw x (m+n)=tm (pw x m) (pw x n)
 |0=>by show pw x m=tm (pw x m) 1;rw[ke (bB hx m)]
 | n+1=>by
  show tm (pw x (m+n)) x=tm (pw x m) (tm (pw x n) x);rw[pA hx m n,dA (bB hx m) (bB hx n) hx]
theorem Co {x:Nat}(hx:x<64):pw x 1=x:=lZ hx
theorem xP {x:Nat}(hx:x<64):∀ n,pw (tm x x) n=pw x (2*n)
 |0=>rfl
 | n+1=>by
  show tm (pw (tm x x) n) (tm x x)=pw x (2*n+2);rw[xP hx n,pA hx (2*n) 2];congr 1;show tm x x=tm (tm 1 x) x;rw[lZ hx]
noncomputable def FV:Nat→Nat→Nat→Nat→Nat
 |0,p,_,_=>p
 |n+1,p,s,l=>if l=0 then p else FV n (if l%2=1 then tm p s else p) (tm s s) (l / 2)
theorem rZ:∀(n p s l:Nat),l<2 ^ n→p<64→s<64→FV n p s l=tm p (pw s l)
 | 0,p,s,l,hl,hp,_=>by
  have:l=0:=by simpa using hl
  subst this;show p=tm p 1;rw[ke hp]
 | n+1,p,s,l,hl,hp,hs=>by
  unfold FV;by_cases h:l=0
  ·subst h;rw[if_pos rfl];show p=tm p 1;rw[ke hp]
  ·rw[if_neg h];have ss:=bC hs hs;by_cases o:l%2=1
   ·rw[if_pos o,rZ n _ _ _ (by rw[Nat.pow_succ] at hl;omega) (bC hp hs) ss,xP hs,dA hp hs (bB hs _)];congr 1;have e:l=1+2*(l / 2):=by omega
    conv=>rhs;rw[e,pA hs,Co hs]
   ·rw[if_neg o,rZ n _ _ _ (by rw[Nat.pow_succ] at hl;omega) hp ss,xP hs];have e:l=2*(l / 2):=by omega
    rw[←e]
noncomputable def bS (c:Nat):List Nat:=(List.range' 1 c).map (pw 2)
theorem jh (c:Nat):Gr (bS c):=fun g hg=>by
 obtain⟨k,_,rfl⟩:=au.mp hg;exact bB (by decide) k
theorem iN (c:Nat):(bS c).length=c:=by simp[bS]
theorem uI {x:Nat}(hx:x<64):∀{l:List Nat}{p g:Nat},Gr l→g<64→p<l.length→∀{w:Nat},w<64→gb x w (l.set p (l.getD p 0^^^g))=gb x w l^^^tm g (pw x (l.length - 1 - p))
 |[],p,g,_,_,hp,_,_=>by simp at hp
 | a::l,0,g,hl,hg,_,w,hw=>by
  have a64:=hl a ae;have hr:Gr l:=fun z hz=>hl z (aa _ hz)
  show gb x (tm w x^^^(a^^^g)) l=gb x (tm w x^^^a) l^^^tm g (pw x (l.length+1 - 1 - 0));rw[←br,gJ hx (aT (aT (bC hw hx) a64) hg) hr,gJ hx (aT (bC hw hx) a64) hr,iF (aT (bC hw hx) a64) hg (bB hx _)];rw[br,br,Nat.xor_comm (tm g _)];rfl
 | a::l,p+1,g,hl,hg,hp,w,hw=>by
  have a64:=hl a ae;have hr:Gr l:=fun z hz=>hl z (aa _ hz)
  show gb x (tm w x^^^a) (l.set p (l.getD p 0^^^g))=gb x (tm w x^^^a) l^^^tm g (pw x (l.length+1 - 1 - (p+1)));rw[uI hx hr hg (by simpa using hp) (aT (bC hw hx) a64)];congr 3;omega
theorem dF {l:List Nat}(h:Gr l) (p:Nat):l.getD p 0<64:=by
 rw[ag];cases q:l[p]? with
 |none=>decide
 |some g=>exact h g (bu q)
theorem lL {l:List Nat}(h:Gr l) {p g:Nat}(hg:g<64):Gr (l.set p (l.getD p 0^^^g)):=fun z hz=>by
 rcases List.mem_or_eq_of_mem_set hz with q | q
 ·exact h z q
 ·rw[q];exact aT (dF h p) hg
noncomputable def eK (l:List Nat) (p:Nat):List Nat→List Nat
 |[]=>l
 |g::r=>eK (l.set p (l.getD p 0^^^g)) (p+1) r
theorem eS:∀(m:List Nat) (l:List Nat) (p:Nat),(eK l p m).length=l.length
 |[],_,_=>rfl
 |g::r,l,p=>by rw[eK,eS r,ay]
theorem iG:∀{m l:List Nat}{p:Nat},Gr l→Gr m→Gr (eK l p m)
 |[],_,_,h,_=>h
 | g::r,l,p,h,hm=>by
  rw[eK];exact iG (lL h (hm g ae)) fun z hz=>hm z (aa _ hz)
theorem nY {x:Nat}(hx:x<64):∀{m l:List Nat}{p:Nat},Gr l→Gr m→p+m.length≤l.length→cT x (eK l p m)=cT x l^^^tm (cT x m) (pw x (l.length - p - m.length))
 | [],l,p,_,_,_=>by
  show cT x l=cT x l^^^tm 0 _;rw[cA (bB hx _),Nat.xor_zero]
 | g::r,l,p,h,hm,hp=>by
  have g64:=hm g ae;have hr:Gr r:=fun z hz=>hm z (aa _ hz)
  have hp':p+(r.length+1)≤l.length:=by simpa using hp
  rw[eK,nY hx (lL h g64) hr (by rw[ay];omega),ay];show gb x 0 (l.set p (l.getD p 0^^^g))^^^_=_;rw[uI hx h g64 (by omega) (by decide),br];congr 1;have e1:cT x (g::r)=tm g (pw x r.length)^^^cT x r:=by
   show gb x (tm 0 x^^^g) r=_;rw[cA hx,cu,gJ hx g64 hr]
  have e2:l.length - 1 - p=r.length+(l.length - p - (r.length+1)):=by omega
  have e3:l.length - (p+1) - r.length=l.length - p - (r.length+1):=by omega
  rw[du,e1,e2,pA hx,e3,iF (bC g64 (bB hx _)) (eE hx (by decide) hr) (bB hx _),dA g64 (bB hx _) (bB hx _)]
theorem iJ:∀{m l:List Nat}{p i:Nat},i<p→(eK l p m).getD i 0=l.getD i 0
 |[],_,_,_,_=>rfl
 | g::r,l,p,i,hi=>by
  rw[eK,iJ (by omega),ag,ai (by omega),ag]
theorem wJ {m l:List Nat}{p g:Nat}(hp:p<l.length):(eK l p (g::m)).getD p 0=l.getD p 0^^^g:=by
 rw[eK,iJ (by omega),ag,ao hp];rfl
noncomputable def eF (l:List Nat) (k:Nat):List Nat→List Nat→List Nat
 |[],_=>l
 |g::a,b=>eF (eK l k (mulR g b)) (k+1) a b
theorem lV (f:Nat) (l:List Nat):(mulR f l).length=l.length:=by simp[mulR]
theorem lR:∀(a b l:List Nat) (k:Nat),(eF l k a b).length=l.length
 |[],_,_,_=>rfl
 |g::a,b,l,k=>by rw[eF,lR a,eS]
theorem nI:∀{a b l:List Nat}{k:Nat},Gr a→Gr b→Gr l→Gr (eF l k a b)
 |[],_,_,_,_,_,h=>h
 | g::a,b,l,k,ha,hb,h=>by
  rw[eF];exact nI (fun z hz=>ha z (aa _ hz)) hb (iG h (lb (ha g ae) hb))
theorem lU {x:Nat}(hx:x<64):∀{a b l:List Nat}{k:Nat},Gr a→Gr b→Gr l→0<b.length→k+a.length+b.length=l.length+1→cT x (eF l k a b)=cT x l^^^tm (cT x a) (cT x b)
 | [],b,l,k,_,hb,_,_,_=>by
  show cT x l=cT x l^^^tm 0 _;rw[cA (eE hx (by decide) hb),Nat.xor_zero]
 | g::a,b,l,k,ha,hb,h,h0,hk=>by
  have g64:=ha g ae;have ha':Gr a:=fun z hz=>ha z (aa _ hz)
  have hk':k+(a.length+1)+b.length=l.length+1:=by simpa using hk
  have wb:=eE hx (w:=0) (by decide) hb;have wa:=eE hx (w:=0) (by decide) ha';have mg:=lb g64 hb;rw[eF,lU hx ha' hb (iG h mg) h0 (by rw[eS];omega),nY hx h mg (by rw[lV];omega),zD hx g64 hb,lV,br];congr 1;have e1:cT x (g::a)=tm g (pw x a.length)^^^cT x a:=by
   show gb x (tm 0 x^^^g) a=_;rw[cA hx,cu,gJ hx g64 ha']
  have e2:l.length - k - b.length=a.length:=by omega
  rw[e1,e2,iF (bC g64 (bB hx _)) wa wb,qF g64 wb (bB hx _)]
noncomputable def dH (a b:List Nat):List Nat:=eF (List.replicate (a.length+b.length - 1) 0) 0 a b
theorem fG (a b:List Nat):(dH a b).length=a.length+b.length - 1:=by rw[dH,lR,c9]
theorem iH {a b:List Nat}(ha:Gr a) (hb:Gr b):Gr (dH a b):=nI ha hb (iy _)
theorem n8 {x:Nat}(hx:x<64) {a b:List Nat}(ha:Gr a) (hb:Gr b) (h0:0<b.length):cT x (dH a b)=tm (cT x a) (cT x b):=by
 rw[dH,lU hx ha hb (iy _) h0 (by rw[c9];omega),kA x hx,cu]
theorem jZ:∀{a b l:List Nat}{k i:Nat},i<k→(eF l k a b).getD i 0=l.getD i 0
 |[],_,_,_,_,_=>rfl
 |g::a,b,l,k,i,hi=>by rw[eF,jZ (by omega),iJ hi]
theorem sg {g g':Nat}{a b:List Nat}:(dH (g::a) (g'::b)).getD 0 0=tm g g':=by
 have hl:0<(List.replicate ((g::a).length+(g'::b).length - 1) 0).length:=by simp;omega
 rw[dH,eF,jZ (by decide)];show (eK _ 0 (tm g g'::mulR g b)).getD 0 0=_;rw[wJ hl];have:(List.replicate ((g::a).length+(g'::b).length - 1) 0).getD 0 0=0:=by
  rw[ag,eo];split<;>rfl
 rw[this,cu]
noncomputable def gQ (r:List Nat):List Nat→List Nat
 |[]=>r
 |n::ns=>gQ (dH r [1,n]) ns
theorem fI:∀{ns r:List Nat},Gr ns→Gr r→0<r.length→r.getD 0 0=1→(gQ r ns).length=r.length+ns.length∧Gr (gQ r ns)∧(gQ r ns).getD 0 0=1∧(∀ x,x<64→cT x r=0→cT x (gQ r ns)=0)∧∀ x∈ns,cT x (gQ r ns)=0
 |[],r,_,hr,_,h1=>⟨rfl,hr,h1,fun _ _ h=>h,fun _ h=>(nomatch h)⟩
 | n::ns,r,hn,hr,h0,h1=>by
  have n64:=hn n ae;have hb:Gr [1,n]:=.cons (by decide) (.cons n64 .nil);have hp:=iH hr hb;have hd:(dH r [1,n]).getD 0 0=1:=by
   match r,h0,h1 with
   |g::r',_,h1 =>
    have:g=1:=h1;subst this;exact sg
  obtain⟨a1,a2,a3,a4,a5⟩:=fI (ns:=ns) (r:=dH r [1,n]) (fun z hz=>hn z (List.mem_cons_of_mem _ hz)) hp (by rw[fG];simp) hd;rw[gQ];refine⟨by rw[a1,fG];simp;omega,a2,a3,fun x hx hw=>a4 x hx ?_,fun x hxm=>?_⟩
  ·rw[n8 hx hr hb (by simp),hw,cA (eE hx (by decide) hb)]
  ·rcases az.mp hxm with rfl | hxm
   ·refine a4 x n64 ?_;have:cT x [1,x]=0:=by
     show tm (tm 0 x^^^1) x^^^x=0;rw[cA n64,cu,lZ n64,fq]
    rw[n8 n64 hr hb (by simp),this,fS]
   ·exact a5 x hxm
noncomputable def pW (l:List Nat) (c:Nat):Prop:=∀ x∈bS c,cT x l=0
noncomputable instance (l:List Nat) (c:Nat):Decidable (pW l c):=by unfold pW;infer_instance
theorem zg {x:Nat}(hx:x<64) (h:x≠0):∀ n,pw x n≠0
 |0=>by show 1≠0;decide
 |n+1=>fun e=>(eA (bB hx n) hx e).elim (zg hx h n) h
end Fl64
end
section
namespace Pc.Gr
open PySem Pc Pc.Sm
noncomputable abbrev gD (gs:List Nat):List D:=gs.map fun (g:Nat)=>D.int (g:Int)
noncomputable abbrev gI (gs:List Nat):List Int:=gs.map fun (g:Nat)=>(g:Int)
theorem sF (gs:List Nat):gD gs=(gI gs).map D.int:=by rw[bq];rfl
theorem fD (gs:List Nat):D.flats (gD gs)=true:=by rw[sF];exact mC _
theorem Gz (gs:List Nat):D.eqf 40 (.lst (gD gs)) (.lst (gD gs))=some true:=by rw[sF,tP 38];simp
theorem gC (a b:List Nat):gD (a++b)=gD a++gD b:=fm ..
theorem aZ (a:List Nat):(gD a).length=a.length:=aj ..
noncomputable abbrev sG (gs:List Nat):Slot:=some (.lst (gD gs),.sh [])
noncomputable abbrev oG (gs:List Nat):Slot:=some (.lst (gD gs),.own)
theorem yf {gs:List Nat}{i:Nat}(h:i<gs.length):(gD gs)[i]? = some (.int ((gs.getD i 0:Nat):Int)):=by
 rw[av,ag,bc h];rfl
theorem kX {gs:List Nat}{i:Nat}(h:i<gs.length):Br (.lst (gD gs)) (.int (i:Int))=some (.int ((gs.getD i 0:Nat):Int)):=by
 show (Pc.kZ (gD gs).length (i:Int)).bind (fun j=>(gD gs)[j]?)=_;rw[f7 (by rw[aZ];exact h)];exact yf h
theorem je (gs:List Nat) (i g:Nat):(gD gs).set i (.int (g:Int))=gD (gs.set i g):=by rw[gD,gD,List.map_set]
noncomputable def iq (T:Tb) (t:Nat):Prop:=∀ a b:Nat,b<64→T.cl t [.int (a:Int),.int (b:Int)] = .ok (.int ((Fl64.tm a b:Nat):Int),true)
noncomputable def ni (t:Nat):bJ:=(.cons (.ite (.cmp .Eq (.bin .Mod (.var 4) (.cst (.int (2)))) (.cst (.int (1)))) (.cons (.asg (.nm 2) (.call t (.cons (.var 2) (.cons (.var 3) .nil))) false)
  .nil) .nil)
  (.cons (.asg (.nm 3) (.call t (.cons (.var 3) (.cons (.var 3) .nil))) false)
  (.cons (.asg (.nm 4) (.bin .FloorDiv (.var 4) (.cst (.int (2)))) false)
  .nil)))
noncomputable def Eh (t:Nat):bJ:=(.cons (.asg (.nm 2) (.cst (.int (1))) false)
  (.cons (.asg (.nm 3) (.var 0) false)
  (.cons (.asg (.nm 4) (.var 1) false)
  (.cons (.whl (.cmp .Gt (.var 4) (.cst (.int (0)))) (ni t))
  (.cons (.ret (.var 2))
  .nil)))))
theorem pow_step {T:Tb}{t:Nat}(A K p s l x y:Int) (hx:l%2=1→T.cl t [.int p,.int s] = .ok (.int x,true)) (hx':l%2≠1→x=p) (hy:T.cl t [.int s,.int s] = .ok (.int y,true)):aD T (ni t) [sI A,sI K,sI p,sI s,sI l] = .nx [sI A,sI K,sI x,sI y,sI (l / 2)]:=by
 have e1:(l%2==1)=decide (l%2=1):=rfl;by_cases h1:l%2=1
 ·have hx:=hx h1;simp[e1,ni,aD,bA,ev,bM,aA,aN,aK,aL,Pc.binI,iu,iZ,D.eqf,truth,D.flat,bE,iI,put,Tg.drop,aC,h1,hx,hy]
 ·have:=hx' h1;subst this;simp[e1,ni,aD,bA,ev,bM,aA,aN,aK,aL,Pc.binI,iu,iZ,D.eqf,truth,D.flat,bE,iI,put,Tg.drop,aC,h1,hy]
theorem ug {T:Tb}{t:Nat}(ht:iq T t) (A K:Int):∀(n fuel p s l:Nat),l<2 ^ n→n<fuel→s<64 →
  ∃ s' l':Int,eP (fun env=>(ev T (.cmp .Gt (.var 4) (.cst (.int 0))) env).bind fun p=>fR (truth p.1)) (aD T (ni t)) fuel [sI A,sI K,sN p,sN s,sN l] = .nx [sI A,sI K,sN (Fl64.FV n p s l),sI s',sI l']
 |n,0,p,s,l,_,hf',_=>absurd hf' (Nat.not_lt_zero _)
 | 0,fuel+1,p,s,l,hl,_,_=>by
  have:l=0:=by simpa using hl
  subst this;refine⟨s,0,?_⟩;rw[eP,hV];rfl
 | n+1,fuel+1,p,s,l,hl,hn,hs=>by
  rw[eP,hV,aN];by_cases h0:l=0
  ·subst h0;refine⟨s,0,?_⟩;rfl
  ·have hp:decide ((0:Int)<(l:Int))=true:=by rw[decide_eq_true_eq];omega
   rw[if_pos hp,pow_step A K p s l ((if l%2=1 then Fl64.tm p s else p:Nat):Int) ((Fl64.tm s s:Nat):Int) (fun h=>by rw[if_pos (by omega)];exact ht p s hs) (fun h=>by rw[if_neg (by omega)]) (ht s s hs)];have e3:(l:Int) / 2=((l / 2:Nat):Int):=by omega
   rw[e3];obtain⟨s',l',h⟩:=ug ht A K n fuel (if l%2=1 then Fl64.tm p s else p) (Fl64.tm s s) (l / 2) (by rw[Nat.pow_succ] at hl;omega) (by omega) (Fl64.bC hs hs);refine⟨s',l',?_⟩;dsimp only;rw[h]
   conv=>rhs;unfold Fl64.FV
   rw[if_neg h0]
theorem Dc {T:Tb}{t:Nat}(ht:iq T t) (hfu:41≤T.fuel) (a k:Nat) (ha:a<64) (hk:k<2 ^ 40):Pc.ret (aD T (Eh t) (aE [.int (a:Int),.int (k:Int)] 5)) = .ok (.int ((Fl64.pw a k:Nat):Int),true):=by
 have hst:aE [.int (a:Int),.int (k:Int)] 5=[sN a,sN k,none,none,none]:=rfl;rw[hst];unfold Eh;have h1:bA T (.asg (.nm 2) (.cst (.int 1)) false) [sN a,sN k,none,none,none] = .nx [sN a,sN k,sN 1,none,none]:=rfl;have h2:bA T (.asg (.nm 3) (.var 0) false) [sN a,sN k,sN 1,none,none] = .nx [sN a,sN k,sN 1,sN a,none]:=rfl;have h3:bA T (.asg (.nm 4) (.var 1) false) [sN a,sN k,sN 1,sN a,none] = .nx [sN a,sN k,sN 1,sN a,sN k]:=rfl;rw[aD,h1,aC,aD,h2,aC,aD,h3,aC,aD];obtain⟨d',l',h⟩:=ug (T:=T) ht a k 40 T.fuel 1 a k hk (by omega) ha;rw[Fl64.rZ 40 1 a k hk (by decide) ha,Fl64.lZ (Fl64.bB ha k)] at h;have h4:bA T (.whl (.cmp .Gt (.var 4) (.cst (.int 0))) (ni t)) [sN a,sN k,sN 1,sN a,sN k] = .nx [sN a,sN k,sN (Fl64.pw a k),sI d',sI l']:=by
  rw[bA];exact h
 rw[h4,aC];show Pc.ret (aD T (.cons (.ret (.var 2)) .nil) [sN a,sN k,sI ((Fl64.pw a k:Nat):Int),sI d',sI l'])=_;generalize ((Fl64.pw a k:Nat):Int)=x;rfl
noncomputable def uy (t:Nat):bJ:=(.cons (.asg (.nm 2) (.bin .BitXor (.call t (.cons (.var 2) (.cons (.var 1) .nil))) (.var 3)) false)
  .nil)
noncomputable def C0 (t:Nat):bJ:=(.cons (.asg (.nm 2) (.cst (.int (0))) false)
  (.cons (.forr (.nm 3) (.seq (.var 0)) (uy t))
  (.cons (.ret (.var 2))
  .nil)))
theorem CI {T:Tb}{t:Nat}(x w g y:Int) (d:D) (h:T.cl t [.int w,.int x] = .ok (.int y,true)):aD T (uy t) [some (d,.sh []),sI x,sI w,sI g] = .nx [some (d,.sh []),sI x,sI (Builtin.bitXor y g),sI g]:=by
 simp[uy,aD,bA,ev,bM,aA,aN,aK,aL,Pc.binI,D.flat,bE,iI,put,Tg.drop,aC,h]
theorem wC {T:Tb}{t:Nat}(ht:iq T t) (d:D) (x:Nat) (hx:x<64):∀(gs:List Nat) (w:Nat) (o:Slot),∃ o',bL (.nm 3) [] (aD T (uy t)) (gD gs) [some (d,.sh []),sN x,sN w,o] = .nx [some (d,.sh []),sN x,sN (Fl64.gb x w gs),o']
 |[],w,o=>⟨o,rfl⟩
 | g::r,w,o=>by
  obtain⟨o',h⟩:=wC ht d x hx r (Fl64.tm w x^^^g) (sN g);refine⟨o',?_⟩;rw[gD,ba,bL];have hb:aS [] (.nm 3) (.int (g:Int)) [some (d,.sh []),sN x,sN w,o]=some [some (d,.sh []),sN x,sN w,sN g]:=by
   simp[aS,put,Tg.drop,cH,D.flat]
  rw[hb];dsimp only;rw[CI x w g ((Fl64.tm w x:Nat):Int) d (ht w x hx),dG];exact h
theorem Cm {T:Tb}{t:Nat}(ht:iq T t) (gs:List Nat) (x:Nat) (hx:x<64):Pc.ret (aD T (C0 t) (aE [.lst (gD gs),.int (x:Int)] 4)) = .ok (.int ((Fl64.cT x gs:Nat):Int),true):=by
 have hst:aE [.lst (gD gs),.int (x:Int)] 4=[sG gs,sN x,none,none]:=rfl;rw[hst];unfold C0;have h1:bA T (.asg (.nm 2) (.cst (.int 0)) false) [sG gs,sN x,none,none] = .nx [sG gs,sN x,sN 0,none]:=rfl;obtain⟨o',h⟩:=wC ht (.lst (gD gs)) x hx gs 0 none;have hit:eW T (.seq (.var 0)) [sG gs,sN x,sN 0,none] = .ok (gD gs,[]):=rfl;have h2:=bW hit h;rw[aD,h1,aC,aD,h2,aC];show _=Rs.ok (D.int ((Fl64.gb x 0 gs:Nat):Int),true);generalize Fl64.gb x 0 gs=y;simp[aD,bA,ev,aN,D.flat,fB,Pc.ret,bZ]
noncomputable abbrev AX (k:Nat) (gs:List Nat):List D:=(gs.zipIdx k).map fun (q:Nat×Nat)=>D.tup [.int (q.2:Int),.int (q.1:Int)]
theorem Ea (gs:List Nat):((gD gs).zipIdx.map fun (q:D×Nat)=>D.tup [.int q.2,q.1])=AX 0 gs:=by
 rw[gD,List.zipIdx_map,bq];rfl
theorem jO (k g:Nat) (gs:List Nat):AX k (g::gs) = .tup [.int (k:Int),.int (g:Int)]::AX (k+1) gs:=by
 rw[AX,List.zipIdx_cons,ba]
noncomputable def sW (t x p i j f:Nat):bJ:=(.cons (.setix x .none (.bin .Add (.var p) (.var i)) (.bin .BitXor (.ix (.var x) (.bin .Add (.var p) (.var i))) (.call t (.cons (.var f) (.cons (.var j) .nil)))))
  .nil)
theorem xM {T:Tb}{t x p i j f:Nat}(ht:iq T t) {env:En}(tm:Tame env) {l:List Nat}{P S F G:Nat}(hx:env[x]? = some (oG l)) (hp:env[p]? = some (sN P)) (hi:env[i]? = some (sN S)) (hj:env[j]? = some (sN G)) (hf:env[f]? = some (sN F)) (hG:G<64) (hl:P+S<l.length) (hlen:l.length≤1000) :
  aD T (sW t x p i j f) env = .nx (env.set x (oG (l.set (P+S) (l.getD (P+S) 0^^^Fl64.tm F G)))):=by
 have vp:ev T (.var p) env = .ok (.int (P:Int),.mv []):=aH hp rfl;have vi:ev T (.var i) env = .ok (.int (S:Int),.mv []):=aH hi rfl;have vj:ev T (.var j) env = .ok (.int (G:Int),.mv []):=aH hj rfl;have vf:ev T (.var f) env = .ok (.int (F:Int),.mv []):=aH hf rfl;have vx:ev T (.var x) env = .ok (.lst (gD l),.mv [x]):=cV hx rfl;have e1:ev T (.bin .Add (.var p) (.var i)) env = .ok (.int ((P+S:Nat):Int),.mv []):=by
  rw[ev,vp,aA,vi,aA,aL];show (fR (some (D.int ((P:Int)+(S:Int))))).bind _=_;rw[show (P:Int)+(S:Int)=((P+S:Nat):Int) by omega];rfl
 have e2:ev T (.ix (.var x) (.bin .Add (.var p) (.var i))) env = .ok (.int ((l.getD (P+S) 0:Nat):Int),.mv []):=by
  rw[ev,vx,aA,e1,aA,kX hl,aK,aA];rfl
 have e3:=be vf vj (ht F G hG);have e4:ev T (.bin .BitXor (.ix (.var x) (.bin .Add (.var p) (.var i))) (.call t (.cons (.var f) (.cons (.var j) .nil)))) env = .ok (.int ((l.getD (P+S) 0^^^Fl64.tm F G:Nat):Int),.mv []):=by
  rw[ev,e2,aA,e3,aA,aL];show (fR (some (D.int (Builtin.bitXor ((l.getD (P+S) 0:Nat):Int) ((Fl64.tm F G:Nat):Int))))).bind _=_;rw[dG];rfl
 have:=gS (T:=T) tm hx e1 (f7 (by rw[aZ];exact hl)) e4 (by rw[aZ];exact cU hlen);unfold sW;rw[aD,this,aC,je];rfl
theorem qX {T:Tb}{t x p i j f:Nat}{R:List Nat}(ht:iq T t) {P F:Nat}(hxi:x≠i) (hxj:x≠j) (hij:i≠j) (hpi:p≠i) (hpj:p≠j) (hpx:p≠x) (hfi:f≠i) (hfj:f≠j) (hfx:f≠x):∀(m:List Nat) (k:Nat) (l:List Nat) (env:En),Tame env→i<env.length→j<env.length→env[x]? = some (oG l)→env[p]? = some (sN P)→env[f]? = some (sN F)→Fl64.Gr m→P+k+m.length≤l.length→l.length≤1000 →
  ∃ e:En,bL (.tp [i,j]) R (aD T (sW t x p i j f)) (AX k m) env = .nx e∧Tame e∧e.length=env.length∧e[x]? = some (oG (Fl64.eK l (P+k) (Fl64.mulR F m)))∧∀ y,y≠x→y≠i→y≠j→e[y]? = env[y]?
 |[],k,l,env,te,_,_,hx,_,_,_,_,_=>⟨env,rfl,te,rfl,hx,fun _ _ _ _=>rfl⟩
 | g::m,k,l,env,te,hi,hj,hx,hp,hf,hm,hl,hlen=>by
  have hl':P+k+(m.length+1)≤l.length:=by simpa using hl
  have hxl:x<env.length:=(ak.mp hx).1;have hb:=gL (R:=R) (x:=.int (k:Int)) (y:=.int (g:Int)) te hi hj rfl rfl;have te1:Tame ((env.set i (some (.int (k:Int),.own))).set j (some (.int (g:Int),.own))):=(te.set (aB _) i).set (aB _) j;have q1:((env.set i (some (.int (k:Int),.own))).set j (some (.int (g:Int),.own)))[x]? = some (oG l):=by
   rw[ai (Ne.symm hxj),ai (Ne.symm hxi)];exact hx
  have q2:((env.set i (some (.int (k:Int),.own))).set j (some (.int (g:Int),.own)))[p]? = some (sN P):=by
   rw[ai (Ne.symm hpj),ai (Ne.symm hpi)];exact hp
  have q3:((env.set i (some (.int (k:Int),.own))).set j (some (.int (g:Int),.own)))[i]? = some (sN k):=by
   rw[ai (Ne.symm hij),ao hi]
  have q4:((env.set i (some (.int (k:Int),.own))).set j (some (.int (g:Int),.own)))[j]? = some (sN g):=ao (by rw[ay];exact hj);have q5:((env.set i (some (.int (k:Int),.own))).set j (some (.int (g:Int),.own)))[f]? = some (sN F):=by
   rw[ai (Ne.symm hfj),ai (Ne.symm hfi)];exact hf
  have st:=xM ht te1 q1 q2 q3 q4 q5 (hm g ae) (by omega) hlen;generalize hE:(env.set i (some (.int (k:Int),.own))).set j (some (.int (g:Int),.own))=E1 at *;have hEl:E1.length=env.length:=by rw[←hE];simp
  have te2:Tame (E1.set x (oG (l.set (P+k) (l.getD (P+k) 0^^^Fl64.tm F g)))):=te1.set (aB _) x;obtain⟨e,r1,r2,r3,r4,r5⟩:=qX ht (R:=R) (P:=P) (F:=F) hxi hxj hij hpi hpj hpx hfi hfj hfx m (k+1) (l.set (P+k) (l.getD (P+k) 0^^^Fl64.tm F g)) (E1.set x (oG (l.set (P+k) (l.getD (P+k) 0^^^Fl64.tm F g)))) te2 (by simp[hEl];exact hi) (by simp[hEl];exact hj)
   (ao (by rw[hEl];exact hxl)) (by rw[ai (Ne.symm hpx)];exact q2) (by rw[ai (Ne.symm hfx)];exact q5) (fun z hz=>hm z (aa _ hz)) (by rw[ay];omega) (by rw[ay];exact hlen)
  refine⟨e,?_,r2,by rw[r3,ay,hEl],?_,fun y y1 y2 y3=>?_⟩
  ·rw[jO,bL,hb];dsimp only;rw[st];exact r1
  ·rw[r4];rfl
  ·rw[r5 y y1 y2 y3,ai (Ne.symm y1),←hE,ai (Ne.symm y3),ai (Ne.symm y2)]
noncomputable def vY (t:Nat):bJ:=(.cons (.forr (.tp [5,6]) (.enum (.var 1)) (sW t 2 3 5 6 4))
  .nil)
noncomputable def bRP (t:Nat):bJ:=(.cons (.asg (.nm 2) (.bin .Mult (.lst (.cons (.cst (.int (0))) .nil)) (.bin .Sub (.bin .Add (.blt .len (.cons (.var 0) .nil)) (.blt .len (.cons (.var 1) .nil))) (.cst (.int (1))))) false)
  (.cons (.forr (.tp [3,4]) (.enum (.var 0)) (vY t))
  (.cons (.ret (.var 2))
  .nil)))
theorem tW (T:Tb) {env:En}{i:Nat}{gs:List Nat}(h:env[i]? = some (sG gs)):eW T (.enum (.var i)) env = .ok (AX 0 gs,[]):=by
 have hv:ev T (.var i) env = .ok (.lst (gD gs),.sh []):=by
  rw[ev,h];rfl
 rw[eW,hv,aA];show (Rs.ok (gD gs)).bind _=_;rw[aA,Ea];rfl
theorem ue {T:Tb}{t:Nat}(ht:iq T t) {b:List Nat}(hb:Fl64.Gr b) (hb0:0<b.length):∀(a:List Nat) (k:Nat) (l:List Nat) (env:En),Tame env→env.length=7→env[1]? = some (sG b)→env[2]? = some (oG l)→Fl64.Gr a→k+a.length+b.length=l.length+1→l.length≤1000 →
  ∃ e:En,bL (.tp [3,4]) [] (aD T (vY t)) (AX k a) env = .nx e∧Tame e∧e.length=7∧e[2]? = some (oG (Fl64.eF l k a b))
 |[],k,l,env,te,hl,_,h2,_,_,_=>⟨env,rfl,te,hl,h2⟩
 | g::a,k,l,env,te,hl,h1,h2,ha,hk,hlen=>by
  have hk':k+(a.length+1)+b.length=l.length+1:=by simpa using hk
  have bp:=gL (R:=[]) (x:=.int (k:Int)) (y:=.int (g:Int)) (i:=3) (j:=4) te (by omega) (by omega) rfl rfl;have te1:Tame ((env.set 3 (some (.int (k:Int),.own))).set 4 (some (.int (g:Int),.own))):=(te.set (aB _) 3).set (aB _) 4;have q1:((env.set 3 (some (.int (k:Int),.own))).set 4 (some (.int (g:Int),.own)))[1]? = some (sG b):=by
   rw[ai (by decide),ai (by decide)];exact h1
  have q2:((env.set 3 (some (.int (k:Int),.own))).set 4 (some (.int (g:Int),.own)))[2]? = some (oG l):=by
   rw[ai (by decide),ai (by decide)];exact h2
  have q3:((env.set 3 (some (.int (k:Int),.own))).set 4 (some (.int (g:Int),.own)))[3]? = some (sN k):=by
   rw[ai (by decide),ao (by omega)]
  have q4:((env.set 3 (some (.int (k:Int),.own))).set 4 (some (.int (g:Int),.own)))[4]? = some (sN g):=ao (by rw[ay];omega);have ql:((env.set 3 (some (.int (k:Int),.own))).set 4 (some (.int (g:Int),.own))).length=7:=by simp[hl]
  generalize (env.set 3 (some (.int (k:Int),.own))).set 4 (some (.int (g:Int),.own))=E1 at *;obtain⟨e1,r1,r2,r3,r4,r5⟩:=qX (T:=T) (x:=2) (p:=3) (i:=5) (j:=6) (f:=4) (R:=[]) ht (P:=k) (F:=g) (by decide) (by decide) (by decide) (by decide) (by decide) (by decide) (by decide) (by decide) (by decide) b 0 l E1 te1 (by omega) (by omega) q2 q3 q4 hb (by omega) hlen;have st:aD T (vY t) E1 = .nx e1:=by
   unfold vY;rw[aD,bW (tW T q1) r1,aC];rfl
  obtain⟨e,s1,s2,s3,s4⟩:=ue ht hb hb0 a (k+1) (Fl64.eK l (k+0) (Fl64.mulR g b)) e1 r2 (by omega) (by rw[r5 1 (by decide) (by decide) (by decide)];exact q1) r4 (fun z hz=>ha z (aa _ hz)) (by rw[Fl64.eS];omega) (by rw[Fl64.eS];exact hlen);refine⟨e,?_,s2,s3,s4⟩;rw[jO,bL,bp];dsimp only;rw[st];exact s1
theorem qz:∀ n:Nat,(List.replicate n [D.int 0]).flatten=gD (List.replicate n 0)
 |0=>rfl
 | n+1=>by
  rw[df,fe,qz n,df];rfl
theorem m8 (n:Nat) (hn:n≤1000):kY .Mult (.lst [.int 0]) (.int (n:Int))=some (.lst (gD (List.replicate n 0))):=by
 have h : -(2 ^ 63:Int)≤(n:Int)∧(n:Int)<2 ^ 63:=⟨by omega,by omega⟩;have hf:D.flats [D.int 0]=true:=rfl;simp only[kY,E4];rw[if_pos h,if_pos hf,cz,qz];unfold ck;rw[if_pos (cU (by simp;omega))]
theorem me (gs:List Nat):jN .len [.lst (gD gs)]=some (.int (gs.length:Int)):=by
 show some (D.int ((gD gs).length:Int))=_;rw[aZ]
theorem gn {T:Tb}{env:En}{i:Nat}{gs:List Nat}{t:Tg}(h:env[i]? = some (some (.lst (gD gs),t))):ev T (.blt .len (.cons (.var i) .nil)) env = .ok (.int (gs.length:Int),.mv []):=by
 obtain⟨R,hv⟩:=sO (T:=T) h;have h1:bM T (.cons (.var i) .nil) env = .ok [(.lst (gD gs),R)]:=by
  rw[bM,hv,aA];rfl
 rw[ev,h1,aA,uU,me,aK,aA,bE]
theorem Gw {T:Tb}{t:Nat}(ht:iq T t) {a b:List Nat}(ha:Fl64.Gr a) (hb:Fl64.Gr b) (hb0:0<b.length) (hl:a.length+b.length≤1000):Pc.ret (aD T (bRP t) (aE [.lst (gD a),.lst (gD b)] 7)) = .ok (.lst (gD (Fl64.dH a b)),true):=by
 have hst:aE [.lst (gD a),.lst (gD b)] 7=[sG a,sG b,none,none,none,none,none]:=rfl;rw[hst];have t0:Tame [sG a,sG b,none,none,none,none,none]:=.cons (aI _) (.cons (aI _) (.cons aG (.cons aG (.cons aG (.cons aG (.cons aG .nil))))));have e1:ev T (.bin .Sub (.bin .Add (.blt .len (.cons (.var 0) .nil)) (.blt .len (.cons (.var 1) .nil))) (.cst (.int (1)))) [sG a,sG b,none,none,none,none,none] = .ok (.int ((a.length+b.length - 1:Nat):Int),.mv []):=by
  have l0:=gn (T:=T) (env:=[sG a,sG b,none,none,none,none,none]) (i:=0) (gs:=a) (t:=.sh []) rfl;have l1:=gn (T:=T) (env:=[sG a,sG b,none,none,none,none,none]) (i:=1) (gs:=b) (t:=.sh []) rfl;have e:((a.length+b.length - 1:Nat):Int)=(a.length:Int)+(b.length:Int) - 1:=by omega
  rw[e];generalize (a.length:Int)=A at l0;generalize (b.length:Int)=B at l1;have q:ev T (.bin .Add (.blt .len (.cons (.var 0) .nil)) (.blt .len (.cons (.var 1) .nil))) [sG a,sG b,none,none,none,none,none] = .ok (.int (A+B),.mv []):=by
   rw[ev,l0,aA,l1,aA];rfl
  rw[ev,q,aA];rfl
 have e2:ev T (.bin .Mult (.lst (.cons (.cst (.int (0))) .nil)) (.bin .Sub (.bin .Add (.blt .len (.cons (.var 0) .nil)) (.blt .len (.cons (.var 1) .nil))) (.cst (.int (1))))) [sG a,sG b,none,none,none,none,none] = .ok (.lst (gD (List.replicate (a.length+b.length - 1) 0)),.mv []):=by
  have q:ev T (.lst (.cons (.cst (.int (0))) .nil)) [sG a,sG b,none,none,none,none,none] = .ok (.lst [.int 0],.mv []):=rfl;rw[ev,q,aA,e1,aA,m8 _ (by omega),aK,aA,dB (fD _)]
 have g1:=aX (T:=T) (i:=2) t0 (by simp) e2;obtain⟨e,r1,r2,r3,r4⟩:=ue ht hb hb0 a 0 (List.replicate (a.length+b.length - 1) 0) [sG a,sG b,oG (List.replicate (a.length+b.length - 1) 0),none,none,none,none] (.cons (aI _) (.cons (aI _) (.cons (aB _) (.cons aG (.cons aG (.cons aG (.cons aG .nil))))))) rfl rfl rfl ha (by rw[c9];omega) (by rw[c9];omega);have g2:=bW (tW T (env:=[sG a,sG b,oG (List.replicate (a.length+b.length - 1) 0),none,none,none,none]) (i:=0) rfl) r1;unfold bRP;rw[aD,g1,aC,aD];show Pc.ret ((bA T (.forr (.tp [3,4]) (.enum (.var 0)) (vY t)) [sG a,sG b,oG (List.replicate (a.length+b.length - 1) 0),none,none,none,none]).andThen _)=_;rw[g2,aC];have hv:ev T (.var 2) e = .ok (.lst (gD (Fl64.dH a b)),.mv [2]):=cV r4 rfl;rw[aD,bA,hv,aN];have ho:bZ e [2]=true:=by
  simp[bZ,r4]
 show Pc.ret ((Fl.rt (.lst (gD (Fl64.dH a b))) (bZ e [2])).andThen _)=_;rw[ho];rfl
noncomputable def zq (T:Tb) (rp:Nat):Prop:=∀ a b:List Nat,Fl64.Gr a→Fl64.Gr b→0<b.length→a.length+b.length≤1000→T.cl rp [.lst (gD a),.lst (gD b)] = .ok (.lst (gD (Fl64.dH a b)),true)
noncomputable def rP (rp:Nat):bJ:=(.cons (.asg (.nm 1) (.call rp (.cons (.var 1) (.cons (.lst (.cons (.cst (.int (1))) (.cons (.var 2) .nil))) .nil))) false)
  .nil)
noncomputable def bRN (rp:Nat):bJ:=(.cons (.asg (.nm 1) (.lst (.cons (.cst (.int (1))) .nil)) false)
  (.cons (.forr (.nm 2) (.seq (.var 0)) (rP rp))
  (.cons (.ret (.var 1))
  .nil)))
theorem uj {T:Tb}{rp:Nat}(h:zq T rp) (N:List Nat):∀(ns r:List Nat) (o:Slot),bK o→Fl64.Gr ns→Fl64.Gr r→0<r.length→r.length+ns.length+2≤1000→∃ o',bK o'∧bL (.nm 2) [] (aD T (rP rp)) (gD ns) [sG N,oG r,o] = .nx [sG N,oG (Fl64.gQ r ns),o']
 |[],r,o,ho,_,_,_,_=>⟨o,ho,rfl⟩
 | n::ns,r,o,ho,hn,hr,h0,hl=>by
  have n64:=hn n ae;have hb:Fl64.Gr [1,n]:=.cons (by decide) (.cons n64 .nil);have hl':r.length+(ns.length+1)+2≤1000:=by simpa using hl
  have pl:(Fl64.dH r [1,n]).length=r.length+1:=by rw[Fl64.fG];simp
  obtain⟨o',ho',q⟩:=uj h N ns (Fl64.dH r [1,n]) (sN n) (aB _) (fun z hz=>hn z (aa _ hz)) (Fl64.iH hr hb) (by omega) (by omega);refine⟨o',ho',?_⟩;have bd:=dN (i:=2) (d:=.int (n:Int)) (env:=[sG N,oG r,o]) (.cons (aI _) (.cons (aB _) (.cons ho .nil))) (by simp);have v1:ev T (.var 1) [sG N,oG r,sN n] = .ok (.lst (gD r),.mv [1]):=cV rfl rfl;have e2:ev T (.lst (.cons (.cst (.int (1))) (.cons (.var 2) .nil))) [sG N,oG r,sN n] = .ok (.lst (gD [1,n]),.mv []):=by
   show ev T (.lst (.cons (.cst (.int (1))) (.cons (.var 2) .nil))) [sG N,oG r,sI (n:Int)] = .ok (.lst [.int 1,.int (n:Int)],.mv []);generalize (n:Int)=K;rfl
  have g:=aX (T:=T) (i:=1) (env:=[sG N,oG r,sN n]) (.cons (aI _) (.cons (aB _) (.cons (aB _) .nil))) (by simp) (be v1 e2 (h r [1,n] hr hb (by simp) (by simp;omega)));have st:aD T (rP rp) [sG N,oG r,sN n] = .nx [sG N,oG (Fl64.dH r [1,n]),sN n]:=by
   unfold rP;rw[aD,g,aC];rfl
  rw[gD,ba,bL,bd];show (match aD T (rP rp) [sG N,oG r,sN n] with
   |.nx e=>bL (.nm 2) [] (aD T (rP rp)) (gD ns) e
   |.ct e=>bL (.nm 2) [] (aD T (rP rp)) (gD ns) e
   |.bk e=>.nx e
   |x=>x)=_
  rw[st];exact q
theorem EV {T:Tb}{rp:Nat}(h:zq T rp) {ns:List Nat}(hn:Fl64.Gr ns) (hl:ns.length≤900):Pc.ret (aD T (bRN rp) (aE [.lst (gD ns)] 3)) = .ok (.lst (gD (Fl64.gQ [1] ns)),true):=by
 have hst:aE [.lst (gD ns)] 3=[sG ns,none,none]:=rfl;rw[hst];have g1:bA T (.asg (.nm 1) (.lst (.cons (.cst (.int (1))) .nil)) false) [sG ns,none,none] = .nx [sG ns,oG [1],none]:=rfl;obtain⟨o',_,q⟩:=uj h ns ns [1] none aG hn (.cons (by decide) .nil) (by decide) (by simp;omega);have hit:eW T (.seq (.var 0)) [sG ns,oG [1],none] = .ok (gD ns,[]):=rfl;have g2:=bW hit q;have hv:ev T (.var 1) [sG ns,oG (Fl64.gQ [1] ns),o'] = .ok (.lst (gD (Fl64.gQ [1] ns)),.mv [1]):=cV rfl rfl;unfold bRN;rw[aD,g1,aC,aD,g2,aC,aD,bA,hv,aN];rfl
noncomputable def AI (T:Tb) (pw:Nat):Prop:=∀ a k:Nat,a<64→k<2 ^ 40→T.cl pw [.int (a:Int),.int (k:Int)] = .ok (.int ((Fl64.pw a k:Nat):Int),true)
noncomputable def bCN (pw:Nat):bJ:=(.cons (.ret (.comp 1 [] (.nm 0) (.rng2 (.cst (.int (1))) (.bin .Add (.var 0) (.cst (.int (1))))) .none (.call pw (.cons (.cst (.int (2))) (.cons (.var 0) .nil)))))
  .nil)
theorem eI:∀(m a:Nat),bH (a:Int) 1 m=(List.range' a m).map fun (k:Nat)=>D.int (k:Int)
 |0,a=>rfl
 | m+1,a=>by
  rw[bH,List.range'_succ,ba,←eI m (a+1)];congr 2
theorem Gh {T:Tb}{pw:Nat}(h:AI T pw) (c:Nat) (hc:c≤900):Pc.ret (aD T (bCN pw) (aE [.int (c:Int)] 1)) = .ok (.lst (gD (Fl64.bS c)),true):=by
 have hst:aE [.int (c:Int)] 1=[sI (c:Int)]:=rfl;rw[hst];refine gu ?_;have hit:eW T (.rng2 (.cst (.int (1))) (.bin .Add (.var 0) (.cst (.int (1))))) [sI (c:Int)] = .ok ((List.range' 1 c).map (fun (k:Nat)=>D.int (k:Int)),[]):=by
  have ho:fO ((c:Int)+1)=true:=by
   have:=pQ (n:=c+1) (by omega);rw[show ((c+1:Nat):Int)=(c:Int)+1 by omega] at this;exact this
  have e:((c:Int)+1 - 1).toNat=c:=by omega
  have q:∀ C:Int,fO (C+1)=true→eW T (.rng2 (.cst (.int (1))) (.bin .Add (.var 0) (.cst (.int (1))))) [sI C] = .ok (bH 1 1 (C+1 - 1).toNat,[]):=fun C hC=>by
   have v:ev T (.bin .Add (.var 0) (.cst (.int (1)))) [sI C] = .ok (.int (C+1),.mv []):=rfl;have v1:ev T (.cst (.int (1))) [sI C] = .ok (.int 1,.mv []):=rfl;rw[eW,v1,aA,v,aA];show (if fO 1&&fO (C+1) then Rs.ok (bH 1 1 (C+1 - 1).toNat,[]) else .bad)=_;rw[hC];rfl
  rw[q _ ho,e];have:=eI c 1;rw[show ((1:Nat):Int)=1 from rfl] at this;rw[this]
 rw[jU (g:=fun d=>match d with | .int k=>(.int ((Fl64.pw 2 k.toNat:Nat):Int),.mv []) | _=>(.non,.mv [])) hit (by rw[aj,List.length_range'];exact cU (by omega)) (fun d hd=>?_) (fun d hd=>?_)]
 ·unfold Fl64.bS;rw[gD,bq,bq];congr 2
 ·obtain⟨k,hk,rfl⟩:=au.mp hd;have hk:k≤c:=by
   have:=List.mem_range'_1.mp hk;omega
  have hb:aS [] (.nm 0) (.int (k:Int)) (aJ [sI (c:Int)] 1 [])=some [sN k]:=rfl;rw[hb];have v0:ev T (.var 0) [sN k] = .ok (.int (k:Int),.mv []):=aH rfl rfl;have v2:ev T (.cst (.int (2))) [sN k] = .ok (.int ((2:Nat):Int),.mv []):=rfl;have he:=be v2 v0 (h 2 k (by decide) (by omega));simp only[aU,j9,aA,if_true,he,Int.toNat_natCast]
 ·obtain⟨k,hk,rfl⟩:=au.mp hd;rfl
noncomputable def Bh (T:Tb) (cn:Nat):Prop:=∀ c:Nat,c≤900→T.cl cn [.int (c:Int)] = .ok (.lst (gD (Fl64.bS c)),true)
noncomputable def rL (T:Tb) (wa:Nat):Prop:=∀(gs:List Nat) (x:Nat),x<64→T.cl wa [.lst (gD gs),.int (x:Int)] = .ok (.int ((Fl64.cT x gs:Nat):Int),true)
noncomputable def eIC (cn wa:Nat):Ex:=.comp 1 [0] (.nm 0) (.seq (.call cn (.cons (.var 1) .nil))) .none (.cmp .Eq (.call wa (.cons (.var 1) (.cons (.var 0) .nil))) (.cst (.int (0))))
noncomputable def bIC (cn wa:Nat):bJ:=(.cons (.ret (.blt .all (.cons (eIC cn wa) .nil)))
  .nil)
theorem qQ:∀(bs:List Bool),(bs.map D.bl).all D.isBl=true∧allB (bs.map D.bl)=some (bs.all id)
 |[]=>⟨rfl,rfl⟩
 | b::r=>by
  obtain⟨h1,h2⟩:=qQ r;refine⟨by simp[D.isBl],?_⟩;cases b
  ·rfl
  ·show allB (r.map D.bl)=_;rw[h2];simp
theorem FL {T:Tb}{cn wa:Nat}(hcn:Bh T cn) (hwa:rL T wa) (gs:List Nat) (c:Nat) (hc:c≤900):Pc.ret (aD T (bIC cn wa) (aE [.lst (gD gs),.int (c:Int)] 2)) = .ok (.bl (decide (Fl64.pW gs c)),true):=by
 have hst:aE [.lst (gD gs),.int (c:Int)] 2=[sG gs,sN c]:=rfl;rw[hst];have v1:ev T (.var 1) [sG gs,sN c] = .ok (.int (c:Int),.mv []):=aH rfl rfl;have hit:eW T (.seq (.call cn (.cons (.var 1) .nil))) [sG gs,sN c] = .ok (gD (Fl64.bS c),[]):=by
  rw[eW,i8 v1 (hcn c hc),aA];rfl
 have he:ev T (eIC cn wa) [sG gs,sN c] = .ok (.lst (((Fl64.bS c).map fun x=>decide (Fl64.cT x gs=0)).map D.bl),.mv []):=by
  unfold eIC;rw[jU (g:=fun d=>match d with | .int k=>(.bl (decide (Fl64.cT k.toNat gs=0)),.mv []) | _=>(.non,.mv [])) hit (by rw[aZ,Fl64.iN];exact cU (by omega)) (fun d hd=>?_) (fun d hd=>?_)]
  ·rw[gD,bq,bq];congr 2
  ·obtain⟨x,hx,rfl⟩:=au.mp hd;have x64:=Fl64.jh c x hx;have hb:aS [] (.nm 0) (.int (x:Int)) (aJ [sG gs,sN c] 1 [0])=some [sN x,sG gs]:=rfl;rw[hb];have w0:ev T (.var 0) [sN x,sG gs] = .ok (.int (x:Int),.mv []):=aH rfl rfl;have w1:ev T (.var 1) [sN x,sG gs] = .ok (.lst (gD gs),.sh []):=rfl;have e1:=be w1 w0 (hwa gs x x64);have e2:ev T (.cmp .Eq (.call wa (.cons (.var 1) (.cons (.var 0) .nil))) (.cst (.int (0)))) [sN x,sG gs] = .ok (.bl (decide (Fl64.cT x gs=0)),.mv []):=by
    have v:ev T (.cst (.int (0))) [sN x,sG gs] = .ok (.int 0,.mv []):=rfl;rw[ev,e1,aA,v,aA];show (fR (some (((Fl64.cT x gs:Nat):Int)==0))).bind _=_;have:(((Fl64.cT x gs:Nat):Int)==0)=decide (Fl64.cT x gs=0):=by
     rw[Bool.eq_iff_iff,beq_iff_eq,decide_eq_true_eq];omega
    rw[this];rfl
   simp only[aU,j9,aA,if_true,e2,Int.toNat_natCast]
  ·obtain⟨x,hx,rfl⟩:=au.mp hd;rfl
 refine gu ?_;have h1:bM T (.cons (eIC cn wa) .nil) [sG gs,sN c] = .ok [(.lst (((Fl64.bS c).map fun x=>decide (Fl64.cT x gs=0)).map D.bl),.mv [])]:=by
  rw[bM,he,aA];rfl
 obtain⟨a1,a2⟩:=qQ ((Fl64.bS c).map fun x=>decide (Fl64.cT x gs=0));have hb:jN .all [.lst (((Fl64.bS c).map fun x=>decide (Fl64.cT x gs=0)).map D.bl)]=some (.bl (decide (Fl64.pW gs c))):=by
  show (if (((Fl64.bS c).map fun x=>decide (Fl64.cT x gs=0)).map D.bl).all D.isBl then (allB (((Fl64.bS c).map fun x=>decide (Fl64.cT x gs=0)).map D.bl)).map D.bl else none)=_;rw[if_pos a1,a2];have:(((Fl64.bS c).map fun x=>decide (Fl64.cT x gs=0)).all id)=decide (Fl64.pW gs c):=by
   rw[Bool.eq_iff_iff,cy,decide_eq_true_eq];simp[Fl64.pW]
  rw[this];rfl
 rw[ev,h1,aA,uU,hb,aK,aA];rfl
noncomputable def Dq (T:Tb) (rn:Nat):Prop:=∀ ns:List Nat,Fl64.Gr ns→ns.length≤900→T.cl rn [.lst (gD ns)] = .ok (.lst (gD (Fl64.gQ [1] ns)),true)
structure CE (d:List Nat) (c:Nat) (D l:List Nat) (e:En):Prop where
 te:Tame e
 len:e.length=8
 h0:e[0]? = some (sG d)
 h2:e[2]? = some (oG D)
 h3:e[3]? = some (oG l)
end Pc.Gr
end
section
namespace Fl64
noncomputable def f9 (a b:Nat):Nat→Nat→Nat→Nat
 |0,_,w=>w
 |m+1,k,w=>f9 a b m (k+1) (if b / 2 ^ k%2=1 then w^^^(a*2 ^ k) else w)
noncomputable def yN:Nat→Nat→Nat
 |0,w=>w
 |m+1,w=>yN m (if w / 2 ^ (m+6)%2=1 then w^^^(67*2 ^ m) else w)
noncomputable def tm2 (a b:Nat):Nat:=yN 5 (f9 a b 6 0 0)
theorem CN {a b:Nat}(ha:a<64) (hb:b<64):tm2 a b=tm a b:=by
 have:=all2 (f:=fun a b=>decide (tm2 a b=tm a b)) (by decide +kernel) ha hb;exact of_decide_eq_true this
end Fl64
namespace Pc.Lw
open PySem Pc Pc.Sm Pc.Gr
noncomputable def EL:bJ:=(.cons (.ite (.cmp .Eq (.bin .BitAnd (.bin .RShift (.var 1) (.var 3)) (.cst (.int (1)))) (.cst (.int (1)))) (.cons (.asg (.nm 2) (.bin .BitXor (.var 2) (.bin .LShift (.var 0) (.var 3))) false)
  .nil) .nil)
  .nil)
noncomputable def EN:bJ:=(.cons (.ite (.cmp .Eq (.bin .BitAnd (.bin .RShift (.var 2) (.bin .Add (.var 3) (.cst (.int (6))))) (.cst (.int (1)))) (.cst (.int (1)))) (.cons (.asg (.nm 2) (.bin .BitXor (.var 2) (.bin .LShift (.cst (.int (67))) (.var 3))) false)
  .nil) .nil)
  .nil)
noncomputable def bLT:bJ:=(.cons (.asg (.nm 2) (.cst (.int (0))) false)
  (.cons (.forr (.nm 3) (.rng1 (.cst (.int (6)))) EL)
  (.cons (.forr (.nm 3) (.rng3 (.cst (.int (4))) (.neg (.cst (.int (1)))) (.neg (.cst (.int (1))))) EN)
  (.cons (.ret (.var 2))
  .nil))))
theorem AO (T:Tb) (a b w k:Int) (hk:0≤k) (hk':k≤1000000) (ha:a.natAbs<2 ^ 64):aD T EL [sI a,sI b,sI w,sI k] = .nx [sI a,sI b,sI (if Builtin.bitAnd (b / 2 ^ k.toNat) 1=1 then Builtin.bitXor w (a*2 ^ k.toNat) else w),sI k]:=by
 have e1:(Builtin.bitAnd (b / 2 ^ k.toNat) 1==1)=decide (Builtin.bitAnd (b / 2 ^ k.toNat) 1=1):=rfl;by_cases h1:Builtin.bitAnd (b / 2 ^ k.toNat) 1=1 <;>
  simp[e1,EL,aD,bA,ev,aA,aN,aK,aL,Pc.binI,iu,iZ,D.eqf,truth,D.flat,bE,iI,put,Tg.drop,aC,h1,hk,hk',ha]
theorem An (T:Tb) (a b w k:Int) (hk:0≤k) (hk':k≤1000000):aD T EN [sI a,sI b,sI w,sI k] = .nx [sI a,sI b,sI (if Builtin.bitAnd (w / 2 ^ (k+6).toNat) 1=1 then Builtin.bitXor w (67*2 ^ k.toNat) else w),sI k]:=by
 have e1:(Builtin.bitAnd (w / 2 ^ (k+6).toNat) 1==1)=decide (Builtin.bitAnd (w / 2 ^ (k+6).toNat) 1=1):=rfl;have hk6:0≤k+6:=by omega
 by_cases h1:Builtin.bitAnd (w / 2 ^ (k+6).toNat) 1=1 <;>
  simp[e1,EN,aD,bA,ev,aA,aN,aK,aL,Pc.binI,iu,iZ,D.eqf,truth,D.flat,bE,iI,put,Tg.drop,aC,h1,hk,hk',hk6]
theorem tT (b k:Nat):Builtin.bitAnd ((b:Int) / 2 ^ k) 1=((b / 2 ^ k%2:Nat):Int):=by
 have q:(b:Int) / 2 ^ k=((b / 2 ^ k:Nat):Int):=by simp
 rw[q,rA (fi _)];omega
theorem tf (T:Tb) (a b:Nat) (ha:a<64):∀(m k w:Nat) (o:Slot),k+m≤6→∃ o',bL (.nm 3) [] (aD T EL) (bH k 1 m) [sN a,sN b,sN w,o] = .nx [sN a,sN b,sN (Fl64.f9 a b m k w),o']
 |0,k,w,o,_=>⟨o,rfl⟩
 | m+1,k,w,o,hm=>by
  rw[bH,bL];have hb:aS [] (.nm 3) (.int (k:Int)) [sN a,sN b,sN w,o]=some [sN a,sN b,sN w,sN k]:=by
   simp[aS,put,Tg.drop,cH,D.flat]
  rw[hb];dsimp only;rw[AO T a b w k (by omega) (by omega) (by omega)];dsimp only;have e2:(if Builtin.bitAnd ((b:Int) / 2 ^ (k:Int).toNat) 1=1 then Builtin.bitXor (w:Int) ((a:Int)*2 ^ (k:Int).toNat) else (w:Int))=((if b / 2 ^ k%2=1 then w^^^(a*2 ^ k) else w:Nat):Int):=by
   rw[cz,tT];have q:(a:Int)*2 ^ k=((a*2 ^ k:Nat):Int):=by simp
   rw[q,dG];by_cases h:b / 2 ^ k%2=1
   ·rw[if_pos h,if_pos (by omega)]
   ·rw[if_neg h,if_neg (by omega)]
  have e3:((k:Int)+1)=((k+1:Nat):Int):=by omega
  rw[e2,e3];obtain⟨o',h⟩:=tf T a b ha m (k+1) (if b / 2 ^ k%2=1 then w^^^(a*2 ^ k) else w) (sN k) (by omega);exact⟨o',h⟩
theorem uv (T:Tb) (a b:Nat):∀(m w:Nat) (o:Slot),m≤5→∃ o',bL (.nm 3) [] (aD T EN) (bH ((m:Int) - 1) (-1) m) [sN a,sN b,sN w,o] = .nx [sN a,sN b,sN (Fl64.yN m w),o']
 |0,w,o,_=>⟨o,rfl⟩
 | m+1,w,o,hm=>by
  have e0:((m+1:Nat):Int) - 1=(m:Int):=by omega
  rw[e0,bH,bL];have hb:aS [] (.nm 3) (.int (m:Int)) [sN a,sN b,sN w,o]=some [sN a,sN b,sN w,sN m]:=by
   simp[aS,put,Tg.drop,cH,D.flat]
  rw[hb];dsimp only;rw[An T a b w m (by omega) (by omega)];dsimp only;have e2:(if Builtin.bitAnd ((w:Int) / 2 ^ ((m:Int)+6).toNat) 1=1 then Builtin.bitXor (w:Int) (67*2 ^ (m:Int).toNat) else (w:Int))=((if w / 2 ^ (m+6)%2=1 then w^^^(67*2 ^ m) else w:Nat):Int):=by
   have q0:((m:Int)+6).toNat=m+6:=by omega
   rw[q0,cz,tT];have q:(67:Int)*2 ^ m=((67*2 ^ m:Nat):Int):=by simp
   rw[q,dG];by_cases h:w / 2 ^ (m+6)%2=1
   ·rw[if_pos h,if_pos (by omega)]
   ·rw[if_neg h,if_neg (by omega)]
  have e3:((m:Int) + -1)=(m:Int) - 1:=by omega
  rw[e2,e3];obtain⟨o',h⟩:=uv T a b m (if w / 2 ^ (m+6)%2=1 then w^^^(67*2 ^ m) else w) (sN m) (by omega);exact⟨o',h⟩
theorem EO {T:Tb}(a b:Nat) (ha:a<64) (hb:b<64):Pc.ret (aD T bLT (aE [.int (a:Int),.int (b:Int)] 4)) = .ok (.int (Fl64.tm a b:Nat),true):=by
 have hst:aE [.int a,.int b] 4=[sN a,sN b,none,none]:=rfl;rw[hst];unfold bLT;have h1:bA T (.asg (.nm 2) (.cst (.int 0)) false) [sN a,sN b,none,none] = .nx [sN a,sN b,sN 0,none]:=rfl;obtain⟨o',h⟩:=tf T a b ha 6 0 0 none (by decide);obtain⟨o'',h'⟩:=uv T a b 5 (Fl64.f9 a b 6 0 0) o' (by decide);have h2:bA T (.forr (.nm 3) (.rng1 (.cst (.int (6)))) EL) [sN a,sN b,sN 0,none] = .nx (unlock [] [sN a,sN b,sN 0,none] [sN a,sN b,sN (Fl64.f9 a b 6 0 0),o']):=by
  rw[bA];have hit:eW T (.rng1 (.cst (.int (6)))) [sN a,sN b,sN 0,none] = .ok (bH ((0:Nat):Int) 1 6,[]):=rfl;rw[hit,aN];dsimp only;have hl:lock [] [sN a,sN b,sN 0,(none:Slot)]=[sN a,sN b,sN 0,none]:=rfl;rw[hl,h]
 have u1:∀(x:Nat) (o:Slot),unlock [] [sN a,sN b,sN 0,none] [sN a,sN b,sN x,o]=[sN a,sN b,sN x,o]:=fun x o=>by
  simp[unlock];cases o with
  |none=>rfl
  |some p=>obtain⟨d,t⟩:=p;cases t<;>rfl
 have h3:bA T (.forr (.nm 3) (.rng3 (.cst (.int (4))) (.neg (.cst (.int (1)))) (.neg (.cst (.int (1))))) EN) [sN a,sN b,sN (Fl64.f9 a b 6 0 0),o'] = .nx (unlock [] [sN a,sN b,sN (Fl64.f9 a b 6 0 0),o'] [sN a,sN b,sN (Fl64.tm2 a b),o'']):=by
  rw[bA];have hit:eW T (.rng3 (.cst (.int (4))) (.neg (.cst (.int (1)))) (.neg (.cst (.int (1))))) [sN a,sN b,sN (Fl64.f9 a b 6 0 0),o'] = .ok (bH (((5:Nat):Int) - 1) (-1) 5,[]):=rfl;rw[hit,aN];dsimp only;have hl:lock [] [sN a,sN b,sN (Fl64.f9 a b 6 0 0),o']=[sN a,sN b,sN (Fl64.f9 a b 6 0 0),o']:=by
   simp[lock];cases o' with
   |none=>rfl
   |some p=>obtain⟨d,t⟩:=p;cases t<;>rfl
  rw[hl,h'];rfl
 rw[aD,h1,aC,aD,h2,aC,u1,aD,h3,aC,Fl64.CN ha hb];generalize Fl64.tm a b=x;simp[aD,bA,ev,unlock,aN,D.flat,fB,Pc.ret,bZ]
noncomputable def bWh:bJ:=(.cons (.ret (.and (.blt (.isi "int") (.cons (.var 0) .nil)) (.not (.blt (.isi "bool") (.cons (.var 0) .nil)))))
  .nil)
theorem Fx {T:Tb}(x:Int):Pc.ret (aD T bWh (aE [.int x] 1)) = .ok (.bl true,true):=rfl
noncomputable def bCe:bJ:=(.cons (.ite (.cmp .Lt (.var 1) (.blt .len (.cons (.var 0) .nil))) (.cons (.ret (.ix (.var 0) (.var 1)))
  .nil) .nil)
  (.cons (.ret (.bin .Mult (.cst (.int (1000003))) (.bin .Add (.var 1) (.cst (.int (1))))))
  .nil))
theorem BA (ns:List Int):jN .len [.lst (ns.map D.int)]=some (.int (ns.length:Int)):=by
 show some (D.int ((ns.map D.int).length:Int))=_;rw[aj]
theorem Fs {ns:List Int}{k:Nat}(h:k<ns.length):Br (.lst (ns.map D.int)) (.int (k:Int))=some (.int ns[k]):=by
 show (Pc.kZ (ns.map D.int).length (k:Int)).bind (fun j=>(ns.map D.int)[j]?)=_;rw[f7 (by rw[aj];exact h)];simp[h]
theorem GS {T:Tb}(ns:List Int) (k:Nat):∃ v:Int,Pc.ret (aD T bCe (aE [.lst (ns.map D.int),.int (k:Int)] 2)) = .ok (.int v,true):=by
 have hst:aE [.lst (ns.map D.int),.int (k:Int)] 2=[sS (ns.map D.int),sI (k:Int)]:=rfl;rw[hst];have el:ev T (.blt .len (.cons (.var 0) .nil)) [sS (ns.map D.int),sI (k:Int)] = .ok (.int (ns.length:Int),.mv []):=by
  have h1:bM T (.cons (.var 0) .nil) [sS (ns.map D.int),sI (k:Int)] = .ok [(.lst (ns.map D.int),.sh [])]:=rfl;rw[ev,h1,aA,uU,BA,aK,aA,bE]
 have v1:ev T (.var 1) [sS (ns.map D.int),sI (k:Int)] = .ok (.int (k:Int),.mv []):=aH rfl rfl;have ec:ev T (.cmp .Lt (.var 1) (.blt .len (.cons (.var 0) .nil))) [sS (ns.map D.int),sI (k:Int)] = .ok (.bl (decide ((k:Int)<(ns.length:Int))),.mv []):=by
  rw[ev,v1,aA,el,aA];rfl
 unfold bCe;rw[aD,bA,ec,aN];by_cases h:k<ns.length
 ·rw[decide_eq_true (show (k:Int)<(ns.length:Int) by omega)];have e:ev T (.ix (.var 0) (.var 1)) [sS (ns.map D.int),sI (k:Int)] = .ok (.int ns[k],.mv []):=by
   have v0:ev T (.var 0) [sS (ns.map D.int),sI (k:Int)] = .ok (.lst (ns.map D.int),.sh []):=rfl;rw[ev,v0,aA,v1,aA,Fs h,aK,aA];rfl
  refine⟨ns[k],?_⟩;show Pc.ret ((aD T (.cons (.ret (.ix (.var 0) (.var 1))) .nil) [sS (ns.map D.int),sI (k:Int)]).andThen _)=_;rw[aD,bA,e,aN];rfl
 ·rw[decide_eq_false (show ¬ (k:Int)<(ns.length:Int) by omega)];refine⟨1000003*((k:Int)+1),?_⟩;show Pc.ret ((Fl.nx [sS (ns.map D.int),sI (k:Int)]).andThen _)=_;rw[aC];refine gu ?_;have s1:small 1000003=true:=by decide
  generalize (k:Int)=K;simp[ev,aA,D.flat,aL,Pc.binI,aK,bE,s1]
noncomputable def bMx:bJ:=(.cons (.asg (.nm 2) (.bin .Mod (.bin .Mult (.bin .Add (.bin .Add (.bin .Mod (.var 0) (.cst (.int (2147483647)))) (.bin .Mult (.cst (.int (7919))) (.var 1))) (.cst (.int (1)))) (.cst (.int (48271)))) (.cst (.int (2147483647)))) false)
  (.cons (.ret (.bin .FloorDiv (.bin .Mod (.bin .Mult (.var 2) (.bin .Add (.bin .Mod (.var 2) (.cst (.int (1009)))) (.cst (.int (1))))) (.cst (.int (2147483629)))) (.cst (.int (3)))))
  .nil))
theorem Fp {T:Tb}(c k:Int):∃ v:Int,0≤v∧Pc.ret (aD T bMx (aE [.int c,.int k] 3)) = .ok (.int v,true):=by
 have hst:aE [.int c,.int k] 3=[sI c,sI k,none]:=rfl;rw[hst];have s1:small 7919=true:=by decide
 have s2:small 48271=true:=by decide
 have g1:bA T (.asg (.nm 2) (.bin .Mod (.bin .Mult (.bin .Add (.bin .Add (.bin .Mod (.var 0) (.cst (.int (2147483647)))) (.bin .Mult (.cst (.int (7919))) (.var 1))) (.cst (.int (1)))) (.cst (.int (48271)))) (.cst (.int (2147483647)))) false) [sI c,sI k,none] = .nx [sI c,sI k,sI ((c%2147483647+7919*k+1)*48271%2147483647)]:=by
  simp[bA,ev,aA,aN,aK,aL,Pc.binI,D.flat,bE,iI,put,Tg.drop,s1,s2]
 have so:small ((c%2147483647+7919*k+1)*48271%2147483647)=true:=xF (by omega) (by omega);generalize (c%2147483647+7919*k+1)*48271%2147483647=o at g1 so;refine⟨o*(o%1009+1)%2147483629 / 3,by omega,?_⟩;unfold bMx;rw[aD,g1,aC];refine gu ?_;simp[ev,aA,D.flat,aL,Pc.binI,aK,bE,so]
noncomputable def mV (T:Tb) (mx:Nat):Prop:=∀ c k:Int,∃ v:Int,0≤v∧T.cl mx [.int c,.int k] = .ok (.int v,true)
noncomputable def eRw:Ex:=.comp 1 [] (.nm 0) (.rng1 (.var 1)) .none (.bin .Mod (.bin .Mult (.cst (.int (7))) (.var 0)) (.cst (.int (64))))
noncomputable def Aj (mx:Nat):bJ:=(.cons (.setix 3 .none (.bin .Mod (.var 2) (.var 1)) (.bin .BitXor (.ix (.var 3) (.bin .Mod (.var 2) (.var 1))) (.bin .Mod (.bin .FloorDiv (.call mx (.cons (.ix (.var 0) (.var 2)) (.cons (.var 2) .nil))) (.cst (.int (97)))) (.cst (.int (64))))))
  .nil)
noncomputable def bRw (mx:Nat):bJ:=(.cons (.asg (.nm 3) eRw false)
  (.cons (.forr (.nm 2) (.rng1 (.blt .len (.cons (.var 0) .nil))) (Aj mx))
  (.cons (.ret (.var 3))
  .nil)))
theorem Bd {T:Tb}{mx:Nat}(hmx:mV T mx) (ns:List Int) (n:Nat) (hn:0<n) (hn':n≤1000) (k:Nat) (hk:k<ns.length) {gs:List Nat}(hg:Fl64.Gr gs) (hgl:gs.length=n) (o:Slot) (ho:bK o) :
  ∃ gs',Fl64.Gr gs'∧gs'.length=n∧aS [] (.nm 2) (.int (k:Int)) [sS (ns.map D.int),sN n,o,oG gs]=some [sS (ns.map D.int),sN n,sN k,oG gs]∧aD T (Aj mx) [sS (ns.map D.int),sN n,sN k,oG gs] = .nx [sS (ns.map D.int),sN n,sN k,oG gs']:=by
 have hb:=dN (i:=2) (d:=.int (k:Int)) (env:=[sS (ns.map D.int),sN n,o,oG gs]) (.cons (aI _) (.cons (aB _) (.cons ho (.cons (aB _) .nil)))) (by simp);have te:Tame [sS (ns.map D.int),sN n,sN k,oG gs]:=.cons (aI _) (.cons (aB _) (.cons (aB _) (.cons (aB _) .nil)));obtain⟨v,hv,hm⟩:=hmx ns[k] k;have v0:ev T (.var 0) [sS (ns.map D.int),sN n,sN k,oG gs] = .ok (.lst (ns.map D.int),.sh []):=rfl;have v1:ev T (.var 1) [sS (ns.map D.int),sN n,sN k,oG gs] = .ok (.int (n:Int),.mv []):=aH rfl rfl;have v2:ev T (.var 2) [sS (ns.map D.int),sN n,sN k,oG gs] = .ok (.int (k:Int),.mv []):=aH rfl rfl;have v3:ev T (.var 3) [sS (ns.map D.int),sN n,sN k,oG gs] = .ok (.lst (gD gs),.mv [3]):=cV rfl rfl;have e1:ev T (.bin .Mod (.var 2) (.var 1)) [sS (ns.map D.int),sN n,sN k,oG gs] = .ok (.int ((k%n:Nat):Int),.mv []):=by
  rw[ev,v2,aA,v1,aA,aL];have:Pc.binI .Mod (k:Int) (n:Int)=some ((k%n:Nat):Int):=by
   show (if 0<(n:Int) then some ((k:Int)%(n:Int)) else none)=_;rw[if_pos (by omega)];simp
  rw[this];rfl
 have hlt:k%n<gs.length:=by rw[hgl];exact Nat.mod_lt _ hn
 have e2:ev T (.ix (.var 3) (.bin .Mod (.var 2) (.var 1))) [sS (ns.map D.int),sN n,sN k,oG gs] = .ok (.int ((gs.getD (k%n) 0:Nat):Int),.mv []):=by
  rw[ev,v3,aA,e1,aA,kX hlt,aK,aA];rfl
 have e3:ev T (.ix (.var 0) (.var 2)) [sS (ns.map D.int),sN n,sN k,oG gs] = .ok (.int ns[k],.mv []):=by
  rw[ev,v0,aA,v2,aA,Fs hk,aK,aA];rfl
 have e4:=be e3 v2 hm;obtain⟨w,hw,hw'⟩:=mG (a:=v / 97%64) (m:=64) (by omega) (by omega);have e5:ev T (.bin .Mod (.bin .FloorDiv (.call mx (.cons (.ix (.var 0) (.var 2)) (.cons (.var 2) .nil))) (.cst (.int (97)))) (.cst (.int (64)))) [sS (ns.map D.int),sN n,sN k,oG gs] = .ok (.int (w:Int),.mv []):=by
  have q:ev T (.bin .FloorDiv (.call mx (.cons (.ix (.var 0) (.var 2)) (.cons (.var 2) .nil))) (.cst (.int (97)))) [sS (ns.map D.int),sN n,sN k,oG gs] = .ok (.int (v / 97),.mv []):=by
   rw[ev,e4,aA];rfl
  rw[ev,q,aA,←hw];rfl
 have e6:ev T (.bin .BitXor (.ix (.var 3) (.bin .Mod (.var 2) (.var 1))) (.bin .Mod (.bin .FloorDiv (.call mx (.cons (.ix (.var 0) (.var 2)) (.cons (.var 2) .nil))) (.cst (.int (97)))) (.cst (.int (64))))) [sS (ns.map D.int),sN n,sN k,oG gs] = .ok (.int ((gs.getD (k%n) 0^^^w:Nat):Int),.mv []):=by
  rw[ev,e2,aA,e5,aA,aL];show (fR (some (D.int (Builtin.bitXor ((gs.getD (k%n) 0:Nat):Int) (w:Int))))).bind _=_;rw[dG];rfl
 have st:=gS (T:=T) (x:=3) te rfl e1 (f7 (by rw[aZ];exact hlt)) e6 (by rw[aZ,hgl];exact cU hn');refine⟨gs.set (k%n) (gs.getD (k%n) 0^^^w),Fl64.lL hg (by omega),by rw[ay];exact hgl,hb,?_⟩;unfold Aj;rw[aD,st,aC,je];rfl
theorem Fg {T:Tb}{mx:Nat}(hmx:mV T mx) (ns:List Int) (hl:ns.length≤63) (n:Nat) (hn:0<n) (hn':n≤1000):∃ gs,Fl64.Gr gs∧gs.length=n∧Pc.ret (aD T (bRw mx) (aE [.lst (ns.map D.int),.int (n:Int)] 4)) = .ok (.lst (gD gs),true):=by
 have hst:aE [.lst (ns.map D.int),.int (n:Int)] 4=[sS (ns.map D.int),sN n,none,none]:=rfl;rw[hst];have v1:ev T (.var 1) [sS (ns.map D.int),sN n,none,none] = .ok (.int (n:Int),.mv []):=aH rfl rfl;have hit:eW T (.rng1 (.var 1)) [sS (ns.map D.int),sN n,none,none] = .ok ((List.range' 0 n).map (fun (k:Nat)=>D.int (k:Int)),[]):=by
  have:=pG T _ _ _ _ v1 (pQ hn');rw[cz] at this;rw[this,←eI n 0];rfl
 have he:ev T eRw [sS (ns.map D.int),sN n,none,none] = .ok (.lst (gD ((List.range' 0 n).map fun k=>7*k%64)),.mv []):=by
  unfold eRw;rw[jU (g:=fun d=>match d with | .int k=>(.int ((7*k.toNat%64:Nat):Int),.mv []) | _=>(.non,.mv [])) hit (by rw[aj,List.length_range'];exact cU hn') (fun d hd=>?_) (fun d hd=>?_)]
  ·rw[gD,bq,bq];congr 2
  ·obtain⟨k,hk,rfl⟩:=au.mp hd;have hb:aS [] (.nm 0) (.int (k:Int)) (aJ [sS (ns.map D.int),sN n,none,none] 1 [])=some [sN k]:=rfl;rw[hb];have e:ev T (.bin .Mod (.bin .Mult (.cst (.int (7))) (.var 0)) (.cst (.int (64)))) [sN k] = .ok (.int ((7*k%64:Nat):Int),.mv []):=by
    have s7:small 7=true:=by decide
    have q:((7*k%64:Nat):Int)=7*(k:Int)%64:=by omega
    rw[q];show ev T (.bin .Mod (.bin .Mult (.cst (.int (7))) (.var 0)) (.cst (.int (64)))) [sI (k:Int)]=_;generalize (k:Int)=K;simp[ev,aA,D.flat,aL,Pc.binI,aK,bE,s7]
   simp only[aU,j9,aA,if_true,e,Int.toNat_natCast]
  ·obtain⟨k,hk,rfl⟩:=au.mp hd;rfl
 have g1:bA T (.asg (.nm 3) eRw false) [sS (ns.map D.int),sN n,none,none] = .nx [sS (ns.map D.int),sN n,none,oG ((List.range' 0 n).map fun k=>7*k%64)]:=aX (.cons (aI _) (.cons (aB _) (.cons aG (.cons aG .nil)))) (by simp) he;have hg0:Fl64.Gr ((List.range' 0 n).map fun k=>7*k%64):=fun z hz=>by
  obtain⟨k,_,rfl⟩:=au.mp hz;exact Nat.mod_lt _ (by decide)
 obtain⟨e,q1,q2⟩:=mE (t:=.nm 2) (R:=[]) (b:=aD T (Aj mx)) (fun _ e=>∃ gs o,Fl64.Gr gs∧gs.length=n∧bK o∧e=[sS (ns.map D.int),sN n,o,oG gs]) (bH 0 1 ns.length) 0 [sS (ns.map D.int),sN n,none,oG ((List.range' 0 n).map fun k=>7*k%64)] ⟨_,none,hg0,by simp,aG,rfl⟩ (fun i d e hi hj=>by
  obtain⟨gs,o,a1,a2,a3,rfl⟩:=hj;obtain⟨i1,rfl⟩:=ou _ _ _ _ hi;rw[Int.zero_add];obtain⟨gs',b1,b2,b3,b4⟩:=Bd hmx ns n hn hn' i i1 a1 a2 o a3;exact⟨_,_,b3,b4,gs',_,b1,b2,aB _,rfl⟩)
 obtain⟨gs,o,a1,a2,a3,rfl⟩:=q2;have hlen:eW T (.rng1 (.blt .len (.cons (.var 0) .nil))) [sS (ns.map D.int),sN n,none,oG ((List.range' 0 n).map fun k=>7*k%64)] = .ok (bH 0 1 ns.length,[]):=by
  have el:ev T (.blt .len (.cons (.var 0) .nil)) [sS (ns.map D.int),sN n,none,oG ((List.range' 0 n).map fun k=>7*k%64)] = .ok (.int (ns.length:Int),.mv []):=by
   have h1:bM T (.cons (.var 0) .nil) [sS (ns.map D.int),sN n,none,oG ((List.range' 0 n).map fun k=>7*k%64)] = .ok [(.lst (ns.map D.int),.sh [])]:=rfl;rw[ev,h1,aA,uU,BA,aK,aA,bE]
  have:=pG T _ _ _ _ el (pQ (by omega));rw[cz] at this;exact this
 have g2:=bW hlen q1;have v3:ev T (.var 3) [sS (ns.map D.int),sN n,o,oG gs] = .ok (.lst (gD gs),.mv [3]):=cV rfl rfl;refine⟨gs,a1,a2,?_⟩;unfold bRw;rw[aD,g1,aC,aD,g2,aC,aD,bA,v3,aN];rfl
noncomputable def bSz (mx ce:Nat):bJ:=(.cons (.asg (.nm 1) (.call mx (.cons (.call ce (.cons (.var 0) (.cons (.cst (.int (0))) .nil))) (.cons (.cst (.int (1))) .nil))) false)
  (.cons (.ite (.cmp .Eq (.bin .Mod (.var 1) (.cst (.int (8)))) (.cst (.int (0)))) (.cons (.asg (.nm 2) (.bin .Add (.cst (.int (1))) (.bin .Mod (.bin .FloorDiv (.var 1) (.cst (.int (8)))) (.cst (.int (26))))) false)
  (.cons (.ret (.tup (.cons (.var 2) (.cons (.bin .Sub (.cst (.int (63))) (.var 2)) .nil))))
  .nil)) .nil)
  (.cons (.ite (.cmp .Eq (.bin .Mod (.var 1) (.cst (.int (8)))) (.cst (.int (1)))) (.cons (.ret (.tup (.cons (.bin .Add (.cst (.int (1))) (.bin .Mod (.bin .FloorDiv (.var 1) (.cst (.int (8)))) (.cst (.int (26))))) (.cons (.bin .Add (.cst (.int (1))) (.bin .Mod (.bin .FloorDiv (.var 1) (.cst (.int (208)))) (.cst (.int (9))))) .nil))))
  .nil) .nil)
  (.cons (.ite (.cmp .Eq (.bin .Mod (.var 1) (.cst (.int (8)))) (.cst (.int (2)))) (.cons (.ret (.tup (.cons (.bin .Add (.cst (.int (1))) (.bin .Mod (.bin .FloorDiv (.var 1) (.cst (.int (8)))) (.cst (.int (5))))) (.cons (.bin .Add (.cst (.int (1))) (.bin .Mod (.bin .FloorDiv (.var 1) (.cst (.int (40)))) (.cst (.int (58))))) .nil))))
  .nil) .nil)
  (.cons (.ret (.tup (.cons (.bin .Add (.cst (.int (1))) (.bin .Mod (.bin .FloorDiv (.var 1) (.cst (.int (8)))) (.cst (.int (10))))) (.cons (.bin .Add (.cst (.int (1))) (.bin .Mod (.bin .FloorDiv (.var 1) (.cst (.int (80)))) (.cst (.int (12))))) .nil))))
  .nil)))))
noncomputable def qI (T:Tb) (ce:Nat):Prop:=∀(ns:List Int) (k:Nat),∃ v:Int,T.cl ce [.lst (ns.map D.int),.int (k:Int)] = .ok (.int v,true)
theorem FY {T:Tb}{mx ce:Nat}(hmx:mV T mx) (hce:qI T ce) (ns:List Int):∃ c h:Nat,0<c∧c≤26∧0<h∧c+h≤63∧Pc.ret (aD T (bSz mx ce) (aE [.lst (ns.map D.int)] 3)) = .ok (.tup [.int (c:Int),.int (h:Int)],true):=by
 have hst:aE [.lst (ns.map D.int)] 3=[sS (ns.map D.int),none,none]:=rfl;rw[hst];obtain⟨v,hv⟩:=hce ns 0;obtain⟨d,hd,hm⟩:=hmx v 1;have e0:ev T (.call ce (.cons (.var 0) (.cons (.cst (.int (0))) .nil))) [sS (ns.map D.int),none,none] = .ok (.int v,.mv []):=be (d1:=.lst (ns.map D.int)) (d2:=.int 0) (R1:=.sh []) (R2:=.mv []) rfl rfl hv;have g1:bA T (.asg (.nm 1) (.call mx (.cons (.call ce (.cons (.var 0) (.cons (.cst (.int (0))) .nil))) (.cons (.cst (.int (1))) .nil))) false) [sS (ns.map D.int),none,none] = .nx [sS (ns.map D.int),sI d,none] :=
  aX (.cons (aI _) (.cons aG (.cons aG .nil))) (by simp) (be (d2:=.int 1) (R2:=.mv []) e0 rfl hm)
 have key:∃ C H:Int,0<C∧C≤26∧0<H∧C+H≤63∧Pc.ret (aD T (bSz mx ce) [sS (ns.map D.int),none,none]) = .ok (.tup [.int C,.int H],true):=by
  unfold bSz;rw[aD,g1,aC];have b0:(d%8==0)=decide (d%8=0):=rfl;have b1:(d%8==1)=decide (d%8=1):=rfl;have b2:(d%8==2)=decide (d%8=2):=rfl;have m2:2≤lim:=by decide
  by_cases h0:d%8=0
  ·refine⟨1+d / 8%26,63 - (1+d / 8%26),by omega,by omega,by omega,by omega,?_⟩;simp[aD,bA,ev,bM,aA,aN,aK,aL,Pc.binI,iu,iZ,D.eqf,truth,D.flat,bE,iI,put,Tg.drop,aC,fB,b0,h0,iC,dJ,m2,Pc.ret,bZ]
  by_cases h1:d%8=1
  ·refine⟨1+d / 8%26,1+d / 208%9,by omega,by omega,by omega,by omega,?_⟩;simp[aD,bA,ev,bM,aA,aN,aK,aL,Pc.binI,iu,iZ,D.eqf,truth,D.flat,bE,iI,put,Tg.drop,aC,fB,b0,b1,h0,h1,iC,dJ,m2,Pc.ret,bZ]
  by_cases h2:d%8=2
  ·refine⟨1+d / 8%5,1+d / 40%58,by omega,by omega,by omega,by omega,?_⟩;simp[aD,bA,ev,bM,aA,aN,aK,aL,Pc.binI,iu,iZ,D.eqf,truth,D.flat,bE,iI,put,Tg.drop,aC,fB,b0,b1,b2,h0,h1,h2,iC,dJ,m2,Pc.ret,bZ]
  ·refine⟨1+d / 8%10,1+d / 80%12,by omega,by omega,by omega,by omega,?_⟩;simp[aD,bA,ev,bM,aA,aN,aK,aL,Pc.binI,iu,iZ,D.eqf,truth,D.flat,bE,iI,put,Tg.drop,aC,fB,b0,b1,b2,h0,h1,h2,iC,dJ,m2,Pc.ret,bZ]
 obtain⟨C,H,c1,c2,c3,c4,e⟩:=key;obtain⟨c,rfl,_⟩:=mG (a:=C) (m:=64) (by omega) (by omega);obtain⟨h,rfl,_⟩:=mG (a:=H) (m:=64) (by omega) (by omega);exact⟨c,h,by omega,by omega,by omega,by omega,e⟩
noncomputable def FK (T:Tb) (lt:Nat):Prop:=∀ a b:Nat,a<64→b<64→T.cl lt [.int (a:Int),.int (b:Int)] = .ok (.int ((Fl64.tm a b:Nat):Int),true)
noncomputable def isF (gs:List Nat) (k m:Nat):Prop:=∀ x∈(List.range' (k+1) m).map (Fl64.pw 2),Fl64.cT x gs=0
noncomputable instance (gs:List Nat) (k m:Nat):Decidable (isF gs k m):=by unfold isF;infer_instance
noncomputable def Dy (wh:Nat):bJ:=(.cons (.ite (.or (.not (.call wh (.cons (.var 2) .nil))) (.or (.cmp .Lt (.var 2) (.cst (.int (0)))) (.cmp .Gt (.var 2) (.cst (.int (63)))))) (.cons (.ret (.cst (.bl false)))
  .nil) .nil)
  .nil)
noncomputable def bLG (wh:Nat):bJ:=(.cons (.ite (.or (.not (.blt (.isi "list") (.cons (.var 0) .nil))) (.cmp .NotEq (.blt .len (.cons (.var 0) .nil)) (.var 1))) (.cons (.ret (.cst (.bl false)))
  .nil) .nil)
  (.cons (.forr (.nm 2) (.seq (.var 0)) (Dy wh))
  (.cons (.ret (.cst (.bl true)))
  .nil)))
noncomputable def GA (T:Tb) (wh:Nat):Prop:=∀ x:Int,T.cl wh [.int x] = .ok (.bl true,true)
theorem F6 {T:Tb}{wh:Nat}(hwh:GA T wh) {gs:List Nat}(hg:Fl64.Gr gs) (n:Nat) (hn:gs.length=n):Pc.ret (aD T (bLG wh) (aE [.lst (gD gs),.int (n:Int)] 3)) = .ok (.bl true,true):=by
 have hst:aE [.lst (gD gs),.int (n:Int)] 3=[sG gs,sN n,none]:=rfl;rw[hst];have e0:ev T (.blt (.isi "list") (.cons (.var 0) .nil)) [sG gs,sN n,none] = .ok (.bl true,.mv []):=rfl;have el:=gn (T:=T) (env:=[sG gs,sN n,none]) (i:=0) (gs:=gs) (t:=.sh []) rfl;rw[hn] at el;have v1:ev T (.var 1) [sG gs,sN n,none] = .ok (.int (n:Int),.mv []):=aH rfl rfl;have g1:=ite_ff (T:=T) (a:=(.cons (.ret (.cst (.bl false))) .nil)) (xX (Bo e0) (xr el v1 (by simp[D.eqf])));obtain⟨e,q1,_⟩:=mE (t:=.nm 2) (R:=[]) (b:=aD T (Dy wh)) (fun _ e=>∃ o,bK o∧e=[sG gs,sN n,o]) (gD gs) 0 [sG gs,sN n,none] ⟨none,aG,rfl⟩ (fun i d e hi hj=>by
  obtain⟨o,ho,rfl⟩:=hj;rw[av,ab] at hi;obtain⟨g,hgi,rfl⟩:=hi;have g64:=hg g (bu hgi);refine⟨[sG gs,sN n,sN g],[sG gs,sN n,sN g],dN (.cons (aI _) (.cons (aB _) (.cons ho .nil))) (by simp),?_,_,aB _,rfl⟩;have v2:ev T (.var 2) [sG gs,sN n,sN g] = .ok (.int (g:Int),.mv []):=aH rfl rfl;have c1:ev T (.cmp .Lt (.var 2) (.cst (.int (0)))) [sG gs,sN n,sN g] = .ok (.bl false,.mv []):=by
   have v:ev T (.cst (.int (0))) [sG gs,sN n,sN g] = .ok (.int 0,.mv []):=rfl;rw[ev,v2,aA,v,aA];show (fR (some (decide ((g:Int)<0)))).bind _=_;rw[decide_eq_false (by omega)];rfl
  have c2:ev T (.cmp .Gt (.var 2) (.cst (.int (63)))) [sG gs,sN n,sN g] = .ok (.bl false,.mv []):=by
   have v:ev T (.cst (.int (63))) [sG gs,sN n,sN g] = .ok (.int 63,.mv []):=rfl;rw[ev,v2,aA,v,aA];show (fR (some (decide ((63:Int)<(g:Int))))).bind _=_;rw[decide_eq_false (by omega)];rfl
  unfold Dy;rw[aD,ite_ff (xX (Bo (i8 v2 (hwh _))) (xX c1 c2)),aC];rfl)
 have hit:eW T (.seq (.var 0)) [sG gs,sN n,none] = .ok (gD gs,[]):=rfl;have g2:=bW hit q1;unfold bLG;rw[aD,g1,aC,aD,g2,aC];exact fin _ _
end Pc.Lw
end
section
namespace Fl64
noncomputable def sm:List (Nat×Nat)→Nat→Nat
 |[],_=>0
 |p::r,j=>tm p.1 (pw p.2 j)^^^sm r j
noncomputable def Pr (l:List (Nat×Nat)):Prop:=∀ p∈l,p.1<64∧p.2<64
noncomputable def Ey (x:Nat) (l:List (Nat×Nat)):List (Nat×Nat):=l.map fun p=>(tm p.1 (p.2^^^x),p.2)
theorem CC {x:Nat}(hx:x<64) {l:List (Nat×Nat)}(h:Pr l):Pr (Ey x l):=fun p hp=>by
 obtain⟨q,hq,rfl⟩:=au.mp hp;exact⟨bC (h q hq).1 (aT (h q hq).2 hx),(h q hq).2⟩
theorem vU {e y x P:Nat}(he:e<64) (hy:y<64) (hx:x<64) (hP:P<64):tm (tm e (y^^^x)) P=tm e (tm P y)^^^tm x (tm e P):=by
 rw[dA he (aT hy hx) hP,dO (aT hy hx) hP,iz,iz];rw[dO hx (bC he hP),dA he hP hx]
theorem yJ {x:Nat}(hx:x<64):∀{l:List (Nat×Nat)},Pr l→∀ j,sm (Ey x l) j=sm l (j+1)^^^tm x (sm l j)
 |[],_,j=>by show 0=0^^^tm x 0;rw[fS];rfl
 | p::r,h,j=>by
  have ih:=yJ hx (l:=r) (fun q hq=>h q (aa _ hq)) j;obtain⟨he,hy⟩:=h p ae;show tm (tm p.1 (p.2^^^x)) (pw p.2 j)^^^sm (Ey x r) j=(tm p.1 (tm (pw p.2 j) p.2)^^^sm r (j+1))^^^tm x (tm p.1 (pw p.2 j)^^^sm r j);rw[ih,vU he hy hx (bB hy j),iz,Ga]
theorem wM:∀(n:Nat) {l:List (Nat×Nat)},l.length=n→Pr l→(∀ p∈l,p.2≠0)→(l.map (·.2)).Nodup→∀ a,(∀ j,a≤j→j<a+n→sm l j=0)→∀ p∈l,p.1=0
 | 0,l,hl,_,_,_,_,_=>by
  have:l=[]:=List.length_eq_zero_iff.mp hl;subst this;exact fun _ h=>(nomatch h)
 |n+1,[],hl,_,_,_,_,_=>by simp at hl
 | n+1,q::r,hl,hp,h0,nd,a,hs=>by
  have hq:=hp q ae;have hr:Pr r:=fun z hz=>hp z (aa _ hz)
  rw[ba,dk] at nd;have ih:=wM n (l:=Ey q.2 r) (by simpa[Ey] using hl) (CC hq.2 hr) (fun z hz=>by
    obtain⟨y,hy,rfl⟩:=au.mp hz;exact h0 y (aa _ hy)) (by
    have:(Ey q.2 r).map (·.2)=r.map (·.2):=by simp[Ey]
    rw[this];exact nd.2) a (fun j h1 h2=>by
    rw[yJ hq.2 hr];have e1:=hs j h1 (by omega);have e2:=hs (j+1) (by omega) (by omega);have e1':tm q.1 (pw q.2 j)=sm r j:=cI e1;have e2':tm q.1 (tm (pw q.2 j) q.2)=sm r (j+1):=cI e2;rw[←e1',←e2',dO hq.2 (bC hq.1 (bB hq.2 j)),dA hq.1 (bB hq.2 j) hq.2,fq])
  have er:∀ p∈r,p.1=0:=fun p hpr=>by
   have hpp:=hr p hpr;have:=ih (tm p.1 (p.2^^^q.2),p.2) (au.mpr ⟨p,hpr,rfl⟩);rcases eA hpp.1 (aT hpp.2 hq.2) this with z | z
   ·exact z
   ·exact absurd (au.mpr ⟨p,hpr,cI z⟩) nd.1
  have sz:∀{l:List (Nat×Nat)},Pr l→(∀ p∈l,p.1=0)→sm l a=0:=by
   intro l
   induction l with
   |nil=>intro _ _;rfl
   |cons p l ihl =>
    intro h1 h2;show tm p.1 (pw p.2 a)^^^sm l a=0;rw[ihl (fun z hz=>h1 z (aa _ hz)) (fun z hz=>h2 z (aa _ hz)),h2 p ae,cA (bB (h1 p ae).2 a)];rfl
  have e:=hs a (aw _) (by omega);have e:tm q.1 (pw q.2 a)^^^sm r a=0:=e;rw[sz hr er,Nat.xor_zero] at e;intro p hpm;rcases az.mp hpm with rfl | z
  ·rcases eA hq.1 (bB hq.2 a) e with z | z
   ·exact z
   ·exact absurd z (zg hq.2 (h0 p ae) a)
  ·exact er p z
theorem vN:((List.range 63).map (pw 2)).Nodup:=by decide +kernel
theorem tV {i j:Nat}(hi:i<63) (hj:j<i):pw 2 i≠pw 2 j:=by
 have:=List.pairwise_iff_getElem.mp vN j i (by simp;omega) (by simp;omega) hj;simpa using fun e=>this (by simpa using e.symm)
end Fl64
end
section
namespace Pc.Lw
open PySem Pc Pc.Sm Pc.Gr
noncomputable abbrev cp (i:Nat):Ex:=.blt .list (.cons (.var i) .nil)
end Pc.Lw
end
section
namespace Pc.Nw
open PySem Pc Pc.Sm Pc.Lw Pc.Gr
end Pc.Nw
end
section
namespace Pc.Nw
open PySem Pc Pc.Sm Pc.Lw Pc.Gr
section
variable {T:Tb}{env:En}
theorem qS:aD T .nil env = .nx env:=by rw[aD]
theorem jF {s:St}{e:En}(h:bA T s env = .nx e):aD T (.cons s .nil) env = .nx e:=by
 rw[aD,h,aC,aD]
theorem E2 {c:En→Rs Bool}{b:En→Fl}{n:Nat}{e1:En}(h:c env = .ok true) (h2:b env = .nx e1):eP c b (n+1) env=eP c b n e1:=by
 rw[eP,h,aN,if_pos rfl,h2]
theorem FR {c:En→Rs Bool}{b:En→Fl}{n:Nat}(h:c env = .ok false):eP c b (n+1) env = .nx env:=by
 rw[eP,h,aN];rfl
end
section
variable {T:Tb}{env:En}
end
theorem wy {T:Tb}{env:En}{x:Nat}{e v:Ex}{ks:List (Int×MV)}{n:Int}{dv:D}{m:MV}{R R':Rt}(ht:Tame env) (hx:env[x]? = some (some (.mpi ks,.own))) (hl:ks.length<lim) (h:ev T e env = .ok (.int n,R)) (hv:ev T v env = .ok (dv,R')) (hm:AH dv=some m):bA T (.putd x e v) env = .nx (env.set x (some (.mpi (sJ ks n m),.own))):=by
 rw[bA];have:ownAt env x=some (.mpi ks):=by unfold ownAt;rw[hx]
 rw[this];dsimp only;rw[hv,aN,h,aN];dsimp only[zS];rw[if_pos hl,hm];dsimp only[Option.map];rw[gM ht]
end Pc.Nw
end
section
namespace Pc.Fr
open PySem Pc Pc.Sm Pc.Lw Pc.Gr Pc.Nw
noncomputable def cnt (s t:Int):Nat:=((if s<t+3 then s else t+3) - t).toNat
end Pc.Fr
end
section
namespace Md
open Fl64
structure F where
 v:Nat
 h:v<64
theorem F.ext {a b:F}(h:a.v=b.v):a=b:=by cases a;cases b;cases h;rfl
noncomputable instance:Add F:=⟨fun a b=>⟨a.v^^^b.v,aT a.h b.h⟩⟩
noncomputable instance:Mul F:=⟨fun a b=>⟨tm a.v b.v,bC a.h b.h⟩⟩
noncomputable instance:OfNat F 0:=⟨⟨0,by decide⟩⟩
noncomputable instance:OfNat F 1:=⟨⟨1,by decide⟩⟩
theorem GV (a b:F):(a+b).v=a.v^^^b.v:=rfl
theorem GR (a b:F):(a*b).v=tm a.v b.v:=rfl
theorem add_comm (a b:F):a+b=b+a:=F.ext (Nat.xor_comm ..)
theorem add_assoc (a b c:F):a+b+c=a+(b+c):=F.ext (br ..)
theorem mul_comm (a b:F):a*b=b*a:=F.ext (dO a.h b.h)
theorem mul_assoc (a b c:F):a*b*c=a*(b*c):=F.ext (dA a.h b.h c.h)
theorem add_zero (a:F):a+0=a:=F.ext (Nat.xor_zero _)
theorem zero_add (a:F):0+a=a:=F.ext (cu _)
theorem my (a:F):a+a=0:=F.ext (fq _)
theorem mul_one (a:F):a*1=a:=F.ext (ke a.h)
theorem one_mul (a:F):1*a=a:=F.ext (lZ a.h)
theorem mul_zero (a:F):a*0=0:=rfl
theorem zero_mul (a:F):0*a=0:=F.ext (cA a.h)
theorem mul_add (a b c:F):a*(b+c)=a*b+a*c:=F.ext (iz a.v b.v c.v)
theorem add_mul (a b c:F):(a+b)*c=a*c+b*c:=F.ext (iF a.h b.h c.h)
theorem jq {a b:F}(ha:a≠0) (hb:b≠0):a*b≠0:=fun e=>by
 rcases eA a.h b.h (congrArg F.v e) with h | h
 ·exact ha (F.ext h)
 ·exact hb (F.ext h)
theorem uN {a b:F}(h:a+b=0):a=b:=F.ext (cI (congrArg F.v h))
noncomputable instance:Std.Associative (α:=F) (· + ·):=⟨add_assoc⟩
noncomputable instance:Std.Commutative (α:=F) (· + ·):=⟨add_comm⟩
noncomputable instance:Std.Associative (α:=F) (· * ·):=⟨mul_assoc⟩
noncomputable instance:Std.Commutative (α:=F) (· * ·):=⟨mul_comm⟩
noncomputable instance:DecidableEq F:=fun a b=>if h:a.v=b.v then .isTrue (F.ext h) else .isFalse fun e=>h (congrArg F.v e)
noncomputable def sum:Nat→(Nat→F)→F
 |0,_=>0
 |n+1,f=>sum n f+f n
theorem aR:∀{n:Nat}{f g:Nat→F},(∀ i,i<n→f i=g i)→sum n f=sum n g
 |0,_,_,_=>rfl
 |n+1,f,g,h=>by rw[sum,sum,aR fun i hi=>h i (by omega),h n (by omega)]
theorem cZ:∀{n:Nat}{f:Nat→F},(∀ i,i<n→f i=0)→sum n f=0
 |0,_,_=>rfl
 |n+1,f,h=>by rw[sum,cZ fun i hi=>h i (by omega),h n (by omega),add_zero]
theorem sum_add:∀(n:Nat) (f g:Nat→F),sum n (fun i=>f i+g i)=sum n f+sum n g
 |0,_,_=>(add_zero 0).symm
 |n+1,f,g=>by rw[sum,sum,sum,sum_add n];ac_rfl
theorem fZ (a:F):∀(n:Nat) (f:Nat→F),a*sum n f=sum n fun i=>a*f i
 |0,_=>rfl
 |n+1,f=>by rw[sum,sum,mul_add,fZ a n]
theorem tH (n:Nat) (f:Nat→F) (a:F):sum n f*a=sum n fun i=>f i*a:=by
 rw[mul_comm,fZ];exact aR fun i _=>mul_comm ..
theorem qy (m:Nat):∀(n:Nat) (f:Nat→Nat→F),sum m (fun i=>sum n (f i))=sum n fun j=>sum m fun i=>f i j
 |0,f=>cZ fun _ _=>rfl
 | n+1,f=>by
  rw[sum,←qy m n f,←sum_add];rfl
theorem fQ {n:Nat}{f:Nat→F}:∀{m:Nat},n≤m→(∀ i,n≤i→i<m→f i=0)→sum m f=sum n f
 |0,h,_=>by rw[Nat.le_zero.mp h]
 | m+1,h,z=>by
  by_cases e:n=m+1
  ·rw[e]
  ·rw[sum,z m (by omega) (by omega),add_zero];exact fQ (by omega) fun i a b=>z i a (by omega)
theorem cQ:∀(n:Nat) (f:Nat→F),sum (n+1) f=f 0+sum n fun i=>f (i+1)
 |0,f=>by show 0+f 0=f 0+0;rw[zero_add,add_zero]
 |n+1,f=>by rw[sum,cQ n,sum,add_assoc]
theorem Ai {n k:Nat}{f:Nat→F}(hk:k<n) (z:∀ i,i<n→i≠k→f i=0):sum n f=f k:=by
 rw[fQ (n:=k+1) (by omega) fun i a b=>z i b (by omega),sum,cZ fun i h=>z i (by omega) (by omega),zero_add]
noncomputable def at' (g:Nat→F) (n k:Nat):F:=if k≤n then g (n - k) else 0
noncomputable def conv (f g:Nat→F) (n:Nat):F:=sum (n+1) fun j=>f j*g (n - j)
theorem Ad (f g:Nat→F) {n M:Nat}(h:n<M):conv f g n=sum M fun j=>f j*at' g n j:=by
 rw[fQ (n:=n+1) (by omega) fun i a b=>by rw[at',if_neg (by omega),mul_zero]];exact aR fun i hi=>by rw[at',if_pos (by omega)]
theorem qu (f g t:Nat→F) (n:Nat):conv f (conv g t) n=sum (n+1) fun j=>sum (n+1) fun i=>f j*(g i*(if i+j≤n then t (n - (i+j)) else 0)):=by
 refine aR fun j hj=>?_
 rw[Ad g t (n:=n - j) (M:=n+1) (by omega),fZ];refine aR fun i hi=>?_
 unfold at';by_cases h:i+j≤n
 ·rw[if_pos h,if_pos (by omega)];congr 2;congr 1;omega
 ·rw[if_neg h,if_neg (by omega)]
theorem uX (f g t:Nat→F) (n:Nat):conv f (conv g t) n=conv g (conv f t) n:=by
 rw[qu,qu,qy];refine aR fun i hi=>aR fun j hj=>?_
 rw[Nat.add_comm i j];generalize (if j+i≤n then t (n - (j+i)) else 0)=y
 ac_rfl
theorem uf:∀(n:Nat) (f:Nat→F),sum n f=sum n fun i=>f (n - 1 - i)
 |0,_=>rfl
 | n+1,f=>by
  rw[cQ n (fun i=>f (n+1 - 1 - i)),sum,uf n f,add_comm];congr 1;exact aR fun i hi=>by congr 1;omega
theorem dE (f g:Nat→F) (n:Nat):conv f g n=conv g f n:=by
 unfold conv;rw[uf];refine aR fun i hi=>?_
 rw[mul_comm];congr 1<;>congr 1<;>omega
theorem g7 {f f' g g':Nat→F}{n:Nat}(h1:∀ j,j≤n→f j=f' j) (h2:∀ j,j≤n→g j=g' j):conv f g n=conv f' g' n :=
 aR fun j hj=>by rw[h1 j (by omega),h2 (n - j) (by omega)]
theorem gK (f g t:Nat→F) (n:Nat):conv (fun j=>f j+g j) t n=conv f t n+conv g t n:=by
 unfold conv;rw[←sum_add];exact aR fun j _=>add_mul ..
theorem gG (a:F) (f t:Nat→F) (n:Nat):conv (fun j=>a*f j) t n=a*conv f t n:=by
 unfold conv;rw[fZ];exact aR fun j _=>mul_assoc ..
noncomputable def sh (f:Nat→F):Nat→F
 |0=>0
 |n+1=>f n
theorem iQ (f t:Nat→F) (n:Nat):conv (sh f) t (n+1)=conv f t n:=by
 unfold conv;rw[cQ];show 0*_+_=_;rw[zero_mul,zero_add];exact aR fun i hi=>by show f i*_=_;congr 2;omega
theorem lN (f t:Nat→F):conv (sh f) t 0=0:=by
 show 0+sh f 0*_=0;rw[zero_add];exact zero_mul _
structure Goes (t C:Nat→F) (L n:Nat):Prop where
 one:C 0=1
 deg:∀ j,L<j→C j=0
 zer:∀ k,L≤k→k<n→conv C t k=0
theorem CY {t C C':Nat→F}{L L' n:Nat}(g:Goes t C L n) (hd:conv C t n≠0) (g':Goes t C' L' (n+1)):n+1≤L+L':=by
 refine Decidable.byContradiction fun h=>hd ?_
 have e:conv C' (conv C t) n=conv C t n:=by
  show sum (n+1) _=_;rw[cQ,g'.one,one_mul,cZ fun i hi=>?_,add_zero];rfl;by_cases hL:i+1≤L'
  ·rw[g.zer (n - (i+1)) (by omega) (by omega),mul_zero]
  ·rw[g'.deg _ (by omega),zero_mul]
 have e':conv C (conv C' t) n=0:=by
  refine cZ fun i hi=>?_
  by_cases hL:i≤L
  ·rw[g'.zer (n - i) (by omega) (by omega),mul_zero]
  ·rw[g.deg _ (by omega),zero_mul]
 rw[←e,uX,e']
structure Bm (t C f:Nat→F) (L:Nat) (b:F) (n:Nat):Prop where
 go:Goes t C L n
 le:L≤n
 deg:∀ j,n - L<j→f j=0
 zer:∀ k,n - L≤k→k+1<n→conv f t k=0
 las:∀ k,n - L≤k→k+1=n→conv f t k=b
 ne:b≠0
theorem Bm.init (t C f:Nat→F) (h0:C 0=1) (h:∀ j,0<j→C j=0) (hf:∀ j,0<j→f j=0):Bm t C f 0 1 0 where
 go:=⟨h0,h,fun k _ h=>absurd h (Nat.not_lt_zero k)⟩
 le:=aw 0
 deg:=hf
 zer:=fun k _ h=>absurd h (Nat.not_lt_zero _)
 las:=fun k _ h=>absurd h (by omega)
 ne:=by decide
theorem Bm.same {t C f:Nat→F}{L n:Nat}{b:F}(B:Bm t C f L b n) (h:conv C t n=0):Bm t C (sh f) L b (n+1) where
 go:=⟨B.go.one,B.go.deg,fun k a c=>by
  by_cases e:k=n
  ·rw[e,h]
  ·exact B.go.zer k a (by omega)⟩
 le:=by have:=B.le;omega
 deg:=fun j hj=>by
  cases j with
  |zero=>rfl
  |succ j=>exact B.deg j (by have:=B.le;omega)
 zer:=fun k a c=>by
  cases k with
  |zero=>exact lN ..
  |succ k=>rw[iQ];exact B.zer k (by have:=B.le;omega) (by omega)
 las:=fun k a c=>by
  cases k with
  |zero=>exact absurd a (by have:=B.le;omega)
  |succ k=>rw[iQ];exact B.las k (by have:=B.le;omega) (by omega)
 ne:=B.ne
noncomputable def qk (C f:Nat→F) (a:F):Nat→F:=fun j=>C j+a*sh f j
theorem Bm.amend {t C f:Nat→F}{L n:Nat}{b d a:F}(B:Bm t C f L b n) (hd:conv C t n=d) (ha:a*b=d) (M:Nat) (h1:L≤M) (h2:n+1 - L≤M):Goes t (qk C f a) M (n+1) where
 one:=by show C 0+a*0=1;rw[mul_zero,add_zero];exact B.go.one
 deg:=fun j hj=>by
  show C j+a*sh f j=0;rw[B.go.deg j (by omega),zero_add];cases j with
  |zero=>rfl
  |succ j=>show a*f j=0;rw[B.deg j (by omega),mul_zero]
 zer:=fun k a' c=>by
  unfold qk;rw[gK,gG];cases k with
  |zero=>exact absurd h2 (by have:=B.le;omega)
  |succ k =>
   rw[iQ];by_cases e:k+1=n
   ·rw[e,hd,B.las k (by omega) e,ha,my]
   ·rw[B.go.zer _ (by omega) (by omega),B.zer k (by omega) (by omega),mul_zero,add_zero]
theorem Bm.longer {t C f:Nat→F}{L n:Nat}{b d a:F}(B:Bm t C f L b n) (hd:conv C t n=d) (h0:d≠0) (ha:a*b=d) (h:2*L≤n):Bm t (qk C f a) C (n+1 - L) d (n+1) where
 go:=B.amend hd ha _ (by omega) (by omega)
 le:=by omega
 deg:=fun j hj=>B.go.deg j (by omega)
 zer:=fun k a c=>B.go.zer k (by omega) (by omega)
 las:=fun k a c=>by rw[show k=n by omega,hd]
 ne:=h0
theorem Bm.kept {t C f:Nat→F}{L n:Nat}{b d a:F}(B:Bm t C f L b n) (hd:conv C t n=d) (ha:a*b=d) (h:¬ 2*L≤n):Bm t (qk C f a) (sh f) L b (n+1) where
 go:=B.amend hd ha _ (by omega) (by omega)
 le:=by have:=B.le;omega
 deg:=fun j hj=>by
  cases j with
  |zero=>rfl
  |succ j=>exact B.deg j (by have:=B.le;omega)
 zer:=fun k a c=>by
  cases k with
  |zero=>exact lN ..
  |succ k=>rw[iQ];exact B.zer k (by have:=B.le;omega) (by omega)
 las:=fun k a c=>by
  cases k with
  |zero=>exact absurd a (by have:=B.le;omega)
  |succ k=>rw[iQ];exact B.las k (by have:=B.le;omega) (by omega)
 ne:=B.ne
theorem Bm.least {t C f:Nat→F}{L n w N:Nat}{b:F}{R:Nat→F}(B:Bm t C f L b n) (hd:conv C t n≠0) (R':Goes t R w N) (hN:n+1≤N):n+1 - L≤w:=by
 have:=CY B.go hd (C':=R) (L':=w) ⟨R'.one,R'.deg,fun k a c=>R'.zer k a (by omega)⟩;omega
end Md
end
section
namespace Md
open Fl64
noncomputable def fM (x:F):Nat→F
 |0=>1
 |n+1=>fM x n*x
theorem j0 (x:F) (m:Nat):∀ n,fM x (m+n)=fM x m*fM x n
 |0=>(mul_one _).symm
 |n+1=>by show fM x (m+n)*x=fM x m*(fM x n*x);rw[j0 x m n,mul_assoc]
theorem ze {x:F}(h:x≠0):∀ n,fM x n≠0
 |0=>by show (1:F)≠0;decide
 |n+1=>jq (ze h n) h
noncomputable def wo (f:Nat→F) (n:Nat) (x:F):F:=sum n fun j=>f j*fM x (n - 1 - j)
theorem pK (f:Nat→F) (n:Nat) (x:F):wo f (n+1) x=wo f n x*x+f n:=by
 show sum n _+_=_;unfold wo;rw[tH];congr 1
 ·refine aR fun j hj=>?_
  rw[mul_assoc];congr 1;show fM x (n+1 - 1 - j)=fM x (n - 1 - j+1);congr 1;omega
 ·show f n*fM x (n+1 - 1 - n)=f n;rw[show n+1 - 1 - n=0 by omega];exact mul_one _
theorem ud {f:Nat→F}{n:Nat}{x:F}:∀{m:Nat},n≤m→(∀ j,n≤j→j<m→f j=0)→wo f m x=wo f n x*fM x (m - n)
 |0,h,_=>by rw[Nat.le_zero.mp h];exact (mul_one _).symm
 | m+1,h,z=>by
  by_cases e:n=m+1
  ·rw[e,Nat.sub_self];exact (mul_one _).symm
  ·rw[pK,z m (by omega) (by omega),add_zero,ud (m:=m) (by omega) fun j a b=>z j a (by omega),mul_assoc];congr 1;show fM x (m - n+1)=_;congr 1;omega
theorem BB (f:Nat→F) (n:Nat) (x:F):wo (sh f) (n+1) x=wo f n x:=by
 unfold wo;rw[cQ];show 0*_+_=_;rw[zero_mul,zero_add];exact aR fun i hi=>by show f i*_=_;congr 2;omega
theorem rm (f g:Nat→F) (n:Nat) (x:F):wo (fun j=>f j+g j) n x=wo f n x+wo g n x:=by
 unfold wo;rw[←sum_add];exact aR fun j _=>add_mul ..
theorem pL (a:F) (f:Nat→F) (n:Nat) (x:F):wo (fun j=>a*f j) n x=a*wo f n x:=by
 unfold wo;rw[fZ];exact aR fun j _=>mul_assoc ..
theorem p7 {f g:Nat→F}{n:Nat}{x:F}(h:∀ j,j<n→f j=g j):wo f n x=wo g n x:=aR fun j hj=>by rw[h j hj]
noncomputable def eY:List F→Nat→F
 |[],n=>if n=0 then 1 else 0
 |x::l,n=>eY l n+x*sh (eY l) n
theorem lG:∀(l:List F) {j:Nat},l.length<j→eY l j=0
 |[],j,h=>if_neg (by simp at h;omega)
 | x::l,j,h=>by
  simp only[List.length_cons] at h;show eY l j+x*sh (eY l) j=0;rw[lG l (by omega),zero_add];cases j with
  |zero=>rfl
  |succ j=>show x*eY l j=0;rw[lG l (by omega),mul_zero]
theorem uG:∀(l:List F),eY l 0=1
 |[]=>rfl
 |x::l=>by show eY l 0+x*0=1;rw[uG l,mul_zero,add_zero]
noncomputable def dist (x:F):List F→F
 |[]=>1
 |y::l=>dist x l*(x+y)
theorem uo (x:F):∀(l:List F),wo (eY l) (l.length+1) x=dist x l
 |[]=>by show 0+1*1=1;rw[zero_add,mul_one]
 | y::l=>by
  show wo (fun j=>eY l j+y*sh (eY l) j) (l.length+1+1) x=dist x l*(x+y);rw[rm,pL,BB,pK,lG l (Nat.lt_succ_self _),add_zero,uo x l,mul_add,mul_comm y]
theorem pb {x:F}:∀{l:List F},x∉l→dist x l≠0
 |[],_=>by show (1:F)≠0;decide
 |y::l,h=>jq (pb fun e=>h (aa _ e)) fun e=>h (by rw[uN e];exact ae)
theorem iV {x:F}:∀{l:List F},x∈l→dist x l=0
 | y::l,h=>by
  show dist x l*(x+y)=0;rcases az.mp h with rfl | h
  ·rw[my,mul_zero]
  ·rw[iV h,zero_mul]
theorem wK (f g:Nat→F):∀ n,sh (fun j=>f j+g j) n=sh f n+sh g n
 |0=>(add_zero 0).symm
 |n+1=>rfl
theorem xl (a:F) (f:Nat→F):∀ n,sh (fun j=>a*f j) n=a*sh f n
 |0=>rfl
 |n+1=>rfl
theorem sY {l m:List F}(h:l.Perm m):eY l=eY m:=by
 induction h with
 |nil=>rfl
 |cons x _ ih=>funext n;show eY _ n+x*sh (eY _) n=_;rw[ih];rfl
 |swap x y l =>
  funext n;show (eY l n+x*sh (eY l) n)+y*sh (fun j=>eY l j+x*sh (eY l) j) n=(eY l n+y*sh (eY l) n)+x*sh (fun j=>eY l j+y*sh (eY l) j) n;rw[wK,wK,xl,xl,mul_add,mul_add,←mul_assoc,←mul_assoc,mul_comm y x]
  ac_rfl
 |trans _ _ a b=>rw[a,b]
noncomputable def ps:List (F×F)→Nat→F
 |[],_=>0
 |p::l,j=>p.1*fM p.2 j+ps l j
noncomputable def lsum:List F→F
 |[]=>0
 |a::l=>a+lsum l
theorem uk (j:Nat):∀(l:List (F×F)),ps l j=lsum (l.map fun p=>p.1*fM p.2 j)
 |[]=>rfl
 |p::l=>by show _+_=_+_;rw[uk j l]
theorem iX {f:Nat→F}(g:Nat→F) {n:Nat}(h:∀ j,j≤n→f j=0):conv f g n=0:=cZ fun j hj=>by rw[h j (by omega),zero_mul]
theorem u4 (x:F) {G:Nat→F}{m:Nat}(hG:∀ j,m<j→G j=0) (k:Nat):conv (fun j=>fM x (j+1)) G (m+k)=fM x (k+1)*wo G (m+1) x:=by
 rw[dE];unfold conv wo;rw[fQ (n:=m+1) (by omega) fun i a b=>by rw[hG i (by omega),zero_mul],fZ];refine aR fun j hj=>?_
 show G j*fM x (m+k - j+1)=_;rw[show m+k - j+1=(k+1)+(m+1 - 1 - j) by omega,j0]
 ac_rfl
theorem freed {G:Nat→F}{m:Nat}(hG:∀ j,m<j→G j=0) (k:Nat):∀(es:List (F×F)),conv (fun j=>ps es (j+1)) G (m+k)=ps (es.map fun p=>(p.1*(p.2*wo G (m+1) p.2),p.2)) k
 |[]=>iX G fun _ _=>rfl
 | p::l=>by
  show conv (fun j=>p.1*fM p.2 (j+1)+ps l (j+1)) G (m+k)=p.1*(p.2*wo G (m+1) p.2)*fM p.2 k+ps _ k;rw[gK,gG,u4 p.2 hG,freed hG k l];congr 1;show p.1*(fM p.2 k*p.2*wo G (m+1) p.2)=_
  ac_rfl
theorem vT (x:F) (l:List F):∀ k,conv (fun j=>fM x (j+1)) (eY (x::l)) k=x*eY l k:=by
 have h:∀(f:Nat→F) k,conv f (fun j=>fM x (j+1)) (k+1)=x*conv f (fun j=>fM x (j+1)) k+f (k+1)*x:=fun f k=>by
  show sum (k+1) _+f (k+1)*fM x (k+1 - (k+1)+1)=_;rw[Nat.sub_self,show fM x (0+1)=x from one_mul x];unfold conv;rw[fZ];congr 1;refine aR fun j hj=>?_
  show f j*fM x (k+1 - j+1)=x*(f j*fM x (k - j+1));rw[show k+1 - j+1=(k - j+1)+1 by omega];show f j*(fM x (k - j+1)*x)=_
  ac_rfl
 intro k;rw[dE];show conv (fun j=>eY l j+x*sh (eY l) j) _ k=_;rw[gK,gG];cases k with
 |zero =>
  rw[lN,mul_zero,add_zero];show 0+eY l 0*(1*x)=_;rw[zero_add,one_mul,mul_comm]
 |succ k =>
  rw[iQ,h];generalize x*conv (eY l) (fun j=>fM x (j+1)) k=y;rw[add_comm y,add_assoc,my,add_zero,mul_comm]
theorem heads (ls:List F):∀(es:List (F×F)),(∀ p∈es,p.2∈ls)→∀ k,conv (fun j=>ps es (j+1)) (eY ls) k=lsum (es.map fun p=>p.1*(p.2*eY (ls.erase p.2) k))
 |[],_,k=>iX _ fun _ _=>rfl
 | p::l,h,k=>by
  show conv (fun j=>p.1*fM p.2 (j+1)+ps l (j+1)) _ k=p.1*(p.2*eY (ls.erase p.2) k)+lsum _;rw[gK,gG,heads ls l (fun q hq=>h q (aa _ hq)),sY (List.perm_cons_erase (h p ae)),vT]
theorem zN (n:Nat) (x:F):wo (fun _=>0) n x=0:=cZ fun _ _=>zero_mul _
theorem qC {ls:List F}(x:F) (h0:ls≠[]):∀(es:List (F×F)),(∀ p∈es,p.2∈ls)→wo (fun k=>lsum (es.map fun p=>p.1*(p.2*eY (ls.erase p.2) k))) ls.length x=lsum (es.map fun p=>p.1*(p.2*dist x (ls.erase p.2)))
 |[],_=>zN _ _
 | p::l,h=>by
  show wo (fun k=>p.1*(p.2*eY (ls.erase p.2) k)+lsum (l.map _)) ls.length x=p.1*(p.2*_)+lsum _;rw[rm,pL,pL,qC x h0 l fun q hq=>h q (aa _ hq)];have e:ls.length=(ls.erase p.2).length+1:=by
   rw[List.length_erase_of_mem (h p ae)];have:0<ls.length:=List.length_pos_iff.mpr h0;omega
  conv=>lhs;lhs;rw[e]
  rw[uo]
theorem oQ:∀{l:List F},(∀ a∈l,a=0)→lsum l=0
 |[],_=>rfl
 |a::l,h=>by show a+lsum l=0;rw[h a ae,zero_add];exact oQ fun b hb=>h b (aa _ hb)
theorem wQ {ls:List F}{es:List (F×F)}(hn:(es.map (·.2)).Nodup) (hnl:ls.Nodup) (h:∀ p∈es,p.2∈ls) {p:F×F}(hp:p∈es) :
  lsum (es.map fun q=>q.1*(q.2*dist p.2 (ls.erase q.2)))=p.1*(p.2*dist p.2 (ls.erase p.2)):=by
 have z:∀ q∈es,q.2≠p.2→q.1*(q.2*dist p.2 (ls.erase q.2))=0:=fun q hq hne=>by
  rw[iV ((List.mem_erase_of_ne (Ne.symm hne)).mpr (h p hp)),mul_zero,mul_zero]
 clear h
 induction es with
 |nil=>cases hp
 |cons q l ih =>
  rw[ba,dk] at hn;show q.1*(q.2*_)+lsum _=_;rcases az.mp hp with rfl | hp
  ·rw[oQ,add_zero];intro a ha;obtain⟨r,hr,rfl⟩:=au.mp ha;exact z r (aa _ hr) fun e=>hn.1 (au.mpr ⟨r,hr,e⟩)
  ·rw[z q ae fun e=>hn.1 (au.mpr ⟨p,hp,e.symm⟩),zero_add];exact ih hn.2 hp fun r hr=>z r (aa _ hr)
theorem AD {es:List (F×F)}{t:Nat→F}{N:Nat}(ht:∀ k,k<N→t k=ps es k):Goes t (eY (es.map (·.2))) es.length N where
 one:=uG _
 deg:=fun j hj=>lG _ (by rw[aj];exact hj)
 zer:=fun k a b=>by
  rw[g7 (g':=ps es) (fun _ _=>rfl) fun j hj=>ht j (by omega)];have key:∀(es':List (F×F)),(∀ p∈es',p.2∈es.map (·.2))→conv (eY (es.map (·.2))) (ps es') k=0:=by
   intro es'
   induction es' with
   |nil=>exact fun _=>cZ fun _ _=>mul_zero _
   |cons p l ih =>
    intro h;rw[dE];show conv (fun j=>p.1*fM p.2 j+ps l j) _ k=0;rw[gK,gG,dE (ps l),ih fun q hq=>h q (aa _ hq),add_zero];have hk:k=es.length+(k - es.length):=by omega
    have e:conv (fM p.2) (eY (es.map (·.2))) k=fM p.2 (k - es.length)*wo (eY (es.map (·.2))) (es.length+1) p.2:=by
     conv=>lhs;rw[hk]
     rw[dE];unfold conv wo;rw[fQ (n:=es.length+1) (by omega) fun i a b=>by rw[lG _ (by rw[aj];omega),zero_mul],fZ];refine aR fun j hj=>?_
     rw[show es.length+(k - es.length) - j=(k - es.length)+(es.length+1 - 1 - j) by omega,j0]
     ac_rfl
    have e2:=uo p.2 (es.map (·.2));rw[aj] at e2;rw[e,e2,iV (h p ae),mul_zero,mul_zero]
  exact key es fun p hp=>au.mpr ⟨p,hp,rfl⟩
theorem vand {l:List (F×F)}(h0:∀ p∈l,p.2≠0) (hn:(l.map (·.2)).Nodup) {a:Nat}(z:∀ j,a≤j→j<a+l.length→ps l j=0):∀ p∈l,p.1=0:=by
 have pw_v:∀(x:F) j,(fM x j).v=pw x.v j:=fun x j=>by
  induction j with
  |zero=>rfl
  |succ j ih=>show tm (fM x j).v x.v=_;rw[ih];rfl
 have sm_v:∀(l:List (F×F)) j,sm (l.map fun p=>(p.1.v,p.2.v)) j=(ps l j).v:=fun l j=>by
  induction l with
  |nil=>rfl
  |cons p r ih=>show tm p.1.v (pw p.2.v j)^^^_=tm p.1.v (fM p.2 j).v^^^_;rw[ih,pw_v]
 intro p hp;refine F.ext (wM l.length (l:=l.map fun p=>(p.1.v,p.2.v)) (by simp) (fun q hq=>?_) (fun q hq=>?_) ?_ a (fun j h1 h2=>?_) (p.1.v,p.2.v) (List.mem_map.mpr ⟨p,hp,rfl⟩))
 ·obtain⟨r,_,rfl⟩:=au.mp hq;exact⟨r.1.h,r.2.h⟩
 ·obtain⟨r,hr,rfl⟩:=au.mp hq;exact fun e=>h0 r hr (F.ext e)
 ·rw[bq];have:(List.map ((fun x=>x.2)∘fun p:F×F=>(p.1.v,p.2.v)) l)=(l.map (·.2)).map F.v:=by rw[bq];rfl
  rw[this];rw[List.Nodup,List.pairwise_map];exact hn.imp fun h e=>h (F.ext e)
 ·rw[sm_v,z j h1 h2];rfl
theorem vm {es:List (F×F)}{t C:Nat→F}{L N n:Nat}(ht:∀ k,k<N→t k=ps es k) (h0:∀ p∈es,p.2≠0) (hn:(es.map (·.2)).Nodup) (g:Goes t C L N) (hL:L≤es.length) (hN:2*es.length≤N)
  (hn1:0<n) (hnL:n≤L+1) (hC:∀ j,n≤j→C j=0) {p:F×F}(hp:p∈es) (hpe:p.1≠0):wo C n p.2=0:=by
 have key:=vand (l:=es.map fun q=>(q.1*wo C (es.length+1) q.2,q.2)) (fun q hq=>by obtain⟨r,hr,rfl⟩:=au.mp hq;exact h0 r hr) (by rw[bq];exact hn) (a:=0) (fun j _ hj=>by
  simp only[List.length_map,Nat.zero_add] at hj;have z:=g.zer (es.length+j) (by omega) (by omega);rw[g7 (g':=ps es) (fun _ _=>rfl) (fun i hi=>ht i (by omega))] at z;rw[←z];clear z;have gen:∀(l:List (F×F)),ps (l.map fun q=>(q.1*wo C (es.length+1) q.2,q.2)) j=conv C (ps l) (es.length+j):=by
   intro l
   induction l with
   |nil=>exact (cZ fun _ _=>mul_zero _).symm
   |cons q r ih =>
    show q.1*wo C (es.length+1) q.2*fM q.2 j+ps _ j=_;rw[ih,dE C (ps (q::r))];show _=conv (fun i=>q.1*fM q.2 i+ps r i) C _;rw[gK,gG,dE (ps r)];congr 1;rw[mul_assoc];congr 1;rw[dE];unfold conv wo;rw[tH,fQ (n:=es.length+1) (m:=es.length+j+1) (by omega) fun i a b=>by rw[g.deg i (by omega),zero_mul]];refine aR fun i hi=>?_
    rw[show es.length+j - i=(es.length+1 - 1 - i)+j by omega,j0,mul_assoc]
  exact gen es) (p.1*wo C (es.length+1) p.2,p.2) (au.mpr ⟨p,hp,rfl⟩)
 have z:wo C (es.length+1) p.2=0:=Decidable.byContradiction fun h=>jq hpe h key
 rw[ud (n:=n) (by omega) fun j a b=>hC j a] at z;exact Decidable.byContradiction fun h=>jq h (ze (h0 p hp) _) z
end Md
end
section
namespace Md
open Fl64
noncomputable def toF (n:Nat):F:=⟨n%64,Nat.mod_lt _ (by decide)⟩
theorem kH {n:Nat}(h:n<64):(toF n).v=n:=Nat.mod_eq_of_lt h
theorem iT {a b:Nat}(ha:a<64) (hb:b<64):toF (a^^^b)=toF a+toF b:=F.ext (by rw[kH (aT ha hb),GV,kH ha,kH hb])
theorem dC {a b:Nat}(ha:a<64) (hb:b<64):toF (tm a b)=toF a*toF b:=F.ext (by rw[kH (bC ha hb),GR,kH ha,kH hb])
theorem yi:toF 0=0:=rfl
theorem pB:toF 1=1:=rfl
theorem kq {a b:Nat}(ha:a<64) (hb:b<64) (h:toF a=toF b):a=b:=by rw[←kH ha,←kH hb,h]
theorem kj {a:Nat}(ha:a<64) (h:a≠0):toF a≠0:=fun e=>h (kq ha (by decide) e)
theorem oZ {x:Nat}(hx:x<64):∀ n,toF (pw x n)=fM (toF x) n
 |0=>rfl
 |n+1=>by show toF (tm (pw x n) x)=_;rw[dC (bB hx n) hx,oZ hx n];rfl
noncomputable def cf (l:List Nat) (j:Nat):F:=toF (l.getD j 0)
theorem fJ {l:List Nat}{j:Nat}(h:l.length≤j):cf l j=0:=by
 unfold cf;rw[ag,List.getElem?_eq_none h];rfl
theorem hZ (l:List Nat):cf (0::l)=sh (cf l):=by
 funext j;cases j<;>rfl
theorem iw (l:List Nat) (n:Nat):cf (l++List.replicate n 0)=cf l:=by
 funext j;unfold cf;congr 1;rw[ag,ag];by_cases h:j<l.length
 ·rw[dm h]
 ·rw[dw (by omega),List.getElem?_eq_none (l:=l) (by omega),eo];split<;>rfl
theorem xR {f:Nat}(hf:f<64) {l:List Nat}(h:Gr l) (j:Nat):cf (mulR f l) j=toF f*cf l j:=by
 unfold cf mulR;rw[ag,av,ag];cases q:l[j]? with
 |none=>exact (mul_zero _).symm
 |some g=>exact dC hf (h g (bu q))
theorem DZ {l:List Nat}(h:Gr l) {p g:Nat}(hg:g<64) (hp:p<l.length) (j:Nat):cf (l.set p (l.getD p 0^^^g)) j=cf l j+if j=p then toF g else 0:=by
 unfold cf;by_cases e:j=p
 ·subst e;rw[if_pos rfl,ag,ao hp,Option.getD_some,iT (dF h _) hg]
 ·rw[if_neg e,add_zero,ag,ai (by omega),ag]
theorem lK:∀{m l:List Nat}{p:Nat},Gr l→Gr m→p+m.length≤l.length→∀ j,cf (eK l p m) j=cf l j+if p≤j then cf m (j - p) else 0
 | [],l,p,_,_,_,j=>by
  show cf l j=_;rw[show (if p≤j then cf [] (j - p) else 0)=0 by split;exact fJ (de _);rfl,add_zero]
 | g::r,l,p,h,hm,hp,j=>by
  have g64:=hm g ae;have hr:Gr r:=fun z hz=>hm z (aa _ hz)
  have hp':p+(r.length+1)≤l.length:=by simpa using hp
  rw[eK,lK (lL h g64) hr (by rw[ay];omega),DZ h g64 (by omega),add_assoc];congr 1;by_cases e:j=p
  ·subst e;rw[if_pos rfl,if_neg (by omega),if_pos (aw _),Nat.sub_self,add_zero];rfl
  ·rw[if_neg e,zero_add];by_cases h2:p+1≤j
   ·rw[if_pos h2,if_pos (by omega),show j - p=(j - (p+1))+1 by omega];rfl
   ·rw[if_neg h2,if_neg (by omega)]
theorem oB:∀{a b l:List Nat}{k:Nat},Gr a→Gr b→Gr l→k+a.length+b.length≤l.length+1→0<b.length→∀ j,cf (eF l k a b) j=cf l j+if k≤j then conv (cf a) (cf b) (j - k) else 0
 | [],b,l,k,_,_,_,_,_,j=>by
  show cf l j=_;rw[show (if k≤j then conv (cf []) (cf b) (j - k) else 0)=0 by split;exact iX _ fun _ _=>fJ (de _);rfl,add_zero]
 | g::a,b,l,k,ha,hb,hl,h,h0,j=>by
  have g64:=ha g ae;have ha':Gr a:=fun z hz=>ha z (aa _ hz)
  simp only[List.length_cons] at h;rw[eF,oB ha' hb (iG hl (lb g64 hb)) (by rw[eS];omega) h0,lK hl (lb g64 hb) (by rw[lV];omega),add_assoc];congr 1;by_cases e:j<k
  ·rw[if_neg (by omega),if_neg (by omega),if_neg (by omega),add_zero]
  ·have e1:k≤j:=by omega
   rw[if_pos e1,xR g64 hb];by_cases e2:j=k
   ·subst e2;rw[if_neg (by omega),if_pos e1,add_zero,Nat.sub_self];show _=0+cf (g::a) 0*cf b (0 - 0);rw[zero_add];rfl
   ·rw[if_pos (show k+1≤j by omega),if_pos e1];show _=sum (j - k+1) _;rw[cQ,show j - (k+1)=j - k - 1 by omega];have e3:j - k=(j - k - 1)+1:=by omega
    show _=toF g*cf b (j - k)+sum (j - k) fun i=>cf a i*cf b (j - k - (i+1))
    congr 1
    conv=>rhs;rw[e3]
    exact aR fun i hi=>by congr 2;omega
theorem qq (n j:Nat):cf (List.replicate n 0) j=0:=by
 have:=congrFun (iw [] n) j;rw[List.nil_append] at this;rw[this];exact fJ (de _)
theorem lT {a b:List Nat}(ha:Gr a) (hb:Gr b) (hb0:0<b.length) (j:Nat):cf (dH a b) j=conv (cf a) (cf b) j:=by
 by_cases h0:a.length=0
 ·rw[List.length_eq_zero_iff.mp h0];show cf (List.replicate _ 0) j=_;rw[qq,iX _ fun _ _=>fJ (de _)]
 unfold dH;rw[oB ha hb (iy _) (by rw[c9];omega) hb0,qq,zero_add,if_pos (de _)];rfl
theorem jD {x:Nat}(hx:x<64) {l:List Nat}(h:Gr l):toF (cT x l)=wo (cf l) l.length (toF x):=by
 induction l with
 |nil=>rfl
 |cons g r ih =>
  have hr:Gr r:=fun z hz=>h z (aa _ hz)
  have g64:g<64:=h g ae;have e:cT x (g::r)=tm g (pw x r.length)^^^cT x r:=by
   show gb x (tm 0 x^^^g) r=_;rw[cA hx,cu,gJ hx g64 hr]
  rw[e,iT (bC g64 (bB hx _)) (eE hx (by decide) hr),dC g64 (bB hx _),ih hr,oZ hx];show _=sum (r.length+1) _;rw[cQ];congr 1;exact aR fun j hj=>by show cf r j*_=cf r j*_;congr 2;show _=r.length+1 - 1 - (j+1);omega
theorem uc:∀{ns r:List Nat}{l:List F},Gr ns→Gr r→0<r.length→cf r=eY l→cf (gQ r ns)=eY ((ns.map toF).reverse++l)
 |[],r,l,_,_,_,e=>e
 | n::ns,r,l,hn,hr,h0,e=>by
  have n64:=hn n ae;have hb:Gr [1,n]:=.cons (by decide) (.cons n64 .nil);have hl:=fG r [1,n];rw[gQ,uc (l:=toF n::l) (fun z hz=>hn z (List.mem_cons_of_mem _ hz)) (iH hr hb) (by rw[hl];simp)]
  ·rw[ba,List.reverse_cons,dq];rfl
  ·funext j;rw[lT hr hb (by simp),dE,e];show _=eY l j+toF n*sh (eY l) j;have:∀ f:Nat→F,conv (cf [1,n]) f j=f j+toF n*sh f j:=fun f=>by
    cases j with
    |zero=>show 0+cf [1,n] 0*f 0=f 0+toF n*0;rw[zero_add,mul_zero,add_zero];exact one_mul _
    |succ j =>
     unfold conv;rw[cQ,show cf [1,n] 0=1 from rfl,one_mul,cQ,show cf [1,n] (0+1)=toF n from rfl,cZ fun i _=>by rw[fJ (by show 2≤i+1+1;omega),zero_mul],add_zero];rfl
   exact this _
theorem C3:cf [1]=eY []:=by
 funext j;cases j with
 |zero=>rfl
 |succ j=>exact fJ (by simp)
end Md
end
section
namespace Md
open Fl64
noncomputable def cW (nums:List Nat) (place:Nat):Nat→List Nat→Nat→Nat
 |_,[],g=>g
 |k,f::r,g=>cW nums place (k+1) r (g^^^tm f (nums.getD (place - k) 0))
theorem jH {nums:List Nat}(hn:Gr nums) (place:Nat):∀{r:List Nat}{k g:Nat},Gr r→g<64→cW nums place k r g<64
 |[],_,_,_,h=>h
 | f::r,k,g,hr,h=>by
  rw[cW];exact jH hn place (fun z hz=>hr z (aa _ hz)) (aT h (bC (hr f ae) (dF hn _)))
theorem n9 {nums:List Nat}(hn:Gr nums) (place:Nat):∀{r:List Nat}{k g:Nat},Gr r→g<64→toF (cW nums place k r g)=toF g+sum r.length fun j=>cf r j*cf nums (place - (k+j))
 |[],_,_,_,h=>(add_zero _).symm
 | f::r,k,g,hr,h=>by
  have f64:=hr f ae;have t64:=bC f64 (dF hn (place - k));rw[cW,n9 hn place (fun z hz=>hr z (aa _ hz)) (aT h t64),iT h t64,dC f64 (dF hn _),add_assoc];congr 1;show _=sum (r.length+1) _;rw[cQ];congr 1;exact aR fun j hj=>by show cf r j*_=cf r j*_;congr 2;omega
theorem qd {nums r:List Nat}(hn:Gr nums) (hr:Gr r) {place:Nat}(h:r.length≤place+1):toF (cW nums place 0 r 0)=conv (cf r) (cf nums) place:=by
 rw[n9 hn place hr (by decide),yi,zero_add];unfold conv;rw[fQ h fun i a b=>by rw[fJ a,zero_mul]];exact aR fun j hj=>by rw[Nat.zero_add]
noncomputable def Ak (row:List Nat) (f:Nat):List Nat:=row.map fun g=>tm g f
theorem yW {row:List Nat}{f:Nat}(h:Gr row) (hf:f<64):Gr (Ak row f):=fun z hz=>by
 obtain⟨g,hg,rfl⟩:=au.mp hz;exact bC (h g hg) hf
theorem F7 {row:List Nat}{f:Nat}(h:Gr row) (hf:f<64) (j:Nat):cf (Ak row f) j=toF f*cf row j:=by
 have:Ak row f=mulR f row:=dn fun g hg=>dO (h g hg) hf
 rw[this,xR hf h]
noncomputable def vS (a b:List Nat):List Nat:=eK (a++List.replicate (b.length - a.length) 0) 0 b
theorem C4 {a b:List Nat}(ha:Gr a) (hb:Gr b):Gr (vS a b):=iG (ha.append (iy _)) hb
theorem Av (a b:List Nat):(vS a b).length=a.length+(b.length - a.length):=by rw[vS,eS,bw,c9]
theorem FZ {a b:List Nat}(ha:Gr a) (hb:Gr b) (j:Nat):cf (vS a b) j=cf a j+cf b j:=by
 unfold vS;rw[lK (ha.append (iy _)) hb (by rw[bw,c9];omega),iw,if_pos (de _)];rfl
theorem inv_one {a:Nat}(h:a<64) (h0:a≠0):tm a (pw a 62)=1:=by
 have:=eU (n:=64) (f:=fun a=>a==0 || tm a (pw a 62)==1) (by decide +kernel) a h;simpa[h0] using this
structure Sr where
 rule:List Nat
 len:Nat
 fo:List Nat
 gap:Nat
noncomputable def Sr.qk (nums:List Nat) (n:Nat) (s:Sr):List Nat:=vS s.rule (Ak (0::s.fo) (tm (cW nums n 0 s.rule 0) (pw s.gap 62)))
noncomputable def Sr.step (nums:List Nat) (n:Nat) (s:Sr):Sr :=
 if cW nums n 0 s.rule 0=0 then ⟨s.rule,s.len,0::s.fo,s.gap⟩
 else if 2*s.len≤n then ⟨s.qk nums n,n+1 - s.len,s.rule,cW nums n 0 s.rule 0⟩
 else ⟨s.qk nums n,s.len,0::s.fo,s.gap⟩
noncomputable def mB (nums:List Nat):Nat→Sr
 |0=>⟨[1],0,[1],1⟩
 |n+1=>(mB nums n).step nums n
structure pj (nums:List Nat) (n:Nat) (s:Sr):Prop where
 gr:Gr s.rule
 gf:Gr s.fo
 gg:s.gap<64
 l0:0<s.rule.length
 lr:s.rule.length≤s.len+1
 lf:s.fo.length≤n - s.len+1
 f0:0<s.fo.length
 bm:Bm (cf nums) (cf s.rule) (cf s.fo) s.len (toF s.gap) n
theorem pj.ne {nums:List Nat}{n:Nat}{s:Sr}(o:pj nums n s):s.gap≠0:=fun e=>o.bm.ne (by rw[e];rfl)
theorem pj.rl {nums:List Nat}{n:Nat}{s:Sr}(o:pj nums n s):s.rule.length≤n+1:=by have:=o.lr;have:=o.bm.le;omega
theorem zr {l:List Nat}(h:Gr l):Gr (0::l):=.cons (by decide) h
theorem pj.step {nums:List Nat}(hn:Gr nums) {n:Nat}{s:Sr}(o:pj nums n s):pj nums (n+1) (s.step nums n):=by
 have hle:=o.bm.le;have g64:=jH hn n (k:=0) o.gr (g:=0) (by decide);have gc:=qd hn o.gr o.rl;have t64:=bC g64 (bB o.gg 62);have ha:toF (tm (cW nums n 0 s.rule 0) (pw s.gap 62))*toF s.gap=toF (cW nums n 0 s.rule 0):=by
  rw[dC g64 (bB o.gg 62),mul_assoc,mul_comm (toF (pw s.gap 62)),←dC o.gg (bB o.gg 62),inv_one o.gg o.ne,pB,mul_one]
 have hA:cf (s.qk nums n)=Md.qk (cf s.rule) (cf s.fo) (toF (tm (cW nums n 0 s.rule 0) (pw s.gap 62))):=by
  funext j;show cf (vS _ _) j=_;rw[FZ o.gr (yW (zr o.gf) t64),F7 (zr o.gf) t64,hZ];rfl
 have gA:Gr (s.qk nums n):=C4 o.gr (yW (zr o.gf) t64);have lA:(s.qk nums n).length=s.rule.length+(s.fo.length+1 - s.rule.length):=by
  show (vS _ _).length=_;rw[Av];simp[Ak]
 have lr:=o.lr;have lf:=o.lf;have l0:=o.l0;have f0:=o.f0;unfold Sr.step;split
 ·rename_i h;rw[h] at gc;exact⟨o.gr,zr o.gf,o.gg,l0,lr,by simp only[List.length_cons];omega,by simp,by rw[hZ];exact o.bm.same gc.symm⟩
 ·rename_i h;split
  ·rename_i h2;refine⟨gA,o.gr,g64,by rw[lA];omega,by rw[lA];show _≤n+1 - s.len+1;omega,by show s.rule.length≤n+1 - (n+1 - s.len)+1;omega,l0,?_⟩;show Bm _ (cf (s.qk nums n)) _ _ _ _;rw[hA];exact o.bm.longer gc.symm (kj g64 h) ha h2
  ·rename_i h2;refine⟨gA,zr o.gf,o.gg,by rw[lA];omega,by rw[lA];show _≤s.len+1;omega,by show s.fo.length+1≤n+1 - s.len+1;omega,by simp,?_⟩;show Bm _ (cf (s.qk nums n)) (cf (0::s.fo)) _ _ _;rw[hA,hZ];exact o.bm.kept gc.symm ha h2
theorem xG {j:Nat}(h:0<j):cf [1] j=0:=fJ h
theorem sV {nums:List Nat}(hn:Gr nums):∀ n,pj nums n (mB nums n)
 |0=>⟨.cons (by decide) .nil,.cons (by decide) .nil,by show 1<64;decide,by show 0<1;decide,by show 1≤0+1;decide,by show 1≤0 - 0+1;decide,by show 0<1;decide,Bm.init _ _ _ rfl (fun j h=>xG h) fun j h=>xG h⟩
 |n+1=>(sV hn n).step hn
theorem Bp {nums:List Nat}(hn:Gr nums) {R:Nat→F}{w N:Nat}(g:Goes (cf nums) R w N):∀ n,n≤N→(mB nums n).len≤w
 |0,_=>de _
 | n+1,h=>by
  have ih:=Bp hn g n (by omega);have o:=sV hn n;show ((mB nums n).step nums n).len≤w;unfold Sr.step;split
  ·exact ih
  ·rename_i h0;have gc:=qd hn o.gr o.rl;split
   ·exact o.bm.least (by rw[←gc];exact kj (jH hn n o.gr (by decide)) h0) g h
   ·exact ih
end Md
end
section
namespace Md
open Fl64
noncomputable def loc (n p:Nat):Nat:=pw 2 (n - 1 - p)
theorem gq (n p:Nat):loc n p<64:=bB (by decide) _
theorem pe (n p:Nat):loc n p≠0:=zg (by decide) (by decide) _
noncomputable def locs (n:Nat) (l:List Nat):List Nat:=l.map (loc n)
theorem iU (n:Nat) (l:List Nat):Gr (locs n l):=fun z hz=>by obtain⟨p,_,rfl⟩:=au.mp hz;exact gq n p
theorem tw {n p q:Nat}(h:n≤63) (hp:p<n) (hq:q<n) (e:loc n p=loc n q):p=q:=by
 unfold loc at e;rcases Nat.lt_trichotomy (n - 1 - p) (n - 1 - q) with c | c | c
 ·exact absurd e.symm (tV (by omega) c)
 ·omega
 ·exact absurd e (tV (by omega) c)
noncomputable def aV (g:List Nat) (c:Nat):List Nat:=(bS c).map fun x=>cT x g
noncomputable def ij (n:Nat) (mi:List Nat):List Nat:=gQ [1] (locs n mi)
noncomputable def dX (wo mi:List Nat) (n:Nat):List Nat:=((dH wo (ij n mi)).take wo.length).drop mi.length
noncomputable def fT (wo mi:List Nat) (n:Nat):List Nat:=(mB (dX wo mi n) (dX wo mi n).length).rule
noncomputable def others (mi:List Nat) (n:Nat):List Nat:=(List.range n).filter fun p=>!mi.contains p
noncomputable def susp (wo mi:List Nat) (n:Nat):List Nat:=(others mi n).filter fun p=>cT (loc n p) (fT wo mi n)==0
noncomputable def cJ (x:Nat) (pr:Nat):List Nat→Nat
 |[]=>pr
 |o::l=>cJ x (if o=x then pr else tm pr (x^^^o)) l
noncomputable def cM (wo ls:List Nat):List Nat:=(dH wo (gQ [1] ls)).take ls.length
noncomputable def share (hd ls:List Nat) (x:Nat):Nat:=tm (cT x hd) (pw (tm x (cJ x 1 ls)) 62)
noncomputable def rQ (n:Nat) (hd ls:List Nat):List Nat→List Nat→List Nat
 |[],ch=>ch
 |p::r,ch=>rQ n hd ls r (ch.set p (ch.getD p 0^^^share hd ls (loc n p)))
noncomputable def fE (g su wo:List Nat):List Nat:=rQ g.length (cM wo (locs g.length su)) (locs g.length su) su g
theorem iY {g:List Nat}(h:Gr g) (c:Nat):Gr (aV g c):=fun z hz=>by
 obtain⟨x,hx,rfl⟩:=au.mp hz;exact eE (jh c x hx) (by decide) h
theorem jg (g:List Nat) (c:Nat):(aV g c).length=c:=by rw[aV,aj,iN]
theorem ju:Gr [1]:=.cons (by decide) .nil
theorem jJ (n:Nat) (mi:List Nat):(ij n mi).length=mi.length+1∧Gr (ij n mi):=by
 obtain⟨a,b,_⟩:=fI (r:=[1]) (iU n mi) ju (by decide) rfl;exact⟨by rw[ij,a];simp[locs];omega,b⟩
theorem xD (ls:List Nat) (h:Gr ls):cf (gQ [1] ls)=eY (ls.map toF):=by
 rw[uc (l:=[]) h ju (by decide) C3,cg];exact sY (List.reverse_perm _)
theorem mP {wo:List Nat}(h:Gr wo) (mi:List Nat) (n:Nat):Gr (dX wo mi n):=fun z hz =>
 iH h (jJ n mi).2 z (List.mem_of_mem_take (List.mem_of_mem_drop hz))
theorem oJ (wo mi:List Nat) (n:Nat):(dX wo mi n).length=wo.length - mi.length:=by
 unfold dX;rw[fu,eh,fG,(jJ n mi).1];omega
theorem sum_list:∀{l:List Nat}{n:Nat}{f:Nat→F},l.Nodup→(∀ p∈l,p<n)→(∀ p,p<n→p∉l→f p=0)→sum n f=lsum (l.map f)
 |[],n,f,_,_,z=>cZ fun p hp=>z p hp (by simp)
 | a::l,n,f,hn,hl,z=>by
  rw[dk] at hn;have ha:=hl a ae;have e:sum n f=sum n (fun p=>if p=a then f p else 0)+sum n fun p=>if p=a then 0 else f p:=by
   rw[←sum_add];exact aR fun p _=>by split;rw[add_zero];rw[zero_add]
  rw[e,Ai ha (fun p _ hp=>if_neg hp),if_pos rfl,sum_list (l:=l) hn.2 (fun p hp=>hl p (aa _ hp)) fun p hp hm=>?_]
  ·show _=f a+lsum (l.map f);congr 2;exact dn fun p hp=>if_neg fun (q:p=a)=>hn.1 (q ▸ hp)
  ·by_cases h:p=a
   ·rw[if_pos h]
   ·rw[if_neg h];exact z p hp fun hm'=>by rcases az.mp hm' with q | q;exact h q;exact hm q
noncomputable def uP (n:Nat) (E:List Nat) (l:List Nat):List (F×F):=l.map fun p=>(cf E p,toF (loc n p))
theorem oX (x:F) (i:Nat):∀ j,fM (fM x i) j=fM x (i*j)
 |0=>rfl
 |j+1=>by show fM (fM x i) j*_=_;rw[oX x i j,←j0,Nat.mul_succ]
theorem xN {E:List Nat}(hE:Gr E) {l:List Nat}(hn:l.Nodup) (hl:∀ p∈l,p<E.length) (z:∀ p,p<E.length→p∉l→E.getD p 0=0) (j:Nat):toF (cT (pw 2 j) E)=ps (uP E.length E l) j:=by
 rw[jD (bB (by decide) j) hE,uk];unfold wo uP;rw[sum_list hn hl fun p hp hm=>by show toF (E.getD p 0)*_=0;rw[z p hp hm];exact zero_mul _,bq];congr 1;refine dn fun p hp=>?_
 show cf E p*_=cf E p*fM (toF (loc E.length p)) j;rw[loc,oZ (by decide),oZ (by decide),oX,oX,Nat.mul_comm]
structure il (g y mi W:List Nat) (c:Nat):Prop where
 gg:Gr g
 gy:Gr y
 ly:y.length=g.length
 n63:g.length≤63
 c62:c≤62
 code:pW y c
 mn:mi.Nodup
 ml:∀ p∈mi,p<g.length
 wr:W=(others mi g.length).filter fun p=>y.getD p 0 != g.getD p 0
 le:2*W.length+mi.length≤c
theorem dW {mi:List Nat}{n p:Nat}:p∈others mi n↔p<n∧p∉mi:=by
 unfold others;rw[List.mem_filter,List.mem_range];simp
theorem jP (mi:List Nat) (n:Nat):(others mi n).Nodup:=List.nodup_range.filter _
section
variable {g y mi W:List Nat}{c:Nat}(N:il g y mi W c)
include N
theorem il.lE:(fv g y).length=g.length:=wd N.ly.symm
theorem il.gE:Gr (fv g y):=tG N.gg N.gy
theorem il.E {p:Nat}(hp:p<g.length):(fv g y).getD p 0=g.getD p 0^^^y.getD p 0:=by
 rw[ag,ag,ag,fv,List.getElem?_zipWith,bc hp,bc (by rw[N.ly];exact hp)];rfl
theorem il.Wm {p:Nat}:p∈W↔p<g.length∧p∉mi∧y.getD p 0≠g.getD p 0:=by
 rw[N.wr,List.mem_filter,dW];simp[and_assoc]
theorem il.nd:(mi++W).Nodup:=by
 rw[bt];refine⟨N.mn,by rw[N.wr];exact (jP _ _).filter _,fun a ha b hb e=>?_⟩;exact ((N.Wm).mp hb).2.1 (e ▸ ha)
theorem il.lt {p:Nat}(h:p∈mi++W):p<g.length:=by
 rcases bo.mp h with h | h
 ·exact N.ml p h
 ·exact ((N.Wm).mp h).1
theorem il.out {p:Nat}(hp:p<g.length) (h:p∉mi++W):(fv g y).getD p 0=0:=by
 rw[N.E hp];have:y.getD p 0=g.getD p 0:=Decidable.byContradiction fun e=>h (aq _ ((N.Wm).mpr ⟨hp,fun m=>h (bf _ m),e⟩))
 rw[this,fq]
theorem il.worth {j:Nat}(hj:j<c):cf (aV g c) j=ps (uP g.length (fv g y) (mi++W)) (j+1):=by
 have e1:(aV g c).getD j 0=cT (pw 2 (j+1)) g:=by
  unfold aV bS;rw[ag,bq,av,List.getElem?_range' hj,Option.map_some,Option.getD_some];show cT (pw 2 _) g=_;congr 2;omega
 have hx:pw 2 (j+1)<64:=bB (by decide) _;have e2:cT (pw 2 (j+1)) (fv g y)=cT (pw 2 (j+1)) g:=by
  rw[Ac hx N.ly.symm N.gg N.gy,N.code (pw 2 (j+1)) (by
   unfold bS;exact au.mpr ⟨j+1,List.mem_range'_1.mpr ⟨by omega,by omega⟩,rfl⟩),Nat.xor_zero]
 have:=xN N.gE N.nd (fun p hp=>by rw[N.lE];exact N.lt hp) (fun p hp hm=>N.out (by rw[←N.lE];exact hp) hm) (j+1);rw[N.lE] at this;rw[cf,e1,←e2,this]
theorem il.locF {p q:Nat}(hp:p<g.length) (hq:q<g.length) (e:toF (loc g.length p)=toF (loc g.length q)):p=q:=tw N.n63 hp hq (kq (gq _ _) (gq _ _) e)
theorem il.locn {l:List Nat}(hn:l.Nodup) (hl:∀ p∈l,p<g.length):(l.map fun p=>toF (loc g.length p)).Nodup:=by
 rw[List.Nodup,List.pairwise_map];exact List.Pairwise.imp_of_mem (fun ha hb h e=>h (N.locF (hl _ ha) (hl _ hb) e)) hn
end
theorem wB (j:Nat):∀(a b:List (F×F)),ps (a++b) j=ps a j+ps b j
 |[],b=>(zero_add _).symm
 |p::a,b=>by show _+ps (a++b) j=_+ps a j+_;rw[wB j a b,add_assoc]
theorem uq (j:Nat):∀{a:List (F×F)},(∀ p∈a,p.1=0)→ps a j=0
 |[],_=>rfl
 |p::a,h=>by show p.1*_+_=0;rw[h p ae,zero_mul,zero_add];exact uq j fun q hq=>h q (aa _ hq)
section
variable {g y mi W:List Nat}{c:Nat}(N:il g y mi W c)
include N
theorem il.freed {k:Nat}(hk:k<c - mi.length):cf (dX (aV g c) mi g.length) k=ps ((uP g.length (fv g y) W).map fun p=>(p.1*(p.2*dist p.2 ((locs g.length mi).map toF)),p.2)) k:=by
 have lg:=jJ g.length mi;have e1:cf (dX (aV g c) mi g.length) k=conv (cf (aV g c)) (cf (ij g.length mi)) (mi.length+k):=by
  rw[←lT (iY N.gg c) lg.2 (by rw[lg.1];omega)];unfold cf dX;rw[ag,ag,List.getElem?_drop,List.getElem?_take,if_pos (by rw[jg];omega)]
 rw[e1,g7 (f':=fun j=>ps (uP g.length (fv g y) (mi++W)) (j+1)) (fun j hj=>N.worth (by omega)) fun _ _=>rfl,Md.freed (m:=mi.length) (fun j hj=>fJ (by rw[lg.1];omega)) k];rw[ij,xD _ (iU _ _)];have ed:∀ x,wo (eY ((locs g.length mi).map toF)) (mi.length+1) x=dist x ((locs g.length mi).map toF):=fun x=>by
  rw[←uo,aj,locs,aj]
 simp only[ed];rw[uP,fm,fm,wB,uq,zero_add];rfl;intro q hq;obtain⟨r,hr,rfl⟩:=au.mp hq;obtain⟨p,hp,rfl⟩:=au.mp hr;show _*(_*dist (toF (loc g.length p)) _)=0;rw[iV (l:=(locs g.length mi).map toF) (au.mpr ⟨loc g.length p,au.mpr ⟨p,hp,rfl⟩,rfl⟩),mul_zero,mul_zero]
theorem il.susp:susp (aV g c) mi g.length=W:=by
 have gw:=iY N.gg c;let fr:=dX (aV g c) mi g.length;have lf:fr.length=c - mi.length:=by show (dX _ _ _).length=_;rw[oJ,jg]
 let es:=(uP g.length (fv g y) W).map fun p=>(p.1*(p.2*dist p.2 ((locs g.length mi).map toF)),p.2)
 have les:es.length=W.length:=by simp[es,uP]
 have ht:∀ k,k<fr.length→cf fr k=ps es k:=fun k hk=>N.freed (lf ▸ hk)
 have hle:=N.le;have go:=AD ht;have o:=sV (mP gw mi g.length) fr.length;have hL:=Bp (mP gw mi g.length) go fr.length (aw _);have hr:∀ p∈W,cT (loc g.length p) (fT (aV g c) mi g.length)=0:=fun p hp=>by
  have m:=(N.Wm).mp hp;have hx:toF (loc g.length p)≠0:=kj (gq _ _) (pe _ _);have z:=vm (es:=es) (C:=cf (fT (aV g c) mi g.length)) (n:=(fT (aV g c) mi g.length).length) ht (fun q hq=>by
    obtain⟨r,hr,rfl⟩:=au.mp hq;obtain⟨p,hp,rfl⟩:=au.mp hr;exact kj (gq _ _) (pe _ _)) (by
    simp only[es,uP,List.map_map];exact N.locn ((bt.mp N.nd).2.1) fun q hq=>((N.Wm).mp hq).1) o.bm.go hL (by rw[les];omega) o.l0 o.lr (fun j hj=>fJ hj) (au.mpr ⟨_,au.mpr ⟨p,hp,rfl⟩,rfl⟩) (by
    refine jq ?_ (jq hx (pb fun q=>?_))
    ·show toF ((fv g y).getD p 0)≠0;rw[N.E m.1];exact kj (aT (dF N.gg _) (dF N.gy _)) fun e=>m.2.2 (cI e).symm
    ·obtain⟨x,hx,e⟩:=au.mp q;obtain⟨q,hq,rfl⟩:=au.mp hx;exact m.2.1 (N.locF (N.ml q hq) m.1 e ▸ hq))
  have z':=(jD (x:=loc g.length p) (gq _ _) o.gr).trans z;exact kq (eE (gq _ _) (by decide) o.gr) (by decide) z'
 have hsub:W=(Md.susp (aV g c) mi g.length).filter fun p=>y.getD p 0 != g.getD p 0:=by
  unfold Md.susp;rw[List.filter_filter]
  conv=>lhs;rw[N.wr]
  refine List.filter_congr fun p hp=>?_
  by_cases e:y.getD p 0=g.getD p 0
  ·have:(y.getD p 0 != g.getD p 0)=false:=by rw[e];exact bne_self_eq_false _
   rw[this,Bool.false_and]
  ·have:=hr p ((N.Wm).mpr ⟨(dW.mp hp).1,(dW.mp hp).2,e⟩);rw[this];simp
 have hlen:(Md.susp (aV g c) mi g.length).length≤W.length:=by
  refine Nat.le_of_not_lt fun h=>?_
  have hz:=mI (xs:=locs g.length (Md.susp (aV g c) mi g.length)) (l:=fT (aV g c) mi g.length) (by
    unfold locs;rw[List.Nodup,List.pairwise_map];refine List.Pairwise.imp_of_mem (fun {a b} ha hb h e=>h (tw N.n63 ?_ ?_ e)) ((jP mi g.length).filter _)
    ·exact (dW.mp (cm.mp ha |>.1)).1
    ·exact (dW.mp (cm.mp hb |>.1)).1) (iU _ _) o.gr (by
    have:=o.lr;have h2:(mB fr fr.length).len≤W.length:=by rw[←les];exact hL
    have h3:(fT (aV g c) mi g.length).length≤(mB fr fr.length).len+1:=o.lr;simp only[locs,List.length_map];omega) (fun x hx=>by
    obtain⟨p,hp,rfl⟩:=au.mp hx;have:=(cm.mp hp).2;simpa using this)
  have h1:=o.bm.go.one;have l0:=o.l0;have:(mB fr fr.length).rule.getD 0 0=0:=by
   rw[ag,bc l0];exact hz _ (List.getElem_mem l0)
  unfold cf at h1;rw[this] at h1;exact absurd h1 (by decide)
 have sl:W.Sublist (Md.susp (aV g c) mi g.length):=by
  conv=>lhs;rw[hsub]
  exact List.filter_sublist
 exact (sl.eq_of_length_le hlen).symm
end
end Md
end
section
namespace Md
open Fl64
theorem gv {x:Nat}(hx:x<64):∀{l:List Nat}{pr:Nat},Gr l→pr<64→cJ x pr l<64
 |[],_,_,h=>h
 | o::l,pr,hl,h=>by
  rw[cJ];refine gv hx (fun z hz=>hl z (aa _ hz)) ?_;split
  ·exact h
  ·exact bC h (aT hx (hl o ae))
theorem jd {x:Nat}(hx:x<64):∀{l:List Nat}{pr:Nat},Gr l→pr<64→toF (cJ x pr l)=toF pr*dist (toF x) ((l.map toF).filter (· != toF x))
 |[],_,_,h=>(mul_one _).symm
 | o::l,pr,hl,h=>by
  have o64:=hl o ae;have hr:Gr l:=fun z hz=>hl z (aa _ hz)
  rw[cJ,ba];by_cases e:o=x
  ·rw[if_pos e,jd hx hr h,List.filter_cons_of_neg (by rw[e];simp)]
  ·have ne:toF o≠toF x:=fun q=>e (kq o64 hx q)
   rw[if_neg e,jd hx hr (bC h (aT hx o64)),List.filter_cons_of_pos (by simpa using ne),dC h (aT hx o64),iT hx o64];show _=toF pr*(dist _ _*(toF x+toF o))
   ac_rfl
theorem yQ {hd ls:List Nat}(h1:Gr hd) (h2:Gr ls) {x:Nat}(hx:x<64):share hd ls x<64:=bC (eE hx (by decide) h1) (bB (bC hx (gv hx h2 (by decide))) _)
theorem jA (n:Nat) (hd ls:List Nat):∀(su ch:List Nat),(rQ n hd ls su ch).length=ch.length
 |[],_=>rfl
 |p::r,ch=>by rw[rQ,jA n hd ls r,ay]
theorem uB (n:Nat) (hd ls:List Nat):∀{su ch:List Nat},su.Nodup→(∀ p∈su,p<ch.length)→∀ q,(rQ n hd ls su ch).getD q 0=if q∈su then ch.getD q 0^^^share hd ls (loc n q) else ch.getD q 0
 |[],_,_,_,q=>by rw[if_neg (by simp)];rfl
 | p::r,ch,hn,hl,q=>by
  rw[dk] at hn;rw[rQ,uB n hd ls hn.2 (fun z hz=>by rw[ay];exact hl z (aa _ hz))];by_cases e:q=p
  ·subst e;rw[if_neg hn.1,if_pos ae,ag,ao (hl q ae)];rfl
  ·have:(ch.set p (ch.getD p 0^^^share hd ls (loc n p))).getD q 0=ch.getD q 0:=by
    rw[ag,ai (by omega),ag]
   rw[this];by_cases m:q∈r
   ·rw[if_pos m,if_pos (aa _ m)]
   ·rw[if_neg m,if_neg fun h=>by rcases az.mp h with h | h;exact e h;exact m h]
theorem qA {wo ls:List Nat}(h:Gr wo) (h2:Gr ls):Gr (cM wo ls):=fun z hz =>
 iH h (fI (r:=[1]) h2 ju (by decide) rfl).2.1 z (List.mem_of_mem_take hz)
theorem vv (wo ls:List Nat) (h2:Gr ls):(cM wo ls).length=ls.length:=by
 unfold cM;rw[List.length_take,fG,(fI (r:=[1]) h2 ju (by decide) rfl).1];simp;omega
theorem yC {a b:List Nat}(h:a.length=b.length) (e:∀ p,p<a.length→a.getD p 0=b.getD p 0):a=b:=by
 refine List.ext_getElem h fun p h1 h2=>?_
 have:=e p h1;rw[ag,ag,bc h1,bc h2] at this;exact this
section
variable {g y mi W:List Nat}{c:Nat}(N:il g y mi W c)
include N
theorem il.share {p:Nat}(hp:p∈mi++W):share (cM (aV g c) (locs g.length (mi++W))) (locs g.length (mi++W)) (loc g.length p)=(fv g y).getD p 0:=by
 have gw:=iY N.gg c;have gl:=iU g.length (mi++W);have hx:=gq g.length p;have gh:=qA gw gl;have ll:(locs g.length (mi++W)).length=mi.length+W.length:=by simp[locs]
 have hle:=N.le;have eL:(locs g.length (mi++W)).map toF=(mi++W).map fun p=>toF (loc g.length p):=by rw[locs,bq];rfl
 have hnd:((locs g.length (mi++W)).map toF).Nodup:=by rw[eL];exact N.locn N.nd fun q hq=>N.lt hq
 have hmem:∀ q∈uP g.length (fv g y) (mi++W),q.2∈(locs g.length (mi++W)).map toF:=fun q hq=>by
  obtain⟨r,hr,rfl⟩:=au.mp hq;rw[eL];exact au.mpr ⟨r,hr,rfl⟩
 have hne:(locs g.length (mi++W)).map toF≠[]:=fun e=>by
  have:=(au (f:=fun p=>toF (loc g.length p))).mpr ⟨p,hp,rfl⟩;rw[←eL,e] at this;cases this
 have hprs:((uP g.length (fv g y) (mi++W)).map (·.2)).Nodup:=by
  unfold uP;rw[bq];exact N.locn N.nd fun q hq=>N.lt hq
 have hpm:(cf (fv g y) p,toF (loc g.length p))∈uP g.length (fv g y) (mi++W):=au.mpr ⟨p,hp,rfl⟩;have e1:toF (cT (loc g.length p) (cM (aV g c) (locs g.length (mi++W))))=cf (fv g y) p*(toF (loc g.length p)*dist (toF (loc g.length p)) (((locs g.length (mi++W)).map toF).erase (toF (loc g.length p)))):=by
  rw[jD hx gh,vv _ _ gl,←wQ hprs hnd hmem hpm,←qC _ hne _ hmem,aj];refine p7 fun k hk=>?_
  rw[←heads _ _ hmem];have:cf (cM (aV g c) (locs g.length (mi++W))) k=cf (dH (aV g c) (gQ [1] (locs g.length (mi++W)))) k:=by
   unfold cf cM;rw[ag,ag,List.getElem?_take,if_pos hk]
  rw[this,lT gw (fI (r:=[1]) gl ju (by decide) rfl).2.1 (by rw[(fI (r:=[1]) gl ju (by decide) rfl).1];simp;omega),xD _ gl];exact g7 (fun j hj=>N.worth (by omega)) fun _ _=>rfl
 have d64:=gv hx gl (pr:=1) (by decide);have e2:toF (cJ (loc g.length p) 1 (locs g.length (mi++W)))=dist (toF (loc g.length p)) (((locs g.length (mi++W)).map toF).erase (toF (loc g.length p))):=by
  rw[jd hx gl (by decide),pB,one_mul,hnd.erase_eq_filter]
 have ne:tm (loc g.length p) (cJ (loc g.length p) 1 (locs g.length (mi++W)))≠0:=fun e=>by
  have z:toF (tm (loc g.length p) (cJ (loc g.length p) 1 (locs g.length (mi++W))))=0:=by rw[e];rfl
  rw[dC hx d64,e2] at z;exact jq (kj hx (pe _ _)) (pb hnd.not_mem_erase) z
 have t64:=bC hx d64;refine kq (yQ gh gl hx) (dF N.gE p) ?_;unfold Md.share;rw[dC (eE hx (by decide) gh) (bB t64 _),e1,←e2,←dC hx d64,mul_assoc,←dC t64 (bB t64 _),inv_one t64 ne,pB,mul_one];rfl
theorem il.fE:fE g (mi++W) (aV g c)=y:=by
 unfold Md.fE;refine yC (by rw[jA,N.ly]) fun p hp=>?_
 rw[jA] at hp;rw[uB _ _ _ N.nd fun q hq=>N.lt hq];split
 ·rename_i h;rw[N.share h,N.E hp,←br,fq,cu]
 ·rename_i h;have:=N.out hp h;rw[N.E hp] at this;exact cI this
end
noncomputable def cL (g y mi:List Nat):List Nat:=(List.range g.length).filter fun p=>!mi.contains p&&y.getD p 0 != g.getD p 0
theorem vn (g y mi:List Nat):cL g y mi=(others mi g.length).filter fun p=>y.getD p 0 != g.getD p 0:=by
 unfold cL others;rw[List.filter_filter];exact List.filter_congr fun p _=>Bool.and_comm ..
noncomputable def cP (g mi:List Nat) (c:Nat):List Nat:=fE g (mi++susp (aV g c) mi g.length) (aV g c)
theorem vG (g mi:List Nat) (c:Nat):(cP g mi c).length=g.length:=jA ..
theorem found {g y mi:List Nat}{c:Nat}(gg:Gr g) (gy:Gr y) (ly:y.length=g.length) (n63:g.length≤63) (c62:c≤62) (code:pW y c) (mn:mi.Nodup) (ml:∀ p∈mi,p<g.length) (le:2*(cL g y mi).length+mi.length≤c):cP g mi c=y:=by
 have N:il g y mi (cL g y mi) c:=⟨gg,gy,ly,n63,c62,code,mn,ml,vn g y mi,le⟩;unfold cP;rw[N.susp,N.fE]
end Md
end
section
namespace Pc.Vw
open PySem Pc Pc.Sm Pc.Gr Fl64 Md
noncomputable def aF (T:Tb) (e:Ex) (env:En) (d:D):Prop:=∃ R,ev T e env = .ok (d,R)
section
variable {T:Tb}{env:En}{a b c:Ex}{x y z d:D}
theorem aF.bin {op:Operator}(h:aF T a env x) (h':aF T b env y) (e:kY op x y=some z):aF T (.bin op a b) env z:=by
 obtain⟨R,h⟩:=h;obtain⟨R',h'⟩:=h';exact⟨_,by rw[ev,h,aA,h',aA,e,aK,aA]⟩
theorem aF.cmp {op:CmpOp}{k:Bool}(h:aF T a env x) (h':aF T b env y) (e:iu op x y=some k):aF T (.cmp op a b) env (.bl k):=by
 obtain⟨R,h⟩:=h;obtain⟨R',h'⟩:=h';exact⟨_,by rw[ev,h,aA,h',aA,e,aK,aA]⟩
theorem aF.ix (h:aF T a env x) (h':aF T b env y) (e:Br x y=some z):aF T (.ix a b) env z:=by
 obtain⟨R,h⟩:=h;obtain⟨R',h'⟩:=h';exact⟨_,by rw[ev,h,aA,h',aA,e,aK,aA]⟩
theorem aF.cst (d:D):aF T (.cst d) env d:=⟨_,by rw[ev]⟩
theorem aF.glb (i:Nat):aF T (.glb i) env (T.gl i):=by
 cases h:ev T (.glb i) env with
 |ok p=>rw[ev] at h;exact⟨p.2,by rw[ev];cases h;rfl⟩
 |exc e=>rw[ev] at h;cases h
 |bad=>rw[ev] at h;cases h
theorem aF.i8 {f:Nat}{r:D}{fr:Bool}(h:aF T a env x) (e:T.cl f [x] = .ok (r,fr)):aF T (.call f (.cons a .nil)) env r:=by
 obtain⟨R,h⟩:=h;exact⟨_,by rw[ev,bM,h,aA,bM,aA,aA];show (T.cl f [x]).bind _=_;rw[e,aA]⟩
theorem aF.be {f:Nat}{r:D}{fr:Bool}(h:aF T a env x) (h2:aF T b env y) (e:T.cl f [x,y] = .ok (r,fr)):aF T (.call f (.cons a (.cons b .nil))) env r:=by
 obtain⟨R,h⟩:=h;obtain⟨R2,h2⟩:=h2;exact⟨_,by rw[ev,bM,h,aA,bM,h2,aA,bM,aA,aA,aA];show (T.cl f [x,y]).bind _=_;rw[e,aA]⟩
theorem aF.call3 {f:Nat}{r:D}{fr:Bool}(h:aF T a env x) (h2:aF T b env y) (h3:aF T c env z) (e:T.cl f [x,y,z] = .ok (r,fr)):aF T (.call f (.cons a (.cons b (.cons c .nil)))) env r:=by
 obtain⟨R,h⟩:=h;obtain⟨R2,h2⟩:=h2;obtain⟨R3,h3⟩:=h3;exact⟨_,by rw[ev,bM,h,aA,bM,h2,aA,bM,h3,aA,bM,aA,aA,aA,aA];show (T.cl f [x,y,z]).bind _=_;rw[e,aA]⟩
theorem aF.blt1 {k:AZ}(h:aF T a env x) (e:jN k [x]=some z):aF T (.blt k (.cons a .nil)) env z:=by
 obtain⟨R,h⟩:=h;exact⟨_,by rw[ev,bM,h,aA,bM,aA,aA];show (fR (jN k [x])).bind _=_;rw[e,aK,aA]⟩
theorem aF.lst1 (h:aF T a env x):aF T (.lst (.cons a .nil)) env (.lst [x]):=by
 obtain⟨R,h⟩:=h;exact⟨_,by rw[ev,bM,h,aA,bM,aA,aA];exact if_pos (by show (1:Nat)≤lim;decide)⟩
theorem aF.not {k:Bool}(h:aF T a env (.bl k)):aF T (.not a) env (.bl (!k)):=by
 obtain⟨R,h⟩:=h;exact⟨_,by rw[ev,h,aA]⟩
theorem aF.and {k:Bool}{w:Bool}(h:aF T a env (.bl k)) (h':k=true→aF T b env (.bl w)) (hw:k=false→w=false):aF T (.and a b) env (.bl w):=by
 obtain⟨R,h⟩:=h;cases k with
 |true=>obtain⟨R',h'⟩:=h' rfl;exact⟨_,by rw[ev,h,aA];exact h'⟩
 |false=>rw[hw rfl];exact⟨_,by rw[ev,h,aA]⟩
theorem aF.or {k:Bool}{w:Bool}(h:aF T a env (.bl k)) (h':k=false→aF T b env (.bl w)) (hw:k=true→w=true):aF T (.or a b) env (.bl w):=by
 obtain⟨R,h⟩:=h;cases k with
 |false=>obtain⟨R',h'⟩:=h' rfl;exact⟨_,by rw[ev,h,aA];exact h'⟩
 |true=>rw[hw rfl];exact⟨_,by rw[ev,h,aA]⟩
theorem ip {k:Bool}{p q:bJ}(h:aF T c env (.bl k)):bA T (.ite c p q) env=if k then aD T p env else aD T q env:=by
 obtain⟨R,h⟩:=h;rw[bA,h,aN];cases k<;>rfl
theorem mK {e:Ex}(h:aF T e env d):∃ fr,Pc.ret (aD T (.cons (.ret e) .nil) env) = .ok (d,fr):=by
 obtain⟨R,h⟩:=h;rw[aD,bA,h,aN];exact⟨_,rfl⟩
end
noncomputable def Vw (env:En) (vs:List (Option D)):Prop:=env.length=vs.length∧∀(j:Nat) (d:D),vs[j]? = some (some d)→∃ t,env[j]? = some (some (d,t))
section
variable {T:Tb}{env:En}{vs:List (Option D)}{d:D}
theorem Vw.var (h:Vw env vs) {i:Nat}(e:vs[i]? = some (some d)):aF T (.var i) env d:=by
 obtain⟨t,q⟩:=h.2 i d e;rw[aF,ev,q];exact⟨_,rfl⟩
theorem Vw.put (h:Vw env vs) (i:Nat) (d:D) (t:Tg):Vw (Pc.put env i d t) (vs.set i (some d)):=by
 unfold Pc.put;refine⟨by rw[ay,ay,aj,h.1],fun j x e=>?_⟩;by_cases hj:i=j
 ·subst hj;have hl:i<vs.length:=by
   have:=(ak.mp e).1
   rwa [ay] at this
  rw[ao hl] at e;cases e;exact⟨t,ao (by rw[aj,h.1];exact hl)⟩
 ·rw[ai hj] at e;obtain⟨t',q⟩:=h.2 j x e;refine⟨t'.drop i,?_⟩;rw[ai hj,av,q];rfl
theorem Vw.asg (h:Vw env vs) {i:Nat}(hi:i<vs.length) {e:Ex}(he:aF T e env d):∃ env',bA T (.asg (.nm i) e false) env = .nx env'∧Vw env' (vs.set i (some d)):=by
 obtain⟨R,he⟩:=he;rw[bA,he,aN];have hi':i<env.length:=by rw[h.1];exact hi
 show ∃ env',(if i<env.length then _ else _)=_∧_;rw[if_pos hi'];cases R with
 |mv R =>
  cases R with
  |nil=>exact⟨_,rfl,h.put i d _⟩
  |cons r R=>exact⟨_,rfl,h.put i d _⟩
 |sh R=>exact⟨_,rfl,h.put i d _⟩
theorem Vw.bind (h:Vw env vs) {i:Nat}(hi:i<vs.length) (R:List Nat) (d:D):∃ env',aS R (.nm i) d env=some env'∧Vw env' (vs.set i (some d)):=by
 refine⟨_,?_,h.put i d (cH d R)⟩;show (if i<env.length then _ else _)=_;rw[if_pos (by rw[h.1];exact hi)]
theorem Vw.start (ds:List D) (n:Nat):Vw (aE ds n) (ds.map some++List.replicate (n - ds.length) none):=by
 unfold aE;refine⟨by simp,fun j d e=>?_⟩;by_cases hj:j<ds.length
 ·rw[dm (by rw[aj];exact hj),av] at e;rw[dm (by rw[aj];exact hj),av];cases q:ds[j]? with
  |none=>rw[q] at e;cases e
  |some x=>rw[q] at e;cases e;exact⟨_,rfl⟩
 ·rw[dw (by rw[aj];omega),eo] at e;split at e<;>cases e
end
theorem mY {t:lj}{R:List Nat}{b:En→Fl}(J:Nat→En→Prop):∀(l:List D) (k:Nat) (env:En),J k env →
  (∀(i:Nat) (d:D) (e:En),l[i]? = some d→J (k+i) e→∃ e1 e2,aS R t d e=some e1∧(b e1 = .nx e2∨b e1 = .ct e2)∧J (k+i+1) e2)→∃ e,bL t R b l env = .nx e∧J (k+l.length) e
 |[],k,env,h,_=>⟨env,rfl,h⟩
 | d::r,k,env,h,st=>by
  obtain⟨e1,e2,h1,h2,h3⟩:=st 0 d env rfl h;obtain⟨e,q1,q2⟩:=mY J r (k+1) e2 h3 fun i d e hd hJ=>by
   have:=st (i+1) d e hd (by rw[show k+(i+1)=k+1+i by omega];exact hJ);rw[show k+(i+1)+1=k+1+i+1 by omega] at this;exact this
  refine⟨e,?_,by rw[du,show k+(r.length+1)=k+1+r.length by omega];exact q2⟩;rw[bL,h1];rcases h2 with h2 | h2
  ·dsimp only;rw[h2];exact q1
  ·dsimp only;rw[h2];exact q1
noncomputable def yz (T:Tb) (iv:Nat):Prop:=∀ a:Nat,a<64→a≠0→T.cl iv [.int (a:Int)] = .ok (.int ((pw a 62:Nat):Int),true)
noncomputable def bIN (g pwf:Nat):bJ:=(.cons (.ite (.cmp .Eq (.var 0) (.cst (.int (0)))) (.cons (.expr (.neg (.cst .non)))
  .nil) .nil)
  (.cons (.ret (.call pwf (.cons (.var 0) (.cons (.bin .Sub (.glb g) (.cst (.int (2)))) .nil))))
  .nil))
theorem F5 {T:Tb}{g pwf:Nat}(hg:T.gl g = .int 64) (hp:AI T pwf) {a:Nat}(ha:a<64) (h0:a≠0):Pc.ret (aD T (bIN g pwf) (aE [.int (a:Int)] 1)) = .ok (.int ((pw a 62:Nat):Int),true):=by
 have hst:aE [.int (a:Int)] 1=[sN a]:=rfl;rw[hst];have v0:ev T (.var 0) [sN a] = .ok (.int (a:Int),.mv []):=aH rfl rfl;have c:ev T (.cmp .Eq (.var 0) (.cst (.int (0)))) [sN a] = .ok (.bl false,.mv []):=by
  rw[ev,v0,aA,ev,aA];show (fR (some ((a:Int)==0))).bind _=_;rw[show ((a:Int)==0)=false by rw[beq_eq_false_iff_ne];omega];rfl
 have e:ev T (.bin .Sub (.glb g) (.cst (.int (2)))) [sN a] = .ok (.int ((62:Nat):Int),.mv []):=by
  have:∃ R,ev T (.glb g) [sN a] = .ok (.int 64,R):=by
   have:=aF.glb (T:=T) (env:=[sN a]) g;rw[hg] at this;exact this
  obtain⟨R,q⟩:=this;rw[ev,q,aA,ev,aA,aL];rfl
 unfold bIN;rw[aD,ite_ff c,aC];exact gu (Pc.Sm.be v0 e (hp a 62 ha (by decide)))
noncomputable def DD (T:Tb) (gp:Nat):Prop:=∀(rule nums:List Nat) (place:Nat),Gr rule→Gr nums→rule.length≤place+1→place<nums.length→T.cl gp [.lst (gD rule),.lst (gD nums),.int (place:Int)] = .ok (.int ((cW nums place 0 rule 0:Nat):Int),true)
noncomputable def BZ (t:Nat):bJ:=(.cons (.asg (.nm 3) (.bin .BitXor (.var 3) (.call t (.cons (.var 5) (.cons (.ix (.var 1) (.bin .Sub (.var 2) (.var 4))) .nil)))) false)
  .nil)
noncomputable def bGP (t:Nat):bJ:=(.cons (.asg (.nm 3) (.cst (.int (0))) false)
  (.cons (.forr (.tp [4,5]) (.enum (.var 0)) (BZ t))
  (.cons (.ret (.var 3))
  .nil)))
theorem uJ {T:Tb}{t:Nat}(ht:iq T t) (d:D) {nums:List Nat}(hn:Gr nums) {place:Nat}(hp:place<nums.length):∀(r:List Nat) (k g:Nat) (o4 o5:Slot),bK o4→bK o5→k+r.length≤place+1→∃ o4' o5',bL (.tp [4,5]) [] (aD T (BZ t)) (AX k r) [some (d,.sh []),sG nums,sN place,sN g,o4,o5] = .nx [some (d,.sh []),sG nums,sN place,sN (cW nums place k r g),o4',o5']
 |[],k,g,o4,o5,_,_,_=>⟨o4,o5,rfl⟩
 | f::r,k,g,o4,o5,t4,t5,hk=>by
  simp only[List.length_cons] at hk;obtain⟨a,b,q⟩:=uJ ht d hn hp r (k+1) (g^^^tm f (nums.getD (place - k) 0)) (sN k) (sN f) (aB _) (aB _) (by omega);refine⟨a,b,?_⟩;have te:Tame [some (d,.sh []),sG nums,sN place,sN g,o4,o5]:=.cons (aI _) (.cons (aI _) (.cons (aB _) (.cons (aB _) (.cons t4 (.cons t5 .nil)))));have hb:aS [] (.tp [4,5]) (.tup [.int (k:Int),.int (f:Int)]) [some (d,.sh []),sG nums,sN place,sN g,o4,o5]=some [some (d,.sh []),sG nums,sN place,sN g,sN k,sN f]:=gL te (by simp) (by simp) rfl rfl;have te1:Tame [some (d,.sh []),sG nums,sN place,sN g,sN k,sN f]:=.cons (aI _) (.cons (aI _) (.cons (aB _) (.cons (aB _) (.cons (aB _) (.cons (aB _) .nil)))));have v1:ev T (.var 1) [some (d,.sh []),sG nums,sN place,sN g,sN k,sN f] = .ok (.lst (gD nums),.sh []):=rfl;have v2:ev T (.var 2) [some (d,.sh []),sG nums,sN place,sN g,sN k,sN f] = .ok (.int (place:Int),.mv []):=aH rfl rfl;have v3:ev T (.var 3) [some (d,.sh []),sG nums,sN place,sN g,sN k,sN f] = .ok (.int (g:Int),.mv []):=aH rfl rfl;have v4:ev T (.var 4) [some (d,.sh []),sG nums,sN place,sN g,sN k,sN f] = .ok (.int (k:Int),.mv []):=aH rfl rfl;have v5:ev T (.var 5) [some (d,.sh []),sG nums,sN place,sN g,sN k,sN f] = .ok (.int (f:Int),.mv []):=aH rfl rfl;have e1:ev T (.bin .Sub (.var 2) (.var 4)) [some (d,.sh []),sG nums,sN place,sN g,sN k,sN f] = .ok (.int ((place - k:Nat):Int),.mv []):=by
   rw[ev,v2,aA,v4,aA,aL];show (fR (some (D.int ((place:Int) - (k:Int))))).bind _=_;rw[show (place:Int) - (k:Int)=((place - k:Nat):Int) by omega];rfl
  have e2:ev T (.ix (.var 1) (.bin .Sub (.var 2) (.var 4))) [some (d,.sh []),sG nums,sN place,sN g,sN k,sN f] = .ok (.int ((nums.getD (place - k) 0:Nat):Int),.mv []):=by
   rw[ev,v1,aA,e1,aA,kX (by omega),aK,aA];rfl
  have e3:=Pc.Sm.be v5 e2 (ht f _ (dF hn (place - k)));have e4:ev T (.bin .BitXor (.var 3) (.call t (.cons (.var 5) (.cons (.ix (.var 1) (.bin .Sub (.var 2) (.var 4))) .nil)))) [some (d,.sh []),sG nums,sN place,sN g,sN k,sN f] = .ok (.int ((g^^^tm f (nums.getD (place - k) 0):Nat):Int),.mv []):=by
   rw[ev,v3,aA,e3,aA,aL];show (fR (some (D.int (Builtin.bitXor (g:Int) ((tm f (nums.getD (place - k) 0):Nat):Int))))).bind _=_;rw[dG];rfl
  have s1:bA T (.asg (.nm 3) (.bin .BitXor (.var 3) (.call t (.cons (.var 5) (.cons (.ix (.var 1) (.bin .Sub (.var 2) (.var 4))) .nil)))) false) [some (d,.sh []),sG nums,sN place,sN g,sN k,sN f] = .nx [some (d,.sh []),sG nums,sN place,sN (g^^^tm f (nums.getD (place - k) 0)),sN k,sN f]:=aX te1 (by simp) e4;rw[jO,bL,hb];dsimp only;unfold BZ;rw[aD,s1,aC];exact q
theorem Fd {T:Tb}{t:Nat}(ht:iq T t) {rule nums:List Nat}{place:Nat}(hr:Gr rule) (hn:Gr nums) (h1:rule.length≤place+1) (h2:place<nums.length):Pc.ret (aD T (bGP t) (aE [.lst (gD rule),.lst (gD nums),.int (place:Int)] 6)) = .ok (.int ((cW nums place 0 rule 0:Nat):Int),true):=by
 have hst:aE [.lst (gD rule),.lst (gD nums),.int (place:Int)] 6=[sG rule,sG nums,sN place,none,none,none]:=rfl;rw[hst];have s1:bA T (.asg (.nm 3) (.cst (.int (0))) false) [sG rule,sG nums,sN place,none,none,none] = .nx [sG rule,sG nums,sN place,sN 0,none,none]:=rfl;obtain⟨a,b,q⟩:=uJ ht (.lst (gD rule)) hn h2 rule 0 0 none none aG aG (by omega);have s2:=bW (tW T (env:=[sG rule,sG nums,sN place,sN 0,none,none]) (i:=0) (gs:=rule) rfl) q;unfold bGP;rw[aD,s1,aC,aD,s2,aC];exact gu (aH (t:=.own) rfl rfl)
noncomputable def Cr (T:Tb) (sc:Nat):Prop:=∀(row:List Nat) (f:Nat),Gr row→f<64→row.length≤900→T.cl sc [.lst (gD row),.int (f:Int)] = .ok (.lst (gD (Ak row f)),true)
noncomputable def bSC (t:Nat):bJ:=(.cons (.ret (.comp 1 [1] (.nm 0) (.seq (.var 0)) .none (.call t (.cons (.var 0) (.cons (.var 1) .nil)))))
  .nil)
theorem FJ {T:Tb}{t:Nat}(ht:iq T t) {row:List Nat}{f:Nat}(hr:Gr row) (hf:f<64) (hl:row.length≤900):Pc.ret (aD T (bSC t) (aE [.lst (gD row),.int (f:Int)] 2)) = .ok (.lst (gD (Ak row f)),true):=by
 have hst:aE [.lst (gD row),.int (f:Int)] 2=[sG row,sN f]:=rfl;rw[hst];refine gu ?_;have hit:eW T (.seq (.var 0)) [sG row,sN f] = .ok (gD row,[]):=rfl;rw[jU (g:=fun d=>match d with | .int k=>(.int ((tm k.toNat f:Nat):Int),.mv []) | _=>(.non,.mv [])) hit (by rw[aZ];exact cU (by omega)) (fun d hd=>?_) (fun d hd=>?_)]
 ·rw[gD,Ak,gD,bq,bq];rfl
 ·obtain⟨x,hx,rfl⟩:=au.mp hd;have hb:aS [] (.nm 0) (.int (x:Int)) (aJ [sG row,sN f] 1 [1])=some [sN x,some (.int (f:Int),.sh [])]:=rfl;rw[hb];have w0:ev T (.var 0) [sN x,some (.int (f:Int),.sh [])] = .ok (.int (x:Int),.mv []):=aH rfl rfl;have w1:ev T (.var 1) [sN x,some (.int (f:Int),.sh [])] = .ok (.int (f:Int),.mv []):=aH rfl rfl;have e1:=Pc.Sm.be w0 w1 (ht x f hf);simp only[aU,j9,aA,if_true,e1,Int.toNat_natCast]
 ·obtain⟨x,hx,rfl⟩:=au.mp hd;rfl
end Pc.Vw
end
section
namespace Pc.Vw
open PySem Pc Pc.Sm Pc.Gr Fl64 Md
noncomputable def DW (T:Tb) (ad:Nat):Prop:=∀(a b:List Nat),a.length≤400→b.length≤400→T.cl ad [.lst (gD a),.lst (gD b)] = .ok (.lst (gD (vS a b)),true)
noncomputable def Dw:bJ:=(.cons (.setix 2 .none (.var 3) (.bin .BitXor (.ix (.var 2) (.var 3)) (.var 4)))
  .nil)
noncomputable def bAD:bJ:=(.cons (.asg (.nm 2) (.bin .Add (.var 0) (.bin .Mult (.lst (.cons (.cst (.int (0))) .nil)) (.bin .Sub (.blt .len (.cons (.var 1) .nil)) (.blt .len (.cons (.var 0) .nil))))) false)
  (.cons (.forr (.tp [3,4]) (.enum (.var 1)) Dw)
  (.cons (.ret (.var 2))
  .nil)))
theorem uZ (n m:Nat) (hn:n≤1000) (hm:m≤1000):kY .Mult (.lst [.int 0]) (.int ((n:Int) - (m:Int)))=some (.lst (gD (List.replicate (n - m) 0))):=by
 by_cases h:m≤n
 ·rw[show (n:Int) - (m:Int)=((n - m:Nat):Int) by omega];exact m8 _ (by omega)
 ·show (if -(2 ^ 63)≤(n:Int) - (m:Int)∧(n:Int) - (m:Int)<2 ^ 63 then (if D.flats [D.int 0] then ck ([D.int 0].length*((n:Int) - (m:Int)).toNat) (.lst (List.replicate ((n:Int) - (m:Int)).toNat [D.int 0]).flatten) else none) else none)=_;rw[if_pos (by omega),show ((n:Int) - (m:Int)).toNat=0 by omega,show n - m=0 by omega];rfl
theorem tq {T:Tb}(a b:List Nat):∀(m:List Nat) (k:Nat) (l:List Nat) (o3 o4:Slot),bK o3→bK o4→k+m.length≤l.length→l.length≤1000→∃ o3' o4',bL (.tp [3,4]) [] (aD T Dw) (AX k m) [sG a,sG b,oG l,o3,o4] = .nx [sG a,sG b,oG (eK l k m),o3',o4']
 |[],k,l,o3,o4,_,_,_,_=>⟨o3,o4,rfl⟩
 | g::m,k,l,o3,o4,t3,t4,hk,hl=>by
  simp only[List.length_cons] at hk;obtain⟨p,q,r⟩:=tq (T:=T) a b m (k+1) (l.set k (l.getD k 0^^^g)) (sN k) (sN g) (aB _) (aB _) (by rw[ay];omega) (by rw[ay];exact hl);refine⟨p,q,?_⟩;have te:Tame [sG a,sG b,oG l,o3,o4]:=.cons (aI _) (.cons (aI _) (.cons (aB _) (.cons t3 (.cons t4 .nil))));have hb:aS [] (.tp [3,4]) (.tup [.int (k:Int),.int (g:Int)]) [sG a,sG b,oG l,o3,o4]=some [sG a,sG b,oG l,sN k,sN g]:=gL te (by simp) (by simp) rfl rfl;have te1:Tame [sG a,sG b,oG l,sN k,sN g]:=.cons (aI _) (.cons (aI _) (.cons (aB _) (.cons (aB _) (.cons (aB _) .nil))));have v2:ev T (.var 2) [sG a,sG b,oG l,sN k,sN g] = .ok (.lst (gD l),.mv [2]):=cV rfl rfl;have v3:ev T (.var 3) [sG a,sG b,oG l,sN k,sN g] = .ok (.int (k:Int),.mv []):=aH rfl rfl;have v4:ev T (.var 4) [sG a,sG b,oG l,sN k,sN g] = .ok (.int (g:Int),.mv []):=aH rfl rfl;have e1:ev T (.ix (.var 2) (.var 3)) [sG a,sG b,oG l,sN k,sN g] = .ok (.int ((l.getD k 0:Nat):Int),.mv []):=by
   rw[ev,v2,aA,v3,aA,kX (by omega),aK,aA];rfl
  have e2:ev T (.bin .BitXor (.ix (.var 2) (.var 3)) (.var 4)) [sG a,sG b,oG l,sN k,sN g] = .ok (.int ((l.getD k 0^^^g:Nat):Int),.mv []):=by
   rw[ev,e1,aA,v4,aA,aL];show (fR (some (D.int (Builtin.bitXor ((l.getD k 0:Nat):Int) (g:Int))))).bind _=_;rw[dG];rfl
  have s1:=gS (T:=T) (x:=2) te1 rfl v3 (f7 (n:=(gD l).length) (by rw[aZ];omega)) e2 (by rw[aZ];exact cU hl);rw[jO,bL,hb];dsimp only;unfold Dw;rw[aD,s1,aC,je];exact r
theorem Gf {T:Tb}{a b:List Nat}(ha:a.length≤400) (hb:b.length≤400):Pc.ret (aD T bAD (aE [.lst (gD a),.lst (gD b)] 5)) = .ok (.lst (gD (vS a b)),true):=by
 have hst:aE [.lst (gD a),.lst (gD b)] 5=[sG a,sG b,none,none,none]:=rfl;rw[hst];have te:Tame [sG a,sG b,none,none,none]:=.cons (aI _) (.cons (aI _) (.cons aG (.cons aG (.cons aG .nil))));have l0:=gn (T:=T) (env:=[sG a,sG b,none,none,none]) (i:=0) (gs:=a) (t:=.sh []) rfl;have l1:=gn (T:=T) (env:=[sG a,sG b,none,none,none]) (i:=1) (gs:=b) (t:=.sh []) rfl;have v0:ev T (.var 0) [sG a,sG b,none,none,none] = .ok (.lst (gD a),.sh []):=rfl;have q:ev T (.lst (.cons (.cst (.int (0))) .nil)) [sG a,sG b,none,none,none] = .ok (.lst [.int 0],.mv []):=rfl;have e1:ev T (.bin .Sub (.blt .len (.cons (.var 1) .nil)) (.blt .len (.cons (.var 0) .nil))) [sG a,sG b,none,none,none] = .ok (.int ((b.length:Int) - (a.length:Int)),.mv []):=by
  rw[ev,l1,aA,l0,aA,aL];rfl
 have e2:ev T (.bin .Mult (.lst (.cons (.cst (.int (0))) .nil)) (.bin .Sub (.blt .len (.cons (.var 1) .nil)) (.blt .len (.cons (.var 0) .nil)))) [sG a,sG b,none,none,none] = .ok (.lst (gD (List.replicate (b.length - a.length) 0)),.mv []):=by
  rw[ev,q,aA,e1,aA,uZ _ _ (by omega) (by omega),aK,aA,dB (fD _)]
 have e3:ev T (.bin .Add (.var 0) (.bin .Mult (.lst (.cons (.cst (.int (0))) .nil)) (.bin .Sub (.blt .len (.cons (.var 1) .nil)) (.blt .len (.cons (.var 0) .nil))))) [sG a,sG b,none,none,none] = .ok (.lst (gD (a++List.replicate (b.length - a.length) 0)),.mv []):=by
  have hb:kY .Add (.lst (gD a)) (.lst (gD (List.replicate (b.length - a.length) 0)))=some (.lst (gD (a++List.replicate (b.length - a.length) 0))):=by
   show ck ((gD a).length+(gD (List.replicate (b.length - a.length) 0)).length) (.lst (gD a++gD (List.replicate (b.length - a.length) 0)))=_;unfold ck;rw[if_pos (by rw[aZ,aZ,c9];exact cU (by omega)),gC]
  rw[ev,v0,aA,e2,aA,hb,aK,aA,dB (fD _)]
 have s1:bA T (.asg (.nm 2) (.bin .Add (.var 0) (.bin .Mult (.lst (.cons (.cst (.int (0))) .nil)) (.bin .Sub (.blt .len (.cons (.var 1) .nil)) (.blt .len (.cons (.var 0) .nil))))) false) [sG a,sG b,none,none,none] = .nx [sG a,sG b,oG (a++List.replicate (b.length - a.length) 0),none,none]:=aX te (by simp) e3;obtain⟨p,r,h⟩:=tq (T:=T) a b b 0 (a++List.replicate (b.length - a.length) 0) none none aG aG (by simp;omega) (by simp;omega);have s2:=bW (tW T (env:=[sG a,sG b,oG (a++List.replicate (b.length - a.length) 0),none,none]) (i:=1) (gs:=b) rfl) h;unfold bAD;rw[aD,s1,aC,aD,s2,aC];show Pc.ret (aD T (.cons (.ret (.var 2)) .nil) [sG a,sG b,oG (vS a b),p,r])=_;generalize vS a b=l;simp[aD,bA,ev,aN,D.flat,fB,Pc.ret,bZ]
noncomputable def CA (T:Tb) (dp:Nat):Prop:=∀(x:Nat) (ls:List Nat),x<64→Gr ls→T.cl dp [.int (x:Int),.lst (gD ls)] = .ok (.int ((cJ x 1 ls:Nat):Int),true)
noncomputable def zH (t:Nat):bJ:=(.cons (.ite (.cmp .NotEq (.var 3) (.var 0)) (.cons (.asg (.nm 2) (.call t (.cons (.var 2) (.cons (.bin .BitXor (.var 0) (.var 3)) .nil))) false)
  .nil) .nil)
  .nil)
noncomputable def bDP (t:Nat):bJ:=(.cons (.asg (.nm 2) (.cst (.int (1))) false)
  (.cons (.forr (.nm 3) (.seq (.var 1)) (zH t))
  (.cons (.ret (.var 2))
  .nil)))
theorem sR {T:Tb}{t:Nat}(ht:iq T t) {x:Nat}(hx:x<64) (d:D):∀(ls:List Nat) (pr:Nat) (o:Slot),Gr ls→pr<64→bK o→∃ o',bL (.nm 3) [] (aD T (zH t)) (gD ls) [sN x,some (d,.sh []),sN pr,o] = .nx [sN x,some (d,.sh []),sN (cJ x pr ls),o']
 |[],pr,o,_,_,_=>⟨o,rfl⟩
 | y::ls,pr,o,hl,hp,to=>by
  have y64:=hl y ae;obtain⟨o',r⟩:=sR ht hx d ls (if y=x then pr else tm pr (x^^^y)) (sN y) (fun z hz=>hl z (aa _ hz)) (by split;exact hp;exact bC hp (aT hx y64)) (aB _);refine⟨o',?_⟩;have te:Tame [sN x,some (d,.sh []),sN pr,o]:=.cons (aB _) (.cons (aI _) (.cons (aB _) (.cons to .nil)));have hb:aS [] (.nm 3) (.int (y:Int)) [sN x,some (d,.sh []),sN pr,o]=some [sN x,some (d,.sh []),sN pr,sN y]:=dN te (by simp);have te1:Tame [sN x,some (d,.sh []),sN pr,sN y]:=.cons (aB _) (.cons (aI _) (.cons (aB _) (.cons (aB _) .nil)));have v0:ev T (.var 0) [sN x,some (d,.sh []),sN pr,sN y] = .ok (.int (x:Int),.mv []):=aH rfl rfl;have v2:ev T (.var 2) [sN x,some (d,.sh []),sN pr,sN y] = .ok (.int (pr:Int),.mv []):=aH rfl rfl;have v3:ev T (.var 3) [sN x,some (d,.sh []),sN pr,sN y] = .ok (.int (y:Int),.mv []):=aH rfl rfl;have c:aF T (.cmp .NotEq (.var 3) (.var 0)) [sN x,some (d,.sh []),sN pr,sN y] (.bl (!((y:Int)==(x:Int)))):=aF.cmp ⟨_,v3⟩ ⟨_,v0⟩ rfl;have e1:ev T (.bin .BitXor (.var 0) (.var 3)) [sN x,some (d,.sh []),sN pr,sN y] = .ok (.int ((x^^^y:Nat):Int),.mv []):=by
   rw[ev,v0,aA,v3,aA,aL];show (fR (some (D.int (Builtin.bitXor (x:Int) (y:Int))))).bind _=_;rw[dG];rfl
  have s1:bA T (.asg (.nm 2) (.call t (.cons (.var 2) (.cons (.bin .BitXor (.var 0) (.var 3)) .nil))) false) [sN x,some (d,.sh []),sN pr,sN y] = .nx [sN x,some (d,.sh []),sN (tm pr (x^^^y)),sN y]:=aX te1 (by simp) (Pc.Sm.be v2 e1 (ht pr _ (aT hx y64)));have st:aD T (zH t) [sN x,some (d,.sh []),sN pr,sN y] = .nx [sN x,some (d,.sh []),sN (if y=x then pr else tm pr (x^^^y)),sN y]:=by
   unfold zH;rw[aD,ip c];by_cases e:y=x
   ·rw[if_pos e,show (!((y:Int)==(x:Int)))=false by rw[e];simp];rfl
   ·rw[if_neg e,show (!((y:Int)==(x:Int)))=true by simp;omega];simp only[if_true];rw[aD,s1,aC];rfl
  rw[gD,ba,bL,hb];dsimp only;rw[st];exact r
theorem GF {T:Tb}{t:Nat}(ht:iq T t) {x:Nat}(hx:x<64) {ls:List Nat}(hl:Gr ls):Pc.ret (aD T (bDP t) (aE [.int (x:Int),.lst (gD ls)] 4)) = .ok (.int ((cJ x 1 ls:Nat):Int),true):=by
 have hst:aE [.int (x:Int),.lst (gD ls)] 4=[sN x,sG ls,none,none]:=rfl;rw[hst];have s1:bA T (.asg (.nm 2) (.cst (.int (1))) false) [sN x,sG ls,none,none] = .nx [sN x,sG ls,sN 1,none]:=rfl;obtain⟨o',h⟩:=sR ht hx (.lst (gD ls)) ls 1 none hl (by decide) aG;have hit:eW T (.seq (.var 1)) [sN x,sG ls,sN 1,none] = .ok (gD ls,[]):=rfl;have s2:=bW hit h;unfold bDP;rw[aD,s1,aC,aD,s2,aC];exact gu (aH (t:=.own) rfl rfl)
noncomputable def DI (T:Tb) (lo:Nat):Prop:=∀(p n:Nat),p<n→n≤1000→T.cl lo [.int (p:Int),.int (n:Int)] = .ok (.int ((loc n p:Nat):Int),true)
noncomputable def bLO (pwf:Nat):bJ:=(.cons (.ret (.call pwf (.cons (.cst (.int (2))) (.cons (.bin .Sub (.bin .Sub (.var 1) (.cst (.int (1)))) (.var 0)) .nil))))
  .nil)
theorem FF {T:Tb}{pwf:Nat}(hp:AI T pwf) {p n:Nat}(h:p<n) (hn:n≤1000):Pc.ret (aD T (bLO pwf) (aE [.int (p:Int),.int (n:Int)] 2)) = .ok (.int ((loc n p:Nat):Int),true):=by
 have hst:aE [.int (p:Int),.int (n:Int)] 2=[sN p,sN n]:=rfl;rw[hst];have v0:ev T (.var 0) [sN p,sN n] = .ok (.int (p:Int),.mv []):=aH rfl rfl;have v1:ev T (.var 1) [sN p,sN n] = .ok (.int (n:Int),.mv []):=aH rfl rfl;have e:ev T (.bin .Sub (.bin .Sub (.var 1) (.cst (.int (1)))) (.var 0)) [sN p,sN n] = .ok (.int ((n - 1 - p:Nat):Int),.mv []):=by
  have e1:ev T (.bin .Sub (.var 1) (.cst (.int (1)))) [sN p,sN n] = .ok (.int ((n:Int) - 1),.mv []):=by
   rw[ev,v1,aA,ev,aA,aL];rfl
  rw[ev,e1,aA,v0,aA,aL];show (fR (some (D.int ((n:Int) - 1 - (p:Int))))).bind _=_;rw[show (n:Int) - 1 - (p:Int)=((n - 1 - p:Nat):Int) by omega];rfl
 have c2:ev T (.cst (.int (2))) [sN p,sN n] = .ok (.int ((2:Nat):Int),.mv []):=rfl;exact gu (Pc.Sm.be c2 e (hp 2 _ (by decide) (Nat.lt_of_le_of_lt (show _≤1000 by omega) (by decide))))
end Pc.Vw
end
section
namespace Pc.Vw
open PySem Pc Pc.Sm Pc.Gr Fl64 Md
noncomputable def Fi (T:Tb) (sr:Nat):Prop:=∀(nums:List Nat),Gr nums→nums.length≤100→∃ fr,T.cl sr [.lst (gD nums)] = .ok (.lst (gD (mB nums nums.length).rule),fr)
noncomputable def wA (tmf iv gp sc ad:Nat):bJ:=(.cons (.asg (.nm 3) (.bin .Add (.lst (.cons (.cst (.int (0))) .nil)) (.var 3)) false)
  (.cons (.asg (.nm 6) (.call gp (.cons (.var 1) (.cons (.var 0) (.cons (.var 5) .nil)))) false)
  (.cons (.ite (.cmp .Eq (.var 6) (.cst (.int (0)))) (.cons .cnt
  .nil) .nil)
  (.cons (.asg (.nm 7) (.call ad (.cons (.var 1) (.cons (.call sc (.cons (.var 3) (.cons (.call tmf (.cons (.var 6) (.cons (.call iv (.cons (.var 4) .nil)) .nil))) .nil))) .nil))) false)
  (.cons (.ite (.cmp .LtE (.bin .Mult (.cst (.int (2))) (.var 2)) (.var 5)) (.cons (.asg (.nm 2) (.bin .Sub (.bin .Add (.var 5) (.cst (.int (1)))) (.var 2)) false)
  (.cons (.asg (.nm 3) (.var 1) false)
  (.cons (.asg (.nm 4) (.var 6) false)
  .nil))) .nil)
  (.cons (.asg (.nm 1) (.var 7) false)
  .nil))))))
noncomputable def bSR (tmf iv gp sc ad:Nat):bJ:=(.cons (.asg (.nm 1) (.lst (.cons (.cst (.int (1))) .nil)) false)
  (.cons (.asg (.nm 2) (.cst (.int (0))) false)
  (.cons (.asg (.nm 3) (.lst (.cons (.cst (.int (1))) .nil)) false)
  (.cons (.asg (.nm 4) (.cst (.int (1))) false)
  (.cons (.forr (.nm 5) (.rng1 (.blt .len (.cons (.var 0) .nil))) (wA tmf iv gp sc ad))
  (.cons (.ret (.var 1))
  .nil))))))
noncomputable abbrev nD (n:Nat):Option D:=some (.int (n:Int))
noncomputable abbrev lD (l:List Nat):Option D:=some (.lst (gD l))
noncomputable def SrV (nums:List Nat) (s:Sr) (env:En):Prop:=∃ v5 v6 v7,Vw env [lD nums,lD s.rule,nD s.len,lD s.fo,nD s.gap,v5,v6,v7]
theorem zM {T:Tb}{tmf iv gp sc ad:Nat}(ht:iq T tmf) (hi:yz T iv) (hg:DD T gp) (hs:Cr T sc) (ha:DW T ad) {nums:List Nat}(hn:Gr nums) (hl:nums.length≤100) {n:Nat}(hn':n<nums.length) {s:Sr}(o:pj nums n s) {env:En}(V:SrV nums s env) (R:List Nat) :
  ∃ e1 e2,aS R (.nm 5) (.int (n:Int)) env=some e1∧(aD T (wA tmf iv gp sc ad) e1 = .nx e2∨aD T (wA tmf iv gp sc ad) e1 = .ct e2)∧SrV nums (s.step nums n) e2:=by
 obtain⟨v5,v6,v7,V⟩:=V;have hle:=o.bm.le;have lr:=o.lr;have lf:=o.lf;obtain⟨e1,b1,V1⟩:=V.bind (i:=5) (show (5:Nat)<8 by decide) R (.int (n:Int));have V1:Vw e1 [lD nums,lD s.rule,nD s.len,lD s.fo,nD s.gap,nD n,v6,v7]:=V1;refine⟨e1,?_⟩;obtain⟨e2,q2,V2⟩:=V1.asg (T:=T) (i:=3) (show (3:Nat)<8 by decide) (aF.bin (op:=.Add) (aF.lst1 (aF.cst (.int 0))) (V1.var (i:=3) rfl) (z:=.lst (gD (0::s.fo))) (by
  show ck (1+(gD s.fo).length) (.lst ([D.int 0]++gD s.fo))=_;unfold ck;rw[if_pos (by rw[aZ];exact cU (by omega))];rfl))
 have V2:Vw e2 [lD nums,lD s.rule,nD s.len,lD (0::s.fo),nD s.gap,nD n,v6,v7]:=V2;obtain⟨e3,q3,V3⟩:=V2.asg (T:=T) (i:=6) (show (6:Nat)<8 by decide) (aF.call3 (V2.var (i:=1) rfl) (V2.var (i:=0) rfl) (V2.var (i:=5) rfl) (hg s.rule nums n o.gr hn o.rl hn'));have V3:Vw e3 [lD nums,lD s.rule,nD s.len,lD (0::s.fo),nD s.gap,nD n,nD (cW nums n 0 s.rule 0),v7]:=V3;have c1:aF T (.cmp .Eq (.var 6) (.cst (.int (0)))) e3 (.bl (((cW nums n 0 s.rule 0:Nat):Int)==0)):=aF.cmp (V3.var (i:=6) rfl) (aF.cst _) rfl;unfold wA;by_cases h0:cW nums n 0 s.rule 0=0
 ·refine⟨e3,b1,.inr ?_,?_⟩
  ·rw[aD,q2,aC,aD,q3,aC,aD,ip c1,h0];rfl
  ·unfold Sr.step;rw[if_pos h0];exact⟨_,_,_,V3⟩
 ·have g64:=jH hn n (k:=0) o.gr (g:=0) (by decide);have t64:=bC g64 (bB o.gg 62);have c1':(((cW nums n 0 s.rule 0:Nat):Int)==0)=false:=by rw[beq_eq_false_iff_ne];omega
  obtain⟨e4,q4,V4⟩:=V3.asg (T:=T) (i:=7) (show (7:Nat)<8 by decide) (aF.be (V3.var (i:=1) rfl) (aF.be (V3.var (i:=3) rfl) (aF.be (V3.var (i:=6) rfl) (aF.i8 (V3.var (i:=4) rfl) (hi s.gap o.gg o.ne)) (ht _ _ (bB o.gg 62))) (hs (0::s.fo) _ (zr o.gf) t64 (by simp;omega))) (ha s.rule _ (by omega) (by simp[Ak];omega)));have V4:Vw e4 [lD nums,lD s.rule,nD s.len,lD (0::s.fo),nD s.gap,nD n,nD (cW nums n 0 s.rule 0),lD (s.qk nums n)]:=V4;have c2:aF T (.cmp .LtE (.bin .Mult (.cst (.int (2))) (.var 2)) (.var 5)) e4 (.bl (decide (2*(s.len:Int)≤(n:Int)))):=aF.cmp (aF.bin (op:=.Mult) (aF.cst _) (V4.var (i:=2) rfl) (z:=.int (2*(s.len:Int))) rfl) (V4.var (i:=5) rfl) rfl;by_cases h2:2*s.len≤n
  ·obtain⟨e5,q5,V5⟩:=V4.asg (T:=T) (i:=2) (show (2:Nat)<8 by decide) (aF.bin (op:=.Sub) (aF.bin (op:=.Add) (V4.var (i:=5) rfl) (aF.cst (.int 1)) (z:=.int ((n:Int)+1)) rfl) (V4.var (i:=2) rfl) (z:=.int ((n+1 - s.len:Nat):Int)) (by
    show some (D.int ((n:Int)+1 - (s.len:Int)))=_;rw[show (n:Int)+1 - (s.len:Int)=((n+1 - s.len:Nat):Int) by omega]))
   have V5:Vw e5 [lD nums,lD s.rule,nD (n+1 - s.len),lD (0::s.fo),nD s.gap,nD n,nD (cW nums n 0 s.rule 0),lD (s.qk nums n)]:=V5;obtain⟨e6,q6,V6⟩:=V5.asg (T:=T) (i:=3) (show (3:Nat)<8 by decide) (V5.var (i:=1) rfl);have V6:Vw e6 [lD nums,lD s.rule,nD (n+1 - s.len),lD s.rule,nD s.gap,nD n,nD (cW nums n 0 s.rule 0),lD (s.qk nums n)]:=V6;obtain⟨e7,q7,V7⟩:=V6.asg (T:=T) (i:=4) (show (4:Nat)<8 by decide) (V6.var (i:=6) rfl);have V7:Vw e7 [lD nums,lD s.rule,nD (n+1 - s.len),lD s.rule,nD (cW nums n 0 s.rule 0),nD n,nD (cW nums n 0 s.rule 0),lD (s.qk nums n)]:=V7;obtain⟨e8,q8,V8⟩:=V7.asg (T:=T) (i:=1) (show (1:Nat)<8 by decide) (V7.var (i:=7) rfl);refine⟨e8,b1,.inl ?_,?_⟩
   ·rw[aD,q2,aC,aD,q3,aC,aD,ip c1,c1'];simp only[Bool.false_eq_true,if_false];rw[aD,aC,aD,q4,aC,aD,ip c2,decide_eq_true (show 2*(s.len:Int)≤(n:Int) by omega)];simp only[if_true];rw[aD,q5,aC,aD,q6,aC,aD,q7,aC,aD,aC,aD,q8,aC];rfl
   ·unfold Sr.step;rw[if_neg h0,if_pos h2];exact⟨_,_,_,V8⟩
  ·obtain⟨e8,q8,V8⟩:=V4.asg (T:=T) (i:=1) (show (1:Nat)<8 by decide) (V4.var (i:=7) rfl);refine⟨e8,b1,.inl ?_,?_⟩
   ·rw[aD,q2,aC,aD,q3,aC,aD,ip c1,c1'];simp only[Bool.false_eq_true,if_false];rw[aD,aC,aD,q4,aC,aD,ip c2,decide_eq_false (show ¬ 2*(s.len:Int)≤(n:Int) by omega)];simp only[Bool.false_eq_true,if_false];rw[aD,aC,aD,q8,aC];rfl
   ·unfold Sr.step;rw[if_neg h0,if_neg h2];exact⟨_,_,_,V8⟩
theorem Vw.len {T:Tb}{env:En}{vs:List (Option D)}(h:Vw env vs) {i:Nat}{l:List Nat}(e:vs[i]? = some (lD l)):aF T (.blt .len (.cons (.var i) .nil)) env (.int (l.length:Int)):=aF.blt1 (h.var e) (me l)
theorem kW {T:Tb}{env:En}{e:Ex}{n:Nat}(h:aF T e env (.int (n:Int))) (hn:n≤1000):eW T (.rng1 e) env = .ok ((List.range n).map fun (k:Nat)=>D.int (k:Int),[]):=by
 obtain⟨R,h⟩:=h;rw[pG T env e _ R h (pQ hn),cz];have:=eI n 0;rw[show ((0:Nat):Int)=0 from rfl] at this;rw[this,List.range_eq_range']
theorem Ci {T:Tb}{tmf iv gp sc ad:Nat}(ht:iq T tmf) (hi:yz T iv) (hg:DD T gp) (hs:Cr T sc) (ha:DW T ad) {nums:List Nat}(hn:Gr nums) (hl:nums.length≤100):∃ fr,Pc.ret (aD T (bSR tmf iv gp sc ad) (aE [.lst (gD nums)] 8)) = .ok (.lst (gD (mB nums nums.length).rule),fr):=by
 have V0:Vw (aE [.lst (gD nums)] 8) [lD nums,none,none,none,none,none,none,none]:=Vw.start [.lst (gD nums)] 8;obtain⟨e1,q1,V1⟩:=V0.asg (T:=T) (i:=1) (show (1:Nat)<8 by decide) (aF.lst1 (aF.cst (.int 1)));obtain⟨e2,q2,V2⟩:=V1.asg (T:=T) (i:=2) (show (2:Nat)<8 by decide) (aF.cst (.int 0));obtain⟨e3,q3,V3⟩:=V2.asg (T:=T) (i:=3) (show (3:Nat)<8 by decide) (aF.lst1 (aF.cst (.int 1)));obtain⟨e4,q4,V4⟩:=V3.asg (T:=T) (i:=4) (show (4:Nat)<8 by decide) (aF.cst (.int 1));have V4:Vw e4 [lD nums,lD [1],nD 0,lD [1],nD 1,none,none,none]:=V4;obtain⟨e5,q5,V5⟩:=mY (t:=.nm 5) (R:=[]) (b:=aD T (wA tmf iv gp sc ad)) (fun k env=>k≤nums.length→SrV nums (mB nums k) env) ((List.range nums.length).map fun (k:Nat)=>D.int (k:Int)) 0 e4 (fun _=>⟨_,_,_,V4⟩) (fun i d e hd J=>by
  rw[av] at hd;have hi':i<nums.length:=by
   cases q:(List.range nums.length)[i]? with
   |none=>rw[q] at hd;cases hd
   |some z=>have:=(ak.mp q).1;rwa [dg] at this
  rw[ft hi'] at hd;cases hd;rw[Nat.zero_add] at J ⊢;obtain⟨x,y,z1,z2,z3⟩:=zM ht hi hg hs ha hn hl hi' (sV hn i) (J (by omega)) [];exact⟨x,y,z1,z2,fun _=>z3⟩)
 have q5':=bW (kW (V4.len (T:=T) (i:=0) rfl) (by omega)) q5;simp only[List.length_map,List.length_range,Nat.zero_add] at V5;obtain⟨v5,v6,v7,V5⟩:=V5 (aw _);unfold bSR;rw[aD,q1,aC,aD,q2,aC,aD,q3,aC,aD,q4,aC,aD,q5',aC];exact mK (V5.var (i:=1) rfl)
theorem r6 (mi:List Nat) (p:Nat):inD (.int (p:Int)) (.lst (gD mi))=some (mi.contains p):=by
 show (if (true&&(gD mi).all D.jb)=true then some ((gD mi).any fun y=>D.eqs y (.int (p:Int))) else none)=_;have h1:(gD mi).all D.jb=true:=by rw[List.all_map,cy];intro _ _;rfl
 rw[h1,Bool.and_self,if_pos rfl,List.any_map];congr 1
 induction mi with
 |nil=>rfl
 |cons a l ih =>
  rw[eu,List.contains_cons,ih (by rw[List.all_map,cy];intro _ _;rfl)];congr 1;show ((a:Int)==(p:Int))=(p==a);rw[Bool.eq_iff_iff];simp;omega
end Pc.Vw
end
section
namespace Pc.Vw
open PySem Pc Pc.Sm Pc.Gr Fl64 Md
theorem z6 {T:Tb}{env:En}{e:Ex}{l:List D}(h:aF T e env (.lst l)):∃ R,eW T (.seq e) env = .ok (l,R):=by
 obtain⟨R,h⟩:=h;exact⟨R.roots,by rw[eW,h,aA];rfl⟩
theorem xh {T:Tb}{env:En}{pick:List Nat}{it:qE}{e:Ex}{l:List Nat}{R:List Nat}{g:Nat→Nat}(hit:eW T it env = .ok (gD l,R)) (hl:l.length≤1000) (hg:∀ a∈l,aF T e (put (aJ env 1 pick) 0 (.int (a:Int)) .own) (.int ((g a:Nat):Int))) (h0:0<(aJ env 1 pick).length) :
  aF T (.comp 1 pick (.nm 0) it .none e) env (.lst (gD (l.map g))):=by
 have key:∀(l:List Nat),(∀ a∈l,aF T e (put (aJ env 1 pick) 0 (.int (a:Int)) .own) (.int ((g a:Nat):Int)))→∃ qs:List (D×Rt),cR (fun d=>aU (aS [] (.nm 0) d (aJ env 1 pick)) (j9 T .none) (ev T e)) (gD l) = .ok qs∧qs.map (·.1)=gD (l.map g)∧qs.all (fun q=>q.1.flat || eV q.2)=true:=by
  intro l
  induction l with
  |nil=>exact fun _=>⟨[],rfl,rfl,rfl⟩
  |cons a r ih =>
   intro h;obtain⟨qs,a1,a2,a3⟩:=ih fun b hb=>h b (aa _ hb)
   obtain⟨R',hR⟩:=h a ae;refine⟨(.int ((g a:Nat):Int),R')::qs,?_,?_,?_⟩
   ·have hb:aS [] (.nm 0) (.int (a:Int)) (aJ env 1 pick)=some (put (aJ env 1 pick) 0 (.int (a:Int)) .own):=by
     show (if 0<(aJ env 1 pick).length then some (put (aJ env 1 pick) 0 (.int (a:Int)) .own) else none)=_;rw[if_pos h0]
    have step:aU (aS [] (.nm 0) (.int (a:Int)) (aJ env 1 pick)) (j9 T .none) (ev T e) = .ok (some (.int ((g a:Nat):Int),R')):=by
     simp only[hb,aU,j9,aA,if_true,hR]
    rw[gD,ba,cR,step,aA,show (r.map fun (g:Nat)=>D.int (g:Int))=gD r from rfl,a1];rfl
   ·rw[ba,a2];rfl
   ·rw[dz,a3];rfl
 obtain⟨qs,a1,a2,a3⟩:=key l hg;rw[aF,ev,hit,aA,a1,aA];dsimp only;rw[if_pos (by rw[aZ];exact cU hl),a2];exact⟨_,rfl⟩
theorem p3 {T:Tb}{env:En}{pick:List Nat}{it:qE}{ce:Ex}{l:List Nat}{R:List Nat}{c:Nat→Bool}(hit:eW T it env = .ok (gD l,R)) (hl:l.length≤1000) (hg:∀ a∈l,aF T ce (put (aJ env 1 pick) 0 (.int (a:Int)) .own) (.bl (c a))) (h0:0<(aJ env 1 pick).length) :
  aF T (.comp 1 pick (.nm 0) it (.some ce) (.var 0)) env (.lst (gD (l.filter c))):=by
 have key:∀(l:List Nat),(∀ a∈l,aF T ce (put (aJ env 1 pick) 0 (.int (a:Int)) .own) (.bl (c a)))→∃ qs:List (D×Rt),cR (fun d=>aU (aS [] (.nm 0) d (aJ env 1 pick)) (j9 T (.some ce)) (ev T (.var 0))) (gD l) = .ok qs∧qs.map (·.1)=gD (l.filter c)∧qs.all (fun q=>q.1.flat || eV q.2)=true:=by
  intro l
  induction l with
  |nil=>exact fun _=>⟨[],rfl,rfl,rfl⟩
  |cons a r ih =>
   intro h;obtain⟨qs,a1,a2,a3⟩:=ih fun b hb=>h b (aa _ hb)
   obtain⟨R',hR⟩:=h a ae;have hb:aS [] (.nm 0) (.int (a:Int)) (aJ env 1 pick)=some (put (aJ env 1 pick) 0 (.int (a:Int)) .own):=by
    show (if 0<(aJ env 1 pick).length then some (put (aJ env 1 pick) 0 (.int (a:Int)) .own) else none)=_;rw[if_pos h0]
   have hv:ev T (.var 0) (put (aJ env 1 pick) 0 (.int (a:Int)) .own) = .ok (.int (a:Int),.mv []):=aH (t:=.own) (by
    unfold Pc.put;exact ao (by rw[aj];exact h0)) rfl
   cases hc:c a with
   |true =>
    refine⟨(.int (a:Int),.mv [])::qs,?_,?_,?_⟩
    ·rw[hc] at hR;have step:aU (aS [] (.nm 0) (.int (a:Int)) (aJ env 1 pick)) (j9 T (.some ce)) (ev T (.var 0)) = .ok (some (.int (a:Int),.mv [])):=by
      simp only[hb,aU,j9,hR,aA,truth,aK,if_true,hv]
     rw[gD,ba,cR,step,aA,show (r.map fun (g:Nat)=>D.int (g:Int))=gD r from rfl,a1];rfl
    ·rw[ba,a2,List.filter_cons_of_pos hc];rfl
    ·rw[dz,a3];rfl
   |false =>
    refine⟨qs,?_,?_,a3⟩
    ·rw[hc] at hR;have step:aU (aS [] (.nm 0) (.int (a:Int)) (aJ env 1 pick)) (j9 T (.some ce)) (ev T (.var 0)) = .ok none:=by
      simp only[hb,aU,j9,hR,aA,truth,aK,Bool.false_eq_true,if_false]
     rw[gD,ba,cR,step,aA,show (r.map fun (g:Nat)=>D.int (g:Int))=gD r from rfl,a1];rfl
    ·rw[a2,List.filter_cons_of_neg (by rw[hc];decide)]
 obtain⟨qs,a1,a2,a3⟩:=key l hg;rw[aF,ev,hit,aA,a1,aA];dsimp only;rw[if_pos (by rw[aZ];exact cU hl),a2];exact⟨_,rfl⟩
theorem Vw.picked {env:En}{vs ws:List (Option D)}(h:Vw env vs) {pick:List Nat}(hw:∀(j:Nat) (d:D),ws[j]? = some (some d)→∃ i,pick[j]? = some i∧vs[i]? = some (some d)) (hl:ws.length=pick.length) (a:D) :
  0<(aJ env 1 pick).length∧Vw (Pc.put (aJ env 1 pick) 0 a .own) (some a::ws):=by
 have hlen:(aJ env 1 pick).length=ws.length+1:=by unfold aJ;simp[hl,Nat.add_comm]
 have V:Vw (aJ env 1 pick) (none::ws):=by
  refine⟨by rw[hlen];simp,fun j d e=>?_⟩;cases j with
  |zero=>cases e
  |succ j =>
   have e:ws[j]? = some (some d):=e;obtain⟨i,p1,p2⟩:=hw j d e;refine⟨.sh [],?_⟩;unfold aJ;rw[List.getElem?_append_right (by simp),List.length_replicate,show j+1 - 1=j by omega,List.getElem?_map,p1];obtain⟨t,q⟩:=h.2 i d p2;show some (match env[i]? with | some (some (d,_))=>some (d,Tg.sh []) | _=>none:Slot)=_;rw[q]
 exact⟨by omega,V.put 0 a .own⟩
theorem wV (l:List Nat) (m c:Nat):Fh (.lst (gD l)) (some (m:Int)) (some (c:Int))=some (.lst (gD ((l.take c).drop m))):=by
 show some (D.lst (cut (gD l) (some (m:Int)) (some (c:Int))))=_;unfold cut bY;simp only;rw[if_neg (by omega),if_neg (by omega),cz,cz,aZ,gD,gD,←List.map_drop,←List.map_take];congr 3;rw[List.drop_take];by_cases h:m≤l.length
 ·rw[Nat.min_eq_left h];by_cases h2:c≤l.length
  ·rw[Nat.min_eq_left h2]
  ·rw[Nat.min_eq_right (by omega),List.take_of_length_le (by rw[fu];omega),List.take_of_length_le (by rw[fu];omega)]
 ·rw[Nat.min_eq_right (show l.length≤m by omega),List.drop_of_length_le (aw _),List.drop_of_length_le (show l.length≤m by omega)];simp
theorem BQ (l:List Nat) (c:Nat):Fh (.lst (gD l)) none (some (c:Int))=some (.lst (gD (l.take c))):=by
 have:=wV l 0 c;rw[List.drop_zero] at this;rw[←this];show some (D.lst (cut (gD l) none (some (c:Int))))=some (D.lst (cut (gD l) (some ((0:Nat):Int)) (some (c:Int))));unfold cut bY;simp
theorem aF.sl {T:Tb}{env:En}{a lo hi:Ex}{x z:D}{m c:Int}(h:aF T a env x) (h1:aF T lo env (.int m)) (h2:aF T hi env (.int c)) (e:Fh x (some m) (some c)=some z):aF T (.sl a (.some lo) (.some hi)) env z:=by
 obtain⟨R,h⟩:=h;obtain⟨R1,h1⟩:=h1;obtain⟨R2,h2⟩:=h2;exact⟨_,by rw[ev,h,aA,kU,h1,aA];dsimp only;rw[aA,kU,h2,aA];dsimp only;rw[aA,e,aK,aA]⟩
theorem aF.slh {T:Tb}{env:En}{a hi:Ex}{x z:D}{c:Int}(h:aF T a env x) (h2:aF T hi env (.int c)) (e:Fh x none (some c)=some z):aF T (.sl a .none (.some hi)) env z:=by
 obtain⟨R,h⟩:=h;obtain⟨R2,h2⟩:=h2;exact⟨_,by rw[ev,h,aA,kU,aA,kU,h2,aA];dsimp only;rw[aA,e,aK,aA]⟩
noncomputable def Eb (T:Tb) (su:Nat):Prop:=∀(wo mi:List Nat) (n:Nat),Gr wo→wo.length≤62→mi.length≤63→(∀ p∈mi,p<n)→n≤63→∃ fr,T.cl su [.lst (gD wo),.lst (gD mi),.int (n:Int)] = .ok (.lst (gD (susp wo mi n)),fr)
noncomputable def bSU (wa rp rn lo sr:Nat):bJ:=(.cons (.asg (.nm 3) (.call rn (.cons (.comp 1 [2] (.nm 0) (.seq (.var 1)) .none (.call lo (.cons (.var 0) (.cons (.var 1) .nil)))) .nil)) false)
  (.cons (.asg (.nm 4) (.sl (.call rp (.cons (.var 0) (.cons (.var 3) .nil))) (.some (.blt .len (.cons (.var 1) .nil))) (.some (.blt .len (.cons (.var 0) .nil)))) false)
  (.cons (.asg (.nm 5) (.call sr (.cons (.var 4) .nil)) false)
  (.cons (.asg (.nm 6) (.comp 1 [1] (.nm 0) (.rng1 (.var 2)) (.some (.cmp .NotIn (.var 0) (.var 1))) (.var 0)) false)
  (.cons (.ret (.comp 1 [2,5] (.nm 0) (.seq (.var 6)) (.some (.cmp .Eq (.call wa (.cons (.var 2) (.cons (.call lo (.cons (.var 0) (.cons (.var 1) .nil))) .nil))) (.cst (.int (0))))) (.var 0)))
  .nil)))))
theorem B0 {T:Tb}{wa rp rn lo sr:Nat}(hw:rL T wa) (hrp:zq T rp) (hrn:Dq T rn) (hlo:DI T lo) (hsr:Fi T sr) {wo mi:List Nat}{n:Nat}(gw:Gr wo) (lw:wo.length≤62) (lm:mi.length≤63) (hm:∀ p∈mi,p<n) (hn:n≤63) :
  ∃ fr,Pc.ret (aD T (bSU wa rp rn lo sr) (aE [.lst (gD wo),.lst (gD mi),.int (n:Int)] 7)) = .ok (.lst (gD (susp wo mi n)),fr):=by
 have V0:Vw (aE [.lst (gD wo),.lst (gD mi),.int (n:Int)] 7) [lD wo,lD mi,nD n,none,none,none,none]:=Vw.start _ 7;have lg:=jJ n mi;obtain⟨R1,i1⟩:=z6 (T:=T) (V0.var (i:=1) rfl);have c1:aF T (.comp 1 [2] (.nm 0) (.seq (.var 1)) .none (.call lo (.cons (.var 0) (.cons (.var 1) .nil)))) (aE [.lst (gD wo),.lst (gD mi),.int (n:Int)] 7) (.lst (gD (locs n mi))):=xh i1 (by omega) (fun a ha=>by
  obtain⟨_,W⟩:=V0.picked (pick:=[2]) (ws:=[nD n]) (fun j d e=>by cases j with | zero=>exact⟨2,rfl,e⟩ | succ j=>cases e) rfl (.int (a:Int));exact aF.be (W.var (i:=0) rfl) (W.var (i:=1) rfl) (hlo a n (hm a ha) (by omega))) (V0.picked (pick:=[2]) (ws:=[nD n]) (fun j d e=>by cases j with | zero=>exact⟨2,rfl,e⟩ | succ j=>cases e) rfl .non).1
 obtain⟨e1,q1,V1⟩:=V0.asg (T:=T) (i:=3) (show (3:Nat)<7 by decide) (aF.i8 c1 (hrn (locs n mi) (iU n mi) (by simp[locs];omega)));have V1:Vw e1 [lD wo,lD mi,nD n,lD (ij n mi),none,none,none]:=V1;obtain⟨e2,q2,V2⟩:=V1.asg (T:=T) (i:=4) (show (4:Nat)<7 by decide) (aF.sl (aF.be (V1.var (i:=0) rfl) (V1.var (i:=3) rfl) (hrp wo (ij n mi) gw lg.2 (by rw[lg.1];omega) (by rw[lg.1];omega))) (V1.len (i:=1) rfl) (V1.len (i:=0) rfl) (wV _ _ _));have V2:Vw e2 [lD wo,lD mi,nD n,lD (ij n mi),lD (dX wo mi n),none,none]:=V2;obtain⟨fr,hs⟩:=hsr (dX wo mi n) (mP gw mi n) (by rw[oJ];omega);obtain⟨e3,q3,V3⟩:=V2.asg (T:=T) (i:=5) (show (5:Nat)<7 by decide) (aF.i8 (V2.var (i:=4) rfl) hs);have V3:Vw e3 [lD wo,lD mi,nD n,lD (ij n mi),lD (dX wo mi n),lD (fT wo mi n),none]:=V3;have c2:aF T (.comp 1 [1] (.nm 0) (.rng1 (.var 2)) (.some (.cmp .NotIn (.var 0) (.var 1))) (.var 0)) e3 (.lst (gD (others mi n))):=p3 (l:=List.range n) (kW (V3.var (i:=2) rfl) (by omega)) (by rw[dg];omega) (fun a ha=>by
  obtain⟨_,W⟩:=V3.picked (pick:=[1]) (ws:=[lD mi]) (fun j d e=>by cases j with | zero=>exact⟨1,rfl,e⟩ | succ j=>cases e) rfl (.int (a:Int));exact aF.cmp (W.var (i:=0) rfl) (W.var (i:=1) rfl) (by show (inD _ _).map _=_;rw[r6];rfl)) (V3.picked (pick:=[1]) (ws:=[lD mi]) (fun j d e=>by cases j with | zero=>exact⟨1,rfl,e⟩ | succ j=>cases e) rfl .non).1
 obtain⟨e4,q4,V4⟩:=V3.asg (T:=T) (i:=6) (show (6:Nat)<7 by decide) c2;have V4:Vw e4 [lD wo,lD mi,nD n,lD (ij n mi),lD (dX wo mi n),lD (fT wo mi n),lD (others mi n)]:=V4;obtain⟨R6,i6⟩:=z6 (T:=T) (V4.var (i:=6) rfl);have pk:∀(j:Nat) (d:D),[nD n,lD (fT wo mi n)][j]? = some (some d)→∃ i,[2,5][j]? = some i∧[lD wo,lD mi,nD n,lD (ij n mi),lD (dX wo mi n),lD (fT wo mi n),lD (others mi n)][i]? = some (some d):=fun j d e=>by
  cases j with
  |zero=>exact⟨2,rfl,e⟩
  |succ j=>cases j with
   |zero=>exact⟨5,rfl,e⟩
   |succ j=>cases e
 have ol:(others mi n).length≤n:=by
  have:=fh (fun p=>!mi.contains p) (List.range n);rw[dg] at this;exact this
 have c3:aF T (.comp 1 [2,5] (.nm 0) (.seq (.var 6)) (.some (.cmp .Eq (.call wa (.cons (.var 2) (.cons (.call lo (.cons (.var 0) (.cons (.var 1) .nil))) .nil))) (.cst (.int (0))))) (.var 0)) e4 (.lst (gD (susp wo mi n))):=p3 (l:=others mi n) i6 (by omega) (fun a ha=>by
  obtain⟨_,W⟩:=V4.picked (pick:=[2,5]) (ws:=[nD n,lD (fT wo mi n)]) pk rfl (.int (a:Int));refine aF.cmp (aF.be (W.var (i:=2) rfl) (aF.be (W.var (i:=0) rfl) (W.var (i:=1) rfl) (hlo a n (dW.mp ha).1 (by omega))) (hw _ _ (gq n a))) (aF.cst _) ?_;show some (((cT (loc n a) (fT wo mi n):Nat):Int)==0)=_;congr 1;rw[Bool.eq_iff_iff];simp) (V4.picked (pick:=[2,5]) (ws:=[nD n,lD (fT wo mi n)]) pk rfl .non).1
 unfold bSU;rw[aD,q1,aC,aD,q2,aC,aD,q3,aC,aD,q4,aC];exact mK c3
end Pc.Vw
end
section
namespace Pc.Vw
open PySem Pc Pc.Sm Pc.Gr Fl64 Md
theorem qo {x:Nat}(hx:x<64):∀{l:List Nat}{pr:Nat},Gr l→pr<64→pr≠0→cJ x pr l≠0
 |[],_,_,_,h=>h
 | o::l,pr,hl,hp,h=>by
  have o64:=hl o ae;rw[cJ];refine qo hx (fun z hz=>hl z (aa _ hz)) ?_ ?_
  ·split
   ·exact hp
   ·exact bC hp (aT hx o64)
  ·split
   ·exact h
   ·rename_i ne;exact fun e=>(eA hp (aT hx o64) e).elim h fun e=>ne (cI e).symm
noncomputable def De (T:Tb) (ch:Nat):Prop:=∀(g su wo:List Nat),Gr g→Gr wo→g.length≤63→su.length≤130→wo.length≤62→(∀ p∈su,p<g.length)→T.cl ch [.lst (gD g),.lst (gD su),.lst (gD wo)] = .ok (.lst (gD (fE g su wo)),true)
noncomputable def CB (tmf iv wa dp:Nat):bJ:=(.cons (.asg (.nm 8) (.call iv (.cons (.call tmf (.cons (.var 7) (.cons (.call dp (.cons (.var 7) (.cons (.var 4) .nil))) .nil))) .nil)) false)
  (.cons (.setix 6 .none (.var 3) (.bin .BitXor (.ix (.var 6) (.var 3)) (.call tmf (.cons (.call wa (.cons (.var 5) (.cons (.var 7) .nil))) (.cons (.var 8) .nil)))))
  .nil))
noncomputable def bCH (tmf iv wa rp rn lo dp:Nat):bJ:=(.cons (.asg (.nm 4) (.comp 1 [0] (.nm 0) (.seq (.var 1)) .none (.call lo (.cons (.var 0) (.cons (.blt .len (.cons (.var 1) .nil)) .nil)))) false)
  (.cons (.asg (.nm 5) (.sl (.call rp (.cons (.var 2) (.cons (.call rn (.cons (.var 4) .nil)) .nil))) .none (.some (.blt .len (.cons (.var 4) .nil)))) false)
  (.cons (.asg (.nm 6) (.blt .list (.cons (.var 0) .nil)) false)
  (.cons (.forr (.tp [3,7]) (.zip (.var 1) (.var 4)) (CB tmf iv wa dp))
  (.cons (.ret (.var 6))
  .nil)))))
theorem ui {T:Tb}{tmf iv wa dp:Nat}(ht:iq T tmf) (hi:yz T iv) (hw:rL T wa) (hd:CA T dp) (g su wo:List Nat) {ls hdl:List Nat}(gl:Gr ls) (gh:Gr hdl) {n:Nat}:∀(r l:List Nat) (o3 o7 o8:Slot),bK o3→bK o7→bK o8→(∀ p∈r,p<l.length)→l.length≤1000→∃ o3' o7' o8',bK o3'∧bK o7'∧bK o8' ∧
  bL (.tp [3,7]) [4] (aD T (CB tmf iv wa dp)) (r.map fun (p:Nat)=>D.tup [.int (p:Int),.int ((loc n p:Nat):Int)]) [sG g,sG su,sG wo,o3,some (.lst (gD ls),.lk),oG hdl,oG l,o7,o8] = .nx [sG g,sG su,sG wo,o3',some (.lst (gD ls),.lk),oG hdl,oG (rQ n hdl ls r l),o7',o8']
 |[],l,o3,o7,o8,a,b,c,_,_=>⟨o3,o7,o8,a,b,c,rfl⟩
 | p::r,l,o3,o7,o8,t3,t7,t8,hp,hl=>by
  have hx:=gq n p;have hne:tm (loc n p) (cJ (loc n p) 1 ls)≠0:=fun e=>(eA hx (gv hx gl (by decide)) e).elim (pe n p) (qo hx gl (by decide) (by decide))
  have t64:=bC hx (gv hx gl (pr:=1) (by decide));obtain⟨x,y,z,tx,ty,tz,q⟩:=ui ht hi hw hd g su wo gl gh (n:=n) r (l.set p (l.getD p 0^^^share hdl ls (loc n p))) (sN p) (sN (loc n p)) (sN (pw (tm (loc n p) (cJ (loc n p) 1 ls)) 62)) (aB _) (aB _) (aB _) (fun z hz=>by rw[ay];exact hp z (aa _ hz)) (by rw[ay];exact hl);refine⟨x,y,z,tx,ty,tz,?_⟩;have te:Tame [sG g,sG su,sG wo,o3,some (.lst (gD ls),.lk),oG hdl,oG l,o7,o8]:=.cons (aI _) (.cons (aI _) (.cons (aI _) (.cons t3 (.cons (pq _) (.cons (aB _) (.cons (aB _) (.cons t7 (.cons t8 .nil))))))));have hb:aS [4] (.tp [3,7]) (.tup [.int (p:Int),.int ((loc n p:Nat):Int)]) [sG g,sG su,sG wo,o3,some (.lst (gD ls),.lk),oG hdl,oG l,o7,o8]=some [sG g,sG su,sG wo,sN p,some (.lst (gD ls),.lk),oG hdl,oG l,sN (loc n p),o8]:=gL te (by simp) (by simp) rfl rfl;have te1:Tame [sG g,sG su,sG wo,sN p,some (.lst (gD ls),.lk),oG hdl,oG l,sN (loc n p),o8]:=.cons (aI _) (.cons (aI _) (.cons (aI _) (.cons (aB _) (.cons (pq _) (.cons (aB _) (.cons (aB _) (.cons (aB _) (.cons t8 .nil))))))));have v7:ev T (.var 7) [sG g,sG su,sG wo,sN p,some (.lst (gD ls),.lk),oG hdl,oG l,sN (loc n p),o8] = .ok (.int ((loc n p:Nat):Int),.mv []):=aH rfl rfl;have v4:ev T (.var 4) [sG g,sG su,sG wo,sN p,some (.lst (gD ls),.lk),oG hdl,oG l,sN (loc n p),o8] = .ok (.lst (gD ls),.mv [4]):=rfl;have s1:bA T (.asg (.nm 8) (.call iv (.cons (.call tmf (.cons (.var 7) (.cons (.call dp (.cons (.var 7) (.cons (.var 4) .nil))) .nil))) .nil)) false) [sG g,sG su,sG wo,sN p,some (.lst (gD ls),.lk),oG hdl,oG l,sN (loc n p),o8] = .nx [sG g,sG su,sG wo,sN p,some (.lst (gD ls),.lk),oG hdl,oG l,sN (loc n p),sN (pw (tm (loc n p) (cJ (loc n p) 1 ls)) 62)] :=
   aX te1 (by simp) (Pc.Sm.i8 (Pc.Sm.be v7 (Pc.Sm.be v7 v4 (hd (loc n p) ls hx gl)) (ht _ _ (gv hx gl (by decide)))) (hi _ t64 hne))
  have te2:Tame [sG g,sG su,sG wo,sN p,some (.lst (gD ls),.lk),oG hdl,oG l,sN (loc n p),sN (pw (tm (loc n p) (cJ (loc n p) 1 ls)) 62)]:=.cons (aI _) (.cons (aI _) (.cons (aI _) (.cons (aB _) (.cons (pq _) (.cons (aB _) (.cons (aB _) (.cons (aB _) (.cons (aB _) .nil))))))));have w3:ev T (.var 3) [sG g,sG su,sG wo,sN p,some (.lst (gD ls),.lk),oG hdl,oG l,sN (loc n p),sN (pw (tm (loc n p) (cJ (loc n p) 1 ls)) 62)] = .ok (.int (p:Int),.mv []):=aH rfl rfl;have w5:ev T (.var 5) [sG g,sG su,sG wo,sN p,some (.lst (gD ls),.lk),oG hdl,oG l,sN (loc n p),sN (pw (tm (loc n p) (cJ (loc n p) 1 ls)) 62)] = .ok (.lst (gD hdl),.mv [5]):=cV rfl rfl;have w6:ev T (.var 6) [sG g,sG su,sG wo,sN p,some (.lst (gD ls),.lk),oG hdl,oG l,sN (loc n p),sN (pw (tm (loc n p) (cJ (loc n p) 1 ls)) 62)] = .ok (.lst (gD l),.mv [6]):=cV rfl rfl;have w7:ev T (.var 7) [sG g,sG su,sG wo,sN p,some (.lst (gD ls),.lk),oG hdl,oG l,sN (loc n p),sN (pw (tm (loc n p) (cJ (loc n p) 1 ls)) 62)] = .ok (.int ((loc n p:Nat):Int),.mv []):=aH rfl rfl;have w8:ev T (.var 8) [sG g,sG su,sG wo,sN p,some (.lst (gD ls),.lk),oG hdl,oG l,sN (loc n p),sN (pw (tm (loc n p) (cJ (loc n p) 1 ls)) 62)] = .ok (.int ((pw (tm (loc n p) (cJ (loc n p) 1 ls)) 62:Nat):Int),.mv []):=aH rfl rfl;have hpl:p<l.length:=hp p ae;have e1:ev T (.ix (.var 6) (.var 3)) [sG g,sG su,sG wo,sN p,some (.lst (gD ls),.lk),oG hdl,oG l,sN (loc n p),sN (pw (tm (loc n p) (cJ (loc n p) 1 ls)) 62)] = .ok (.int ((l.getD p 0:Nat):Int),.mv []):=by
   rw[ev,w6,aA,w3,aA,kX hpl,aK,aA];rfl
  have e2:=Pc.Sm.be (Pc.Sm.be w5 w7 (hw hdl (loc n p) hx)) w8 (ht _ _ (bB t64 62));have e3:ev T (.bin .BitXor (.ix (.var 6) (.var 3)) (.call tmf (.cons (.call wa (.cons (.var 5) (.cons (.var 7) .nil))) (.cons (.var 8) .nil)))) [sG g,sG su,sG wo,sN p,some (.lst (gD ls),.lk),oG hdl,oG l,sN (loc n p),sN (pw (tm (loc n p) (cJ (loc n p) 1 ls)) 62)] = .ok (.int ((l.getD p 0^^^share hdl ls (loc n p):Nat):Int),.mv []):=by
   rw[ev,e1,aA,e2,aA,aL];show (fR (some (D.int (Builtin.bitXor ((l.getD p 0:Nat):Int) ((share hdl ls (loc n p):Nat):Int))))).bind _=_;rw[dG];rfl
  have s2:=gS (T:=T) (x:=6) te2 rfl w3 (f7 (n:=(gD l).length) (by rw[aZ];exact hpl)) e3 (by rw[aZ];exact cU hl);rw[ba,bL,hb];dsimp only;unfold CB;rw[aD,s1,aC,aD,s2,aC,je];exact q
theorem FE {T:Tb}{tmf iv wa rp rn lo dp:Nat}(ht:iq T tmf) (hi:yz T iv) (hw:rL T wa) (hrp:zq T rp) (hrn:Dq T rn) (hlo:DI T lo) (hd:CA T dp) {g su wo:List Nat}(gg:Gr g) (gw:Gr wo) (lg:g.length≤63) (lsu:su.length≤130) (lw:wo.length≤62) (hs:∀ p∈su,p<g.length) :
  Pc.ret (aD T (bCH tmf iv wa rp rn lo dp) (aE [.lst (gD g),.lst (gD su),.lst (gD wo)] 9)) = .ok (.lst (gD (fE g su wo)),true):=by
 have hst:aE [.lst (gD g),.lst (gD su),.lst (gD wo)] 9=[sG g,sG su,sG wo,none,none,none,none,none,none]:=rfl;have V0:Vw (aE [.lst (gD g),.lst (gD su),.lst (gD wo)] 9) [lD g,lD su,lD wo,none,none,none,none,none,none]:=Vw.start _ 9;rw[hst] at V0 ⊢;have tn:=aG;have te0:Tame [sG g,sG su,sG wo,none,none,none,none,none,none]:=.cons (aI _) (.cons (aI _) (.cons (aI _) (.cons tn (.cons tn (.cons tn (.cons tn (.cons tn (.cons tn .nil))))))));let ls:=locs g.length su;have gl:Gr ls:=iU _ _;have ll:ls.length=su.length:=by simp[ls,locs]
 have hit:eW T (.seq (.var 1)) [sG g,sG su,sG wo,none,none,none,none,none,none] = .ok (gD su,[]):=rfl;have c1:ev T (.comp 1 [0] (.nm 0) (.seq (.var 1)) .none (.call lo (.cons (.var 0) (.cons (.blt .len (.cons (.var 1) .nil)) .nil)))) [sG g,sG su,sG wo,none,none,none,none,none,none] = .ok (.lst (gD ls),.mv []):=by
  rw[jU (g:=fun d=>match d with | .int k=>(.int ((loc g.length k.toNat:Nat):Int),.mv []) | _=>(.non,.mv [])) hit (by rw[aZ];exact cU (by omega)) (fun d hd=>?_) (fun d hd=>?_)]
  ·show Rs.ok (D.lst _,Rt.mv [])=Rs.ok (D.lst (gD (locs g.length su)),Rt.mv []);rw[gD,locs,gD,bq,bq];rfl
  ·obtain⟨x,hx,rfl⟩:=au.mp hd;have hb:aS [] (.nm 0) (.int (x:Int)) (aJ [sG g,sG su,sG wo,none,none,none,none,none,none] 1 [0])=some [sN x,sG g]:=rfl;rw[hb];have w0:ev T (.var 0) [sN x,sG g] = .ok (.int (x:Int),.mv []):=aH rfl rfl;have e1:=Pc.Sm.be w0 (gn (T:=T) (env:=[sN x,sG g]) (i:=1) (gs:=g) (t:=.sh []) rfl) (hlo x g.length (hs x hx) (by omega));simp only[aU,j9,aA,if_true,e1,Int.toNat_natCast]
  ·obtain⟨x,hx,rfl⟩:=au.mp hd;rfl
 have s1:bA T (.asg (.nm 4) (.comp 1 [0] (.nm 0) (.seq (.var 1)) .none (.call lo (.cons (.var 0) (.cons (.blt .len (.cons (.var 1) .nil)) .nil)))) false) [sG g,sG su,sG wo,none,none,none,none,none,none] = .nx [sG g,sG su,sG wo,none,oG ls,none,none,none,none]:=aX te0 (by simp) c1;have te1:Tame [sG g,sG su,sG wo,none,oG ls,none,none,none,none]:=.cons (aI _) (.cons (aI _) (.cons (aI _) (.cons tn (.cons (aB _) (.cons tn (.cons tn (.cons tn (.cons tn .nil))))))));have ra:=fI (r:=[1]) gl ju (by decide) rfl;have w2:ev T (.var 2) [sG g,sG su,sG wo,none,oG ls,none,none,none,none] = .ok (.lst (gD wo),.sh []):=rfl;have w4:ev T (.var 4) [sG g,sG su,sG wo,none,oG ls,none,none,none,none] = .ok (.lst (gD ls),.mv [4]):=cV rfl rfl;have c2:=Pc.Sm.be w2 (Pc.Sm.i8 w4 (hrn ls gl (by omega))) (hrp wo (gQ [1] ls) gw ra.2.1 (by rw[ra.1];simp;omega) (by rw[ra.1];simp;omega));have c3:ev T (.sl (.call rp (.cons (.var 2) (.cons (.call rn (.cons (.var 4) .nil)) .nil))) .none (.some (.blt .len (.cons (.var 4) .nil)))) [sG g,sG su,sG wo,none,oG ls,none,none,none,none] = .ok (.lst (gD (cM wo ls)),.mv []):=by
  rw[ev,c2,aA,kU,aA,kU,gn (T:=T) (env:=[sG g,sG su,sG wo,none,oG ls,none,none,none,none]) (i:=4) (gs:=ls) (t:=.own) rfl,aA];dsimp only;rw[aA,BQ,aK,aA,dB (fD _)];rfl
 have s2:bA T (.asg (.nm 5) (.sl (.call rp (.cons (.var 2) (.cons (.call rn (.cons (.var 4) .nil)) .nil))) .none (.some (.blt .len (.cons (.var 4) .nil)))) false) [sG g,sG su,sG wo,none,oG ls,none,none,none,none] = .nx [sG g,sG su,sG wo,none,oG ls,oG (cM wo ls),none,none,none]:=aX te1 (by simp) c3;have te2:Tame [sG g,sG su,sG wo,none,oG ls,oG (cM wo ls),none,none,none]:=.cons (aI _) (.cons (aI _) (.cons (aI _) (.cons tn (.cons (aB _) (.cons (aB _) (.cons tn (.cons tn (.cons tn .nil))))))));have c4:ev T (.blt .list (.cons (.var 0) .nil)) [sG g,sG su,sG wo,none,oG ls,oG (cM wo ls),none,none,none] = .ok (.lst (gD g),.mv []):=by
  have h1:bM T (.cons (.var 0) .nil) [sG g,sG su,sG wo,none,oG ls,oG (cM wo ls),none,none,none] = .ok [(.lst (gD g),.sh [])]:=rfl;rw[ev,h1,aA];show (Rs.ok (Pc.D.lst (gD g))).bind _=_;rw[aA,dB (fD _)]
 have s3:bA T (.asg (.nm 6) (.blt .list (.cons (.var 0) .nil)) false) [sG g,sG su,sG wo,none,oG ls,oG (cM wo ls),none,none,none] = .nx [sG g,sG su,sG wo,none,oG ls,oG (cM wo ls),oG g,none,none]:=aX te2 (by simp) c4;obtain⟨x,y,z,tx,ty,tz,q⟩:=ui ht hi hw hd g su wo gl (qA gw gl) (n:=g.length) su g none none none tn tn tn hs (by omega);have hz:eW T (.zip (.var 1) (.var 4)) [sG g,sG su,sG wo,none,oG ls,oG (cM wo ls),oG g,none,none] = .ok (su.map fun (p:Nat)=>D.tup [.int (p:Int),.int ((loc g.length p:Nat):Int)],[4]):=by
  have v1:ev T (.var 1) [sG g,sG su,sG wo,none,oG ls,oG (cM wo ls),oG g,none,none] = .ok (.lst (gD su),.sh []):=rfl;have v4:ev T (.var 4) [sG g,sG su,sG wo,none,oG ls,oG (cM wo ls),oG g,none,none] = .ok (.lst (gD ls),.mv [4]):=cV rfl rfl;rw[eW,v1,aA,v4,aA];show (Rs.ok (gD su)).bind (fun l=>(Rs.ok (gD ls)).bind fun m=>Rs.ok ((l.zip m).map fun z=>D.tup [z.1,z.2],[4]))=_;rw[aA,aA];congr 2;show (List.zip (gD su) (gD (su.map (loc g.length)))).map _=_;rw[gD,gD,bq,List.zip_map'];rw[bq];rfl
 have s4:=AM (T:=T) (x:=4) rfl hz q rfl;unfold bCH;rw[aD,s1,aC,aD,s2,aC,aD,s3,aC,aD,s4,aC];show Pc.ret (aD T (.cons (.ret (.var 6)) .nil) [sG g,sG su,sG wo,x,oG ls,oG (cM wo ls),oG (fE g su wo),y,z])=_;generalize fE g su wo=l;simp[aD,bA,ev,aN,D.flat,fB,Pc.ret,bZ]
end Pc.Vw
end
section
namespace Pc.Vw
open PySem Pc Pc.Sm Pc.Gr Fl64 Md
theorem aF.tup2 {T:Tb}{env:En}{a b:Ex}{x y:D}(h:aF T a env x) (h2:aF T b env y):aF T (.tup (.cons a (.cons b .nil))) env (.tup [x,y]):=by
 obtain⟨R,h⟩:=h;obtain⟨R2,h2⟩:=h2;exact⟨_,by rw[ev,bM,h,aA,bM,h2,aA,bM,aA,aA,aA];exact if_pos (by show (2:Nat)≤lim;decide)⟩
noncomputable def Cb (T:Tb) (ic:Nat):Prop:=∀(gs:List Nat) (c:Nat),c≤900→T.cl ic [.lst (gD gs),.int (c:Int)] = .ok (.bl (decide (pW gs c)),true)
noncomputable def Gg:Ex:=.cmp .Gt (.blt .len (.cons (.var 1) .nil)) (.var 2)
noncomputable def EI (ic:Nat):Ex:=.or (.cmp .Gt (.bin .Add (.bin .Mult (.cst (.int (2))) (.blt .len (.cons (.var 6) .nil))) (.blt .len (.cons (.var 1) .nil))) (.var 2)) (.not (.call ic (.cons (.var 5) (.cons (.var 2) .nil))))
noncomputable def bMD (wa cn ic su ch:Nat):bJ:=(.cons (.ite Gg (.cons (.expr (.neg (.cst .non)))
  .nil) .nil)
  (.cons (.asg (.nm 3) (.comp 1 [0] (.nm 0) (.seq (.call cn (.cons (.var 2) .nil))) .none (.call wa (.cons (.var 1) (.cons (.var 0) .nil)))) false)
  (.cons (.asg (.nm 4) (.bin .Add (.blt .list (.cons (.var 1) .nil)) (.call su (.cons (.var 3) (.cons (.var 1) (.cons (.blt .len (.cons (.var 0) .nil)) .nil))))) false)
  (.cons (.asg (.nm 5) (.call ch (.cons (.var 0) (.cons (.var 4) (.cons (.var 3) .nil)))) false)
  (.cons (.asg (.nm 6) (.comp 1 [0,5,1] (.nm 0) (.rng1 (.blt .len (.cons (.var 0) .nil))) (.some (.and (.cmp .NotIn (.var 0) (.var 3)) (.cmp .NotEq (.ix (.var 2) (.var 0)) (.ix (.var 1) (.var 0))))) (.var 0)) false)
  (.cons (.ite (EI ic) (.cons (.expr (.neg (.cst .non)))
  .nil) .nil)
  (.cons (.ret (.tup (.cons (.var 5) (.cons (.var 6) .nil))))
  .nil)))))))
theorem E3 {T:Tb}{env:En}{g mi:List Nat}{c:Nat}{r:List (Option D)}(V:Vw env (lD g::lD mi::nD c::r)):aF T Gg env (.bl (decide (c<mi.length))):=by
 refine aF.cmp (V.len (i:=1) rfl) (V.var (i:=2) rfl) ?_;show some (decide ((c:Int)<(mi.length:Int)))=_;congr 1;rw[Bool.eq_iff_iff];simp
noncomputable abbrev vb (g mi:List Nat) (c:Nat):List Nat:=mi++susp (aV g c) mi g.length
theorem xg {wo mi:List Nat}{n p:Nat}(h:p∈susp wo mi n):p<n:=(dW.mp (cm.mp h).1).1
theorem vV (wo mi:List Nat) (n:Nat):(susp wo mi n).length≤n:=by
 have h1:=fh (fun p=>cT (loc n p) (fT wo mi n)==0) (others mi n);have h2:=fh (fun p=>!mi.contains p) (List.range n);rw[dg] at h2;exact cv h1 h2
theorem Cc {T:Tb}{wa cn su ch:Nat}(hw:rL T wa) (hc:Bh T cn) (hs:Eb T su) (hch:De T ch) {env:En}{g mi:List Nat}{c:Nat}(gg:Gr g) (lg:g.length≤63) (lm:mi.length≤63) (lc:c≤62) (hm:∀ p∈mi,p<g.length) {v3 v4 v5 v6:Option D}(V:Vw env [lD g,lD mi,nD c,v3,v4,v5,v6]) :
  ∃ e,(∀ r,aD T (.cons (.asg (.nm 3) (.comp 1 [0] (.nm 0) (.seq (.call cn (.cons (.var 2) .nil))) .none (.call wa (.cons (.var 1) (.cons (.var 0) .nil)))) false)
  (.cons (.asg (.nm 4) (.bin .Add (.blt .list (.cons (.var 1) .nil)) (.call su (.cons (.var 3) (.cons (.var 1) (.cons (.blt .len (.cons (.var 0) .nil)) .nil))))) false)
  (.cons (.asg (.nm 5) (.call ch (.cons (.var 0) (.cons (.var 4) (.cons (.var 3) .nil)))) false)
  (.cons (.asg (.nm 6) (.comp 1 [0,5,1] (.nm 0) (.rng1 (.blt .len (.cons (.var 0) .nil))) (.some (.and (.cmp .NotIn (.var 0) (.var 3)) (.cmp .NotEq (.ix (.var 2) (.var 0)) (.ix (.var 1) (.var 0))))) (.var 0)) false) r)))) env=aD T r e)∧Vw e [lD g,lD mi,nD c,lD (aV g c),lD (vb g mi c),lD (cP g mi c),lD (cL g (cP g mi c) mi)]:=by
 have gw:=iY gg c;have lw:=jg g c;obtain⟨R1,i1⟩:=z6 (T:=T) (aF.i8 (V.var (i:=2) rfl) (hc c (by omega)));have pk0:∀(j:Nat) (d:D),[lD g][j]? = some (some d)→∃ i,[0][j]? = some i∧[lD g,lD mi,nD c,v3,v4,v5,v6][i]? = some (some d):=fun j d e=>by
  cases j with
  |zero=>exact⟨0,rfl,e⟩
  |succ j=>cases e
 have c1:aF T (.comp 1 [0] (.nm 0) (.seq (.call cn (.cons (.var 2) .nil))) .none (.call wa (.cons (.var 1) (.cons (.var 0) .nil)))) env (.lst (gD (aV g c))):=xh i1 (by rw[iN];omega) (fun a ha=>by
  obtain⟨_,W⟩:=V.picked (pick:=[0]) (ws:=[lD g]) pk0 rfl (.int (a:Int));exact aF.be (W.var (i:=1) rfl) (W.var (i:=0) rfl) (hw g a (jh c a ha))) (V.picked (pick:=[0]) (ws:=[lD g]) pk0 rfl .non).1
 obtain⟨e1,q1,V1⟩:=V.asg (T:=T) (i:=3) (show (3:Nat)<7 by decide) c1;have V1:Vw e1 [lD g,lD mi,nD c,lD (aV g c),v4,v5,v6]:=V1;obtain⟨fr,h2⟩:=hs (aV g c) mi g.length gw (by omega) lm hm lg;have sl:=vV (aV g c) mi g.length;obtain⟨e2,q2,V2⟩:=V1.asg (T:=T) (i:=4) (show (4:Nat)<7 by decide) (aF.bin (op:=.Add) (aF.blt1 (k:=.list) (V1.var (i:=1) rfl) (z:=.lst (gD mi)) rfl) (aF.call3 (V1.var (i:=3) rfl) (V1.var (i:=1) rfl) (V1.len (i:=0) rfl) h2) (z:=.lst (gD (vb g mi c))) (by
  show ck ((gD mi).length+(gD (susp (aV g c) mi g.length)).length) (.lst (gD mi++gD (susp (aV g c) mi g.length)))=_;unfold ck;rw[if_pos (by rw[aZ,aZ];exact cU (by omega)),gC]))
 have V2:Vw e2 [lD g,lD mi,nD c,lD (aV g c),lD (vb g mi c),v5,v6]:=V2;obtain⟨e3,q3,V3⟩:=V2.asg (T:=T) (i:=5) (show (5:Nat)<7 by decide) (aF.call3 (V2.var (i:=0) rfl) (V2.var (i:=4) rfl) (V2.var (i:=3) rfl) (hch g (vb g mi c) (aV g c) gg gw lg (by rw[bw];omega) (by omega) (fun p hp=>(bo.mp hp).elim (hm p) xg)));have V3:Vw e3 [lD g,lD mi,nD c,lD (aV g c),lD (vb g mi c),lD (cP g mi c),v6]:=V3;have pk3:∀(j:Nat) (d:D),[lD g,lD (cP g mi c),lD mi][j]? = some (some d)→∃ i,[0,5,1][j]? = some i∧[lD g,lD mi,nD c,lD (aV g c),lD (vb g mi c),lD (cP g mi c),v6][i]? = some (some d):=fun j d e=>by
  cases j with
  |zero=>exact⟨0,rfl,e⟩
  |succ j=>cases j with
   |zero=>exact⟨5,rfl,e⟩
   |succ j=>cases j with
    |zero=>exact⟨1,rfl,e⟩
    |succ j=>cases e
 have tl:=vG g mi c;have c4:aF T (.comp 1 [0,5,1] (.nm 0) (.rng1 (.blt .len (.cons (.var 0) .nil))) (.some (.and (.cmp .NotIn (.var 0) (.var 3)) (.cmp .NotEq (.ix (.var 2) (.var 0)) (.ix (.var 1) (.var 0))))) (.var 0)) e3 (.lst (gD (cL g (cP g mi c) mi))):=p3 (l:=List.range g.length) (kW (V3.len (i:=0) rfl) (by omega)) (by rw[dg];omega) (fun a ha=>by
  obtain⟨_,W⟩:=V3.picked (pick:=[0,5,1]) (ws:=[lD g,lD (cP g mi c),lD mi]) pk3 rfl (.int (a:Int));have al:=fb.mp ha;refine aF.and (k:=!mi.contains a) (aF.cmp (W.var (i:=0) rfl) (W.var (i:=3) rfl) (by show (inD _ _).map _=_;rw[r6];rfl)) (fun hk=>aF.cmp (aF.ix (W.var (i:=2) rfl) (W.var (i:=0) rfl) (kX (by omega))) (aF.ix (W.var (i:=1) rfl) (W.var (i:=0) rfl) (kX al)) ?_) (fun hk=>by rw[hk];rfl);rw[hk,Bool.true_and];show some (!((((cP g mi c).getD a 0:Nat):Int)==((g.getD a 0:Nat):Int)))=_;congr 1;rw[Bool.eq_iff_iff];simp only[Bool.not_eq_true',beq_eq_false_iff_ne,bne_iff_ne,ne_eq];omega) (V3.picked (pick:=[0,5,1]) (ws:=[lD g,lD (cP g mi c),lD mi]) pk3 rfl .non).1
 obtain⟨e4,q4,V4⟩:=V3.asg (T:=T) (i:=6) (show (6:Nat)<7 by decide) c4;refine⟨e4,fun r=>?_,V4⟩;rw[aD,q1,aC,aD,q2,aC,aD,q3,aC,aD,q4,aC]
noncomputable def DG (g mi:List Nat) (c:Nat):Bool:=decide (c<2*(cL g (cP g mi c) mi).length+mi.length) || !decide (pW (cP g mi c) c)
theorem GI {T:Tb}{ic:Nat}(hi:Cb T ic) {env:En}{g mi:List Nat}{c:Nat}(lc:c≤62) {v3 v4:Option D}(V:Vw env [lD g,lD mi,nD c,v3,v4,lD (cP g mi c),lD (cL g (cP g mi c) mi)]):aF T (EI ic) env (.bl (DG g mi c)):=by
 refine aF.or (k:=decide (c<2*(cL g (cP g mi c) mi).length+mi.length)) (aF.cmp (aF.bin (op:=.Add) (aF.bin (op:=.Mult) (aF.cst _) (V.len (i:=6) rfl) (z:=.int (2*((cL g (cP g mi c) mi).length:Int))) rfl) (V.len (i:=1) rfl) (z:=.int (2*((cL g (cP g mi c) mi).length:Int)+(mi.length:Int))) rfl) (V.var (i:=2) rfl) ?_) (fun hk=>?_) (fun hk=>?_)
 ·show some (decide ((c:Int)<2*((cL g (cP g mi c) mi).length:Int)+(mi.length:Int)))=_;congr 1;rw[Bool.eq_iff_iff];simp;omega
 ·unfold DG;rw[hk,Bool.false_or];exact aF.not (aF.be (V.var (i:=5) rfl) (V.var (i:=2) rfl) (hi _ c (by omega)))
 ·unfold DG;rw[hk,Bool.true_or]
noncomputable abbrev mdD (g mi:List Nat) (c:Nat):D:=.tup [.lst (gD (cP g mi c)),.lst (gD (cL g (cP g mi c) mi))]
theorem B6 {T:Tb}{wa cn ic su ch:Nat}(hw:rL T wa) (hc:Bh T cn) (hi:Cb T ic) (hs:Eb T su) (hch:De T ch) {g mi:List Nat}{c:Nat}(gg:Gr g) (lg:g.length≤63) (lm:mi.length≤c) (lc:c≤62) (hm:∀ p∈mi,p<g.length) (hf:DG g mi c=false) :
  ∃ fr,Pc.ret (aD T (bMD wa cn ic su ch) (aE [.lst (gD g),.lst (gD mi),.int (c:Int)] 7)) = .ok (mdD g mi c,fr):=by
 have V0:Vw (aE [.lst (gD g),.lst (gD mi),.int (c:Int)] 7) [lD g,lD mi,nD c,none,none,none,none]:=Vw.start _ 7;obtain⟨e,q,V⟩:=Cc hw hc hs hch gg lg (by omega) lc hm V0;unfold bMD;rw[aD,ip (E3 V0),decide_eq_false (by omega)];simp only[Bool.false_eq_true,if_false];rw[aD,aC,q,aD,ip (GI hi lc V),hf];simp only[Bool.false_eq_true,if_false];rw[aD,aC];exact mK (aF.tup2 (V.var (i:=5) rfl) (V.var (i:=6) rfl))
noncomputable def BW (g y mi:List Nat) (c:Nat):Prop:=Gr y∧y.length=g.length∧pW y c∧2*(cL g y mi).length+mi.length≤c
theorem rW {g y mi:List Nat}{c:Nat}(gg:Gr g) (n63:g.length≤63) (c62:c≤62) (mn:mi.Nodup) (ml:∀ p∈mi,p<g.length) (N:BW g y mi c):cP g mi c=y∧DG g mi c=false:=by
 obtain⟨gy,ly,code,le⟩:=N;have e:=found gg gy ly n63 c62 code mn ml le;refine⟨e,?_⟩;unfold DG;rw[e,decide_eq_false (by omega),decide_eq_true code];rfl
end Pc.Vw
end
section
namespace Pc.Vw
open PySem Pc Pc.Sm Pc.Gr Pc.Lw Fl64 Md
theorem Gc {T:Tb}{env:En}{pick:List Nat}{it:qE}{e:Ex}{l:List (Nat×Nat)}{R:List Nat}{g:Nat→Nat→Nat}(hit:eW T it env = .ok (l.map fun q=>D.tup [.int (q.1:Int),.int (q.2:Int)],R)) (hl:l.length≤1000) (hg:∀ q∈l,aF T e (put (put (aJ env 2 pick) 0 (.int (q.1:Int)) .own) 1 (.int (q.2:Int)) .own) (.int ((g q.1 q.2:Nat):Int))) (h0:1<(aJ env 2 pick).length) :
  aF T (.comp 2 pick (.tp [0,1]) it .none e) env (.lst (gD (l.map fun q=>g q.1 q.2))):=by
 have key:∀(l:List (Nat×Nat)),(∀ q∈l,aF T e (put (put (aJ env 2 pick) 0 (.int (q.1:Int)) .own) 1 (.int (q.2:Int)) .own) (.int ((g q.1 q.2:Nat):Int)))→∃ qs:List (D×Rt),cR (fun d=>aU (aS [] (.tp [0,1]) d (aJ env 2 pick)) (j9 T .none) (ev T e)) (l.map fun q=>D.tup [.int (q.1:Int),.int (q.2:Int)]) = .ok qs∧qs.map (·.1)=gD (l.map fun q=>g q.1 q.2)∧qs.all (fun q=>q.1.flat || eV q.2)=true:=by
  intro l
  induction l with
  |nil=>exact fun _=>⟨[],rfl,rfl,rfl⟩
  |cons a r ih =>
   intro h;obtain⟨qs,a1,a2,a3⟩:=ih fun b hb=>h b (aa _ hb)
   obtain⟨R',hR⟩:=h a ae;refine⟨(.int ((g a.1 a.2:Nat):Int),R')::qs,?_,?_,?_⟩
   ·have hb:aS [] (.tp [0,1]) (.tup [.int (a.1:Int),.int (a.2:Int)]) (aJ env 2 pick)=some (put (put (aJ env 2 pick) 0 (.int (a.1:Int)) .own) 1 (.int (a.2:Int)) .own):=by
     show bindM _ [0,1] [.int (a.1:Int),.int (a.2:Int)] (aJ env 2 pick)=_;simp only[bindM];rw[if_pos (by omega),if_pos (by unfold Pc.put;rw[ay,aj];exact h0)];rfl
    have step:aU (aS [] (.tp [0,1]) (.tup [.int (a.1:Int),.int (a.2:Int)]) (aJ env 2 pick)) (j9 T .none) (ev T e) = .ok (some (.int ((g a.1 a.2:Nat):Int),R')):=by
     simp only[hb,aU,j9,aA,if_true,hR]
    rw[ba,cR,step,aA,a1];rfl
   ·rw[ba,a2];rfl
   ·rw[dz,a3];rfl
 obtain⟨qs,a1,a2,a3⟩:=key l hg;rw[aF,ev,hit,aA,a1,aA];dsimp only;rw[if_pos (by rw[aj];exact cU hl),a2];exact⟨_,rfl⟩
theorem Vw.picked2 {env:En}{vs ws:List (Option D)}(h:Vw env vs) {pick:List Nat}(hw:∀(j:Nat) (d:D),ws[j]? = some (some d)→∃ i,pick[j]? = some i∧vs[i]? = some (some d)) (hl:ws.length=pick.length) (a b:D) :
  1<(aJ env 2 pick).length∧Vw (Pc.put (Pc.put (aJ env 2 pick) 0 a .own) 1 b .own) (some a::some b::ws):=by
 have hlen:(aJ env 2 pick).length=ws.length+2:=by unfold aJ;simp[hl]
 have V:Vw (aJ env 2 pick) (none::none::ws):=by
  refine⟨by rw[hlen];simp,fun j d e=>?_⟩;cases j with
  |zero=>cases e
  |succ j=>cases j with
   |zero=>cases e
   |succ j =>
    have e:ws[j]? = some (some d):=e;obtain⟨i,p1,p2⟩:=hw j d e;refine⟨.sh [],?_⟩;unfold aJ;rw[List.getElem?_append_right (by simp),List.length_replicate,show j+1+1 - 2=j by omega,List.getElem?_map,p1];obtain⟨t,q⟩:=h.2 i d p2;show some (match env[i]? with | some (some (d,_))=>some (d,Tg.sh []) | _=>none:Slot)=_;rw[q]
 exact⟨by omega,(V.put 0 a .own).put 1 b .own⟩
noncomputable def mZ (r:List Nat) (x:Nat):List Nat:=((r ++ [0]).zip (0::r)).map fun (q:Nat×Nat)=>q.1^^^tm x q.2
theorem lz (r:List Nat) (x:Nat):(mZ r x).length=r.length+1:=by simp[mZ]
theorem zu (r:List Nat) (x j:Nat) (hj:j≤r.length):(mZ r x).getD j 0=r.getD j 0^^^tm x ((0::r).getD j 0):=by
 have h1:(r ++ [0])[j]? = some (r.getD j 0):=by
  by_cases h:j<r.length
  ·rw[dm h,ag,bc h];rfl
  ·rw[dw (by omega),ag,List.getElem?_eq_none (l:=r) (by omega),show j - r.length=0 by omega];rfl
 have h2:(0::r)[j]? = some ((0::r).getD j 0):=by
  rw[List.getD_eq_getElem?_getD,List.getElem?_eq_getElem (by simp;omega)];rfl
 unfold mZ;rw[ag,av,(List.getElem?_zip_eq_some (z:=(r.getD j 0,(0::r).getD j 0))).mpr ⟨h1,h2⟩];rfl
theorem lu {r:List Nat}{x:Nat}(h:Gr r) (hx:x<64):Gr (mZ r x):=fun z hz=>by
 obtain⟨q,hq,rfl⟩:=au.mp hz;have:=List.of_mem_zip hq;refine aT ?_ (bC hx ?_)
 ·exact (h.append (show Gr [0] from .cons (by decide) .nil)) _ this.1
 ·exact (zr h) _ this.2
theorem qK {r:List Nat}{x y:Nat}(h:Gr r) (hx:x<64) (hy:y<64):cT y (mZ r x)=tm (cT y r) (y^^^x):=by
 have g:=lu h hx;refine kq (eE hy (by decide) g) (bC (eE hy (by decide) h) (aT hy hx)) ?_;rw[jD hy g,dC (eE hy (by decide) h) (aT hy hx),jD hy h,iT hy hx,lz];have e:∀ j,j<r.length+1→cf (mZ r x) j=cf r j+toF x*sh (cf r) j:=fun j hj=>by
  unfold cf;rw[zu r x j (by omega),iT (dF h j) (bC hx (dF (zr h) j)),dC hx (dF (zr h) j)];congr 2;cases j<;>rfl
 rw[p7 e,rm,pL,BB,pK,fJ (aw _),add_zero,mul_add,Md.mul_comm (toF x)]
noncomputable def dY:Nat→Nat→List Nat→List Nat
 |0,_,r=>r
 |k+1,j,r=>dY k (j+1) (mZ r (pw 2 (j+1)))
theorem ji:∀(k j:Nat) (r:List Nat),(dY k j r).length=r.length+k
 |0,_,r=>rfl
 |k+1,j,r=>by rw[dY,ji k,lz];omega
theorem kB:∀(k j:Nat) {r:List Nat},Gr r→Gr (dY k j r)
 |0,_,_,h=>h
 |k+1,j,r,h=>kB k (j+1) (lu h (bB (by decide) _))
theorem kM:∀(k j:Nat) {r:List Nat}{y:Nat},Gr r→y<64→(cT y r=0∨∃ i,j<i∧i≤j+k∧y=pw 2 i)→cT y (dY k j r)=0
 | 0,j,r,y,h,hy,e=>by
  rcases e with e | ⟨i,h1,h2,_⟩
  ·exact e
  ·omega
 | k+1,j,r,y,h,hy,e=>by
  rw[dY];refine kM k (j+1) (lu h (bB (by decide) _)) hy ?_;have hx:pw 2 (j+1)<64:=bB (by decide) _;rcases e with e | ⟨i,h1,h2,e⟩
  ·exact .inl (by rw[qK h hx hy,e,cA (aT hy hx)])
  ·by_cases hi:i=j+1
   ·subst hi;exact .inl (by rw[qK h hx hy,e,fq,fS])
   ·exact .inr ⟨i,by omega,by omega,e⟩
theorem oo (c:Nat) {r:List Nat}(h:Gr r):pW (dY c 0 r) c:=fun x hx=>by
 unfold bS at hx;obtain⟨i,hi,rfl⟩:=au.mp hx;have:=List.mem_range'_1.mp hi;exact kM c 0 h (bB (by decide) _) (.inr ⟨i,by omega,by omega,rfl⟩)
noncomputable def MAok (T:Tb) (ma:Nat):Prop:=∀(r:List Nat) (c:Nat),Gr r→r.length+c≤100→∃ fr,T.cl ma [.lst (gD r),.int (c:Int)] = .ok (.lst (gD (dY c 0 r)),fr)
noncomputable def Cu (lt:Nat):bJ:=(.cons (.asg (.nm 3) (.call lt (.cons (.var 3) (.cons (.cst (.int (2))) .nil))) false)
  (.cons (.asg (.nm 2) (.comp 2 [3] (.tp [0,1]) (.zip (.bin .Add (.var 2) (.lst (.cons (.cst (.int (0))) .nil))) (.bin .Add (.lst (.cons (.cst (.int (0))) .nil)) (.var 2))) .none (.bin .BitXor (.var 0) (.call lt (.cons (.var 2) (.cons (.var 1) .nil))))) false)
  .nil))
noncomputable def bMa (lt:Nat):bJ:=(.cons (.asg (.nm 2) (.blt .list (.cons (.var 0) .nil)) false)
  (.cons (.asg (.nm 3) (.cst (.int (1))) false)
  (.cons (.forr (.nm 4) (.rng1 (.var 1)) (Cu lt))
  (.cons (.ret (.var 2))
  .nil))))
theorem zipV {T:Tb}{env:En}{a b:Ex}{l m:List Nat}(h:aF T a env (.lst (gD l))) (h':aF T b env (.lst (gD m))):∃ R,eW T (.zip a b) env = .ok ((l.zip m).map fun q=>D.tup [.int (q.1:Int),.int (q.2:Int)],R):=by
 obtain⟨R,h⟩:=h;obtain⟨R',h'⟩:=h';refine⟨R.roots++R'.roots,?_⟩;rw[eW,h,aA,h',aA];show (Rs.ok (gD l)).bind (fun l=>(Rs.ok (gD m)).bind fun m=>Rs.ok ((l.zip m).map fun z=>D.tup [z.1,z.2],R.roots++R'.roots))=_;rw[aA,aA,gD,gD,List.zip_map,bq];rfl
theorem aF.xor {T:Tb}{env:En}{a b:Ex}{x y:Nat}(h:aF T a env (.int (x:Int))) (h':aF T b env (.int (y:Int))):aF T (.bin .BitXor a b) env (.int ((x^^^y:Nat):Int)):=aF.bin h h' (by
 show some (D.int (Builtin.bitXor (x:Int) (y:Int)))=_;rw[dG])
theorem aF.cat {T:Tb}{env:En}{a b:Ex}{x y:List Nat}(h:aF T a env (.lst (gD x))) (h':aF T b env (.lst (gD y))) (hl:x.length+y.length≤1000):aF T (.bin .Add a b) env (.lst (gD (x++y))):=aF.bin h h' (by
 show ck ((gD x).length+(gD y).length) (.lst (gD x++gD y))=_;unfold ck;rw[if_pos (by rw[aZ,aZ];exact cU hl),gC])
theorem B7 {T:Tb}{lt:Nat}(ht:FK T lt) {r:List Nat}{c:Nat}(hr:Gr r) (hl:r.length+c≤100):∃ fr,Pc.ret (aD T (bMa lt) (aE [.lst (gD r),.int (c:Int)] 5)) = .ok (.lst (gD (dY c 0 r)),fr):=by
 have V0:Vw (aE [.lst (gD r),.int (c:Int)] 5) [lD r,nD c,none,none,none]:=Vw.start _ 5;obtain⟨e1,q1,V1⟩:=V0.asg (T:=T) (i:=2) (show (2:Nat)<5 by decide) (aF.blt1 (k:=.list) (V0.var (i:=0) rfl) (z:=.lst (gD r)) rfl);obtain⟨e2,q2,V2⟩:=V1.asg (T:=T) (i:=3) (show (3:Nat)<5 by decide) (aF.cst (.int 1));have V2:Vw e2 [lD r,nD c,lD r,nD 1,none]:=V2;obtain⟨e3,q3,⟨r',x4,g',l',e',V3⟩⟩:=mY (t:=.nm 4) (R:=[]) (b:=aD T (Cu lt)) (fun k env=>∃ r' v4,Gr r'∧r'.length+(c - k)=r.length+c∧(k≤c→dY (c - k) k r'=dY c 0 r)∧Vw env [lD r,nD c,lD r',nD (pw 2 k),v4]) ((List.range c).map fun (k:Nat)=>D.int (k:Int)) 0 e2 ⟨r,none,hr,by omega,fun _=>rfl,V2⟩ (fun i d e hd J=>by
  rw[av] at hd;have hi':i<c:=by
   cases q:(List.range c)[i]? with
   |none=>rw[q] at hd;cases hd
   |some z=>have:=(ak.mp q).1;rwa [dg] at this
  rw[ft hi'] at hd;cases hd;rw[Nat.zero_add] at J ⊢;obtain⟨r',v4,g',l',e',V⟩:=J;obtain⟨d1,b1,W1⟩:=V.bind (i:=4) (show (4:Nat)<5 by decide) [] (.int (i:Int));have W1:Vw d1 [lD r,nD c,lD r',nD (pw 2 i),nD i]:=W1;have p64:pw 2 i<64:=bB (by decide) _;obtain⟨d2,b2,W2⟩:=W1.asg (T:=T) (i:=3) (show (3:Nat)<5 by decide) (aF.be (W1.var (i:=3) rfl) (show aF T (.cst (.int 2)) d1 (.int ((2:Nat):Int)) from aF.cst _) (ht (pw 2 i) 2 p64 (by decide)));have W2:Vw d2 [lD r,nD c,lD r',nD (pw 2 (i+1)),nD i]:=W2;obtain⟨R,hz⟩:=zipV (T:=T) (aF.cat (y:=[0]) (W2.var (i:=2) rfl) (aF.lst1 (aF.cst (.int 0))) (by simp;omega)) (aF.cat (x:=[0]) (aF.lst1 (aF.cst (.int 0))) (W2.var (i:=2) rfl) (by simp;omega));have pk:∀(j:Nat) (d:D),[nD (pw 2 (i+1))][j]? = some (some d)→∃ i',[3][j]? = some i'∧[lD r,nD c,lD r',nD (pw 2 (i+1)),nD i][i']? = some (some d):=fun j d e=>by
   cases j with
   |zero=>exact⟨3,rfl,e⟩
   |succ j=>cases e
  have x64:pw 2 (i+1)<64:=bB (by decide) _;obtain⟨d3,b3,W3⟩:=W2.asg (T:=T) (i:=2) (show (2:Nat)<5 by decide) (Gc (g:=fun a b=>a^^^tm (pw 2 (i+1)) b) hz (by simp;omega) (fun q hq=>by
   obtain⟨_,W⟩:=W2.picked2 (pick:=[3]) (ws:=[nD (pw 2 (i+1))]) pk rfl (.int (q.1:Int)) (.int (q.2:Int));have q2:q.2<64:=(zr g') _ (List.of_mem_zip hq).2;exact aF.xor (W.var (i:=0) rfl) (aF.be (W.var (i:=2) rfl) (W.var (i:=1) rfl) (ht _ _ x64 q2))) (W2.picked2 (pick:=[3]) (ws:=[nD (pw 2 (i+1))]) pk rfl .non .non).1)
  have W3:Vw d3 [lD r,nD c,lD (mZ r' (pw 2 (i+1))),nD (pw 2 (i+1)),nD i]:=W3;refine⟨d1,d3,b1,.inl ?_,mZ r' (pw 2 (i+1)),nD i,lu g' x64,by rw[lz];omega,fun _=>?_,W3⟩
  ·unfold Cu;rw[aD,b2,aC,aD,b3,aC];rfl
  ·rw[←e' (by omega),show c - i=(c - (i+1))+1 by omega,dY])
 have q3':=bW (kW (V2.var (T:=T) (i:=1) rfl) (by omega)) q3;simp only[List.length_map,List.length_range,Nat.zero_add,Nat.sub_self] at e' V3;have e':=e' (aw _);rw[dY] at e';unfold bMa;rw[aD,q1,aC,aD,q2,aC,aD,q3',aC,←e'];exact mK (V3.var (i:=2) rfl)
end Pc.Vw
end
section
namespace Pc.Vw
open PySem Pc Pc.Sm Pc.Gr Pc.Lw Fl64 Md
theorem n5:∀(l:List Nat) (i:Nat),(gD l).eraseIdx i=gD (l.eraseIdx i)
 |[],_=>rfl
 |a::l,0=>rfl
 | a::l,i+1=>by
  show D.int (a:Int)::(gD l).eraseIdx i=_;rw[n5 l i];rfl
theorem Fb {l:List Nat}{i:Nat}(h:i<l.length) (hl:l.length≤1000):o9 (gD l) [.int (i:Int)]=some (.int ((l.getD i 0:Nat):Int),gD (l.eraseIdx i)):=by
 have e:o9 (gD l) [.int (i:Int)]=(kZ (gD l).length (i:Int)).bind (kN (gD l)):=by
  unfold o9;exact if_pos ⟨Int.le_trans (by decide) (fi i),Int.lt_of_lt_of_le (Int.ofNat_lt.mpr (bg h hl)) (by decide)⟩
 rw[e,f7 (by rw[aZ];exact h)];show kN (gD l) i=_;unfold kN;rw[yf h];dsimp only;rw[if_pos (show (D.int ((l.getD i 0:Nat):Int)).flat=true from rfl),n5]
theorem xq {T:Tb}{env:En}{x y:Nat}{e:Ex}{xs ys rest:List D}{d it:D}{R:Rt}(ht:Tame env) (hxy:y≠x) (hx:env[x]? = some (some (.lst xs,.own))) (hy:env[y]? = some (some (.lst ys,.own))) (h:ev T e env = .ok (d,R)) (hp:o9 xs [d]=some (it,rest)) (lx:rest.length≤lim) (ly:(ys ++ [it]).length≤lim) :
  bA T (.apop y x (.cons e .nil)) env = .nx ((env.set x (some (.lst rest,.own))).set y (some (.lst (ys ++ [it]),.own))):=by
 have ox:ownAt env x=some (.lst xs):=by unfold ownAt;rw[hx]
 have hes:bM T (.cons e .nil) env = .ok [(d,R)]:=by rw[bM,h,aA,bM,aA]
 have m1:eC x none env (.lst xs) rest [] = .nx (env.set x (some (.lst rest,.own))):=by
  unfold eC;show (if (decide ([]:List Nat).Nodup&&bZ env [] && !([]:List Nat).contains x&&decide (rest.length≤lim))=true then Fl.nx ((kill [x] env).set x (some (.lst rest,.own))) else .bad)=_;rw[if_pos (by rw[decide_eq_true lx];rfl),gM ht]
 have te1:Tame (env.set x (some (.lst rest,.own))):=ht.set (aB _) x;have oy:ownAt (env.set x (some (.lst rest,.own))) y=some (.lst ys):=by unfold ownAt;rw[ai (Ne.symm hxy),hy]
 have m2:eC y none (env.set x (some (.lst rest,.own))) (.lst ys) (ys ++ [it]) [] = .nx ((env.set x (some (.lst rest,.own))).set y (some (.lst (ys ++ [it]),.own))):=by
  unfold eC;show (if (decide ([]:List Nat).Nodup&&bZ (env.set x (some (.lst rest,.own))) [] && !([]:List Nat).contains y&&decide ((ys ++ [it]).length≤lim))=true then Fl.nx ((kill [y] (env.set x (some (.lst rest,.own)))).set y (some (.lst (ys ++ [it]),.own))) else .bad)=_;rw[if_pos (by rw[decide_eq_true ly];rfl),gM te1]
 rw[bA,if_neg hxy,ox];dsimp only[D.at1];rw[hes,aN,uU,hp];dsimp only;rw[m1];dsimp only[Fl.andThen];rw[oy];exact m2
theorem qB {T:Tb}{env:En}{x y:Nat}{e:Ex}{xs ys:List Nat}{i:Nat}{R:Rt}(ht:Tame env) (hxy:y≠x) (hx:env[x]? = some (oG xs)) (hy:env[y]? = some (oG ys)) (h:ev T e env = .ok (.int (i:Int),R)) (hi:i<xs.length) (lx:xs.length≤1000) (ly:ys.length<1000) :
  bA T (.apop y x (.cons e .nil)) env = .nx ((env.set x (oG (xs.eraseIdx i))).set y (oG (ys ++ [xs.getD i 0]))):=by
 have ga:gD (ys ++ [xs.getD i 0])=gD ys ++ [D.int ((xs.getD i 0:Nat):Int)]:=gC _ _;have:=xq ht hxy hx hy h (Fb hi lx) (by rw[aZ];exact cU (Nat.le_trans (List.length_eraseIdx_le ..) lx)) (by rw[←ga,aZ];exact cU (by simp;omega));rw[this,←ga]
theorem yV:∀ l:List Nat,iK (gD l)=some (gI l)
 |[]=>rfl
 | a::l=>by
  show (iK (gD l)).map ((a:Int) :: ·)=_;rw[yV l];rfl
noncomputable def cY (l:List Nat):List Nat:=(eR (gI l)).map Int.toNat
theorem jk (a:Int):∀ l:List Int,(insI a l).Perm (a::l)
 |[]=>.refl _
 | b::l=>by
  unfold insI;split
  ·exact .refl _
  ·exact ((jk a l).cons b).trans (.swap a b l)
theorem gX:∀ l:List Int,(eR l).Perm l
 |[]=>.refl _
 |a::l=>(jk a _).trans ((gX l).cons a)
theorem oM (a:Int):∀{l:List Int},l.Pairwise (·≤·)→(insI a l).Pairwise (·≤·)
 |[],_=>List.pairwise_singleton _ _
 | b::l,h=>by
  have h':=dt.mp h;unfold insI;split
  ·rename_i e;refine dt.mpr ⟨fun x hx=>?_,h⟩;rcases az.mp hx with rfl | hx
   ·exact e
   ·exact Int.le_trans e (h'.1 x hx)
  ·rename_i e;refine dt.mpr ⟨fun x hx=>?_,oM a h'.2⟩;rcases az.mp ((jk a l).mem_iff.mp hx) with rfl | hx
   ·omega
   ·exact h'.1 x hx
theorem kE:∀ l:List Int,(eR l).Pairwise (·≤·)
 |[]=>.nil
 |a::l=>oM a (kE l)
theorem wm (l:List Nat):(gI l).map Int.toNat=l:=by
 rw[bq]
 conv=>rhs;rw[←List.map_id l]
 exact dn fun a _=>cz a
theorem dS (l:List Nat):(cY l).Perm l:=by
 have:=(gX (gI l)).map Int.toNat
 rwa [wm] at this
theorem xt (l:List Nat):(eR (gI l)).map D.int=gD (cY l):=by
 unfold cY;rw[gD,bq];refine dn fun z hz=>?_
 obtain⟨a,_,rfl⟩:=au.mp ((gX (gI l)).mem_iff.mp hz);show D.int (a:Int)=D.int (((a:Int).toNat:Nat):Int);rw[cz]
theorem ot {l:List Nat}(hn:l.Nodup):(cY l).Pairwise (· < ·):=by
 have h1:(cY l).Pairwise (·≤·):=by
  unfold cY;rw[List.pairwise_map];refine (kE (gI l)).imp fun h=>?_
  omega
 have h2:(cY l).Nodup:=(dS l).nodup_iff.mpr hn;exact (h1.and h2).imp fun ⟨a,b⟩=>by omega
theorem aF.sorted {T:Tb}{env:En}{a:Ex}{l:List Nat}(h:aF T a env (.lst (gD l))) (hl:l.length<64):aF T (.blt .sorted (.cons a .nil)) env (.lst (gD (cY l))):=aF.blt1 h (by
 show (match iK (gD l) with
  |some ns=>if ns.length<64 then some (D.lst ((eR ns).map .int)) else none
  |none=>(qe (gD l)).map .lst)=_
 rw[yV];dsimp only;rw[if_pos (by rw[aj];exact hl),xt])
theorem sj:∀{a b:List Nat},a.Pairwise (· < ·)→b.Pairwise (· < ·)→(∀ p,p∈a↔p∈b)→a=b
 |[],[],_,_,_=>rfl
 |[],y::b,_,_,h=>absurd ((h y).mpr List.mem_cons_self) (by simp)
 |x::a,[],_,_,h=>absurd ((h x).mp List.mem_cons_self) (by simp)
 | x::a,y::b,ha,hb,h=>by
  have ha':=dt.mp ha;have hb':=dt.mp hb;have e:x=y:=by
   rcases az.mp ((h x).mp ae) with q | q
   ·exact q
   ·rcases az.mp ((h y).mpr ae) with r | r
    ·exact r.symm
    ·have:=hb'.1 x q;have:=ha'.1 y r;omega
  subst e;rw[sj ha'.2 hb'.2 fun p=>⟨fun hp=>?_,fun hp=>?_⟩]
  ·rcases az.mp ((h p).mp (aa _ hp)) with q | q
   ·have:=ha'.1 p hp;omega
   ·exact q
  ·rcases az.mp ((h p).mpr (aa _ hp)) with q | q
   ·have:=hb'.1 p hp;omega
   ·exact q
theorem nr (n:Nat):(List.range n).Pairwise (· < ·):=List.pairwise_lt_range
theorem lO (g y mi:List Nat):(cL g y mi).Pairwise (· < ·):=(nr _).filter _
theorem kg {α:Type}{a b:α}(h:Rs.ok a=Rs.ok b):a=b:=by cases h;rfl
theorem cB {α β:Type}{a:Rs α}{f:α→Rs β}{b:β}(h:a.bind f = .ok b):∃ x,a = .ok x∧f x = .ok b:=by
 cases a with
 |ok x=>exact⟨x,rfl,h⟩
 |exc e=>cases h
 |bad=>cases h
theorem yj {T:Tb}{env:En}{d:D}{k:AZ}{es:la}(h:aF T (.blt k es) env d) (hd:d.inner=true):ev T (.blt k es) env = .ok (d,.mv []):=by
 obtain⟨R,h⟩:=h;have h':=h;rw[ev] at h;obtain⟨p,_,h⟩:=cB h;obtain⟨z,_,h⟩:=cB h;have:=kg h;rw[Prod.mk.injEq] at this;obtain⟨rfl,e⟩:=this;rw[h',←e];unfold ik;rw[if_pos hd]
noncomputable def PLok (T:Tb) (pl:Nat):Prop:=∀(ns:List Int) (m s t:Nat),s≤m→m≤63→∃ ps:List Nat,ps.Pairwise (· < ·)∧ps.length=s∧(∀ p∈ps,p<m)∧T.cl pl [.lst (ns.map D.int),.int (m:Int),.int (s:Int),.int (t:Int)] = .ok (.lst (gD ps),true)
noncomputable def AY (mx ce:Nat):bJ:=(.cons (.asg (.nm 7) (.call mx (.cons (.call ce (.cons (.var 0) (.cons (.bin .Add (.var 6) (.var 3)) .nil))) (.cons (.bin .Add (.var 6) (.var 3)) .nil))) false)
  (.cons (.apop 5 4 (.cons (.bin .Mod (.bin .FloorDiv (.var 7) (.cst (.int (31)))) (.blt .len (.cons (.var 4) .nil))) .nil))
  .nil))
noncomputable def bPl (mx ce:Nat):bJ:=(.cons (.asg (.nm 4) (.blt .lrng (.cons (.var 1) .nil)) false)
  (.cons (.asg (.nm 5) (.lst .nil) false)
  (.cons (.forr (.nm 6) (.rng1 (.var 2)) (AY mx ce))
  (.cons (.ret (.blt .sorted (.cons (.var 5) .nil)))
  .nil))))
noncomputable abbrev EP (S:List D) (m s t:Nat) (L P:List Nat) (o6 o7:Slot):En:=[some (.lst S,.sh []),sN m,sN s,sN t,oG L,oG P,o6,o7]
theorem pf {S:List D}{m s t:Nat}{L P:List Nat}{o6 o7:Slot}(h6:bK o6) (h7:bK o7):Tame (EP S m s t L P o6 o7):=.cons (aI _) (.cons (aB _) (.cons (aB _) (.cons (aB _) (.cons (aB _) (.cons (aB _) (.cons h6 (.cons h7 .nil)))))))
theorem jv:∀{l:List Nat}{i:Nat},i<l.length→l.Perm (l.getD i 0::l.eraseIdx i)
 |[],i,h=>by cases h
 |a::l,0,h=>.refl _
 | a::l,i+1,h=>by
  have:=jv (l:=l) (i:=i) (by simpa using h);exact (this.cons a).trans (.swap _ _ _)
structure EC (m k:Nat) (L P:List Nat):Prop where
 nd:(L++P).Nodup
 lt:∀ p∈L++P,p<m
 lp:P.length=k
 ll:L.length+k=m
theorem EC.step {m k i:Nat}{L P:List Nat}(h:EC m k L P) (hi:i<L.length):EC m (k+1) (L.eraseIdx i) (P ++ [L.getD i 0]):=by
 have e:(L.eraseIdx i++(P ++ [L.getD i 0])).Perm (L++P):=by
  have h1:=jv hi;refine List.Perm.trans ?_ (h1.symm.append_right P);rw[←dq];refine (List.perm_append_comm).trans ?_;exact .refl _
 refine⟨e.nodup_iff.mpr h.nd,fun p hp=>h.lt p (e.mem_iff.mp hp),by simp[h.lp],?_⟩;have:=h.ll;rw[List.length_eraseIdx_of_lt hi];omega
theorem z9 {T:Tb}{mx ce:Nat}(hm:mV T mx) (hc:qI T ce) (ns:List Int) {m s t k:Nat}(hk:k<m) (hm63:m≤63) {L P:List Nat}(h:EC m k L P) {o6 o7:Slot}(h6:bK o6) (h7:bK o7) :
  ∃ o7' L' P',bK o7'∧EC m (k+1) L' P'∧aS [] (.nm 6) (.int (k:Int)) (EP (ns.map D.int) m s t L P o6 o7)=some (EP (ns.map D.int) m s t L P (sN k) o7)∧aD T (AY mx ce) (EP (ns.map D.int) m s t L P (sN k) o7) = .nx (EP (ns.map D.int) m s t L' P' (sN k) o7'):=by
 have hL:L.length=m - k:=by have:=h.ll;omega
 have te1:Tame (EP (ns.map D.int) m s t L P (sN k) o7):=pf (aB _) h7;have v0:ev T (.var 0) (EP (ns.map D.int) m s t L P (sN k) o7) = .ok (.lst (ns.map D.int),.sh []):=rfl;have e1:ev T (.bin .Add (.var 6) (.var 3)) (EP (ns.map D.int) m s t L P (sN k) o7) = .ok (.int ((k+t:Nat):Int),.mv []):=by
  have v6:ev T (.var 6) (EP (ns.map D.int) m s t L P (sN k) o7) = .ok (.int (k:Int),.mv []):=aH rfl rfl;have v3:ev T (.var 3) (EP (ns.map D.int) m s t L P (sN k) o7) = .ok (.int (t:Int),.mv []):=aH rfl rfl;rw[ev,v6,aA,v3,aA,aL];show (fR (some (D.int ((k:Int)+(t:Int))))).bind _=_;rw[show (k:Int)+(t:Int)=((k+t:Nat):Int) by omega];rfl
 obtain⟨v,hv⟩:=hc ns (k+t);obtain⟨d,hd0,hd⟩:=hm v ((k+t:Nat):Int);have s1:bA T (.asg (.nm 7) (.call mx (.cons (.call ce (.cons (.var 0) (.cons (.bin .Add (.var 6) (.var 3)) .nil))) (.cons (.bin .Add (.var 6) (.var 3)) .nil))) false) (EP (ns.map D.int) m s t L P (sN k) o7) = .nx (EP (ns.map D.int) m s t L P (sN k) (sI d)) :=
  aX te1 (by simp) (Pc.Sm.be (Pc.Sm.be v0 e1 hv) e1 hd)
 have te2:Tame (EP (ns.map D.int) m s t L P (sN k) (sI d)):=pf (aB _) (aB _);let i:=(d / 31%(L.length:Int)).toNat;have hL0:(0:Int)<(L.length:Int):=by omega
 have hi0:0≤d / 31%(L.length:Int):=Int.emod_nonneg _ (by omega);have hi1:d / 31%(L.length:Int)<(L.length:Int):=fk _ hL0;have e2:ev T (.bin .Mod (.bin .FloorDiv (.var 7) (.cst (.int (31)))) (.blt .len (.cons (.var 4) .nil))) (EP (ns.map D.int) m s t L P (sN k) (sI d)) = .ok (.int ((i:Nat):Int),.mv []):=by
  have v7:ev T (.var 7) (EP (ns.map D.int) m s t L P (sN k) (sI d)) = .ok (.int d,.mv []):=aH rfl rfl;have f:ev T (.bin .FloorDiv (.var 7) (.cst (.int (31)))) (EP (ns.map D.int) m s t L P (sN k) (sI d)) = .ok (.int (d / 31),.mv []):=by
   rw[ev,v7,aA,ev,aA,aL];rfl
  rw[ev,f,aA,gn (T:=T) (env:=EP (ns.map D.int) m s t L P (sN k) (sI d)) (i:=4) (gs:=L) (t:=.own) rfl,aA,aL];show (fR ((if (0:Int)<(L.length:Int) then some (d / 31%(L.length:Int)) else none).map D.int)).bind _=_;rw[if_pos hL0,show d / 31%(L.length:Int)=((i:Nat):Int) by show _=(((d / 31%(L.length:Int)).toNat:Nat):Int);omega];rfl
 have hi:i<L.length:=by show (d / 31%(L.length:Int)).toNat<L.length;omega
 have s2:=qB (T:=T) (x:=4) (y:=5) te2 (by decide) rfl rfl e2 hi (by omega) (by have:=h.lp;omega);refine⟨sI d,L.eraseIdx i,P ++ [L.getD i 0],aB _,h.step hi,dN (pf h6 h7) (by simp),?_⟩;unfold AY;rw[aD,s1,aC,aD,s2,aC];rfl
theorem CP {T:Tb}{mx ce:Nat}(hm:mV T mx) (hc:qI T ce) (ns:List Int) {m s t:Nat}(hs:s≤m) (hm63:m≤63):∃ ps:List Nat,ps.Pairwise (· < ·)∧ps.length=s∧(∀ p∈ps,p<m)∧Pc.ret (aD T (bPl mx ce) (aE [.lst (ns.map D.int),.int (m:Int),.int (s:Int),.int (t:Int)] 8)) = .ok (.lst (gD ps),true):=by
 have hst:aE [.lst (ns.map D.int),.int (m:Int),.int (s:Int),.int (t:Int)] 8=[some (.lst (ns.map D.int),.sh []),sN m,sN s,sN t,none,none,none,none]:=rfl;have te0:Tame [some (.lst (ns.map D.int),.sh []),sN m,sN s,sN t,none,none,none,none]:=.cons (aI _) (.cons (aB _) (.cons (aB _) (.cons (aB _) (.cons aG (.cons aG (.cons aG (.cons aG .nil)))))));have r1:ev T (.blt .lrng (.cons (.var 1) .nil)) [some (.lst (ns.map D.int),.sh []),sN m,sN s,sN t,none,none,none,none] = .ok (.lst (gD (List.range m)),.mv []):=by
  have h1:bM T (.cons (.var 1) .nil) [some (.lst (ns.map D.int),.sh []),sN m,sN s,sN t,none,none,none,none] = .ok [(.int (m:Int),.mv [])]:=rfl;rw[ev,h1,aA];show (fR (if fO (m:Int)=true∧(m:Int)≤1000000 then some (D.lst (bH 0 1 (m:Int).toNat)) else none)).bind _=_;rw[if_pos ⟨pQ (by omega),by omega⟩,cz,aK,aA];have:=eI m 0;rw[show ((0:Nat):Int)=0 from rfl] at this;rw[this,←List.range_eq_range',dB (fD _)]
 have s1:bA T (.asg (.nm 4) (.blt .lrng (.cons (.var 1) .nil)) false) [some (.lst (ns.map D.int),.sh []),sN m,sN s,sN t,none,none,none,none] = .nx [some (.lst (ns.map D.int),.sh []),sN m,sN s,sN t,oG (List.range m),none,none,none]:=aX te0 (by simp) r1;have s2:bA T (.asg (.nm 5) (.lst .nil) false) [some (.lst (ns.map D.int),.sh []),sN m,sN s,sN t,oG (List.range m),none,none,none] = .nx (EP (ns.map D.int) m s t (List.range m) [] none none):=by
  refine aX (.cons (aI _) (.cons (aB _) (.cons (aB _) (.cons (aB _) (.cons (aB _) (.cons aG (.cons aG (.cons aG .nil)))))))) (by simp) ?_;rw[ev,bM,aA];rfl
 obtain⟨e,q,⟨L,P,o6,o7,t6,t7,inv,rfl⟩⟩:=mY (t:=.nm 6) (R:=[]) (b:=aD T (AY mx ce)) (fun k env=>∃ L P o6 o7,bK o6∧bK o7∧(k≤m→EC m k L P)∧env=EP (ns.map D.int) m s t L P o6 o7) ((List.range s).map fun (k:Nat)=>D.int (k:Int)) 0 (EP (ns.map D.int) m s t (List.range m) [] none none) ⟨_,_,none,none,aG,aG,fun _=>⟨by rw[List.append_nil];exact List.nodup_range,fun p hp=>by simpa using hp,rfl,by simp⟩,rfl⟩ (fun i d e hd J=>by
  rw[av] at hd;have hi':i<s:=by
   cases q:(List.range s)[i]? with
   |none=>rw[q] at hd;cases hd
   |some z=>have:=(ak.mp q).1;rwa [dg] at this
  rw[ft hi'] at hd;cases hd;rw[Nat.zero_add] at J ⊢;obtain⟨L,P,o6,o7,t6,t7,inv,rfl⟩:=J;obtain⟨o7',L',P',t7',inv',b1,b2⟩:=z9 (T:=T) hm hc ns (s:=s) (t:=t) (show i<m by omega) hm63 (inv (by omega)) t6 t7;exact⟨_,_,b1,.inl b2,L',P',sN i,o7',aB _,t7',fun _=>inv',rfl⟩)
 have hit:eW T (.rng1 (.var 2)) (EP (ns.map D.int) m s t (List.range m) [] none none) = .ok ((List.range s).map fun (k:Nat)=>D.int (k:Int),[]):=kW ⟨_,(aH rfl rfl:ev T (.var 2) (EP (ns.map D.int) m s t (List.range m) [] none none) = .ok (.int (s:Int),.mv []))⟩ (by omega);have q':=bW hit q;simp only[List.length_map,List.length_range,Nat.zero_add] at inv;have inv:=inv hs;have nP:P.Nodup:=(bt.mp inv.nd).2.1;refine⟨cY P,ot nP,by rw[(dS P).length_eq,inv.lp],fun p hp=>inv.lt p (aq _ ((dS P).mem_iff.mp hp)),?_⟩;rw[hst];unfold bPl;rw[aD,s1,aC,aD,s2,aC,aD,q',aC];exact gu (yj (aF.sorted ⟨_,(cV rfl rfl:ev T (.var 5) (EP (ns.map D.int) m s t L P o6 o7) = .ok (.lst (gD P),.mv [5]))⟩ (by rw[inv.lp];omega)) (fD _))
end Pc.Vw
end
section
namespace Pc.Vw
open PySem Pc Pc.Sm Pc.Gr Pc.Lw Fl64 Md
noncomputable def SPok (T:Tb) (sp:Nat):Prop:=∀(ns:List Int) (row W M:List Nat),Gr row→row.length≤63→W.Nodup→(∀ p∈W,p<row.length)→(∀ p∈M,p<row.length)→W.length≤63→M.length≤63→∃ l,Gr l∧l.length=row.length∧(∀ p,p∉M→p∈W→l.getD p 0≠row.getD p 0)∧(∀ p,p∉M→p∉W→l.getD p 0=row.getD p 0)∧∃ fr,T.cl sp [.lst (ns.map D.int),.lst (gD row),.lst (gD W),.lst (gD M)] = .ok (.lst (gD l),fr)
noncomputable def zR (mx ce:Nat):bJ:=(.cons (.asg (.nm 6) (.bin .Add (.cst (.int (1))) (.bin .Mod (.bin .FloorDiv (.call mx (.cons (.call ce (.cons (.var 0) (.cons (.var 5) .nil))) (.cons (.bin .Add (.var 5) (.cst (.int (29)))) .nil))) (.cst (.int (11)))) (.cst (.int (63))))) false)
  (.cons (.setix 4 .none (.ix (.var 2) (.var 5)) (.bin .BitXor (.ix (.var 4) (.ix (.var 2) (.var 5))) (.var 6)))
  .nil))
noncomputable def AA (mx ce:Nat):bJ:=(.cons (.setix 4 .none (.ix (.var 3) (.var 5)) (.bin .Mod (.bin .FloorDiv (.call mx (.cons (.call ce (.cons (.var 0) (.cons (.var 5) .nil))) (.cons (.bin .Add (.var 5) (.cst (.int (37)))) .nil))) (.cst (.int (13)))) (.cst (.int (64)))))
  .nil)
noncomputable def bSp (mx ce:Nat):bJ:=(.cons (.asg (.nm 4) (.blt .list (.cons (.var 1) .nil)) false)
  (.cons (.forr (.nm 5) (.rng1 (.blt .len (.cons (.var 2) .nil))) (zR mx ce))
  (.cons (.forr (.nm 5) (.rng1 (.blt .len (.cons (.var 3) .nil))) (AA mx ce))
  (.cons (.ret (.var 4))
  .nil))))
noncomputable abbrev ES (S:List D) (row W M l:List Nat) (o5 o6:Slot):En:=[some (.lst S,.sh []),sG row,sG W,sG M,oG l,o5,o6]
theorem jV {S:List D}{row W M l:List Nat}{o5 o6:Slot}(h5:bK o5) (h6:bK o6):Tame (ES S row W M l o5 o6):=.cons (aI _) (.cons (aI _) (.cons (aI _) (.cons (aI _) (.cons (aB _) (.cons h5 (.cons h6 .nil))))))
theorem qh {T:Tb}{mx ce:Nat}(hm:mV T mx) (hc:qI T ce) (ns:List Int) {env:En}(v0:∃ R,ev T (.var 0) env = .ok (.lst (ns.map D.int),R)) {k:Nat}(v5:ev T (.var 5) env = .ok (.int (k:Int),.mv [])) (a b c:Int) (ha:0≤a) (hb:0<b) (hb':b<1073741824) (hc':0<c) :
  ∃ z:Nat,(z:Int)<c∧ev T (.bin .Mod (.bin .FloorDiv (.call mx (.cons (.call ce (.cons (.var 0) (.cons (.var 5) .nil))) (.cons (.bin .Add (.var 5) (.cst (.int a))) .nil))) (.cst (.int b))) (.cst (.int c))) env = .ok (.int (z:Int),.mv []):=by
 obtain⟨R0,v0⟩:=v0;obtain⟨v,hv⟩:=hc ns k;have e1:ev T (.bin .Add (.var 5) (.cst (.int a))) env = .ok (.int ((k:Int)+a),.mv []):=by
  rw[ev,v5,aA,ev,aA,aL];rfl
 obtain⟨d,hd0,hd⟩:=hm v ((k:Int)+a);have e2:=Pc.Sm.be (Pc.Sm.be v0 v5 hv) e1 hd;have e3:ev T (.bin .FloorDiv (.call mx (.cons (.call ce (.cons (.var 0) (.cons (.var 5) .nil))) (.cons (.bin .Add (.var 5) (.cst (.int a))) .nil))) (.cst (.int b))) env = .ok (.int (d / b),.mv []):=by
  rw[ev,e2,aA,ev,aA,aL];show (fR ((if 0<b∧b<1073741824 then some (d / b) else none).map D.int)).bind _=_;rw[if_pos ⟨hb,hb'⟩];rfl
 have h0:0≤d / b%c:=Int.emod_nonneg _ (by omega);have h1:d / b%c<c:=fk _ hc';refine⟨(d / b%c).toNat,by omega,?_⟩;rw[ev,e3,aA,ev,aA,aL];show (fR ((if 0<c then some (d / b%c) else none).map D.int)).bind _=_;rw[if_pos hc',Int.toNat_of_nonneg h0];rfl
theorem gd {W:List Nat}{k p:Nat}(hk:k<W.length):p∈W.take (k+1)↔p∈W.take k∨p=W.getD k 0:=by
 rw[List.take_succ,bc hk,bo,ag,bc hk];simp
theorem wZ {W:List Nat}(hn:W.Nodup) {k:Nat}(hk:k<W.length):W.getD k 0∉W.take k:=fun h=>by
 rw[ag,bc hk] at h;have h:W[k]∈W.take k:=h;obtain⟨i,hi,e⟩:=List.mem_iff_getElem.mp h;rw[List.getElem_take] at e;have hi':i<k:=by rw[eh] at hi;omega
 exact (List.pairwise_iff_getElem.mp hn i k (by omega) hk hi') e
theorem gx {l:List Nat}{p q x:Nat}(h:q≠p):(l.set p x).getD q 0=l.getD q 0:=by
 rw[ag,ai (Ne.symm h),ag]
theorem nH {l:List Nat}{p x:Nat}(h:p<l.length):(l.set p x).getD p 0=x:=by
 rw[ag,ao h];rfl
theorem sX {l:List Nat}(h:Gr l) {p g:Nat}(hg:g<64):Gr (l.set p g):=fun z hz=>by
 rcases List.mem_or_eq_of_mem_set hz with q | q
 ·exact h z q
 ·rw[q];exact hg
theorem wc {a e:Nat}(h:e≠0):a^^^e≠a:=fun q=>h (by
 have:a^^^(a^^^e)=a^^^a:=by rw[q]
 rwa [←br,fq,cu] at this)
structure SpI (row:List Nat) (S:List Nat) (l:List Nat):Prop where
 gr:Gr l
 len:l.length=row.length
 ne:∀ p,p∈S→l.getD p 0≠row.getD p 0
 eq:∀ p,p∉S→l.getD p 0=row.getD p 0
theorem mem_getD {W:List Nat}{k:Nat}(hk:k<W.length):W.getD k 0∈W:=by
 rw[ag,bc hk];exact List.getElem_mem hk
theorem y8 {T:Tb}{mx ce:Nat}(hm:mV T mx) (hc:qI T ce) (ns:List Int) {row W M l:List Nat}(hr:row.length≤63) (hn:W.Nodup) (hW:∀ p∈W,p<row.length) {k:Nat}(hk:k<W.length) (h:SpI row (W.take k) l) {o5 o6:Slot}(h5:bK o5) (h6:bK o6) :
  ∃ l' o6',bK o6'∧SpI row (W.take (k+1)) l'∧aS [] (.nm 5) (.int (k:Int)) (ES (ns.map D.int) row W M l o5 o6)=some (ES (ns.map D.int) row W M l (sN k) o6)∧aD T (zR mx ce) (ES (ns.map D.int) row W M l (sN k) o6) = .nx (ES (ns.map D.int) row W M l' (sN k) o6'):=by
 have te1:Tame (ES (ns.map D.int) row W M l (sN k) o6):=jV (aB _) h6;have v5:ev T (.var 5) (ES (ns.map D.int) row W M l (sN k) o6) = .ok (.int (k:Int),.mv []):=aH rfl rfl;obtain⟨z,hz,ez⟩:=qh hm hc ns (env:=ES (ns.map D.int) row W M l (sN k) o6) ⟨_,rfl⟩ v5 29 11 63 (by decide) (by decide) (by decide) (by decide);have e1:ev T (.bin .Add (.cst (.int (1))) (.bin .Mod (.bin .FloorDiv (.call mx (.cons (.call ce (.cons (.var 0) (.cons (.var 5) .nil))) (.cons (.bin .Add (.var 5) (.cst (.int (29)))) .nil))) (.cst (.int (11)))) (.cst (.int (63))))) (ES (ns.map D.int) row W M l (sN k) o6) = .ok (.int ((1+z:Nat):Int),.mv []):=by
  have c1:ev T (.cst (.int (1))) (ES (ns.map D.int) row W M l (sN k) o6) = .ok (.int 1,.mv []):=rfl;rw[ev,c1,aA,ez,aA,aL];show (fR (some (D.int (1+(z:Int))))).bind _=_;rw[show 1+(z:Int)=((1+z:Nat):Int) by omega];rfl
 have s1:bA T (.asg (.nm 6) (.bin .Add (.cst (.int (1))) (.bin .Mod (.bin .FloorDiv (.call mx (.cons (.call ce (.cons (.var 0) (.cons (.var 5) .nil))) (.cons (.bin .Add (.var 5) (.cst (.int (29)))) .nil))) (.cst (.int (11)))) (.cst (.int (63))))) false) (ES (ns.map D.int) row W M l (sN k) o6) = .nx (ES (ns.map D.int) row W M l (sN k) (sN (1+z))):=aX te1 (by simp) e1;have te2:Tame (ES (ns.map D.int) row W M l (sN k) (sN (1+z))):=jV (aB _) (aB _);have w2:ev T (.var 2) (ES (ns.map D.int) row W M l (sN k) (sN (1+z))) = .ok (.lst (gD W),.sh []):=rfl;have w4:ev T (.var 4) (ES (ns.map D.int) row W M l (sN k) (sN (1+z))) = .ok (.lst (gD l),.mv [4]):=cV rfl rfl;have w5:ev T (.var 5) (ES (ns.map D.int) row W M l (sN k) (sN (1+z))) = .ok (.int (k:Int),.mv []):=aH rfl rfl;have w6:ev T (.var 6) (ES (ns.map D.int) row W M l (sN k) (sN (1+z))) = .ok (.int ((1+z:Nat):Int),.mv []):=aH rfl rfl;have hp:W.getD k 0<l.length:=by rw[h.len];exact hW _ (mem_getD hk)
 have i1:ev T (.ix (.var 2) (.var 5)) (ES (ns.map D.int) row W M l (sN k) (sN (1+z))) = .ok (.int ((W.getD k 0:Nat):Int),.mv []):=by
  rw[ev,w2,aA,w5,aA,kX hk,aK,aA];rfl
 have i2:ev T (.ix (.var 4) (.ix (.var 2) (.var 5))) (ES (ns.map D.int) row W M l (sN k) (sN (1+z))) = .ok (.int ((l.getD (W.getD k 0) 0:Nat):Int),.mv []):=by
  rw[ev,w4,aA,i1,aA,kX hp,aK,aA];rfl
 have i3:ev T (.bin .BitXor (.ix (.var 4) (.ix (.var 2) (.var 5))) (.var 6)) (ES (ns.map D.int) row W M l (sN k) (sN (1+z))) = .ok (.int ((l.getD (W.getD k 0) 0^^^(1+z):Nat):Int),.mv []):=by
  rw[ev,i2,aA,w6,aA,aL];show (fR (some (D.int (Builtin.bitXor ((l.getD (W.getD k 0) 0:Nat):Int) ((1+z:Nat):Int))))).bind _=_;rw[dG];rfl
 have s2:=gS (T:=T) (x:=4) te2 rfl i1 (f7 (n:=(gD l).length) (by rw[aZ];exact hp)) i3 (by rw[aZ];exact cU (by rw[h.len];omega));refine⟨l.set (W.getD k 0) (l.getD (W.getD k 0) 0^^^(1+z)),sN (1+z),aB _,⟨lL h.gr (by omega),by rw[List.length_set,h.len],fun p hp'=>?_,fun p hp'=>?_⟩,dN (jV h5 h6) (by simp),?_⟩
 ·by_cases e:p=W.getD k 0
  ·rw[e,nH hp,h.eq _ (wZ hn hk)];exact wc (by omega)
  ·rw[gx e];exact h.ne p (((gd hk).mp hp').resolve_right e)
 ·have e:p≠W.getD k 0:=fun e=>hp' ((gd hk).mpr (.inr e))
  rw[gx e];exact h.eq p fun q=>hp' ((gd hk).mpr (.inl q))
 ·unfold zR;rw[aD,s1,aC,aD,s2,aC,je];rfl
structure SqI (M l0 l:List Nat):Prop where
 gr:Gr l
 len:l.length=l0.length
 eq:∀ p,p∉M→l.getD p 0=l0.getD p 0
theorem xf {T:Tb}{mx ce:Nat}(hm:mV T mx) (hc:qI T ce) (ns:List Int) {row W M l0 l:List Nat}(hr:l0.length≤63) (hM:∀ p∈M,p<l0.length) {k:Nat}(hk:k<M.length) (h:SqI M l0 l) {o5 o6:Slot}(h5:bK o5) (h6:bK o6) :
  ∃ l',SqI M l0 l'∧aS [] (.nm 5) (.int (k:Int)) (ES (ns.map D.int) row W M l o5 o6)=some (ES (ns.map D.int) row W M l (sN k) o6)∧aD T (AA mx ce) (ES (ns.map D.int) row W M l (sN k) o6) = .nx (ES (ns.map D.int) row W M l' (sN k) o6):=by
 have te1:Tame (ES (ns.map D.int) row W M l (sN k) o6):=jV (aB _) h6;have v5:ev T (.var 5) (ES (ns.map D.int) row W M l (sN k) o6) = .ok (.int (k:Int),.mv []):=aH rfl rfl;have v3:ev T (.var 3) (ES (ns.map D.int) row W M l (sN k) o6) = .ok (.lst (gD M),.sh []):=rfl;obtain⟨z,hz,ez⟩:=qh hm hc ns (env:=ES (ns.map D.int) row W M l (sN k) o6) ⟨_,rfl⟩ v5 37 13 64 (by decide) (by decide) (by decide) (by decide);have hp:M.getD k 0<l.length:=by rw[h.len];exact hM _ (mem_getD hk)
 have i1:ev T (.ix (.var 3) (.var 5)) (ES (ns.map D.int) row W M l (sN k) o6) = .ok (.int ((M.getD k 0:Nat):Int),.mv []):=by
  rw[ev,v3,aA,v5,aA,kX hk,aK,aA];rfl
 have s2:=gS (T:=T) (x:=4) te1 rfl i1 (f7 (n:=(gD l).length) (by rw[aZ];exact hp)) ez (by rw[aZ];exact cU (by rw[h.len];omega));refine⟨l.set (M.getD k 0) z,⟨sX h.gr (by omega),by rw[List.length_set,h.len],fun p hp'=>?_⟩,dN (jV h5 h6) (by simp),?_⟩
 ·rw[gx fun e=>hp' (by rw[e];exact mem_getD hk)];exact h.eq p hp'
 ·unfold AA;rw[aD,s2,aC,je];rfl
theorem jQ {n i:Nat}{d:D}(hd:((List.range n).map fun (k:Nat)=>D.int (k:Int))[i]? = some d):i<n∧d = .int (i:Int):=by
 rw[av] at hd;have hi':i<n:=by
  cases q:(List.range n)[i]? with
  |none=>rw[q] at hd;cases hd
  |some z=>have:=(ak.mp q).1;rwa [dg] at this
 rw[ft hi'] at hd;cases hd;exact⟨hi',rfl⟩
theorem B8 {T:Tb}{mx ce:Nat}(hm:mV T mx) (hc:qI T ce) (ns:List Int) {row W M:List Nat}(hg:Gr row) (hr:row.length≤63) (hn:W.Nodup) (hW:∀ p∈W,p<row.length) (hM:∀ p∈M,p<row.length) (lW:W.length≤63) (lM:M.length≤63) :
  ∃ l,Gr l∧l.length=row.length∧(∀ p,p∉M→p∈W→l.getD p 0≠row.getD p 0)∧(∀ p,p∉M→p∉W→l.getD p 0=row.getD p 0)∧∃ fr,Pc.ret (aD T (bSp mx ce) (aE [.lst (ns.map D.int),.lst (gD row),.lst (gD W),.lst (gD M)] 7)) = .ok (.lst (gD l),fr):=by
 have hst:aE [.lst (ns.map D.int),.lst (gD row),.lst (gD W),.lst (gD M)] 7=[some (.lst (ns.map D.int),.sh []),sG row,sG W,sG M,none,none,none]:=rfl;have te0:Tame [some (.lst (ns.map D.int),.sh []),sG row,sG W,sG M,none,none,none]:=.cons (aI _) (.cons (aI _) (.cons (aI _) (.cons (aI _) (.cons aG (.cons aG (.cons aG .nil))))));have c0:ev T (.blt .list (.cons (.var 1) .nil)) [some (.lst (ns.map D.int),.sh []),sG row,sG W,sG M,none,none,none] = .ok (.lst (gD row),.mv []):=by
  have h1:bM T (.cons (.var 1) .nil) [some (.lst (ns.map D.int),.sh []),sG row,sG W,sG M,none,none,none] = .ok [(.lst (gD row),.sh [])]:=rfl;rw[ev,h1,aA];show (Rs.ok (Pc.D.lst (gD row))).bind _=_;rw[aA,dB (fD _)]
 have s0:bA T (.asg (.nm 4) (.blt .list (.cons (.var 1) .nil)) false) [some (.lst (ns.map D.int),.sh []),sG row,sG W,sG M,none,none,none] = .nx (ES (ns.map D.int) row W M row none none):=aX te0 (by simp) c0;obtain⟨e1,q1,⟨l1,o5,o6,t5,t6,i1,rfl⟩⟩:=mY (t:=.nm 5) (R:=[]) (b:=aD T (zR mx ce)) (fun k env=>∃ l o5 o6,bK o5∧bK o6∧SpI row (W.take k) l∧env=ES (ns.map D.int) row W M l o5 o6) ((List.range W.length).map fun (k:Nat)=>D.int (k:Int)) 0 (ES (ns.map D.int) row W M row none none) ⟨row,none,none,aG,aG,⟨hg,rfl,fun p hp=>by simp at hp,fun _ _=>rfl⟩,rfl⟩ (fun i d e hd J=>by
  obtain⟨hi,rfl⟩:=jQ hd;rw[Nat.zero_add] at J ⊢;obtain⟨l,o5,o6,t5,t6,inv,rfl⟩:=J;obtain⟨l',o6',t6',inv',b1,b2⟩:=y8 (T:=T) (M:=M) hm hc ns hr hn hW hi inv t5 t6;exact⟨_,_,b1,.inl b2,l',sN i,o6',aB _,t6',inv',rfl⟩)
 have r1:=bW (kW ⟨_,gn (T:=T) (env:=ES (ns.map D.int) row W M row none none) (i:=2) (gs:=W) (t:=.sh []) rfl⟩ (by omega)) q1;simp only[List.length_map,List.length_range,Nat.zero_add,List.take_length] at i1;obtain⟨e2,q2,⟨l2,p5,p6,u5,u6,i2,rfl⟩⟩:=mY (t:=.nm 5) (R:=[]) (b:=aD T (AA mx ce)) (fun k env=>∃ l o5 o6,bK o5∧bK o6∧SqI M l1 l∧env=ES (ns.map D.int) row W M l o5 o6) ((List.range M.length).map fun (k:Nat)=>D.int (k:Int)) 0 (ES (ns.map D.int) row W M l1 o5 o6) ⟨l1,o5,o6,t5,t6,⟨i1.gr,rfl,fun _ _=>rfl⟩,rfl⟩ (fun i d e hd J=>by
  obtain⟨hi,rfl⟩:=jQ hd;obtain⟨l,o5,o6,t5,t6,inv,rfl⟩:=J;obtain⟨l',inv',b1,b2⟩:=xf (T:=T) (row:=row) (W:=W) hm hc ns (by rw[i1.len];exact hr) (fun p hp=>by rw[i1.len];exact hM p hp) hi inv t5 t6;exact⟨_,_,b1,.inl b2,l',sN i,o6,aB _,t6,inv',rfl⟩)
 have r2:=bW (kW ⟨_,gn (T:=T) (env:=ES (ns.map D.int) row W M l1 o5 o6) (i:=3) (gs:=M) (t:=.sh []) rfl⟩ (by omega)) q2;refine⟨l2,i2.gr,by rw[i2.len,i1.len],fun p h1 h2=>by rw[i2.eq p h1];exact i1.ne p h2,fun p h1 h2=>by rw[i2.eq p h1];exact i1.eq p h2,?_⟩;rw[hst];unfold bSp;rw[aD,s0,aC,aD,r1,aC,aD,r2,aC];exact mK ⟨_,(cV rfl rfl:ev T (.var 4) (ES (ns.map D.int) row W M l2 p5 p6) = .ok (.lst (gD l2),.mv [4]))⟩
end Pc.Vw
end
section
namespace Pc.Vw
open PySem Pc Pc.Sm Pc.Gr Pc.Lw Fl64 Md
section
variable {T:Tb}{env:En}{d:D}
theorem vD {op:Operator}{a b:Ex}(h:aF T (.bin op a b) env d) (hd:d.inner=true):ev T (.bin op a b) env = .ok (d,.mv []):=by
 obtain⟨R,h⟩:=h;have h':=h;rw[ev] at h;obtain⟨p,_,h⟩:=cB h;obtain⟨q,_,h⟩:=cB h;obtain⟨z,_,h⟩:=cB h;have:=kg h;rw[Prod.mk.injEq] at this;obtain⟨rfl,e⟩:=this;rw[h',←e];unfold ik;rw[if_pos hd]
theorem slM {a:Ex}{lo hi:lJ}(h:aF T (.sl a lo hi) env d) (hd:d.inner=true):ev T (.sl a lo hi) env = .ok (d,.mv []):=by
 obtain⟨R,h⟩:=h;have h':=h;rw[ev] at h;obtain⟨p,_,h⟩:=cB h;obtain⟨q,_,h⟩:=cB h;obtain⟨r,_,h⟩:=cB h;obtain⟨z,_,h⟩:=cB h;have:=kg h;rw[Prod.mk.injEq] at this;obtain⟨rfl,e⟩:=this;rw[h',←e];unfold ik;rw[if_pos hd]
theorem ixM {a i:Ex}(h:aF T (.ix a i) env d) (hd:d.flat=true):ev T (.ix a i) env = .ok (d,.mv []):=by
 obtain⟨R,h⟩:=h;have h':=h;rw[ev] at h;obtain⟨p,_,h⟩:=cB h;obtain⟨q,_,h⟩:=cB h;obtain⟨z,_,h⟩:=cB h;have:=kg h;rw[Prod.mk.injEq] at this;obtain⟨rfl,e⟩:=this;rw[h',←e];unfold rX;rw[if_pos hd]
theorem rY {i:Nat}(h:aF T (.var i) env d) (hd:d.flat=true):ev T (.var i) env = .ok (d,.mv []):=by
 obtain⟨R,h⟩:=h;cases q:env[i]? with
 |none=>rw[ev,q] at h;cases h
 |some o =>
  cases o with
  |none=>rw[ev,q] at h;cases h
  |some p =>
   obtain⟨d',t⟩:=p;rw[ev,q] at h;have:=kg h;rw[Prod.mk.injEq] at this;obtain⟨rfl,e⟩:=this;exact aH q hd
theorem yF:∀{l:List (D×Rt)}{gs:List Nat},l.map (·.1)=gD gs→l.all (fun q=>q.1.flat || eV q.2)=true
 |[],_,_=>rfl
 |p::l,[],h=>by cases h
 | p::l,g::gs,h=>by
  have h1:p.1 = .int (g:Int):=(List.cons.inj h).1;have h2:l.map (·.1)=gD gs:=(List.cons.inj h).2;rw[dz,yF h2,h1];rfl
theorem BD {o:Nat}{pick:List Nat}{t:lj}{it:qE}{c:lJ}{e:Ex}{gs:List Nat}(h:aF T (.comp o pick t it c e) env (.lst (gD gs))):ev T (.comp o pick t it c e) env = .ok (.lst (gD gs),.mv []):=by
 obtain⟨R,h⟩:=h;have h':=h;rw[ev] at h;obtain⟨p,_,h⟩:=cB h;obtain⟨q,_,h⟩:=cB h;split at h
 ·have:=kg h;rw[Prod.mk.injEq] at this;obtain⟨e1,e2⟩:=this;have e1:q.map (·.1)=gD gs:=by injection e1
  rw[yF e1,if_pos rfl] at e2;rw[h',←e2]
 ·cases h
theorem j3 (l:List Nat):(D.lst (gD l)).inner=true:=fD l
theorem aF.lst2 {a b:Ex}{x y:D}(h:aF T a env x) (h2:aF T b env y):aF T (.lst (.cons a (.cons b .nil))) env (.lst [x,y]):=by
 obtain⟨R,h⟩:=h;obtain⟨R2,h2⟩:=h2;exact⟨_,by rw[ev,bM,h,aA,bM,h2,aA,bM,aA,aA,aA];exact if_pos (by show (2:Nat)≤lim;decide)⟩
theorem aF.tup5 {a b c e f:Ex}{x y z u w:D}(h:aF T a env x) (h2:aF T b env y) (h3:aF T c env z) (h4:aF T e env u) (h5:aF T f env w):aF T (.tup (.cons a (.cons b (.cons c (.cons e (.cons f .nil)))))) env (.tup [x,y,z,u,w]):=by
 obtain⟨R,h⟩:=h;obtain⟨R2,h2⟩:=h2;obtain⟨R3,h3⟩:=h3;obtain⟨R4,h4⟩:=h4;obtain⟨R5,h5⟩:=h5;exact⟨_,by rw[ev,bM,h,aA,bM,h2,aA,bM,h3,aA,bM,h4,aA,bM,h5,aA,bM,aA,aA,aA,aA,aA,aA];exact if_pos (by show (5:Nat)≤lim;decide)⟩
theorem aF.call4 {f:Nat}{r:D}{fr:Bool}{a b c g:Ex}{x y z w:D}(h:aF T a env x) (h2:aF T b env y) (h3:aF T c env z) (h4:aF T g env w) (e:T.cl f [x,y,z,w] = .ok (r,fr)):aF T (.call f (.cons a (.cons b (.cons c (.cons g .nil))))) env r:=by
 obtain⟨R,h⟩:=h;obtain⟨R2,h2⟩:=h2;obtain⟨R3,h3⟩:=h3;obtain⟨R4,h4⟩:=h4;exact⟨_,by rw[ev,bM,h,aA,bM,h2,aA,bM,h3,aA,bM,h4,aA,bM,aA,aA,aA,aA,aA];show (T.cl f [x,y,z,w]).bind _=_;rw[e,aA]⟩
end
structure Tv (env:En) (vs:List (Option (D×Bool))):Prop where
 len:env.length=vs.length
 tm:Tame env
 at':∀(j:Nat) (d:D) (b:Bool),vs[j]? = some (some (d,b))→∃ t,env[j]? = some (some (d,t))∧(b=true→t = .own)
section
variable {T:Tb}{env:En}{vs:List (Option (D×Bool))}{d:D}
theorem Tv.vw (h:Tv env vs):Vw env (vs.map fun o=>o.map (·.1)):=by
 refine⟨by rw[aj];exact h.len,fun j d e=>?_⟩;rw[av] at e;cases q:vs[j]? with
 |none=>rw[q] at e;cases e
 |some o =>
  cases o with
  |none=>rw[q] at e;cases e
  |some p =>
   rw[q] at e;cases e;obtain⟨t,a,_⟩:=h.at' j p.1 p.2 q;exact⟨t,a⟩
theorem Tv.own (h:Tv env vs) {i:Nat}(e:vs[i]? = some (some (d,true))):env[i]? = some (some (d,.own)):=by
 obtain⟨t,a,b⟩:=h.at' i d true e;rw[a,b rfl]
theorem Tv.var (h:Tv env vs) {i:Nat}{b:Bool}(e:vs[i]? = some (some (d,b))):aF T (.var i) env d:=by
 obtain⟨t,a,_⟩:=h.at' i d b e;rw[aF,ev,a];exact⟨_,rfl⟩
theorem Tv.set (h:Tv env vs) (i:Nat) (d:D) (t:Tg) (b:Bool) (ht:bK (some (d,t))) (hb:b=true→t = .own):Tv (env.set i (some (d,t))) (vs.set i (some (d,b))):=by
 refine⟨by rw[ay,ay];exact h.len,h.tm.set ht i,fun j x y e=>?_⟩;by_cases hj:i=j
 ·subst hj;have hl:i<vs.length:=by
   have:=(ak.mp e).1
   rwa [ay] at this
  rw[ao hl] at e;cases e;exact⟨t,ao (by rw[h.len];exact hl),hb⟩
 ·rw[ai hj] at e;rw[ai hj];exact h.at' j x y e
theorem Tv.asg (h:Tv env vs) {i:Nat}(hi:i<vs.length) {e:Ex}(he:ev T e env = .ok (d,.mv [])):∃ env',bA T (.asg (.nm i) e false) env = .nx env'∧Tv env' (vs.set i (some (d,true))) :=
 ⟨_,aX h.tm (by rw[h.len];exact hi) he,h.set i d .own true (aB _) fun _=>rfl⟩
theorem Tv.asgS (h:Tv env vs) {i:Nat}(hi:i<vs.length) {e:Ex}{R:Rt}(hR:R = .mv []∨R = .sh []) (he:ev T e env = .ok (d,R)):∃ env',bA T (.asg (.nm i) e false) env = .nx env'∧Tv env' (vs.set i (some (d,false))):=by
 rcases hR with rfl | rfl
 ·exact⟨_,aX h.tm (by rw[h.len];exact hi) he,h.set i d .own false (aB _) fun h=>by cases h⟩
 ·refine⟨_,?_,h.set i d (.sh []) false (aI _) fun h=>by cases h⟩;rw[bA,he,aN];show (if i<env.length then _ else _)=_;rw[if_pos (by rw[h.len];exact hi)];show Fl.nx (put env i d (.sh []))=_;rw[fH h.tm]
theorem Tv.bindN (h:Tv env vs) {i:Nat}(hi:i<vs.length) (k:Int):∃ env',aS [] (.nm i) (.int k) env=some env'∧Tv env' (vs.set i (some (.int k,true))) :=
 ⟨_,dN h.tm (by rw[h.len];exact hi),h.set i _ .own true (aB _) fun _=>rfl⟩
theorem Tv.asg2 (h:Tv env vs) {i j:Nat}(hi:i<vs.length) (hj:j<vs.length) {e:Ex}{x y:D}(he:ev T e env = .ok (.tup [x,y],.mv [])):∃ env',bA T (.asg (.tp [i,j]) e false) env = .nx env'∧Tv env' ((vs.set i (some (x,true))).set j (some (y,true))) :=
 ⟨_,za h.tm (by rw[h.len];exact hi) (by rw[h.len];exact hj) he,(h.set i x .own true (aB _) fun _=>rfl).set j y .own true (aB _) fun _=>rfl⟩
theorem Tv.setg (h:Tv env vs) {x:Nat}{l:List Nat}(hx:vs[x]? = some (some (.lst (gD l),true))) {k e:Ex}{p z:Nat}(hk:aF T k env (.int (p:Int))) (hp:p<l.length) (hl:l.length≤1000) (he:ev T e env = .ok (.int (z:Int),.mv [])):∃ env',bA T (.setix x .none k e) env = .nx env'∧Tv env' (vs.set x (some (.lst (gD (l.set p z)),true))):=by
 obtain⟨R,hk⟩:=hk;have:=gS (T:=T) (x:=x) h.tm (h.own hx) hk (f7 (n:=(gD l).length) (by rw[aZ];exact hp)) he (by rw[aZ];exact cU hl);rw[je] at this;exact⟨_,this,h.set x _ .own true (aB _) fun _=>rfl⟩
theorem Tv.apop (h:Tv env vs) {x y:Nat}(hxy:y≠x) {xs ys:List Nat}(hx:vs[x]? = some (some (.lst (gD xs),true))) (hy:vs[y]? = some (some (.lst (gD ys),true))) {e:Ex}{i:Nat}(he:aF T e env (.int (i:Int))) (hi:i<xs.length) (lx:xs.length≤1000) (ly:ys.length<1000):∃ env',bA T (.apop y x (.cons e .nil)) env = .nx env'∧Tv env' ((vs.set x (some (.lst (gD (xs.eraseIdx i)),true))).set y (some (.lst (gD (ys ++ [xs.getD i 0])),true))):=by
 obtain⟨R,he⟩:=he;exact⟨_,qB h.tm hxy (h.own hx) (h.own hy) he hi lx ly,(h.set x _ .own true (aB _) fun _=>rfl).set y _ .own true (aB _) fun _=>rfl⟩
theorem Tv.frz (h:Tv env vs) {x:Nat}{ks:List (Int×MV)}(hx:vs[x]? = some (some (.mpi ks,true))):Tv (md env x) (vs.set x (some (.mpz ks,true))):=by
 have ho:ownAt env x=some (.mpi ks):=by unfold ownAt;rw[h.own hx]
 unfold md;rw[ho];dsimp only;rw[gM h.tm];exact h.set x _ .own true (aB _) fun _=>rfl
theorem Tv.start (ds:List D) (n:Nat):Tv (aE ds n) (ds.map (fun d=>some (d,false))++List.replicate (n - ds.length) none):=by
 unfold aE;refine⟨by simp,fun s hs=>?_,fun j d b e=>?_⟩
 ·rcases bo.mp hs with q | q
  ·obtain⟨d,_,rfl⟩:=au.mp q;unfold cH;split
   ·exact aB _
   ·exact aI _
  ·rw[List.eq_of_mem_replicate q];exact aG
 ·by_cases hj:j<ds.length
  ·rw[dm (by rw[aj];exact hj),av] at e;rw[dm (by rw[aj];exact hj),av];cases q:ds[j]? with
   |none=>rw[q] at e;cases e
   |some x=>rw[q] at e;cases e;exact⟨_,rfl,fun h=>by cases h⟩
  ·rw[dw (by rw[aj];omega),eo] at e;split at e<;>cases e
end
end Pc.Vw
end
section
namespace K16
open PySem Pc Pc.Sm Pc.Gr Pc.Lw Pc.Vw Fl64 Md
noncomputable def b0:bJ:=rF 0 1
noncomputable def b1:bJ:=bIN 0 2
noncomputable def b2:bJ:=Eh 0
noncomputable def b3:bJ:=C0 0
noncomputable def b4:bJ:=bRP 0
noncomputable def b5:bJ:=bRN 4
noncomputable def b6:bJ:=bCN 2
noncomputable def b7:bJ:=bIC 6 3
noncomputable def b8:bJ:=bMD 3 6 7 10 15
noncomputable def b9:bJ:=bLO 2
noncomputable def b10:bJ:=bSU 3 4 5 9 11
noncomputable def b11:bJ:=bSR 0 1 12 13 14
noncomputable def b12:bJ:=bGP 0
noncomputable def b13:bJ:=bSC 0
noncomputable def b14:bJ:=bAD
noncomputable def b15:bJ:=bCH 0 1 3 4 5 9 16
noncomputable def b16:bJ:=bDP 0
noncomputable def b17:bJ:=bWh
noncomputable def b18:bJ:=bLT
noncomputable def b19:bJ:=bCe
noncomputable def b20:bJ:=bMx
noncomputable def b21:bJ:=bRw 20
noncomputable def b22:bJ:=bSz 20 19
noncomputable def b23:bJ:=bMa 18
noncomputable def b24:bJ:=bPl 20 19
noncomputable def b25:bJ:=bSp 20 19
noncomputable def b26:bJ:=bLG 17
noncomputable def Fj:bJ:=(.cons (.ite (.or (.not (.blt (.isi "tuple") (.cons (.var 0) .nil))) (.or (.cmp .NotEq (.blt .len (.cons (.var 0) .nil)) (.cst (.int (2)))) (.not (.call 26 (.cons (.ix (.var 0) (.cst (.int (0)))) (.cons (.blt .len (.cons (.var 1) .nil)) .nil)))))) (.cons (.ret (.cst (.bl false)))
  .nil) .nil)
  (.cons (.ite (.not (.call 26 (.cons (.ix (.var 0) (.cst (.int (1)))) (.cons (.blt .len (.cons (.var 2) .nil)) .nil)))) (.cons (.ret (.cst (.bl false)))
  .nil) .nil)
  (.cons (.ret (.and (.cmp .Eq (.ix (.var 0) (.cst (.int (0)))) (.var 1)) (.cmp .Eq (.ix (.var 0) (.cst (.int (1)))) (.var 2))))
  .nil)))
noncomputable def BY:bJ:=(.cons (.asg (.nm 2) (.blt .abs (.cons (.call 19 (.cons (.var 0) (.cons (.var 1) .nil))) .nil)) false)
  (.cons (.ite (.cmp .Lt (.var 2) (.bin .Pow (.cst (.int (2))) (.cst (.int (60))))) (.cons (.forr (.nm 3) (.rng1 (.cst (.int (12)))) (.cons (.asg (.nm 2) (.bin .Add (.bin .Mult (.var 2) (.cst (.int (536870912)))) (.call 20 (.cons (.var 2) (.cons (.bin .Add (.var 1) (.var 3)) .nil)))) false)
  .nil))
  .nil) .nil)
  (.cons (.ret (.var 2))
  .nil)))
noncomputable def b29:bJ:=(.cons (.asg (.nm 3) .dnew false)
  (.cons (.asg (.nm 4) (.cst (.int (0))) false)
  (.cons (.forr (.nm 5) (.rng1 (.var 2)) (.cons (.asg (.nm 6) (.bin .Mod (.var 0) (.cst (.int (3)))) false)
  (.cons (.asg (.nm 7) (.bin .Mod (.bin .FloorDiv (.var 0) (.cst (.int (3)))) (.var 1)) false)
  (.cons (.ite (.and (.cmp .Gt (.var 6) (.cst (.int (0)))) (.and (.cmp .NotIn (.var 7) (.var 3)) (.cmp .LtE (.bin .Sub (.bin .Add (.var 4) (.cst (.int (3)))) (.var 6)) (.var 2)))) (.cons (.putd 3 (.var 7) (.tup (.cons (.var 6) (.cons (.bin .Mod (.bin .FloorDiv (.var 0) (.bin .Mult (.cst (.int (3))) (.var 1))) (.cst (.int (64)))) .nil))))
  (.cons (.asg (.nm 4) (.bin .Sub (.bin .Add (.var 4) (.cst (.int (3)))) (.var 6)) false)
  .nil)) .nil)
  (.cons (.asg (.nm 0) (.bin .FloorDiv (.var 0) (.bin .Mult (.cst (.int (192))) (.var 1))) false)
  .nil)))))
  (.cons (.ret (.var 3))
  .nil))))
noncomputable def b30:bJ:=(.cons (.asg (.nm 2) (.lst .nil) false)
  (.cons (.asg (.nm 3) (.cst (.int (0))) false)
  (.cons (.forr (.nm 4) (.rng1 (.var 1)) (.cons (.ite (.cmp .Eq (.bin .Mod (.var 4) (.cst (.int (40)))) (.cst (.int (0)))) (.cons (.asg (.nm 3) (.ix (.var 0) (.bin .FloorDiv (.var 4) (.cst (.int (40))))) false)
  .nil) .nil)
  (.cons (.mut 2 .none .append (.cons (.bin .Mod (.var 3) (.cst (.int (64)))) .nil))
  (.cons (.asg (.nm 3) (.bin .FloorDiv (.var 3) (.cst (.int (64)))) false)
  .nil))))
  (.cons (.ret (.var 2))
  .nil))))
noncomputable def b31:bJ:=(.cons (.asg (.nm 1) (.comp 1 [0] (.nm 0) (.rng1 (.cst (.int (4)))) .none (.call 28 (.cons (.var 1) (.cons (.var 0) .nil)))) false)
  (.cons (.asg (.nm 2) (.bin .FloorDiv (.ix (.var 1) (.cst (.int (0)))) (.cst (.int (2)))) false)
  (.cons (.asg (.nm 3) (.bin .Add (.cst (.int (1))) (.bin .Mod (.var 2) (.cst (.int (26))))) false)
  (.cons (.asg (.nm 4) (.call 23 (.cons (.call 30 (.cons (.sl (.var 1) (.some (.cst (.int (1)))) (.some (.cst (.int (3))))) (.cons (.bin .Add (.cst (.int (1))) (.bin .Mod (.bin .FloorDiv (.var 2) (.cst (.int (26)))) (.bin .Sub (.cst (.int (63))) (.var 3)))) .nil))) (.cons (.var 3) .nil))) false)
  (.cons (.asg (.nm 5) (.call 29 (.cons (.ix (.var 1) (.cst (.int (3)))) (.cons (.blt .len (.cons (.var 4) .nil)) (.cons (.var 3) .nil)))) false)
  (.cons (.asg (.nm 6) (.blt .list (.cons (.var 4) .nil)) false)
  (.cons (.frzd 5 (.forr (.nm 7) (.seq (.var 5)) (.cons (.asg (.tp [8,9]) (.ix (.var 5) (.var 7)) false)
  (.cons (.setix 6 .none (.var 7) (.ix (.lst (.cons (.bin .BitXor (.ix (.var 6) (.var 7)) (.bin .Add (.cst (.int (1))) (.bin .Mod (.var 9) (.cst (.int (63)))))) (.cons (.var 9) .nil))) (.bin .Sub (.var 8) (.cst (.int (1))))))
  .nil))))
  (.cons (.asg (.nm 10) (.blt .sorted (.cons (.comp 1 [5] (.nm 0) (.seq (.var 5)) (.some (.cmp .Eq (.ix (.ix (.var 1) (.var 0)) (.cst (.int (0)))) (.cst (.int (1))))) (.var 0)) .nil)) false)
  (.cons (.asg (.nm 11) (.blt .sorted (.cons (.comp 1 [5] (.nm 0) (.seq (.var 5)) (.some (.cmp .Eq (.ix (.ix (.var 1) (.var 0)) (.cst (.int (0)))) (.cst (.int (2))))) (.var 0)) .nil)) false)
  (.cons (.ret (.tup (.cons (.var 3) (.cons (.var 4) (.cons (.var 6) (.cons (.var 10) (.cons (.var 11) .nil)))))))
  .nil))))))))))
noncomputable def b32:bJ:=(.cons (.asg (.tp [1,2]) (.call 22 (.cons (.var 0) .nil)) false)
  (.cons (.asg (.nm 3) (.call 23 (.cons (.call 21 (.cons (.var 0) (.cons (.var 2) .nil))) (.cons (.var 1) .nil))) false)
  (.cons (.asg (.nm 4) (.call 20 (.cons (.call 19 (.cons (.var 0) (.cons (.cst (.int (1))) .nil))) (.cons (.cst (.int (2))) .nil))) false)
  (.cons (.asg (.nm 5) (.bin .Mod (.bin .FloorDiv (.var 4) (.cst (.int (3)))) (.bin .Add (.var 1) (.cst (.int (1))))) false)
  (.cons (.ite (.cmp .Eq (.bin .Mod (.var 4) (.cst (.int (3)))) (.cst (.int (0)))) (.cons (.asg (.nm 5) (.cst (.int (0))) false)
  .nil) .nil)
  (.cons (.asg (.nm 6) (.bin .FloorDiv (.bin .Sub (.var 1) (.var 5)) (.cst (.int (2)))) false)
  (.cons (.asg (.nm 7) (.var 6) false)
  (.cons (.ite (.cmp .Eq (.bin .Mod (.var 4) (.cst (.int (2)))) (.cst (.int (0)))) (.cons (.asg (.nm 7) (.bin .Mod (.bin .FloorDiv (.var 4) (.cst (.int (100)))) (.bin .Add (.var 6) (.cst (.int (1))))) false)
  .nil) .nil)
  (.cons (.asg (.nm 8) (.call 24 (.cons (.var 0) (.cons (.blt .len (.cons (.var 3) .nil)) (.cons (.bin .Add (.var 5) (.var 7)) (.cons (.cst (.int (5))) .nil))))) false)
  (.cons (.asg (.nm 9) (.sl (.comp 1 [4,8] (.nm 0) (.rng1 (.blt .len (.cons (.var 8) .nil))) (.some (.cmp .Eq (.bin .Mod (.var 0) (.cst (.int (2)))) (.bin .Mod (.var 1) (.cst (.int (2)))))) (.ix (.var 2) (.var 0))) .none (.some (.var 5))) false)
  (.cons (.asg (.nm 10) (.comp 1 [9] (.nm 0) (.seq (.var 8)) (.some (.cmp .NotIn (.var 0) (.var 1))) (.var 0)) false)
  (.cons (.whl (.cmp .Gt (.blt .len (.cons (.var 10) .nil)) (.var 7)) (.cons (.apop 9 10 (.cons (.bin .Mod (.bin .FloorDiv (.var 4) (.cst (.int (7)))) (.blt .len (.cons (.var 10) .nil))) .nil))
  .nil))
  (.cons (.asg (.nm 9) (.blt .sorted (.cons (.var 9) .nil)) false)
  (.cons (.ret (.tup (.cons (.var 1) (.cons (.var 3) (.cons (.call 25 (.cons (.var 0) (.cons (.var 3) (.cons (.var 10) (.cons (.var 9) .nil))))) (.cons (.var 10) (.cons (.var 9) .nil)))))))
  .nil))))))))))))))
noncomputable def b33:bJ:=(.cons (.ite (.cmp .Eq (.bin .Mod (.call 19 (.cons (.var 0) (.cons (.cst (.int (0))) .nil))) (.cst (.int (2)))) (.cst (.int (0)))) (.cons (.asg (.tp [1,2,3,4,5]) (.call 31 (.cons (.var 0) .nil)) false)
  .nil) (.cons (.asg (.tp [1,2,3,4,5]) (.call 32 (.cons (.var 0) .nil)) false)
  .nil))
  (.cons (.asg (.nm 6) (.lst (.cons (.blt .list (.cons (.var 3) .nil)) (.cons (.blt .list (.cons (.var 5) .nil)) .nil))) false)
  (.cons (.asg (.nm 7) (.call 8 (.cons (.ix (.var 6) (.cst (.int (0)))) (.cons (.ix (.var 6) (.cst (.int (1)))) (.cons (.var 1) .nil)))) false)
  (.cons (.ret (.and (.cmp .Eq (.var 6) (.lst (.cons (.var 3) (.cons (.var 5) .nil)))) (.call 27 (.cons (.var 7) (.cons (.var 2) (.cons (.var 4) .nil))))))
  .nil))))
noncomputable def fns:List Fn:=[⟨2,5,b0⟩,⟨1,1,b1⟩,⟨2,5,b2⟩,⟨2,4,b3⟩,⟨2,7,b4⟩,⟨1,3,b5⟩,⟨1,1,b6⟩,⟨2,2,b7⟩,⟨3,7,b8⟩,⟨2,2,b9⟩,⟨3,7,b10⟩,⟨1,8,b11⟩,⟨3,6,b12⟩,⟨2,2,b13⟩,⟨2,5,b14⟩,⟨3,9,b15⟩,⟨2,4,b16⟩,⟨1,1,b17⟩,⟨2,4,b18⟩,⟨2,2,b19⟩,⟨2,3,b20⟩,⟨2,4,b21⟩,⟨1,3,b22⟩,⟨2,5,b23⟩,⟨4,8,b24⟩,⟨4,7,b25⟩,⟨2,3,b26⟩,⟨3,3,Fj⟩,⟨2,4,BY⟩,⟨3,8,b29⟩,⟨2,5,b30⟩,⟨1,12,b31⟩,⟨1,11,b32⟩,⟨1,8,b33⟩]
noncomputable def gl:Nat→D
 |0=>.int 64
 |1=>.int 67
 |_=>.non
noncomputable abbrev T (n:Nat):Tb:=⟨Pc.run fns gl 1000 n,gl,1000⟩
theorem i5 (n:Nat):(T n).cl=Pc.run fns gl 1000 n:=rfl
end K16
end
section
namespace K16
open PySem Pc Pc.Sm Pc.Gr Pc.Lw Pc.Vw Fl64 Md
theorem h0 (n:Nat):iq (T (n+1)) 0:=fun a b hb=>by
 rw[i5,aY (F:=⟨2,5,b0⟩) rfl rfl];exact yh (T:=T n) rfl rfl (by show 7≤1000;decide) a b hb
theorem h2 (n:Nat):AI (T (n+2)) 2:=fun a k ha hk=>by
 rw[i5,aY (F:=⟨2,5,b2⟩) rfl rfl];exact Dc (h0 n) (by show 41≤1000;decide) a k ha hk
theorem h1 (n:Nat):yz (T (n+3)) 1:=fun a ha h=>by
 rw[i5,aY (F:=⟨1,1,b1⟩) rfl rfl];exact F5 (T:=T (n+2)) rfl (h2 n) ha h
theorem h3 (n:Nat):rL (T (n+2)) 3:=fun gs x hx=>by
 rw[i5,aY (F:=⟨2,4,b3⟩) rfl rfl];exact Cm (h0 n) gs x hx
theorem h4 (n:Nat):zq (T (n+2)) 4:=fun a b ha hb hb0 hl=>by
 rw[i5,aY (F:=⟨2,7,b4⟩) rfl rfl];exact Gw (h0 n) ha hb hb0 hl
theorem h5 (n:Nat):Dq (T (n+3)) 5:=fun ns hn hl=>by
 rw[i5,aY (F:=⟨1,3,b5⟩) rfl rfl];exact EV (h4 n) hn hl
theorem h6 (n:Nat):Bh (T (n+3)) 6:=fun c hc=>by
 rw[i5,aY (F:=⟨1,1,b6⟩) rfl rfl];exact Gh (h2 n) c hc
theorem h7 (n:Nat):Cb (T (n+4)) 7:=fun gs c hc=>by
 rw[i5,aY (F:=⟨2,2,b7⟩) rfl rfl];exact FL (h6 n) (h3 (n+1)) gs c hc
theorem h9 (n:Nat):DI (T (n+3)) 9:=fun p m h hm=>by
 rw[i5,aY (F:=⟨2,2,b9⟩) rfl rfl];exact FF (h2 n) h hm
theorem h12 (n:Nat):DD (T (n+2)) 12:=fun r ns p a b c d=>by
 rw[i5,aY (F:=⟨3,6,b12⟩) rfl rfl];exact Fd (h0 n) a b c d
theorem h13 (n:Nat):Cr (T (n+2)) 13:=fun r f a b c=>by
 rw[i5,aY (F:=⟨2,2,b13⟩) rfl rfl];exact FJ (h0 n) a b c
theorem h14 (n:Nat):DW (T (n+1)) 14:=fun a b ha hb=>by
 rw[i5,aY (F:=⟨2,5,b14⟩) rfl rfl];exact Vw.Gf ha hb
theorem h11 (n:Nat):Fi (T (n+4)) 11:=fun ns hn hl=>by
 obtain⟨fr,h⟩:=Ci (h0 (n+2)) (h1 n) (h12 (n+1)) (h13 (n+1)) (h14 (n+2)) hn hl;exact⟨fr,by rw[i5,aY (F:=⟨1,8,b11⟩) rfl rfl];exact h⟩
theorem h16 (n:Nat):CA (T (n+2)) 16:=fun x ls hx hl=>by
 rw[i5,aY (F:=⟨2,4,b16⟩) rfl rfl];exact GF (h0 n) hx hl
theorem h10 (n:Nat):Eb (T (n+5)) 10:=fun wo mi m a b c d e=>by
 obtain⟨fr,h⟩:=B0 (h3 (n+2)) (h4 (n+2)) (h5 (n+1)) (h9 (n+1)) (h11 n) a b c d e;exact⟨fr,by rw[i5,aY (F:=⟨3,7,b10⟩) rfl rfl];exact h⟩
theorem h15 (n:Nat):De (T (n+4)) 15:=fun g su wo a b c d e f=>by
 rw[i5,aY (F:=⟨3,9,b15⟩) rfl rfl];exact FE (h0 (n+2)) (h1 n) (h3 (n+1)) (h4 (n+1)) (h5 n) (h9 n) (h16 (n+1)) a b c d e f
theorem h8 (n:Nat) {g mi:List Nat}{c:Nat}(gg:Gr g) (lg:g.length≤63) (lm:mi.length≤c) (lc:c≤62) (hm:∀ p∈mi,p<g.length) (hf:Vw.DG g mi c=false):∃ fr,(T (n+6)).cl 8 [.lst (gD g),.lst (gD mi),.int (c:Int)] = .ok (mdD g mi c,fr):=by
 obtain⟨fr,h⟩:=B6 (h3 (n+3)) (h6 (n+2)) (h7 (n+1)) (h10 n) (h15 (n+1)) gg lg lm lc hm hf;exact⟨fr,by rw[i5,aY (F:=⟨3,7,b8⟩) rfl rfl];exact h⟩
theorem h17 (n:Nat):GA (T (n+1)) 17:=fun x=>by
 rw[i5,aY (F:=⟨1,1,b17⟩) rfl rfl];exact Fx x
theorem h18 (n:Nat):FK (T (n+1)) 18:=fun a b ha hb=>by
 rw[i5,aY (F:=⟨2,4,b18⟩) rfl rfl];exact EO a b ha hb
theorem EH (n:Nat):qI (T (n+1)) 19:=fun ns k=>by
 obtain⟨v,h⟩:=GS (T:=T n) ns k;exact⟨v,by rw[i5,aY (F:=⟨2,2,b19⟩) rfl rfl];exact h⟩
theorem Ez (n:Nat):mV (T (n+1)) 20:=fun c k=>by
 obtain⟨v,h',h⟩:=Fp (T:=T n) c k;exact⟨v,h',by rw[i5,aY (F:=⟨2,3,b20⟩) rfl rfl];exact h⟩
theorem h21 (k:Nat) (ns:List Int) (hl:ns.length≤63) (n:Nat) (hn:0<n) (hn':n≤1000):∃ gs,Gr gs∧gs.length=n∧(T (k+2)).cl 21 [.lst (ns.map D.int),.int (n:Int)] = .ok (.lst (gD gs),true):=by
 obtain⟨gs,a,b,h⟩:=Fg (Ez k) ns hl n hn hn';exact⟨gs,a,b,by rw[i5,aY (F:=⟨2,4,b21⟩) rfl rfl];exact h⟩
theorem h22 (k:Nat) (ns:List Int):∃ c h:Nat,0<c∧c≤26∧0<h∧c+h≤63∧(T (k+2)).cl 22 [.lst (ns.map D.int)] = .ok (.tup [.int (c:Int),.int (h:Int)],true):=by
 obtain⟨c,h,a1,a2,a3,a4,e⟩:=FY (Ez k) (EH k) ns;exact⟨c,h,a1,a2,a3,a4,by rw[i5,aY (F:=⟨1,3,b22⟩) rfl rfl];exact e⟩
theorem h23 (n:Nat):MAok (T (n+2)) 23:=fun r c hr hl=>by
 obtain⟨fr,h⟩:=B7 (h18 n) hr hl;exact⟨fr,by rw[i5,aY (F:=⟨2,5,b23⟩) rfl rfl];exact h⟩
theorem h24 (n:Nat):PLok (T (n+2)) 24:=fun ns m s t hs hm=>by
 obtain⟨ps,a,b,c,h⟩:=CP (Ez n) (EH n) ns (t:=t) hs hm;exact⟨ps,a,b,c,by rw[i5,aY (F:=⟨4,8,b24⟩) rfl rfl];exact h⟩
theorem h25 (n:Nat):SPok (T (n+2)) 25:=fun ns row W M a b c d e f g=>by
 obtain⟨l,x1,x2,x3,x4,fr,h⟩:=B8 (Ez n) (EH n) ns a b c d e f g;exact⟨l,x1,x2,x3,x4,fr,by rw[i5,aY (F:=⟨4,7,b25⟩) rfl rfl];exact h⟩
theorem h26 (n:Nat) {gs:List Nat}(hg:Gr gs) (m:Nat) (hm:gs.length=m):(T (n+2)).cl 26 [.lst (gD gs),.int (m:Int)] = .ok (.bl true,true):=by
 rw[i5,aY (F:=⟨2,3,b26⟩) rfl rfl];exact F6 (h17 n) hg m hm
end K16
end
section
namespace K16
open PySem Pc Pc.Sm Pc.Gr Pc.Lw Pc.Vw Fl64 Md
theorem h27 (n:Nat) {row W:List Nat}(gr:Gr row) (gW:Gr W):∃ fr,(T (n+3)).cl 27 [.tup [.lst (gD row),.lst (gD W)],.lst (gD row),.lst (gD W)] = .ok (.bl true,fr):=by
 have V:Vw (aE [.tup [.lst (gD row),.lst (gD W)],.lst (gD row),.lst (gD W)] 3) [some (.tup [.lst (gD row),.lst (gD W)]),lD row,lD W]:=Vw.start _ 3;have i0:aF (T (n+2)) (.ix (.var 0) (.cst (.int (0)))) (aE [.tup [.lst (gD row),.lst (gD W)],.lst (gD row),.lst (gD W)] 3) (.lst (gD row)):=aF.ix (V.var (i:=0) rfl) (aF.cst _) rfl;have i1:aF (T (n+2)) (.ix (.var 0) (.cst (.int (1)))) (aE [.tup [.lst (gD row),.lst (gD W)],.lst (gD row),.lst (gD W)] 3) (.lst (gD W)):=aF.ix (V.var (i:=0) rfl) (aF.cst _) rfl;have c1:aF (T (n+2)) (.or (.not (.blt (.isi "tuple") (.cons (.var 0) .nil))) (.or (.cmp .NotEq (.blt .len (.cons (.var 0) .nil)) (.cst (.int (2)))) (.not (.call 26 (.cons (.ix (.var 0) (.cst (.int (0)))) (.cons (.blt .len (.cons (.var 1) .nil)) .nil)))))) (aE [.tup [.lst (gD row),.lst (gD W)],.lst (gD row),.lst (gD W)] 3) (.bl false) :=
  aF.or (k:=false) (aF.not (k:=true) (aF.blt1 (V.var (i:=0) rfl) rfl)) (fun _=>aF.or (k:=false) (aF.cmp (aF.blt1 (V.var (i:=0) rfl) (z:=.int 2) rfl) (aF.cst _) rfl) (fun _=>aF.not (k:=true) (aF.be i0 (V.len (i:=1) rfl) (h26 n gr _ rfl))) (fun h=>by cases h)) (fun h=>by cases h)
 have c2:aF (T (n+2)) (.not (.call 26 (.cons (.ix (.var 0) (.cst (.int (1)))) (.cons (.blt .len (.cons (.var 2) .nil)) .nil)))) (aE [.tup [.lst (gD row),.lst (gD W)],.lst (gD row),.lst (gD W)] 3) (.bl false):=aF.not (k:=true) (aF.be i1 (V.len (i:=2) rfl) (h26 n gW _ rfl));have c3:aF (T (n+2)) (.and (.cmp .Eq (.ix (.var 0) (.cst (.int (0)))) (.var 1)) (.cmp .Eq (.ix (.var 0) (.cst (.int (1)))) (.var 2))) (aE [.tup [.lst (gD row),.lst (gD W)],.lst (gD row),.lst (gD W)] 3) (.bl true):=aF.and (k:=true) (aF.cmp i0 (V.var (i:=1) rfl) (Gz row)) (fun _=>aF.cmp i1 (V.var (i:=2) rfl) (Gz W)) (fun h=>by cases h);obtain⟨fr,h⟩:=mK c3;refine⟨fr,?_⟩;rw[i5,aY (F:=⟨3,3,Fj⟩) rfl rfl];show Pc.ret (aD (T (n+2)) Fj _)=_;unfold Fj;rw[aD,ip c1];simp only[Bool.false_eq_true,if_false];rw[aD,aC,aD,ip c2];simp only[Bool.false_eq_true,if_false];rw[aD,aC];exact h
theorem Ar (f:Int):kY .Mult (.int f) (.int 536870912)=some (.int (f*536870912)):=by
 rw[aL];show ((if (small f || small 536870912)=true then some (f*536870912) else none).map D.int)=_;rw[show small 536870912=true from rfl,Bool.or_true,if_pos rfl];rfl
theorem h28 (n:Nat) (ns:List Int) (k:Nat):∃ v:Int,0≤v∧∃ fr,(T (n+2)).cl 28 [.lst (ns.map D.int),.int (k:Int)] = .ok (.int v,fr):=by
 have V0:Vw (aE [.lst (ns.map D.int),.int (k:Int)] 4) [some (.lst (ns.map D.int)),nD k,none,none]:=Vw.start _ 4;obtain⟨c,hc⟩:=EH n ns k;obtain⟨a,ha,hab⟩:∃ a:Int,0≤a∧jN .abs [.int c]=some (.int a):=⟨if c<0 then -c else c,by split<;>omega,rfl⟩;obtain⟨e1,q1,V1⟩:=V0.asg (T:=T (n+1)) (i:=2) (show (2:Nat)<4 by decide) (aF.blt1 (k:=.abs) (aF.be (V0.var (i:=0) rfl) (V0.var (i:=1) rfl) hc) hab);have V1:Vw e1 [some (.lst (ns.map D.int)),nD k,some (.int a),none]:=V1;obtain⟨z,hz⟩:∃ z:Int,kY .Pow (.int 2) (.int 60)=some (.int z):=⟨_,rfl⟩;have cnd:aF (T (n+1)) (.cmp .Lt (.var 2) (.bin .Pow (.cst (.int (2))) (.cst (.int (60))))) e1 (.bl (decide (a<z))):=aF.cmp (V1.var (i:=2) rfl) (aF.bin (aF.cst _) (aF.cst _) hz) rfl;obtain⟨e2,q2,⟨a2,v3,ha2,V2⟩⟩:=mY (t:=.nm 3) (R:=[]) (b:=aD (T (n+1)) (.cons (.asg (.nm 2) (.bin .Add (.bin .Mult (.var 2) (.cst (.int (536870912)))) (.call 20 (.cons (.var 2) (.cons (.bin .Add (.var 1) (.var 3)) .nil)))) false) .nil)) (fun _ env=>∃ a v3,0≤a∧Vw env [some (.lst (ns.map D.int)),nD k,some (.int a),v3]) ((List.range 12).map fun (k:Nat)=>D.int (k:Int)) 0 e1 ⟨a,none,ha,V1⟩ (fun i d e hd J=>by
  obtain⟨hi,rfl⟩:=jQ hd;obtain⟨a,v3,ha,W⟩:=J;obtain⟨d1,b1,W1⟩:=W.bind (i:=3) (show (3:Nat)<4 by decide) [] (.int (i:Int));have W1:Vw d1 [some (.lst (ns.map D.int)),nD k,some (.int a),nD i]:=W1;obtain⟨m,hm0,hm⟩:=Ez n a ((k:Int)+(i:Int));obtain⟨d2,b2,W2⟩:=W1.asg (T:=T (n+1)) (i:=2) (show (2:Nat)<4 by decide) (aF.bin (op:=.Add) (aF.bin (op:=.Mult) (W1.var (i:=2) rfl) (aF.cst (.int 536870912)) (Ar a)) (aF.be (W1.var (i:=2) rfl) (aF.bin (op:=.Add) (W1.var (i:=1) rfl) (W1.var (i:=3) rfl) (z:=.int ((k:Int)+(i:Int))) rfl) hm) (z:=.int (a*536870912+m)) rfl);refine⟨d1,d2,b1,.inl ?_,a*536870912+m,nD i,by omega,W2⟩;rw[aD,b2,aC];rfl)
 have hit:eW (T (n+1)) (.rng1 (.cst (.int (12)))) e1 = .ok ((List.range 12).map fun (k:Nat)=>D.int (k:Int),[]):=kW (n:=12) (aF.cst _) (by decide);have q2':=bW hit q2;rw[i5];by_cases hh:a<z
 ·obtain⟨fr,h⟩:=mK (V2.var (T:=T (n+1)) (i:=2) rfl);refine⟨a2,ha2,fr,?_⟩;rw[aY (F:=⟨2,4,BY⟩) rfl rfl];show Pc.ret (aD (T (n+1)) BY _)=_;unfold BY;rw[aD,q1,aC,aD,ip cnd,decide_eq_true hh];simp only[if_true];rw[aD,q2',aC,aD,aC];exact h
 ·obtain⟨fr,h⟩:=mK (V1.var (T:=T (n+1)) (i:=2) rfl);refine⟨a,ha,fr,?_⟩;rw[aY (F:=⟨2,4,BY⟩) rfl rfl];show Pc.ret (aD (T (n+1)) BY _)=_;unfold BY;rw[aD,q1,aC,aD,ip cnd,decide_eq_false hh];simp only[Bool.false_eq_true,if_false];rw[aD,aC];exact h
theorem tN {T:Tb}{i:Nat}{env:En}{d:D}(h:env[i]? = some (some (d,.own))) (hf:d.flat=false):Pc.ret (aD T (.cons (.ret (.var i)) .nil) env) = .ok (d,true):=by
 simp[aD,bA,ev,h,aN,hf,fB,Pc.ret,bZ]
noncomputable abbrev EG (c0 c1:Int) (m:Nat) (r:List Nat) (o3 o4:Slot):En:=[some (.lst [.int c0,.int c1],.sh []),sN m,oG r,o3,o4]
noncomputable def CO:bJ:=(.cons (.ite (.cmp .Eq (.bin .Mod (.var 4) (.cst (.int (40)))) (.cst (.int (0)))) (.cons (.asg (.nm 3) (.ix (.var 0) (.bin .FloorDiv (.var 4) (.cst (.int (40))))) false)
  .nil) .nil)
  (.cons (.mut 2 .none .append (.cons (.bin .Mod (.var 3) (.cst (.int (64)))) .nil))
  (.cons (.asg (.nm 3) (.bin .FloorDiv (.var 3) (.cst (.int (64)))) false)
  .nil)))
theorem h30 (n:Nat) (c0 c1:Int) {m:Nat}(hm:m≤62):∃ gs,Gr gs∧gs.length=m∧(T (n+1)).cl 30 [.lst [.int c0,.int c1],.int (m:Int)] = .ok (.lst (gD gs),true):=by
 have hst:aE [.lst [.int c0,.int c1],.int (m:Int)] 5=[some (.lst [.int c0,.int c1],.sh []),sN m,none,none,none]:=rfl;have te:∀{r:List Nat}{o3 o4:Slot},bK o3→bK o4→Tame (EG c0 c1 m r o3 o4):=fun a b=>.cons (aI _) (.cons (aB _) (.cons (aB _) (.cons a (.cons b .nil))))
 have s1:bA (T n) (.asg (.nm 2) (.lst .nil) false) [some (.lst [.int c0,.int c1],.sh []),sN m,none,none,none] = .nx (EG c0 c1 m [] none none):=by
  refine aX (.cons (aI _) (.cons (aB _) (.cons aG (.cons aG (.cons aG .nil))))) (by simp) ?_;rw[ev,bM,aA];rfl
 have s2:bA (T n) (.asg (.nm 3) (.cst (.int (0))) false) (EG c0 c1 m [] none none) = .nx (EG c0 c1 m [] (sI 0) none):=aX (te aG aG) (by simp) rfl;obtain⟨e,q,⟨r,x,o4,t4,gr,lr,rfl⟩⟩:=mY (t:=.nm 4) (R:=[]) (b:=aD (T n) CO) (fun k env=>∃ r x o4,bK o4∧Gr r∧(k≤m→r.length=k)∧env=EG c0 c1 m r (sI x) o4) ((List.range m).map fun (k:Nat)=>D.int (k:Int)) 0 (EG c0 c1 m [] (sI 0) none) ⟨[],0,none,aG,Gr.nil,fun _=>rfl,rfl⟩ (fun i d e hd J=>by
  obtain⟨hi,rfl⟩:=jQ hd;rw[Nat.zero_add] at J ⊢;obtain⟨r,x,o4,t4,gr,lr,rfl⟩:=J;have lr:=lr (by omega);have hb:aS [] (.nm 4) (.int (i:Int)) (EG c0 c1 m r (sI x) o4)=some (EG c0 c1 m r (sI x) (sN i)):=dN (te (aB _) t4) (by simp);refine⟨EG c0 c1 m r (sI x) (sN i),?_⟩;have c1':aF (T n) (.cmp .Eq (.bin .Mod (.var 4) (.cst (.int (40)))) (.cst (.int (0)))) (EG c0 c1 m r (sI x) (sN i)) (.bl (((i:Int)%40)==0)):=aF.cmp (aF.bin (op:=.Mod) ⟨_,(aH rfl rfl:ev (T n) (.var 4) (EG c0 c1 m r (sI x) (sN i)) = .ok (.int (i:Int),.mv []))⟩ (aF.cst _) (z:=.int ((i:Int)%40)) rfl) (aF.cst _) rfl;obtain⟨x',hx'⟩:∃ x':Int,bA (T n) (.ite (.cmp .Eq (.bin .Mod (.var 4) (.cst (.int (40)))) (.cst (.int (0)))) (.cons (.asg (.nm 3) (.ix (.var 0) (.bin .FloorDiv (.var 4) (.cst (.int (40))))) false) .nil) .nil) (EG c0 c1 m r (sI x) (sN i)) = .nx (EG c0 c1 m r (sI x') (sN i)):=by
   rw[ip c1'];cases hc:(((i:Int)%40)==0) with
   |false=>exact⟨x,rfl⟩
   |true =>
    simp only[if_true];have v0:ev (T n) (.var 0) (EG c0 c1 m r (sI x) (sN i)) = .ok (.lst [.int c0,.int c1],.sh []):=rfl;have v4:ev (T n) (.var 4) (EG c0 c1 m r (sI x) (sN i)) = .ok (.int (i:Int),.mv []):=aH rfl rfl;have f:ev (T n) (.bin .FloorDiv (.var 4) (.cst (.int (40)))) (EG c0 c1 m r (sI x) (sN i)) = .ok (.int ((i:Int) / 40),.mv []):=by
     rw[ev,v4,aA,ev,aA,aL];rfl
    have:(i:Int) / 40=0∨(i:Int) / 40=1:=by omega
    rcases this with h | h
    ·have e:ev (T n) (.ix (.var 0) (.bin .FloorDiv (.var 4) (.cst (.int (40))))) (EG c0 c1 m r (sI x) (sN i)) = .ok (.int c0,.mv []):=by
      rw[ev,v0,aA,f,aA,h];rfl
     refine⟨c0,?_⟩;rw[aD,aX (te (aB _) (aB _)) (by simp) e,aC];rfl
    ·have e:ev (T n) (.ix (.var 0) (.bin .FloorDiv (.var 4) (.cst (.int (40))))) (EG c0 c1 m r (sI x) (sN i)) = .ok (.int c1,.mv []):=by
      rw[ev,v0,aA,f,aA,h];rfl
     refine⟨c1,?_⟩;rw[aD,aX (te (aB _) (aB _)) (by simp) e,aC];rfl
  have h0:0≤x'%64:=Int.emod_nonneg _ (by decide);have h1:x'%64<64:=fk _ (by decide);have e1:ev (T n) (.bin .Mod (.var 3) (.cst (.int (64)))) (EG c0 c1 m r (sI x') (sN i)) = .ok (.int (((x'%64).toNat:Nat):Int),.mv []):=by
   have v3:ev (T n) (.var 3) (EG c0 c1 m r (sI x') (sN i)) = .ok (.int x',.mv []):=aH rfl rfl;rw[ev,v3,aA,ev,aA,aL,Int.toNat_of_nonneg h0];rfl
  have a1:=Ax (T:=T n) (x:=2) (te (r:=r) (aB (.int x')) (aB (.int (i:Int)))) rfl e1 (by rw[aZ];exact cU (by omega));have e2:ev (T n) (.bin .FloorDiv (.var 3) (.cst (.int (64)))) (EG c0 c1 m (r ++ [(x'%64).toNat]) (sI x') (sN i)) = .ok (.int (x' / 64),.mv []):=by
   have v3:ev (T n) (.var 3) (EG c0 c1 m (r ++ [(x'%64).toNat]) (sI x') (sN i)) = .ok (.int x',.mv []):=aH rfl rfl;rw[ev,v3,aA,ev,aA,aL];rfl
  have a2:=aX (T:=T n) (i:=3) (te (r:=r ++ [(x'%64).toNat]) (aB (.int x')) (aB (.int (i:Int)))) (by simp) e2;have a1':bA (T n) (.mut 2 .none .append (.cons (.bin .Mod (.var 3) (.cst (.int (64)))) .nil)) (EG c0 c1 m r (sI x') (sN i)) = .nx (EG c0 c1 m (r ++ [(x'%64).toNat]) (sI x') (sN i)):=by
   rw[a1];show Fl.nx _=Fl.nx [some (.lst [.int c0,.int c1],.sh []),sN m,some (.lst (gD (r ++ [(x'%64).toNat])),.own),sI x',sN i];rw[gC];rfl
  refine⟨EG c0 c1 m (r ++ [(x'%64).toNat]) (sI (x' / 64)) (sN i),hb,.inl ?_,r ++ [(x'%64).toNat],x' / 64,sN i,aB _,gr.append (.cons (by omega) .nil),fun _=>by simp[lr],rfl⟩;unfold CO;rw[aD,hx',aC,aD,a1',aC,aD,a2,aC];rfl)
 have hit:eW (T n) (.rng1 (.var 1)) (EG c0 c1 m [] (sI 0) none) = .ok ((List.range m).map fun (k:Nat)=>D.int (k:Int),[]):=kW ⟨_,(aH rfl rfl:ev (T n) (.var 1) (EG c0 c1 m [] (sI 0) none) = .ok (.int (m:Int),.mv []))⟩ (by omega);have q':=bW hit q;simp only[List.length_map,List.length_range,Nat.zero_add] at lr;refine⟨r,gr,lr (aw _),?_⟩;rw[i5,aY (F:=⟨2,5,b30⟩) rfl rfl,hst];show Pc.ret (aD (T n) (.cons (.asg (.nm 2) (.lst .nil) false) (.cons (.asg (.nm 3) (.cst (.int (0))) false) (.cons (.forr (.nm 4) (.rng1 (.var 1)) CO) (.cons (.ret (.var 2)) .nil)))) _)=_;rw[aD,s1,aC,aD,s2,aC,aD,q',aC];exact tN (i:=2) (d:=.lst (gD r)) rfl rfl
end K16
end
section
namespace K16
open PySem Pc Pc.Sm Pc.Gr Pc.Lw Pc.Vw Fl64 Md
theorem dR {T:Tb}{env:En}{op:Operator}{a b:Ex}{x y z:Int}(h:aF T a env (.int x)) (h':aF T b env (.int y)) (e:Pc.binI op x y=some z):ev T (.bin op a b) env = .ok (.int z,.mv []):=by
 obtain⟨R,h⟩:=h;obtain⟨R',h'⟩:=h';rw[ev,h,aA,h',aA,aL,e];rfl
noncomputable abbrev Tr:=Nat×Nat×Nat
noncomputable def jy (ts:List Tr):List (Int×MV):=ts.map fun t=>((t.1:Int),MV.tup [(t.2.1:Int),(t.2.2:Int)])
noncomputable def cost (ts:List Tr):Nat:=(ts.map fun t=>3 - t.2.1).sum
structure BI (n c:Nat) (ts:List Tr):Prop where
 nd:(ts.map (·.1)).Nodup
 ok:∀ t∈ts,t.1<n∧(t.2.1=1∨t.2.1=2)∧t.2.2<64
 le:cost ts≤c
theorem sQ (ts:List Tr) (p:Nat):((jy ts).any fun q=>decide (q.1=(p:Int)))=(ts.map (·.1)).contains p:=by
 induction ts with
 |nil=>rfl
 |cons t r ih =>
  show (decide ((t.1:Int)=(p:Int)) || (jy r).any _)=(t.1::r.map (·.1)).contains p;rw[ih,List.contains_cons];congr 1;rw[Bool.eq_iff_iff];simp;omega
theorem AN {ts:List Tr}{p w g:Nat}(h:(ts.map (·.1)).contains p=false):sJ (jy ts) (p:Int) (.tup [(w:Int),(g:Int)])=jy (ts ++ [(p,w,g)]):=by
 unfold sJ;rw[sQ,h,if_neg (by decide)];unfold jy;rw[fm];rfl
theorem xV (ts:List Tr) (t:Tr):cost (ts ++ [t])=cost ts+(3 - t.2.1):=by
 unfold cost;rw[List.map_append,List.sum_append];simp
theorem BI.len {n c:Nat}{ts:List Tr}(h:BI n c ts):ts.length≤c:=by
 have:∀ ts:List Tr,(∀ t∈ts,t.2.1=1∨t.2.1=2)→ts.length≤cost ts:=by
  intro ts
  induction ts with
  |nil=>exact fun _=>aw _
  |cons t r ih =>
   intro h;have h1:=ih fun x hx=>h x (aa _ hx)
   have h2:=h t ae;show r.length+1≤(3 - t.2.1)+cost r;omega
 exact cv (this ts fun t ht=>(h.ok t ht).2.1) h.le
noncomputable abbrev EB (x:Int) (n c:Nat) (ts:List Tr) (o5 o6 o7:Slot):En:=[sI x,sN n,sN c,some (.mpi (jy ts),.own),sN (cost ts),o5,o6,o7]
theorem jL {x:Int}{n c:Nat}{ts:List Tr}{o5 o6 o7:Slot}(h5:bK o5) (h6:bK o6) (h7:bK o7):Tame (EB x n c ts o5 o6 o7):=.cons (aB _) (.cons (aB _) (.cons (aB _) (.cons (aB _) (.cons (aB _) (.cons h5 (.cons h6 (.cons h7 .nil)))))))
noncomputable def E6:bJ:=(.cons (.putd 3 (.var 7) (.tup (.cons (.var 6) (.cons (.bin .Mod (.bin .FloorDiv (.var 0) (.bin .Mult (.cst (.int (3))) (.var 1))) (.cst (.int (64)))) .nil))))
  (.cons (.asg (.nm 4) (.bin .Sub (.bin .Add (.var 4) (.cst (.int (3)))) (.var 6)) false)
  .nil))
noncomputable def e29:Ex:=.and (.cmp .Gt (.var 6) (.cst (.int (0)))) (.and (.cmp .NotIn (.var 7) (.var 3)) (.cmp .LtE (.bin .Sub (.bin .Add (.var 4) (.cst (.int (3)))) (.var 6)) (.var 2)))
noncomputable def xx:bJ:=(.cons (.asg (.nm 6) (.bin .Mod (.var 0) (.cst (.int (3)))) false)
  (.cons (.asg (.nm 7) (.bin .Mod (.bin .FloorDiv (.var 0) (.cst (.int (3)))) (.var 1)) false)
  (.cons (.ite e29 E6 .nil)
  (.cons (.asg (.nm 0) (.bin .FloorDiv (.var 0) (.bin .Mult (.cst (.int (192))) (.var 1))) false)
  .nil))))
theorem n4 {a:Int}{n:Nat}(ha:small a=true):Pc.binI .Mult a (n:Int)=some (a*(n:Int)):=by
 show (if (small a || small (n:Int))=true then some (a*(n:Int)) else none)=_;rw[ha,Bool.true_or,if_pos rfl]
theorem yM (T:Tb) {x:Int}{n c k:Nat}{ts:List Tr}(hn:0<n) (hn':n≤63) (hc:c≤62) (h:BI n c ts) {o5 o6 o7:Slot}(h5:bK o5) (h6:bK o6) (h7:bK o7) :
  ∃ x' ts' o6' o7',bK o6'∧bK o7'∧BI n c ts'∧aS [] (.nm 5) (.int (k:Int)) (EB x n c ts o5 o6 o7)=some (EB x n c ts (sN k) o6 o7)∧aD T xx (EB x n c ts (sN k) o6 o7) = .nx (EB x' n c ts' (sN k) o6' o7'):=by
 have w0:0≤x%3:=Int.emod_nonneg _ (by decide);have w1:x%3<3:=fk _ (by decide);obtain⟨w,hw⟩:∃ w:Nat,x%3=(w:Int):=⟨(x%3).toNat,by omega⟩;have p0:0≤x / 3%(n:Int):=Int.emod_nonneg _ (by omega);have p1:x / 3%(n:Int)<(n:Int):=fk _ (by omega);obtain⟨p,hp⟩:∃ p:Nat,x / 3%(n:Int)=(p:Int):=⟨(x / 3%(n:Int)).toNat,by omega⟩;have hpn:p<n:=by omega
 have te1:Tame (EB x n c ts (sN k) o6 o7):=jL (aB _) h6 h7;have v:∀{i:Nat}{d:D}{t:Tg}{env:En},env[i]? = some (some (d,t))→aF T (.var i) env d:=fun h=>sO h
 have s1:bA T (.asg (.nm 6) (.bin .Mod (.var 0) (.cst (.int (3)))) false) (EB x n c ts (sN k) o6 o7) = .nx (EB x n c ts (sN k) (sN w) o7):=aX te1 (by simp) (dR (v rfl) (aF.cst _) (by show (if (0:Int)<3 then some (x%3) else none)=_;rw[if_pos (by decide),hw]));have te2:Tame (EB x n c ts (sN k) (sN w) o7):=jL (aB _) (aB _) h7;have s2:bA T (.asg (.nm 7) (.bin .Mod (.bin .FloorDiv (.var 0) (.cst (.int (3)))) (.var 1)) false) (EB x n c ts (sN k) (sN w) o7) = .nx (EB x n c ts (sN k) (sN w) (sN p)):=aX te2 (by simp) (dR (x:=x / 3) ⟨_,dR (v rfl) (aF.cst _) rfl⟩ (v (i:=1) rfl) (by show (if (0:Int)<(n:Int) then some (x / 3%(n:Int)) else none)=_;rw[if_pos (by omega),hp]));have te3:Tame (EB x n c ts (sN k) (sN w) (sN p)):=jL (aB _) (aB _) (aB _);have ld:aF T (.bin .Sub (.bin .Add (.var 4) (.cst (.int (3)))) (.var 6)) (EB x n c ts (sN k) (sN w) (sN p)) (.int ((cost ts:Int)+3 - (w:Int))):=⟨_,dR (x:=(cost ts:Int)+3) ⟨_,dR (v (i:=4) rfl) (aF.cst _) rfl⟩ (v (i:=6) rfl) rfl⟩;have c0:aF T e29 (EB x n c ts (sN k) (sN w) (sN p)) (.bl (decide ((0:Int)<(w:Int))&&(!((ts.map (·.1)).contains p)&&decide ((cost ts:Int)+3 - (w:Int)≤(c:Int))))):=by
  refine aF.and (k:=decide ((0:Int)<(w:Int))) (aF.cmp (v (i:=6) rfl) (aF.cst _) rfl) (fun hk=>?_) (fun hk=>by rw[hk];rfl);rw[hk,Bool.true_and];refine aF.and (k:=!((ts.map (·.1)).contains p)) (aF.cmp (v (i:=7) rfl) (v (i:=3) rfl) ?_) (fun hk=>?_) (fun hk=>by rw[hk];rfl)
  ·show ((some ((jy ts).any fun q=>decide (q.1=(p:Int)))).map (!·))=_;rw[sQ];rfl
  ·rw[hk,Bool.true_and];exact aF.cmp ld (v (i:=2) rfl) rfl
 have last:∀ ts':List Tr,∃ x',bA T (.asg (.nm 0) (.bin .FloorDiv (.var 0) (.bin .Mult (.cst (.int (192))) (.var 1))) false) (EB x n c ts' (sN k) (sN w) (sN p)) = .nx (EB x' n c ts' (sN k) (sN w) (sN p)):=fun ts'=>by
  refine⟨x / (192*(n:Int)),aX (jL (aB _) (aB _) (aB _)) (by simp) (dR (v (i:=0) rfl) ⟨_,dR (aF.cst _) (v (i:=1) rfl) (n4 rfl)⟩ ?_)⟩;show (if 0<192*(n:Int)∧192*(n:Int)<1073741824 then some (x / (192*(n:Int))) else none)=_;rw[if_pos (by omega)]
 have hb:=dN (d:=.int (k:Int)) (i:=5) (jL (x:=x) (n:=n) (c:=c) (ts:=ts) h5 h6 h7) (by simp);by_cases hk:(decide ((0:Int)<(w:Int))&&(!((ts.map (·.1)).contains p)&&decide ((cost ts:Int)+3 - (w:Int)≤(c:Int))))=true
 ·rw[ax,ax] at hk;have k1:=of_decide_eq_true hk.1;have k2:(ts.map (·.1)).contains p=false:=by simpa using hk.2.1
  have k3:=of_decide_eq_true hk.2.2;have g0:0≤x / (3*(n:Int))%64:=Int.emod_nonneg _ (by decide);have g1:x / (3*(n:Int))%64<64:=fk _ (by decide);obtain⟨g,hg⟩:∃ g:Nat,x / (3*(n:Int))%64=(g:Int):=⟨(x / (3*(n:Int))%64).toNat,by omega⟩;have eg:ev T (.bin .Mod (.bin .FloorDiv (.var 0) (.bin .Mult (.cst (.int (3))) (.var 1))) (.cst (.int (64)))) (EB x n c ts (sN k) (sN w) (sN p)) = .ok (.int (g:Int),.mv []):=dR (x:=x / (3*(n:Int))) ⟨_,dR (v (i:=0) rfl) ⟨_,dR (aF.cst _) (v (i:=1) rfl) (n4 rfl)⟩ (by
   show (if 0<3*(n:Int)∧3*(n:Int)<1073741824 then some (x / (3*(n:Int))) else none)=_;rw[if_pos (by omega)])⟩ (aF.cst _) (by show (if (0:Int)<64 then some (x / (3*(n:Int))%64) else none)=_;rw[if_pos (by decide),hg])
  obtain⟨R,et⟩:=aF.tup2 (v (i:=6) (env:=EB x n c ts (sN k) (sN w) (sN p)) rfl) ⟨_,eg⟩;have pt:=Pc.Nw.wy (T:=T) (x:=3) (m:=.tup [(w:Int),(g:Int)]) te3 rfl (by have:=h.len;unfold jy;rw[aj];exact Nat.lt_of_le_of_lt (cv this hc) (by decide)) (aH rfl rfl:ev T (.var 7) (EB x n c ts (sN k) (sN w) (sN p)) = .ok (.int (p:Int),.mv [])) et rfl;rw[AN k2] at pt;have cw:cost (ts ++ [(p,w,g)])=cost ts+(3 - w):=xV ts (p,w,g);let env4:En:=[sI x,sN n,sN c,some (.mpi (jy (ts ++ [(p,w,g)])),.own),sN (cost ts),sN k,sN w,sN p];have pt:bA T (.putd 3 (.var 7) (.tup (.cons (.var 6) (.cons (.bin .Mod (.bin .FloorDiv (.var 0) (.bin .Mult (.cst (.int (3))) (.var 1))) (.cst (.int (64)))) .nil)))) (EB x n c ts (sN k) (sN w) (sN p)) = .nx env4:=pt;have te4:Tame env4:=.cons (aB _) (.cons (aB _) (.cons (aB _) (.cons (aB _) (.cons (aB _) (.cons (aB _) (.cons (aB _) (.cons (aB _) .nil)))))));have s4:bA T (.asg (.nm 4) (.bin .Sub (.bin .Add (.var 4) (.cst (.int (3)))) (.var 6)) false) env4 = .nx (EB x n c (ts ++ [(p,w,g)]) (sN k) (sN w) (sN p)):=by
   have e:ev T (.bin .Sub (.bin .Add (.var 4) (.cst (.int (3)))) (.var 6)) env4 = .ok (.int ((cost (ts ++ [(p,w,g)]):Nat):Int),.mv []):=dR (x:=(cost ts:Int)+3) ⟨_,dR (v (i:=4) rfl) (aF.cst _) rfl⟩ (v (i:=6) rfl) (by
    show some ((cost ts:Int)+3 - (w:Int))=_;rw[cw];congr 1;omega)
   exact aX te4 (by simp[env4]) e
  obtain⟨x',s5⟩:=last (ts ++ [(p,w,g)]);refine⟨x',ts ++ [(p,w,g)],sN w,sN p,aB _,aB _,⟨?_,fun t ht=>?_,by rw[cw];omega⟩,hb,?_⟩
  ·rw[fm,bt];refine⟨h.nd,by simp,fun a ha b hb' e=>?_⟩;have:b=p:=by simpa using hb'
   subst this;subst e;have:=ef.mpr ha;rw[k2] at this;cases this
  ·rcases bo.mp ht with q | q
   ·exact h.ok t q
   ·obtain rfl:=dh.mp q;exact⟨hpn,by show w=1∨w=2;omega,by show g<64;omega⟩
  ·unfold xx;rw[aD,s1,aC,aD,s2,aC,aD,ip c0,hk.1,hk.2.1,hk.2.2];simp only[Bool.and_self,if_true];unfold E6;rw[aD,pt,aC,aD,s4,aC,aD,aC,aD,s5,aC];rfl
 ·obtain⟨x',s5⟩:=last ts;refine⟨x',ts,sN w,sN p,aB _,aB _,h,hb,?_⟩;unfold xx;rw[aD,s1,aC,aD,s2,aC,aD,ip c0,(Bool.not_eq_true _).mp hk];simp only[Bool.false_eq_true,if_false];rw[aD,aC,aD,s5,aC];rfl
theorem h29 (m:Nat) (x:Int) {n c:Nat}(hn:0<n) (hn':n≤63) (hc:c≤62):∃ ts,BI n c ts∧(T (m+1)).cl 29 [.int x,.int (n:Int),.int (c:Int)] = .ok (.mpi (jy ts),true):=by
 have hst:aE [.int x,.int (n:Int),.int (c:Int)] 8=[sI x,sN n,sN c,none,none,none,none,none]:=rfl;have tn:=aG;have s1:bA (T m) (.asg (.nm 3) .dnew false) [sI x,sN n,sN c,none,none,none,none,none] = .nx [sI x,sN n,sN c,some (.mpi [],.own),none,none,none,none]:=aX (.cons (aB _) (.cons (aB _) (.cons (aB _) (.cons tn (.cons tn (.cons tn (.cons tn (.cons tn .nil)))))))) (by simp) (by rw[ev]);have s2:bA (T m) (.asg (.nm 4) (.cst (.int (0))) false) [sI x,sN n,sN c,some (.mpi [],.own),none,none,none,none] = .nx (EB x n c [] none none none):=aX (.cons (aB _) (.cons (aB _) (.cons (aB _) (.cons (aB _) (.cons tn (.cons tn (.cons tn (.cons tn .nil)))))))) (by simp) rfl;obtain⟨e,q,⟨x',ts,o5,o6,o7,t5,t6,t7,inv,rfl⟩⟩:=mY (t:=.nm 5) (R:=[]) (b:=aD (T m) xx) (fun k env=>∃ x ts o5 o6 o7,bK o5∧bK o6∧bK o7∧BI n c ts∧env=EB x n c ts o5 o6 o7) ((List.range c).map fun (k:Nat)=>D.int (k:Int)) 0 (EB x n c [] none none none) ⟨x,[],none,none,none,tn,tn,tn,⟨c7,fun t ht=>(nomatch ht),de _⟩,rfl⟩ (fun i d e hd J=>by
  obtain⟨hi,rfl⟩:=jQ hd;obtain⟨x,ts,o5,o6,o7,t5,t6,t7,inv,rfl⟩:=J;obtain⟨x',ts',o6',o7',t6',t7',inv',b1,b2⟩:=yM (T m) (k:=i) hn hn' hc inv t5 t6 t7;exact⟨_,_,b1,.inl b2,x',ts',sN i,o6',o7',aB _,t6',t7',inv',rfl⟩)
 have hit:eW (T m) (.rng1 (.var 2)) (EB x n c [] none none none) = .ok ((List.range c).map fun (k:Nat)=>D.int (k:Int),[]):=kW ⟨_,(aH rfl rfl:ev (T m) (.var 2) (EB x n c [] none none none) = .ok (.int (c:Int),.mv []))⟩ (by omega);have q':=bW hit q;refine⟨ts,inv,?_⟩;rw[i5,aY (F:=⟨3,8,b29⟩) rfl rfl,hst];show Pc.ret (aD (T m) (.cons (.asg (.nm 3) .dnew false) (.cons (.asg (.nm 4) (.cst (.int (0))) false) (.cons (.forr (.nm 5) (.rng1 (.var 2)) xx) (.cons (.ret (.var 3)) .nil)))) _)=_;rw[aD,s1,aC,aD,s2,aC,aD,q',aC];rw[tN (i:=3) (d:=.mpi (jy ts)) rfl rfl]
end K16
end
section
namespace K16
open PySem Pc Pc.Sm Pc.Gr Pc.Lw Pc.Vw Fl64 Md
structure Case (c:Nat) (row sp W M:List Nat):Prop where
 c26:c≤26
 gr:Gr row
 gs:Gr sp
 len:sp.length=row.length
 l63:row.length≤63
 code:pW row c
 nd:M.Nodup
 lt:∀ p∈M,p<row.length
 wr:W=cL sp row M
 le:2*W.length+M.length≤c
noncomputable abbrev BU (c:Nat) (row sp W M:List Nat):D:=.tup [.int (c:Int),.lst (gD row),.lst (gD sp),.lst (gD W),.lst (gD M)]
noncomputable def fU (ts:List Tr):List Nat:=ts.map (·.1)
theorem tQ (ts:List Tr):((jy ts).map fun q=>D.int q.1)=gD (fU ts):=by
 unfold jy fU gD;rw[bq,bq];rfl
theorem gH:∀{ts:List Tr},(ts.map (·.1)).Nodup→∀ t∈ts,ts.find? (fun q=>decide (q.1=t.1))=some t
 |[],_,t,h=>by cases h
 | a::ts,hn,t,h=>by
  have hn':=dk.mp hn;rw[List.find?_cons];rcases az.mp h with rfl | h
  ·rw[decide_eq_true rfl]
  ·have:a.1≠t.1:=fun e=>hn'.1 (by show a.1∈_;rw[e];exact List.mem_map_of_mem h)
   rw[decide_eq_false this];exact gH hn'.2 t h
theorem BM {ts:List Tr}(hn:(ts.map (·.1)).Nodup) {t:Tr}(h:t∈ts):Br (.mpz (jy ts)) (.int (t.1:Int))=some (.tup [.int (t.2.1:Int),.int (t.2.2:Int)]):=by
 show ((jy ts).find? fun q=>decide (q.1=(t.1:Int))).map (fun q=>mvD q.2)=_;unfold jy;rw[List.find?_map];have e:((fun q:Int×MV=>decide (q.1=(t.1:Int)))∘fun t:Tr=>((t.1:Int),MV.tup [(t.2.1:Int),(t.2.2:Int)]))=fun q:Tr=>decide (q.1=t.1):=by
  funext q;show decide ((q.1:Int)=(t.1:Int))=decide (q.1=t.1);rw[decide_eq_decide];omega
 rw[e,gH hn t h];rfl
noncomputable def qa (ts:List Tr) (p:Nat):Nat:=((ts.find? fun q=>decide (q.1=p)).map (·.2.1)).getD 0
theorem pV {ts:List Tr}(hn:(ts.map (·.1)).Nodup) {t:Tr}(h:t∈ts):qa ts t.1=t.2.1:=by
 unfold qa;rw[gH hn t h];rfl
noncomputable def jI (ts:List Tr) (w:Nat):List Nat:=(fU ts).filter fun p=>qa ts p==w
theorem ph {ts:List Tr}(hn:(ts.map (·.1)).Nodup) (w:Nat):jI ts w=(ts.filter fun t=>t.2.1==w).map (·.1):=by
 unfold jI fU;rw[List.filter_map];congr 1;refine List.filter_congr fun t ht=>?_
 show (qa ts t.1==w)=_;rw[pV hn ht]
theorem lF {ts:List Tr}(hn:(ts.map (·.1)).Nodup) {w p:Nat}:p∈jI ts w↔∃ t∈ts,t.1=p∧t.2.1=w:=by
 rw[ph hn,au];constructor
 ·rintro⟨t,h,rfl⟩;have:=cm.mp h;exact⟨t,this.1,rfl,by simpa using this.2⟩
 ·rintro⟨t,h,rfl,e⟩;exact⟨t,List.mem_filter.mpr ⟨h,by simpa using e⟩,rfl⟩
theorem mj {ts:List Tr}(hn:(ts.map (·.1)).Nodup) (w:Nat):(jI ts w).Nodup:=List.Pairwise.filter _ hn
theorem oO:∀(ts:List Tr),(∀ t∈ts,t.2.1=1∨t.2.1=2)→2*(ts.filter fun t=>t.2.1==1).length+(ts.filter fun t=>t.2.1==2).length=cost ts
 |[],_=>rfl
 | t::ts,h=>by
  have ih:=oO ts fun x hx=>h x (aa _ hx)
  have e:cost (t::ts)=(3 - t.2.1)+cost ts:=rfl;rw[e,List.filter_cons,List.filter_cons];rcases h t ae with w | w
  ·rw[w];simp only[show ((1:Nat)==1)=true from rfl,show ((1:Nat)==2)=false from rfl,if_true,Bool.false_eq_true,if_false,List.length_cons];omega
  ·rw[w];simp only[show ((2:Nat)==1)=false from rfl,show ((2:Nat)==2)=true from rfl,if_true,Bool.false_eq_true,if_false,List.length_cons];omega
structure GJ (row:List Nat) (S:List Tr) (l:List Nat):Prop where
 gr:Gr l
 len:l.length=row.length
 ne:∀ t∈S,t.2.1=1→l.getD t.1 0≠row.getD t.1 0
 eq:∀ p,p∉S.map (·.1)→l.getD p 0=row.getD p 0
theorem qG {c:Nat}{row sp:List Nat}{ts:List Tr}(h:BI row.length c ts) (i:GJ row ts sp) (c26:c≤26) (gr:Gr row) (l63:row.length≤63) (code:pW row c):Case c row sp (cY (jI ts 1)) (cY (jI ts 2)):=by
 have p1:=dS (jI ts 1);have p2:=dS (jI ts 2);refine⟨c26,gr,i.gr,i.len,l63,code,p2.nodup_iff.mpr (mj h.nd 2),fun p hp=>?_,?_,?_⟩
 ·obtain⟨t,ht,rfl,_⟩:=(lF h.nd).mp (p2.mem_iff.mp hp);exact (h.ok t ht).1
 ·refine sj (ot (mj h.nd 1)) (lO _ _ _) fun p=>?_
  rw[p1.mem_iff,lF h.nd];unfold cL;rw[cm,fb];simp only[Bool.and_eq_true,Bool.not_eq_true',bne_iff_ne,ne_eq];have c2:(cY (jI ts 2)).contains p=false↔¬ ∃ t∈ts,t.1=p∧t.2.1=2:=by
   rw[←Bool.not_eq_true,ef,p2.mem_iff,lF h.nd]
  rw[c2];constructor
  ·rintro⟨t,ht,rfl,e⟩;refine⟨by rw[i.len];exact (h.ok t ht).1,?_,fun q=>i.ne t ht e q.symm⟩;rintro⟨u,hu,e1,e2⟩;have a:=gH h.nd t ht;have b:=gH h.nd u hu;rw[e1,a] at b;cases b;omega
  ·rintro⟨_,n2,ne⟩;by_cases hp:p∈ts.map (·.1)
   ·obtain⟨t,ht,rfl⟩:=au.mp hp;rcases (h.ok t ht).2.1 with w | w
    ·exact⟨t,ht,rfl,w⟩
    ·exact absurd ⟨t,ht,rfl,w⟩ n2
   ·exact absurd (i.eq p hp).symm ne
 ·rw[p1.length_eq,p2.length_eq,ph h.nd,ph h.nd,aj,aj,oO ts fun t ht=>(h.ok t ht).2.1];exact h.le
noncomputable def As:bJ:=(.cons (.asg (.tp [8,9]) (.ix (.var 5) (.var 7)) false)
  (.cons (.setix 6 .none (.var 7) (.ix (.lst (.cons (.bin .BitXor (.ix (.var 6) (.var 7)) (.bin .Add (.cst (.int (1))) (.bin .Mod (.var 9) (.cst (.int (63)))))) (.cons (.var 9) .nil))) (.bin .Sub (.var 8) (.cst (.int (1))))))
  .nil))
theorem hX {ts:List Tr}{k:Nat}{t:Tr}(h:ts[k]? = some t) {u:Tr}:u∈ts.take (k+1)↔u∈ts.take k∨u=t:=by
 rw[List.take_succ,h,bo];simp
theorem wq (T:Tb) {v0 v1 v2 v3 v4 v7 v8 v9 v10 v11:Option (D×Bool)}{n c:Nat}{ts:List Tr}(hb:BI n c ts) {row l:List Nat}(hrow:row.length=n) (l63:row.length≤63) {k:Nat}{t:Tr}(ht:ts[k]? = some t) (i:GJ row (ts.take k) l) {env:En}(V:Tv env [v0,v1,v2,v3,v4,some (.mpz (jy ts),true),some (.lst (gD l),true),v7,v8,v9,v10,v11]) :
  ∃ l' e1 e2 v7' v8' v9',GJ row (ts.take (k+1)) l'∧aS [] (.nm 7) (.int (t.1:Int)) env=some e1∧aD T As e1 = .nx e2∧Tv e2 [v0,v1,v2,v3,v4,some (.mpz (jy ts),true),some (.lst (gD l'),true),v7',v8',v9',v10,v11]:=by
 obtain⟨e1,q1,V1⟩:=V.bindN (i:=7) (show (7:Nat)<12 by decide) (t.1:Int);have hm:t∈ts:=bu ht;obtain⟨o1,o2,o3⟩:=hb.ok t hm;have a2:ev T (.ix (.var 5) (.var 7)) e1 = .ok (.tup [.int (t.2.1:Int),.int (t.2.2:Int)],.mv []):=ixM (aF.ix (V1.var (i:=5) rfl) (V1.var (i:=7) rfl) (BM hb.nd hm)) rfl;obtain⟨e2,q2,V2⟩:=V1.asg2 (i:=8) (j:=9) (show (8:Nat)<12 by decide) (show (9:Nat)<12 by decide) a2;have V2:Tv e2 [v0,v1,v2,v3,v4,some (.mpz (jy ts),true),some (.lst (gD l),true),some (.int (t.1:Int),true),some (.int (t.2.1:Int),true),some (.int (t.2.2:Int),true),v10,v11]:=V2;have pl:t.1<l.length:=by rw[i.len,hrow];exact o1
 have x1:aF T (.bin .Add (.cst (.int (1))) (.bin .Mod (.var 9) (.cst (.int (63))))) e2 (.int ((1+t.2.2%63:Nat):Int)):=aF.bin (aF.cst _) (aF.bin (V2.var (i:=9) rfl) (aF.cst _) (z:=.int ((t.2.2:Int)%63)) rfl) (by
  show some (D.int (1+(t.2.2:Int)%63))=_;congr 2)
 have x2:aF T (.bin .BitXor (.ix (.var 6) (.var 7)) (.bin .Add (.cst (.int (1))) (.bin .Mod (.var 9) (.cst (.int (63)))))) e2 (.int ((l.getD t.1 0^^^(1+t.2.2%63):Nat):Int)):=aF.xor (aF.ix (V2.var (i:=6) rfl) (V2.var (i:=7) rfl) (kX pl)) x1;have x3:aF T (.bin .Sub (.var 8) (.cst (.int (1)))) e2 (.int ((t.2.1 - 1:Nat):Int)):=aF.bin (V2.var (i:=8) rfl) (aF.cst _) (by
  show some (D.int ((t.2.1:Int) - 1))=_;congr 2;omega)
 have gl:l.getD t.1 0<64:=dF i.gr _;have np:t.1∉(ts.take k).map (·.1):=fun h=>by
  obtain⟨u,hu,e⟩:=au.mp h;obtain⟨j,hj,e'⟩:=List.mem_iff_getElem.mp hu;rw[List.getElem_take] at e';have hj':j<k:=by rw[eh] at hj;omega
  obtain⟨hk,ek⟩:=ak.mp ht;have:=List.pairwise_iff_getElem.mp hb.nd j k (by rw[aj];omega) (by rw[aj];exact hk) hj';rw[List.getElem_map,List.getElem_map,e',ek] at this;exact this e
 obtain⟨z,hz,hne,ez⟩:∃ z:Nat,z<64∧(t.2.1=1→z≠row.getD t.1 0)∧aF T (.ix (.lst (.cons (.bin .BitXor (.ix (.var 6) (.var 7)) (.bin .Add (.cst (.int (1))) (.bin .Mod (.var 9) (.cst (.int (63)))))) (.cons (.var 9) .nil))) (.bin .Sub (.var 8) (.cst (.int (1))))) e2 (.int (z:Int)):=by
  rcases o2 with w | w
  ·refine⟨l.getD t.1 0^^^(1+t.2.2%63),aT gl (by omega),fun _=>?_,aF.ix (aF.lst2 x2 (V2.var (i:=9) rfl)) x3 (by rw[w];rfl)⟩;rw[←i.eq _ np];exact wc (by omega)
  ·exact⟨t.2.2,o3,fun h=>by omega,aF.ix (aF.lst2 x2 (V2.var (i:=9) rfl)) x3 (by rw[w];rfl)⟩
 obtain⟨e3,q3,V3⟩:=V2.setg (x:=6) rfl (V2.var (i:=7) rfl) pl (by rw[i.len];omega) (ixM ez rfl);refine⟨l.set t.1 z,e1,e3,_,_,_,⟨sX i.gr hz,by rw[ay,i.len],fun u hu hw=>?_,fun p hp=>?_⟩,q1,?_,V3⟩
 ·rcases (hX ht).mp hu with h | rfl
  ·have:u.1≠t.1:=fun e=>np (by rw[←e];exact List.mem_map_of_mem h)
   rw[gx this];exact i.ne u h hw
  ·rw[nH pl];exact hne hw
 ·have h1:p≠t.1:=fun e=>hp (by rw[e];exact List.mem_map_of_mem ((hX ht).mpr (.inr rfl)))
  rw[gx h1];refine i.eq p fun h=>hp ?_
  obtain⟨u,hu,e⟩:=au.mp h;exact au.mpr ⟨u,(hX ht).mpr (.inl hu),e⟩
 ·unfold As;rw[aD,q2,aC,aD,q3,aC];rfl
end K16
end
section
namespace K16
open PySem Pc Pc.Sm Pc.Gr Pc.Lw Pc.Vw Fl64 Md
theorem sq {T:Tb}{env e:En}{s:St}{r:bJ}{x:Rs (D×Bool)}(h:bA T s env = .nx e) (h':Pc.ret (aD T r e)=x):Pc.ret (aD T (.cons s r) env)=x:=by
 rw[aD,h,aC];exact h'
theorem iS {T:Tb}{env:En}{a:Ex}{x:Nat}(b:Nat) (hb:0<b) (hb':b<1000) (h:aF T a env (.int (x:Int))):aF T (.bin .FloorDiv a (.cst (.int (b:Int)))) env (.int ((x / b:Nat):Int)):=aF.bin h (aF.cst _) (by
 rw[aL];show ((if 0<(b:Int)∧(b:Int)<1073741824 then some ((x:Int) / (b:Int)) else none).map D.int)=_;rw[if_pos (by omega),Int.natCast_ediv];rfl)
theorem hU {T:Tb}{env:En}{a e:Ex}{x b:Nat}(hb:0<b) (h:aF T a env (.int (x:Int))) (h':aF T e env (.int (b:Int))):aF T (.bin .Mod a e) env (.int ((x%b:Nat):Int)):=aF.bin h h' (by
 rw[aL];show ((if 0<(b:Int) then some ((x:Int)%(b:Int)) else none).map D.int)=_;rw[if_pos (by omega),Int.natCast_emod];rfl)
theorem mO {T:Tb}{env:En}{a e:Ex}{x b:Nat}(h:aF T a env (.int (x:Int))) (h':aF T e env (.int (b:Int))):aF T (.bin .Add a e) env (.int ((x+b:Nat):Int)):=aF.bin h h' (by
 show some (D.int ((x:Int)+(b:Int)))=_;congr 2)
theorem vX {T:Tb}{env:En}{a e:Ex}{x b:Nat}(hb:b≤x) (h:aF T a env (.int (x:Int))) (h':aF T e env (.int (b:Int))):aF T (.bin .Sub a e) env (.int ((x - b:Nat):Int)):=aF.bin h h' (by
 show some (D.int ((x:Int) - (b:Int)))=_;congr 2;omega)
theorem lit {T:Tb}{env:En}(b:Nat):aF T (.cst (.int (b:Int))) env (.int (b:Int)):=aF.cst _
theorem Az {ts:List Tr}{i:Nat}{d:D}(hd:(gD (fU ts))[i]? = some d):∃ t,ts[i]? = some t∧d = .int (t.1:Int):=by
 unfold gD fU at hd;rw[av,av] at hd;cases q:ts[i]? with
 |none=>rw[q] at hd;cases hd
 |some t=>rw[q] at hd;cases hd;exact⟨t,rfl,rfl⟩
theorem tL {T:Tb}{env:En}{vs:List (Option (D×Bool))}(V:Tv env vs) {n c:Nat}{ts:List Tr}(hb:BI n c ts) (hc:c≤26) (h5:vs[5]? = some (some (.mpz (jy ts),true))) (w:Nat) :
  ev T (.blt .sorted (.cons (.comp 1 [5] (.nm 0) (.seq (.var 5)) (.some (.cmp .Eq (.ix (.ix (.var 1) (.var 0)) (.cst (.int (0)))) (.cst (.int (w:Int))))) (.var 0)) .nil)) env = .ok (.lst (gD (cY (jI ts w))),.mv []):=by
 have hl:=hb.len;have hit:eW T (.seq (.var 5)) env = .ok (gD (fU ts),[]):=by
  rw[eW,rY (V.var (i:=5) h5) rfl,aA];show (Rs.ok ((jy ts).map fun q=>D.int q.1)).bind _=_;rw[aA,tQ];rfl
 have h5':(vs.map fun o=>o.map (·.1))[5]? = some (some (.mpz (jy ts))):=by rw[av,h5];rfl
 have pk:∀(j:Nat) (d:D),[some (D.mpz (jy ts))][j]? = some (some d)→∃ i,[5][j]? = some i∧(vs.map fun o=>o.map (·.1))[i]? = some (some d):=fun j d e=>by
  cases j with
  |zero=>exact⟨5,rfl,by rw[h5'];exact e⟩
  |succ j=>cases e
 have c1:aF T (.comp 1 [5] (.nm 0) (.seq (.var 5)) (.some (.cmp .Eq (.ix (.ix (.var 1) (.var 0)) (.cst (.int (0)))) (.cst (.int (w:Int))))) (.var 0)) env (.lst (gD (jI ts w))):=p3 hit (by unfold fU;rw[aj];omega) (fun a ha=>by
  obtain⟨_,W⟩:=V.vw.picked (pick:=[5]) (ws:=[some (D.mpz (jy ts))]) pk rfl (.int (a:Int));obtain⟨t,ht,rfl⟩:=au.mp ha;refine aF.cmp (aF.ix (aF.ix (W.var (i:=1) rfl) (W.var (i:=0) rfl) (BM hb.nd ht)) (aF.cst _) (z:=.int (t.2.1:Int)) rfl) (aF.cst _) ?_;show some ((t.2.1:Int)==(w:Int))=some (qa ts t.1==w);rw[pV hb.nd ht];congr 1;rw[Bool.eq_iff_iff];simp;omega) (V.vw.picked (pick:=[5]) (ws:=[some (D.mpz (jy ts))]) pk rfl .non).1
 exact yj (aF.sorted c1 (by
  have:(jI ts w).length≤(fU ts).length:=fh _ _;unfold fU at this;rw[aj] at this;omega)) (j3 _)
theorem h31 (m:Nat) (ns:List Int):∃ c row sp W M,Case c row sp W M∧∃ fr,(T (m+3)).cl 31 [.lst (ns.map D.int)] = .ok (BU c row sp W M,fr):=by
 have V0:Tv (aE [.lst (ns.map D.int)] 12) [some (.lst (ns.map D.int),false),none,none,none,none,none,none,none,none,none,none,none]:=Tv.start _ 12;have hg:∀ k:Nat,∃ v:Nat,∃ fr,(T (m+2)).cl 28 [.lst (ns.map D.int),.int (k:Int)] = .ok (.int (v:Int),fr):=fun k=>by
  obtain⟨v,h0,fr,h⟩:=h28 m ns k;exact⟨v.toNat,fr,by rw[Int.toNat_of_nonneg h0];exact h⟩
 let g:Nat→Nat:=fun k=>Classical.choose (hg k)
 have hgk:∀ k:Nat,∃ fr,(T (m+2)).cl 28 [.lst (ns.map D.int),.int (k:Int)] = .ok (.int (g k:Int),fr):=fun k=>Classical.choose_spec (hg k)
 have pk:∀(j:Nat) (d:D),[some (D.lst (ns.map D.int))][j]? = some (some d)→∃ i,[0][j]? = some i∧([some (D.lst (ns.map D.int)),none,none,none,none,none,none,none,none,none,none,none]:List (Option D))[i]? = some (some d):=fun j d e=>by
  cases j with
  |zero=>exact⟨0,rfl,e⟩
  |succ j=>cases e
 have c1:aF (T (m+2)) (.comp 1 [0] (.nm 0) (.rng1 (.cst (.int (4)))) .none (.call 28 (.cons (.var 1) (.cons (.var 0) .nil)))) (aE [.lst (ns.map D.int)] 12) (.lst (gD ((List.range 4).map g))):=xh (kW (lit 4) (by decide)) (by decide) (fun a ha=>by
  obtain⟨_,W⟩:=V0.vw.picked (pick:=[0]) (ws:=[some (D.lst (ns.map D.int))]) pk rfl (.int (a:Int));obtain⟨fr,h⟩:=hgk a;exact aF.be (W.var (i:=1) rfl) (W.var (i:=0) rfl) h) (V0.vw.picked (pick:=[0]) (ws:=[some (D.lst (ns.map D.int))]) pk rfl .non).1
 obtain⟨e1,q1,V1⟩:=V0.asg (T:=T (m+2)) (i:=1) (show (1:Nat)<12 by decide) (BD c1);have V1:Tv e1 [some (.lst (ns.map D.int),false),some (.lst (gD [g 0,g 1,g 2,g 3]),true),none,none,none,none,none,none,none,none,none,none]:=V1;generalize g 0=g0 at V1;generalize g 1=g1 at V1;generalize g 2=g2 at V1;generalize g 3=g3 at V1;obtain⟨e2,q2,V2⟩:=V1.asg (T:=T (m+2)) (i:=2) (show (2:Nat)<12 by decide) (vD (iS 2 (by decide) (by decide) (aF.ix (V1.var (i:=1) rfl) (aF.cst (.int 0)) (z:=.int (g0:Int)) rfl)) rfl);generalize g0 / 2=n at V2;obtain⟨e3,q3,V3⟩:=V2.asg (T:=T (m+2)) (i:=3) (show (3:Nat)<12 by decide) (vD (mO (lit 1) (hU (b:=26) (by decide) (V2.var (i:=2) rfl) (lit 26))) rfl);obtain⟨c,hc⟩:∃ c,c=1+n%26:=⟨_,rfl⟩;have c26:c≤26:=by omega
 rw[←hc] at V3;have V3:Tv e3 [some (.lst (ns.map D.int),false),some (.lst (gD [g0,g1,g2,g3]),true),some (.int (n:Int),true),some (.int (c:Int),true),none,none,none,none,none,none,none,none]:=V3;have x1:aF (T (m+2)) (.bin .Add (.cst (.int (1))) (.bin .Mod (.bin .FloorDiv (.var 2) (.cst (.int (26)))) (.bin .Sub (.cst (.int (63))) (.var 3)))) e3 (.int ((1+n / 26%(63 - c):Nat):Int)):=mO (lit 1) (hU (by omega) (iS 26 (by decide) (by decide) (V3.var (i:=2) rfl)) (vX (by omega) (lit 63) (V3.var (i:=3) rfl)));obtain⟨h,hh⟩:∃ h,h=1+n / 26%(63 - c):=⟨_,rfl⟩;have h63:h+c≤63:=by
  have:=Nat.mod_lt (n / 26) (show 0<63 - c by omega);omega
 rw[←hh] at x1;obtain⟨gs,gg,lg,hgs⟩:=h30 (m+1) (g1:Int) (g2:Int) (m:=h) (by omega);have x2:ev (T (m+2)) (.sl (.var 1) (.some (.cst (.int (1)))) (.some (.cst (.int (3))))) e3 = .ok (.lst [.int (g1:Int),.int (g2:Int)],.mv []):=slM (aF.sl (V3.var (i:=1) rfl) (aF.cst _) (aF.cst _) (wV [g0,g1,g2,g3] 1 3)) (j3 [g1,g2]);have x3:ev (T (m+2)) (.call 30 (.cons (.sl (.var 1) (.some (.cst (.int (1)))) (.some (.cst (.int (3))))) (.cons (.bin .Add (.cst (.int (1))) (.bin .Mod (.bin .FloorDiv (.var 2) (.cst (.int (26)))) (.bin .Sub (.cst (.int (63))) (.var 3)))) .nil))) e3 = .ok (.lst (gD gs),.mv []):=Pc.Sm.be x2 (vD x1 rfl) hgs;obtain⟨fr,hma⟩:=h23 m gs c gg (by omega);obtain⟨row,hrow⟩:∃ row,row=dY c 0 gs:=⟨_,rfl⟩;have lrow:row.length=h+c:=by rw[hrow,ji,lg]
 have grow:Gr row:=by rw[hrow];exact kB c 0 gg
 have code:pW row c:=by rw[hrow];exact oo c gg
 rw[←hrow] at hma;have x4:∃ R,(R = .mv []∨R = .sh [])∧ev (T (m+2)) (.call 23 (.cons (.call 30 (.cons (.sl (.var 1) (.some (.cst (.int (1)))) (.some (.cst (.int (3))))) (.cons (.bin .Add (.cst (.int (1))) (.bin .Mod (.bin .FloorDiv (.var 2) (.cst (.int (26)))) (.bin .Sub (.cst (.int (63))) (.var 3)))) .nil))) (.cons (.var 3) .nil))) e3 = .ok (.lst (gD row),R):=by
  have y:bM (T (m+2)) (.cons (.call 30 (.cons (.sl (.var 1) (.some (.cst (.int (1)))) (.some (.cst (.int (3))))) (.cons (.bin .Add (.cst (.int (1))) (.bin .Mod (.bin .FloorDiv (.var 2) (.cst (.int (26)))) (.bin .Sub (.cst (.int (63))) (.var 3)))) .nil))) (.cons (.var 3) .nil)) e3 = .ok [(.lst (gD gs),.mv []),(.int (c:Int),.mv [])]:=by
   rw[bM,x3,aA,bM,rY (V3.var (i:=3) rfl) rfl,aA,bM,aA,aA]
  refine⟨if fr=true then .mv [] else .sh [],?_,?_⟩
  ·cases fr
   ·exact .inr rfl
   ·exact .inl rfl
  ·rw[ev,y,aA];show ((T (m+2)).cl 23 [.lst (gD gs),.int (c:Int)]).bind _=_;rw[hma,aA];rfl
 obtain⟨R,hR,x4⟩:=x4;obtain⟨e4,q4,V4⟩:=V3.asgS (T:=T (m+2)) (i:=4) (show (4:Nat)<12 by decide) hR x4;have V4:Tv e4 [some (.lst (ns.map D.int),false),some (.lst (gD [g0,g1,g2,g3]),true),some (.int (n:Int),true),some (.int (c:Int),true),some (.lst (gD row),false),none,none,none,none,none,none,none]:=V4;obtain⟨ts,bi,h29'⟩:=h29 (m+1) (g3:Int) (n:=row.length) (c:=c) (by omega) (by omega) (by omega);have x5:ev (T (m+2)) (.call 29 (.cons (.ix (.var 1) (.cst (.int (3)))) (.cons (.blt .len (.cons (.var 4) .nil)) (.cons (.var 3) .nil)))) e4 = .ok (.mpi (jy ts),.mv []):=by
  have y1:ev (T (m+2)) (.ix (.var 1) (.cst (.int (3)))) e4 = .ok (.int (g3:Int),.mv []):=ixM (aF.ix (V4.var (i:=1) rfl) (aF.cst (.int 3)) (z:=.int (g3:Int)) rfl) rfl;have y2:ev (T (m+2)) (.blt .len (.cons (.var 4) .nil)) e4 = .ok (.int (row.length:Int),.mv []):=yj (aF.blt1 (V4.var (i:=4) rfl) (me row)) rfl;have y3:ev (T (m+2)) (.var 3) e4 = .ok (.int (c:Int),.mv []):=rY (V4.var (i:=3) rfl) rfl;rw[ev,bM,y1,aA,bM,y2,aA,bM,y3,aA,bM,aA,aA,aA,aA];show ((T (m+2)).cl 29 [.int (g3:Int),.int (row.length:Int),.int (c:Int)]).bind _=_;rw[h29',aA];rfl
 obtain⟨e5,q5,V5⟩:=V4.asg (T:=T (m+2)) (i:=5) (show (5:Nat)<12 by decide) x5;obtain⟨e6,q6,V6⟩:=V5.asg (T:=T (m+2)) (i:=6) (show (6:Nat)<12 by decide) (yj (aF.blt1 (k:=.list) (V5.var (i:=4) rfl) (z:=.lst (gD row)) rfl) (j3 row));have V6:Tv e6 [some (.lst (ns.map D.int),false),some (.lst (gD [g0,g1,g2,g3]),true),some (.int (n:Int),true),some (.int (c:Int),true),some (.lst (gD row),false),some (.mpi (jy ts),true),some (.lst (gD row),true),none,none,none,none,none]:=V6;have V7:=V6.frz (x:=5) rfl;have V7:Tv (md e6 5) [some (.lst (ns.map D.int),false),some (.lst (gD [g0,g1,g2,g3]),true),some (.int (n:Int),true),some (.int (c:Int),true),some (.lst (gD row),false),some (.mpz (jy ts),true),some (.lst (gD row),true),none,none,none,none,none]:=V7;obtain⟨e8,q8,⟨sp,v7,v8,v9,si,V8⟩⟩:=mY (t:=.nm 7) (R:=[]) (b:=aD (T (m+2)) As) (fun k env=>∃ l v7 v8 v9,GJ row (ts.take k) l∧Tv env [some (.lst (ns.map D.int),false),some (.lst (gD [g0,g1,g2,g3]),true),some (.int (n:Int),true),some (.int (c:Int),true),some (.lst (gD row),false),some (.mpz (jy ts),true),some (.lst (gD l),true),v7,v8,v9,none,none]) (gD (fU ts)) 0 (md e6 5) ⟨row,none,none,none,⟨grow,rfl,fun t h=>by simp at h,fun _ _=>rfl⟩,V7⟩ (fun i d e hd J=>by
  obtain⟨t,ht,rfl⟩:=Az hd;rw[Nat.zero_add] at J ⊢;obtain⟨l,v7,v8,v9,si,V⟩:=J;obtain⟨l',d1,d2,v7',v8',v9',si',b1,b2,W⟩:=wq (T (m+2)) bi rfl (by omega) ht si V;exact⟨d1,d2,b1,.inl b2,l',v7',v8',v9',si',W⟩)
 have hit:eW (T (m+2)) (.seq (.var 5)) (md e6 5) = .ok (gD (fU ts),[]):=by
  rw[eW,rY (V7.var (i:=5) rfl) rfl,aA];show (Rs.ok ((jy ts).map fun q=>D.int q.1)).bind _=_;rw[aA,tQ];rfl
 have q8':=bW hit q8;have si:GJ row ts sp:=by
  have:(0+(gD (fU ts)).length)=ts.length:=by rw[aZ];unfold fU;rw[aj];omega
  rw[this,List.take_length] at si;exact si
 obtain⟨e9,q9,V9⟩:=V8.asg (T:=T (m+2)) (i:=10) (show (10:Nat)<12 by decide) (tL V8 bi c26 rfl 1);obtain⟨e10,q10,V10⟩:=V9.asg (T:=T (m+2)) (i:=11) (show (11:Nat)<12 by decide) (tL V9 bi c26 rfl 2);refine⟨c,row,sp,cY (jI ts 1),cY (jI ts 2),qG bi si c26 grow (by omega) code,?_⟩;obtain⟨fr',hr⟩:=mK (aF.tup5 (V10.var (T:=T (m+2)) (i:=3) rfl) (V10.var (i:=4) rfl) (V10.var (i:=6) rfl) (V10.var (i:=10) rfl) (V10.var (i:=11) rfl));refine⟨fr',?_⟩;rw[i5,aY (F:=⟨1,12,b31⟩) rfl rfl];show Pc.ret (aD (T (m+2)) b31 _)=_;have q7:bA (T (m+2)) (.frzd 5 (.forr (.nm 7) (.seq (.var 5)) As)) e6 = .nx e8:=by rw[bA];exact q8'
 exact sq q1 (sq q2 (sq q3 (sq q4 (sq q5 (sq q6 (sq q7 (sq q9 (sq q10 hr))))))))
end K16
end
section
namespace K16
open PySem Pc Pc.Sm Pc.Gr Pc.Lw Pc.Vw Fl64 Md
theorem Gm {T:Tb}{env:En}{pick:List Nat}{it:qE}{ce e:Ex}{l:List Nat}{R:List Nat}{c:Nat→Bool}{g:Nat→Nat}(hit:eW T it env = .ok (gD l,R)) (hl:l.length≤1000) (hg:∀ a∈l,aF T ce (put (aJ env 1 pick) 0 (.int (a:Int)) .own) (.bl (c a))∧aF T e (put (aJ env 1 pick) 0 (.int (a:Int)) .own) (.int ((g a:Nat):Int))) (h0:0<(aJ env 1 pick).length) :
  aF T (.comp 1 pick (.nm 0) it (.some ce) e) env (.lst (gD ((l.filter c).map g))):=by
 have key:∀(l:List Nat),(∀ a∈l,aF T ce (put (aJ env 1 pick) 0 (.int (a:Int)) .own) (.bl (c a))∧aF T e (put (aJ env 1 pick) 0 (.int (a:Int)) .own) (.int ((g a:Nat):Int)))→∃ qs:List (D×Rt),cR (fun d=>aU (aS [] (.nm 0) d (aJ env 1 pick)) (j9 T (.some ce)) (ev T e)) (gD l) = .ok qs∧qs.map (·.1)=gD ((l.filter c).map g):=by
  intro l
  induction l with
  |nil=>exact fun _=>⟨[],rfl,rfl⟩
  |cons a r ih =>
   intro h;obtain⟨qs,a1,a2⟩:=ih fun b hb=>h b (aa _ hb)
   obtain⟨⟨R',hR⟩,⟨R2,hv⟩⟩:=h a ae;have hb:aS [] (.nm 0) (.int (a:Int)) (aJ env 1 pick)=some (put (aJ env 1 pick) 0 (.int (a:Int)) .own):=by
    show (if 0<(aJ env 1 pick).length then some (put (aJ env 1 pick) 0 (.int (a:Int)) .own) else none)=_;rw[if_pos h0]
   cases hc:c a with
   |true =>
    refine⟨(.int ((g a:Nat):Int),R2)::qs,?_,?_⟩
    ·rw[hc] at hR;have step:aU (aS [] (.nm 0) (.int (a:Int)) (aJ env 1 pick)) (j9 T (.some ce)) (ev T e) = .ok (some (.int ((g a:Nat):Int),R2)):=by
      simp only[hb,aU,j9,hR,aA,truth,aK,if_true,hv]
     rw[gD,ba,cR,step,aA,show (r.map fun (g:Nat)=>D.int (g:Int))=gD r from rfl,a1];rfl
    ·rw[ba,a2,List.filter_cons_of_pos hc];rfl
   |false =>
    refine⟨qs,?_,?_⟩
    ·rw[hc] at hR;have step:aU (aS [] (.nm 0) (.int (a:Int)) (aJ env 1 pick)) (j9 T (.some ce)) (ev T e) = .ok none:=by
      simp only[hb,aU,j9,hR,aA,truth,aK,Bool.false_eq_true,if_false]
     rw[gD,ba,cR,step,aA,show (r.map fun (g:Nat)=>D.int (g:Int))=gD r from rfl,a1];rfl
    ·rw[a2,List.filter_cons_of_neg (by rw[hc];decide)]
 obtain⟨qs,a1,a2⟩:=key l hg;rw[aF,ev,hit,aA,a1,aA];dsimp only;rw[if_pos (by rw[aZ];exact cU hl),a2];exact⟨_,rfl⟩
structure DC (ps M W:List Nat):Prop where
 pm:(M++W).Perm ps
 asc:W.Pairwise (· < ·)
theorem DC.step {ps M W:List Nat}(h:DC ps M W) {i:Nat}(hi:i<W.length):DC ps (M ++ [W.getD i 0]) (W.eraseIdx i):=by
 refine⟨List.Perm.trans ?_ h.pm,h.asc.sublist (List.eraseIdx_sublist ..)⟩;rw[dq];exact List.Perm.append_left M (jv hi).symm
theorem qt {ps:List Nat}(hp:ps.Pairwise (· < ·)) (cn:Nat→Bool) (k:Nat):DC ps ((((List.range ps.length).filter cn).map fun i=>ps.getD i 0).take k) (ps.filter fun p=>!((((List.range ps.length).filter cn).map fun i=>ps.getD i 0).take k).contains p):=by
 have nd:ps.Nodup:=hp.imp fun h=>by omega
 have inj:∀ i j,i<ps.length→j<ps.length→i<j→ps.getD i 0≠ps.getD j 0:=fun i j hi hj hij=>by
  have:=List.pairwise_iff_getElem.mp hp i j hi hj hij;rw[ag,ag,bc hi,bc hj];show ps[i]≠ps[j];omega
 have m1:(((List.range ps.length).filter cn).map fun i=>ps.getD i 0).Nodup:=by
  rw[List.Nodup,List.pairwise_map];refine List.Pairwise.imp_of_mem (fun {a b} ha hb hab=>inj a b ?_ ?_ hab) ((nr ps.length).filter cn)
  ·exact fb.mp (cm.mp ha).1
  ·exact fb.mp (cm.mp hb).1
 have m2:=m1.sublist (List.take_sublist k _);have sub:∀ p∈(((List.range ps.length).filter cn).map fun i=>ps.getD i 0).take k,p∈ps:=fun p h=>by
  obtain⟨i,hi,rfl⟩:=au.mp (List.mem_of_mem_take h);exact mem_getD (fb.mp (cm.mp hi).1)
 generalize (((List.range ps.length).filter cn).map fun i=>ps.getD i 0).take k=M at m2 sub;refine⟨?_,hp.filter _⟩;have nd2:(M++ps.filter fun p=>!M.contains p).Nodup:=by
  rw[bt];refine⟨m2,nd.filter _,fun a ha b hb e=>?_⟩;subst e;have:=(cm.mp hb).2;rw[ef.mpr ha] at this;cases this
 refine (List.perm_ext_iff_of_nodup nd2 nd).mpr fun p=>?_
 rw[bo,cm];constructor
 ·rintro (h | h)
  ·exact sub p h
  ·exact h.1
 ·intro h;by_cases hm:p∈M
  ·exact .inl hm
  ·refine .inr ⟨h,?_⟩;have:M.contains p=false:=by rw[←Bool.not_eq_true,ef];exact hm
   rw[this];rfl
noncomputable def DQ:bJ:=(.cons (.apop 9 10 (.cons (.bin .Mod (.bin .FloorDiv (.var 4) (.cst (.int (7)))) (.blt .len (.cons (.var 10) .nil))) .nil))
  .nil)
theorem qT (T:Tb) {v0 v1 v2 v3 v5 v6 v8:Option (D×Bool)}{dr w:Nat}{ps:List Nat}(hps:ps.length≤63):∀(fuel:Nat) (M W:List Nat) (env:En),DC ps M W→W.length<fuel→Tv env [v0,v1,v2,v3,some (.int (dr:Int),true),v5,v6,some (.int (w:Int),true),v8,some (.lst (gD M),true),some (.lst (gD W),true)] →
  ∃ M' W' env',eP (fun env=>(ev T (.cmp .Gt (.blt .len (.cons (.var 10) .nil)) (.var 7)) env).bind fun p=>fR (truth p.1)) (aD T DQ) fuel env = .nx env'∧DC ps M' W'∧W'.length≤w∧Tv env' [v0,v1,v2,v3,some (.int (dr:Int),true),v5,v6,some (.int (w:Int),true),v8,some (.lst (gD M'),true),some (.lst (gD W'),true)]
 |0,M,W,env,_,hf,_=>by omega
 | fuel+1,M,W,env,h,hf,V=>by
  have c0:aF T (.cmp .Gt (.blt .len (.cons (.var 10) .nil)) (.var 7)) env (.bl (decide (w<W.length))):=aF.cmp (aF.blt1 (V.var (i:=10) rfl) (me W)) (V.var (i:=7) rfl) (by
   show some (decide ((w:Int)<(W.length:Int)))=_;congr 1;rw[decide_eq_decide];omega)
  obtain⟨R,c0⟩:=c0;have hl:=h.pm.length_eq;rw[bw] at hl;by_cases hw:w<W.length
  ·obtain⟨e1,q1,V1⟩:=V.apop (T:=T) (x:=10) (y:=9) (by decide) rfl rfl (hU (b:=W.length) (by omega) (iS 7 (by decide) (by decide) (V.var (i:=4) rfl)) (aF.blt1 (V.var (i:=10) rfl) (me W))) (Nat.mod_lt _ (by omega)) (by omega) (by omega);have hi:dr / 7%W.length<W.length:=Nat.mod_lt _ (by omega);obtain⟨M',W',e2,a1,a2,a3,a4⟩:=qT T hps fuel _ _ e1 (h.step hi) (by rw[List.length_eraseIdx_of_lt hi];omega) V1;refine⟨M',W',e2,?_,a2,a3,a4⟩;rw[Pc.Nw.E2 (by rw[c0,aA,decide_eq_true hw];rfl) (by unfold DQ;rw[aD];show (bA T (.apop 9 10 (.cons (.bin .Mod (.bin .FloorDiv (.var 4) (.cst (.int ((7:Nat):Int)))) (.blt .len (.cons (.var 10) .nil))) .nil)) env).andThen _=_;rw[q1,aC,aD])];exact a1
  ·refine⟨M,W,env,?_,h,by omega,V⟩;exact Pc.Nw.FR (by rw[c0,aA,decide_eq_false hw];rfl)
theorem rq {c:Nat}{row sp ps M W:List Nat}(h:DC ps M W) (hp:ps.Pairwise (· < ·)) (lt:∀ p∈ps,p<row.length) (c26:c≤26) (gr:Gr row) (l63:row.length≤63) (code:pW row c) (gs:Gr sp) (len:sp.length=row.length)
  (ne:∀ p,p∉cY M→p∈W→sp.getD p 0≠row.getD p 0) (eq:∀ p,p∉cY M→p∉W→sp.getD p 0=row.getD p 0) (le:W.length+ps.length≤c):Case c row sp W (cY M):=by
 have nd:(M++W).Nodup:=h.pm.nodup_iff.mpr (hp.imp fun h=>by omega);have nd':=bt.mp nd;have p2:=dS M;have hl:=h.pm.length_eq;rw[bw] at hl;refine⟨c26,gr,gs,len,l63,code,p2.nodup_iff.mpr nd'.1,fun p hp=>lt p (h.pm.mem_iff.mp (bf _ (p2.mem_iff.mp hp))),?_,by rw[p2.length_eq];omega⟩;refine sj h.asc (lO _ _ _) fun p=>?_
 unfold cL;rw[cm,fb];simp only[Bool.and_eq_true,Bool.not_eq_true',bne_iff_ne,ne_eq];have c2:(cY M).contains p=false↔p∉cY M:=by
  rw[←Bool.not_eq_true,ef]
 rw[c2];constructor
 ·intro hw;have hm:p∉cY M:=fun q=>nd'.2.2 p (p2.mem_iff.mp q) p hw rfl
  exact⟨by rw[len];exact lt p (h.pm.mem_iff.mp (aq _ hw)),hm,fun e=>ne p hm hw e.symm⟩
 ·rintro⟨_,hm,n⟩;by_cases hw:p∈W
  ·exact hw
  ·exact absurd (eq p hm hw).symm n
theorem h32 (m:Nat) (ns:List Int) (hl:ns.length≤63):∃ c row sp W M,Case c row sp W M∧∃ fr,(T (m+3)).cl 32 [.lst (ns.map D.int)] = .ok (BU c row sp W M,fr):=by
 have V0:Tv (aE [.lst (ns.map D.int)] 11) [some (.lst (ns.map D.int),false),none,none,none,none,none,none,none,none,none,none]:=Tv.start _ 11;have v0:ev (T (m+2)) (.var 0) (aE [.lst (ns.map D.int)] 11) = .ok (.lst (ns.map D.int),.sh []):=rfl;obtain⟨c,h,c0,c26,h0,ch,hsz⟩:=h22 m ns;obtain⟨e1,q1,V1⟩:=V0.asg2 (T:=T (m+2)) (i:=1) (j:=2) (show (1:Nat)<11 by decide) (show (2:Nat)<11 by decide) (Pc.Sm.i8 v0 hsz);have V1:Tv e1 [some (.lst (ns.map D.int),false),some (.int (c:Int),true),some (.int (h:Int),true),none,none,none,none,none,none,none,none]:=V1;obtain⟨gs,gg,lg,hgs⟩:=h21 m ns hl h h0 (by omega);have x3:ev (T (m+2)) (.call 21 (.cons (.var 0) (.cons (.var 2) .nil))) e1 = .ok (.lst (gD gs),.mv []):=by
  obtain⟨R0,y0⟩:=V1.var (T:=T (m+2)) (i:=0) rfl;exact Pc.Sm.be y0 (rY (V1.var (i:=2) rfl) rfl) hgs
 obtain⟨fr,hma⟩:=h23 m gs c gg (by omega);obtain⟨row,hrow⟩:∃ row,row=dY c 0 gs:=⟨_,rfl⟩;have lrow:row.length=h+c:=by rw[hrow,ji,lg]
 have grow:Gr row:=by rw[hrow];exact kB c 0 gg
 have code:pW row c:=by rw[hrow];exact oo c gg
 rw[←hrow] at hma;obtain⟨R,hR,x4⟩:∃ R,(R = .mv []∨R = .sh [])∧ev (T (m+2)) (.call 23 (.cons (.call 21 (.cons (.var 0) (.cons (.var 2) .nil))) (.cons (.var 1) .nil))) e1 = .ok (.lst (gD row),R):=by
  have y:bM (T (m+2)) (.cons (.call 21 (.cons (.var 0) (.cons (.var 2) .nil))) (.cons (.var 1) .nil)) e1 = .ok [(.lst (gD gs),.mv []),(.int (c:Int),.mv [])]:=by
   rw[bM,x3,aA,bM,rY (V1.var (i:=1) rfl) rfl,aA,bM,aA,aA]
  refine⟨if fr=true then .mv [] else .sh [],?_,?_⟩
  ·cases fr
   ·exact .inr rfl
   ·exact .inl rfl
  ·rw[ev,y,aA];show ((T (m+2)).cl 23 [.lst (gD gs),.int (c:Int)]).bind _=_;rw[hma,aA];rfl
 obtain⟨e2,q2,V2⟩:=V1.asgS (T:=T (m+2)) (i:=3) (show (3:Nat)<11 by decide) hR x4;obtain⟨v,hv⟩:=EH (m+1) ns 1;obtain⟨d,d0,hd⟩:=Ez (m+1) v 2;obtain⟨dr,rfl⟩:∃ dr:Nat,d=(dr:Int):=⟨d.toNat,by omega⟩;obtain⟨R0,y0⟩:=V2.var (T:=T (m+2)) (i:=0) rfl;have y1:ev (T (m+2)) (.cst (.int (1))) e2 = .ok (.int ((1:Nat):Int),.mv []):=by rw[ev];rfl
 have y2:ev (T (m+2)) (.cst (.int (2))) e2 = .ok (.int 2,.mv []):=by rw[ev]
 obtain⟨e3,q3,V3⟩:=V2.asg (T:=T (m+2)) (i:=4) (show (4:Nat)<11 by decide) (Pc.Sm.be (Pc.Sm.be y0 y1 hv) y2 hd);have V3:Tv e3 [some (.lst (ns.map D.int),false),some (.int (c:Int),true),some (.int (h:Int),true),some (.lst (gD row),false),some (.int (dr:Int),true),none,none,none,none,none,none]:=V3;obtain⟨e4,q4,V4⟩:=V3.asg (T:=T (m+2)) (i:=5) (show (5:Nat)<11 by decide) (vD (hU (Nat.succ_pos c) (iS 3 (by decide) (by decide) (V3.var (i:=4) rfl)) (mO (V3.var (i:=1) rfl) (lit 1))) rfl);have c5:aF (T (m+2)) (.cmp .Eq (.bin .Mod (.var 4) (.cst (.int (3)))) (.cst (.int (0)))) e4 (.bl (((dr%3:Nat):Int)==0)):=aF.cmp (hU (b:=3) (by decide) (V4.var (i:=4) rfl) (lit 3)) (aF.cst _) rfl;obtain⟨lo,e5,q5,hlo,V5⟩:∃ lo e5,bA (T (m+2)) (.ite (.cmp .Eq (.bin .Mod (.var 4) (.cst (.int (3)))) (.cst (.int (0)))) (.cons (.asg (.nm 5) (.cst (.int (0))) false) .nil) .nil) e4 = .nx e5∧lo≤c∧Tv e5 [some (.lst (ns.map D.int),false),some (.int (c:Int),true),some (.int (h:Int),true),some (.lst (gD row),false),some (.int (dr:Int),true),some (.int (lo:Int),true),none,none,none,none,none]:=by
  rw[ip c5];split
  ·obtain⟨e,q,V⟩:=V4.asg (T:=T (m+2)) (i:=5) (e:=.cst (.int 0)) (d:=.int ((0:Nat):Int)) (show (5:Nat)<11 by decide) (by rw[ev];rfl);exact⟨0,e,Pc.Nw.jF q,de _,V⟩
  ·exact⟨dr / 3%(c+1),e4,Pc.Nw.qS,Nat.le_of_lt_succ (Nat.mod_lt _ (Nat.succ_pos c)),V4⟩
 obtain⟨e6,q6,V6⟩:=V5.asg (T:=T (m+2)) (i:=6) (show (6:Nat)<11 by decide) (vD (iS 2 (by decide) (by decide) (vX hlo (V5.var (i:=1) rfl) (V5.var (i:=5) rfl))) rfl);obtain⟨hf,hhf⟩:∃ hf,hf=(c - lo) / 2:=⟨_,rfl⟩;rw[←hhf] at V6;obtain⟨e7,q7,V7⟩:=V6.asg (T:=T (m+2)) (i:=7) (show (7:Nat)<11 by decide) (rY (V6.var (i:=6) rfl) rfl);have c8:aF (T (m+2)) (.cmp .Eq (.bin .Mod (.var 4) (.cst (.int (2)))) (.cst (.int (0)))) e7 (.bl (((dr%2:Nat):Int)==0)):=aF.cmp (hU (b:=2) (by decide) (V7.var (i:=4) rfl) (lit 2)) (aF.cst _) rfl;obtain⟨w,e8,q8,hw,V8⟩:∃ w e8,bA (T (m+2)) (.ite (.cmp .Eq (.bin .Mod (.var 4) (.cst (.int (2)))) (.cst (.int (0)))) (.cons (.asg (.nm 7) (.bin .Mod (.bin .FloorDiv (.var 4) (.cst (.int (100)))) (.bin .Add (.var 6) (.cst (.int (1))))) false) .nil) .nil) e7 = .nx e8∧w≤hf∧Tv e8 [some (.lst (ns.map D.int),false),some (.int (c:Int),true),some (.int (h:Int),true),some (.lst (gD row),false),some (.int (dr:Int),true),some (.int (lo:Int),true),some (.int (hf:Int),true),some (.int (w:Int),true),none,none,none]:=by
  rw[ip c8];split
  ·obtain⟨e,q,V⟩:=V7.asg (T:=T (m+2)) (i:=7) (show (7:Nat)<11 by decide) (vD (hU (Nat.succ_pos hf) (iS 100 (by decide) (by decide) (V7.var (i:=4) rfl)) (mO (V7.var (i:=6) rfl) (lit 1))) rfl);exact⟨dr / 100%(hf+1),e,Pc.Nw.jF q,Nat.le_of_lt_succ (Nat.mod_lt _ (Nat.succ_pos hf)),V⟩
  ·exact⟨hf,e7,Pc.Nw.qS,aw _,V7⟩
 obtain⟨ps,asc,lps,ltp,hpl⟩:=h24 m ns row.length (lo+w) 5 (by omega) (by omega);have x9:ev (T (m+2)) (.call 24 (.cons (.var 0) (.cons (.blt .len (.cons (.var 3) .nil)) (.cons (.bin .Add (.var 5) (.var 7)) (.cons (.cst (.int ((5:Nat):Int))) .nil))))) e8 = .ok (.lst (gD ps),.mv []):=by
  obtain⟨R0,z0⟩:=V8.var (T:=T (m+2)) (i:=0) rfl;obtain⟨R1,z1⟩:=aF.blt1 (T:=T (m+2)) (V8.var (i:=3) rfl) (me row);obtain⟨R2,z2⟩:=mO (T:=T (m+2)) (V8.var (i:=5) rfl) (V8.var (i:=7) rfl);rw[ev,bM,z0,aA,bM,z1,aA,bM,z2,aA,bM,ev,aA,bM,aA,aA,aA,aA,aA];show ((T (m+2)).cl 24 [.lst (ns.map D.int),.int (row.length:Int),.int ((lo+w:Nat):Int),.int ((5:Nat):Int)]).bind _=_;rw[hpl,aA];rfl
 obtain⟨e9,q9,V9⟩:=V8.asgS (T:=T (m+2)) (i:=8) (show (8:Nat)<11 by decide) (.inl rfl) x9;have V9:Tv e9 [some (.lst (ns.map D.int),false),some (.int (c:Int),true),some (.int (h:Int),true),some (.lst (gD row),false),some (.int (dr:Int),true),some (.int (lo:Int),true),some (.int (hf:Int),true),some (.int (w:Int),true),some (.lst (gD ps),false),none,none]:=V9;have pk:∀(j:Nat) (d:D),[some (D.int (dr:Int)),some (D.lst (gD ps))][j]? = some (some d)→∃ i,[4,8][j]? = some i∧([some (D.lst (ns.map D.int)),some (.int (c:Int)),some (.int (h:Int)),some (.lst (gD row)),some (.int (dr:Int)),some (.int (lo:Int)),some (.int (hf:Int)),some (.int (w:Int)),some (.lst (gD ps)),none,none]:List (Option D))[i]? = some (some d):=fun j d e=>by
  cases j with
  |zero=>exact⟨4,rfl,e⟩
  |succ j=>cases j with
   |zero=>exact⟨8,rfl,e⟩
   |succ j=>cases e
 have x10:aF (T (m+2)) (.comp 1 [4,8] (.nm 0) (.rng1 (.blt .len (.cons (.var 8) .nil))) (.some (.cmp .Eq (.bin .Mod (.var 0) (.cst (.int (2)))) (.bin .Mod (.var 1) (.cst (.int (2)))))) (.ix (.var 2) (.var 0))) e9 (.lst (gD (((List.range ps.length).filter fun i=>(((i%2:Nat):Int)==((dr%2:Nat):Int))).map fun i=>ps.getD i 0))):=Gm (kW (aF.blt1 (V9.var (i:=8) rfl) (me ps)) (by omega)) (by rw[dg];omega) (fun a ha=>by
  obtain⟨_,W⟩:=V9.vw.picked (pick:=[4,8]) (ws:=[some (D.int (dr:Int)),some (D.lst (gD ps))]) pk rfl (.int (a:Int));exact⟨aF.cmp (hU (b:=2) (by decide) (W.var (i:=0) rfl) (lit 2)) (hU (b:=2) (by decide) (W.var (i:=1) rfl) (lit 2)) rfl,aF.ix (W.var (i:=2) rfl) (W.var (i:=0) rfl) (kX (fb.mp ha))⟩) (V9.vw.picked (pick:=[4,8]) (ws:=[some (D.int (dr:Int)),some (D.lst (gD ps))]) pk rfl .non).1
 have I0:=qt asc (fun i=>(((i%2:Nat):Int)==((dr%2:Nat):Int))) lo;have x11:=aF.slh x10 (V9.var (i:=5) rfl) (BQ _ lo);generalize (((List.range ps.length).filter fun i=>(((i%2:Nat):Int)==((dr%2:Nat):Int))).map fun i=>ps.getD i 0).take lo=M0 at I0 x11;obtain⟨e10,q10,V10⟩:=V9.asg (T:=T (m+2)) (i:=9) (show (9:Nat)<11 by decide) (slM x11 (j3 M0));have V10:Tv e10 [some (.lst (ns.map D.int),false),some (.int (c:Int),true),some (.int (h:Int),true),some (.lst (gD row),false),some (.int (dr:Int),true),some (.int (lo:Int),true),some (.int (hf:Int),true),some (.int (w:Int),true),some (.lst (gD ps),false),some (.lst (gD M0),true),none]:=V10;have pk2:∀(j:Nat) (d:D),[some (D.lst (gD M0))][j]? = some (some d)→∃ i,[9][j]? = some i∧([some (D.lst (ns.map D.int)),some (.int (c:Int)),some (.int (h:Int)),some (.lst (gD row)),some (.int (dr:Int)),some (.int (lo:Int)),some (.int (hf:Int)),some (.int (w:Int)),some (.lst (gD ps)),some (.lst (gD M0)),none]:List (Option D))[i]? = some (some d):=fun j d e=>by
  cases j with
  |zero=>exact⟨9,rfl,e⟩
  |succ j=>cases e
 obtain⟨R12,i12⟩:=z6 (T:=T (m+2)) (V10.var (i:=8) rfl);have x12:aF (T (m+2)) (.comp 1 [9] (.nm 0) (.seq (.var 8)) (.some (.cmp .NotIn (.var 0) (.var 1))) (.var 0)) e10 (.lst (gD (ps.filter fun p=>!M0.contains p))):=p3 i12 (by omega) (fun a ha=>by
  obtain⟨_,W⟩:=V10.vw.picked (pick:=[9]) (ws:=[some (D.lst (gD M0))]) pk2 rfl (.int (a:Int));exact aF.cmp (W.var (i:=0) rfl) (W.var (i:=1) rfl) (by show (inD _ _).map _=_;rw[r6];rfl)) (V10.vw.picked (pick:=[9]) (ws:=[some (D.lst (gD M0))]) pk2 rfl .non).1
 obtain⟨e11,q11,V11⟩:=V10.asg (T:=T (m+2)) (i:=10) (show (10:Nat)<11 by decide) (BD x12);have wl:(ps.filter fun p=>!M0.contains p).length≤ps.length:=fh _ _;obtain⟨M,W,e12,q12,I,lW,V12⟩:=qT (T (m+2)) (by omega) 1000 _ _ e11 I0 (by omega) V11;have q12':bA (T (m+2)) (.whl (.cmp .Gt (.blt .len (.cons (.var 10) .nil)) (.var 7)) DQ) e11 = .nx e12:=by rw[bA];exact q12
 have lMW:=I.pm.length_eq;rw[bw] at lMW;obtain⟨e13,q13,V13⟩:=V12.asg (T:=T (m+2)) (i:=9) (show (9:Nat)<11 by decide) (yj (aF.sorted (V12.var (i:=9) rfl) (by omega)) (j3 _));have p2:=dS M;have nd:(M++W).Nodup:=I.pm.nodup_iff.mpr (asc.imp fun h=>by omega);obtain⟨sp,gsp,lsp,ne,eq,fr14,hsp⟩:=h25 m ns row W (cY M) grow (by omega) (bt.mp nd).2.1 (fun p hp=>ltp p (I.pm.mem_iff.mp (aq _ hp))) (fun p hp=>ltp p (I.pm.mem_iff.mp (bf _ (p2.mem_iff.mp hp)))) (by omega) (by rw[p2.length_eq];omega);obtain⟨fr',hr⟩:=mK (aF.tup5 (V13.var (T:=T (m+2)) (i:=1) rfl) (V13.var (i:=3) rfl) (aF.call4 (V13.var (i:=0) rfl) (V13.var (i:=3) rfl) (V13.var (i:=10) rfl) (V13.var (i:=9) rfl) hsp) (V13.var (i:=10) rfl) (V13.var (i:=9) rfl));refine⟨c,row,sp,W,cY M,rq I asc ltp c26 grow (by omega) code gsp lsp ne eq (by omega),fr',?_⟩;rw[i5,aY (F:=⟨1,11,b32⟩) rfl rfl];show Pc.ret (aD (T (m+2)) b32 _)=_;exact sq q1 (sq q2 (sq q3 (sq q4 (sq q5 (sq q6 (sq q7 (sq q8 (sq q9 (sq q10 (sq q11 (sq q12' (sq q13 hr))))))))))))
end K16
end
section
namespace K16
open PySem Pc Pc.Sm Pc.Gr Pc.Lw Pc.Vw Fl64 Md
theorem FH {T:Tb}{env:En}{vs:List (Option D)}(V:Vw env vs) (hl:5<vs.length) {e:Ex}{a b c d f:D}{R:Rt}(hR:R.roots=[]) (he:ev T e env = .ok (.tup [a,b,c,d,f],R)):∃ env',bA T (.asg (.tp [1,2,3,4,5]) e false) env = .nx env'∧Vw env' (((((vs.set 1 (some a)).set 2 (some b)).set 3 (some c)).set 4 (some d)).set 5 (some f)):=by
 have le:env.length=vs.length:=V.1;have pl:∀(env:En) i d t,(put env i d t).length=env.length:=fun env i d t=>by unfold Pc.put;rw[ay,aj]
 have key:∀ g:D→Tg,vE (bindM g [1,2,3,4,5] [a,b,c,d,f] env) = .nx (put (put (put (put (put env 1 a (g a)) 2 b (g b)) 3 c (g c)) 4 d (g d)) 5 f (g f)):=fun g=>by
  simp only[bindM,pl];rw[if_pos (by omega),if_pos (by omega),if_pos (by omega),if_pos (by omega),if_pos (by omega)];rfl
 rw[bA,he,aN];cases R with
 |mv Q =>
  cases Q with
  |nil=>exact⟨_,key _,((((V.put 1 a _).put 2 b _).put 3 c _).put 4 d _).put 5 f _⟩
  |cons q Q=>cases hR
 |sh Q =>
  have hR:Q=[]:=hR;subst hR;exact⟨_,key _,((((V.put 1 a _).put 2 b _).put 3 c _).put 4 d _).put 5 f _⟩
theorem oK {T:Tb}{env:En}{f:Nat}{ds:List D}{r:D}{fr:Bool}(v:ev T (.var 0) env = .ok (.lst ds,.sh [])) (h:T.cl f [.lst ds] = .ok (r,fr)):∃ R:Rt,R.roots=[]∧ev T (.call f (.cons (.var 0) .nil)) env = .ok (r,R):=by
 refine⟨if fr=true then .mv [] else .sh [],by cases fr<;>rfl,?_⟩;rw[ev,bM,v,aA,bM,aA,aA];show (T.cl f [.lst ds]).bind _=_;rw[h,aA];rfl
theorem D3 (a b:List Nat):iu .Eq (.lst [.lst (gD a),.lst (gD b)]) (.lst [.lst (gD a),.lst (gD b)])=some true:=by
 show D.eqf 40 (.lst [.lst (gD a),.lst (gD b)]) (.lst [.lst (gD a),.lst (gD b)])=some true;have e:∀ a:List Nat,D.eqf 39 (.lst (gD a)) (.lst (gD a))=some true:=fun a=>by rw[sF,tP 37];simp
 show (if (2:Nat)=2 then va (D.eqf 39) [.lst (gD a),.lst (gD b)] [.lst (gD a),.lst (gD b)] else some false)=some true;rw[if_pos rfl,va,e,va,e,va];rfl
theorem law (ns:List Int) (hl:ns.length≤63):∃ fr,Pc.run fns gl 1000 7 33 [.lst (ns.map D.int)] = .ok (.bl true,fr):=by
 have V0:Vw (aE [.lst (ns.map D.int)] 8) [some (.lst (ns.map D.int)),none,none,none,none,none,none,none]:=Vw.start _ 8;have v0:ev (T 6) (.var 0) (aE [.lst (ns.map D.int)] 8) = .ok (.lst (ns.map D.int),.sh []):=rfl;obtain⟨v,hv⟩:=EH 5 ns 0;have c0:aF (T 6) (.cmp .Eq (.bin .Mod (.call 19 (.cons (.var 0) (.cons (.cst (.int (0))) .nil))) (.cst (.int (2)))) (.cst (.int (0)))) (aE [.lst (ns.map D.int)] 8) (.bl (v%2==0)):=aF.cmp (aF.bin (op:=.Mod) (aF.be (V0.var (i:=0) rfl) (lit 0) hv) (aF.cst (.int 2)) (z:=.int (v%2)) (by rw[aL];rfl)) (aF.cst _) rfl;obtain⟨c,row,sp,W,M,C,e1,q1,V1⟩:∃ c row sp W M,Case c row sp W M∧∃ e1,bA (T 6) (.ite (.cmp .Eq (.bin .Mod (.call 19 (.cons (.var 0) (.cons (.cst (.int (0))) .nil))) (.cst (.int (2)))) (.cst (.int (0)))) (.cons (.asg (.tp [1,2,3,4,5]) (.call 31 (.cons (.var 0) .nil)) false) .nil) (.cons (.asg (.tp [1,2,3,4,5]) (.call 32 (.cons (.var 0) .nil)) false) .nil)) (aE [.lst (ns.map D.int)] 8) = .nx e1∧Vw e1 [some (.lst (ns.map D.int)),some (.int (c:Int)),some (.lst (gD row)),some (.lst (gD sp)),some (.lst (gD W)),some (.lst (gD M)),none,none]:=by
  rw[ip c0];split
  ·obtain⟨c,row,sp,W,M,C,fr,h⟩:=h31 3 ns;obtain⟨R,hR,he⟩:=oK v0 h;obtain⟨e1,q,V⟩:=FH V0 (by show (5:Nat)<8;decide) hR he;exact⟨c,row,sp,W,M,C,e1,Pc.Nw.jF q,V⟩
  ·obtain⟨c,row,sp,W,M,C,fr,h⟩:=h32 3 ns hl;obtain⟨R,hR,he⟩:=oK v0 h;obtain⟨e1,q,V⟩:=FH V0 (by show (5:Nat)<8;decide) hR he;exact⟨c,row,sp,W,M,C,e1,Pc.Nw.jF q,V⟩
 have le:=C.le;have c26:=C.c26;have l63:=C.l63;have near:BW sp row M c:=⟨C.gr,C.len.symm,C.code,by rw[←C.wr];exact C.le⟩;have ltM:∀ p∈M,p<sp.length:=fun p hp=>by rw[C.len];exact C.lt p hp
 obtain⟨tr,fa⟩:=rW C.gs (by rw[C.len];exact l63) (by omega) C.nd ltM near;have gW:Gr W:=fun p hp=>by
  rw[C.wr] at hp;have:=fb.mp (cm.mp hp).1;rw[C.len] at this;omega
 obtain⟨e2,q2,V2⟩:=V1.asg (T:=T 6) (i:=6) (show (6:Nat)<8 by decide) (aF.lst2 (aF.blt1 (k:=.list) (V1.var (i:=3) rfl) (z:=.lst (gD sp)) rfl) (aF.blt1 (k:=.list) (V1.var (i:=5) rfl) (z:=.lst (gD M)) rfl));obtain⟨fr8,h8'⟩:=h8 0 C.gs (by rw[C.len];exact l63) (mi:=M) (c:=c) (by omega) (by omega) ltM fa;have em:mdD sp M c = .tup [.lst (gD row),.lst (gD W)]:=by
  show D.tup [.lst (gD (cP sp M c)),.lst (gD (cL sp (cP sp M c) M))]=_;rw[tr,←C.wr]
 rw[em] at h8';obtain⟨e3,q3,V3⟩:=V2.asg (T:=T 6) (i:=7) (show (7:Nat)<8 by decide) (aF.call3 (aF.ix (V2.var (i:=6) rfl) (aF.cst (.int 0)) (z:=.lst (gD sp)) rfl) (aF.ix (V2.var (i:=6) rfl) (aF.cst (.int 1)) (z:=.lst (gD M)) rfl) (V2.var (i:=1) rfl) h8');obtain⟨fr27,h27'⟩:=h27 3 C.gr gW;have x4:aF (T 6) (.and (.cmp .Eq (.var 6) (.lst (.cons (.var 3) (.cons (.var 5) .nil)))) (.call 27 (.cons (.var 7) (.cons (.var 2) (.cons (.var 4) .nil))))) e3 (.bl true):=aF.and (k:=true) (aF.cmp (V3.var (i:=6) rfl) (aF.lst2 (V3.var (i:=3) rfl) (V3.var (i:=5) rfl)) (D3 sp M)) (fun _=>aF.call3 (V3.var (i:=7) rfl) (V3.var (i:=2) rfl) (V3.var (i:=4) rfl) h27') (fun h=>by cases h);obtain⟨fr,hr⟩:=mK x4;refine⟨fr,?_⟩;rw[aY (F:=⟨1,8,b33⟩) rfl rfl];show Pc.ret (aD (T 6) b33 _)=_;exact sq q1 (sq q2 (sq q3 hr))
end K16
end
section
namespace Pc.Hd
open PySem PySem.W L2
noncomputable def sv (x:String) (t:Tok):Value:=.str (Str.ofString x) t
noncomputable def kv (P:Params) (x:String) (t:Tok) (v:Value):DictEntry:=⟨PyData.keyHash P (Str.ofString x),sv x t,v⟩
noncomputable def yU:Stmt→Str
 |.FunctionDef n ..=>n
 |_=>Str.ofString ""
noncomputable def fo (a:Addr) (s:Stmt) (m c:Value):Addr×Obj:=(a,⟨.type "function",none,.func { name:=yU s,qualname:=yU s,params:=fF s,body:=.stmts (dP s),scope:=bF s,globals:=mainGlobals,closure:=[],defaults:=.none,kwdefaults:=.none,pyModule:=m,code:=c },#[]⟩)
noncomputable def co (a:Addr) (vs:Array Value):Addr×Obj:=(a,⟨.type "code",none,.fields vs,#[]⟩)
noncomputable def tu (a:Addr) (vs:Array Value):Addr×Obj:=(a,⟨.type "tuple",none,.seq vs 0,#[]⟩)
noncomputable def di (a:Addr) (es:Array DictEntry) (n:Nat):Addr×Obj:=(a,⟨.type "dict",none,.dict es n,#[]⟩)
end Pc.Hd
end
section
namespace K16
open PySem PySem.Spec PyProof.Rows L2 Pc
noncomputable abbrev st (i:Nat):Stmt:=PySem.Challenge.pw_patchsquare_k16_whole_rows_mended.main.body.getD i (.Pass ⟨0,0,0,0⟩)
noncomputable def fw:List Str:=["range","len","isinstance","int","bool","list","tuple","sorted","abs","all","enumerate","zip"]
noncomputable def xE:List Str:=["GRAINS","FOLD"]
noncomputable def df0:Df:=⟨"times_of",st 7,["a","b"],["a","b","product","doubled","left"],b0⟩
noncomputable def df1:Df:=⟨"inverse_of",st 8,["a"],["a"],b1⟩
noncomputable def df2:Df:=⟨"power_of",st 9,["a","k"],["a","k","power","squared","left"],b2⟩
noncomputable def df3:Df:=⟨"worth_at",st 10,["grains","x"],["grains","x","worth","grain"],b3⟩
noncomputable def df4:Df:=⟨"row_product",st 12,["first","second"],["first","second","product","place","grain","step","other"],b4⟩
noncomputable def df5:Df:=⟨"row_with_noughts",st 13,["noughts"],["noughts","row","nought"],b5⟩
noncomputable def df6:Df:=⟨"code_noughts",st 15,["count"],["count"],b6⟩
noncomputable def df7:Df:=⟨"is_code",st 16,["grains","count"],["grains","count"],b7⟩
noncomputable def df8:Df:=⟨"mended_row",st 18,["grains","missing","count"],["grains","missing","count","worths","suspects","mended","wrong"],b8⟩
noncomputable def df9:Df:=⟨"locator_of",st 19,["place","length"],["place","length"],b9⟩
noncomputable def df10:Df:=⟨"suspect_places",st 20,["worths","missing","length"],["worths","missing","length","gaps","freed","rule","others"],b10⟩
noncomputable def df11:Df:=⟨"shortest_rule",st 21,["numbers"],["numbers","rule","length","former","former_gap","place","gap","amended"],b11⟩
noncomputable def df12:Df:=⟨"gap_of_rule",st 22,["rule","numbers","place"],["rule","numbers","place","gap","back","factor"],b12⟩
noncomputable def df13:Df:=⟨"scaled_row",st 23,["row","factor"],["row","factor"],b13⟩
noncomputable def df14:Df:=⟨"added_rows",st 24,["first","second"],["first","second","added","place","grain"],b14⟩
noncomputable def df15:Df:=⟨"changed_row",st 25,["grains","suspects","worths"],["grains","suspects","worths","place","locators","heads","changed","locator","share"],b15⟩
noncomputable def df16:Df:=⟨"distances_product",st 26,["locator","locators"],["locator","locators","product","other"],b16⟩
noncomputable def df17:Df:=⟨"_law_whole",st 28,["_law_x"],["_law_x"],b17⟩
noncomputable def df18:Df:=⟨"_law_times",st 29,["_law_a","_law_b"],["_law_a","_law_b","_law_wide","_law_k"],b18⟩
noncomputable def df19:Df:=⟨"_law_cell",st 30,["_law_script","_law_k"],["_law_script","_law_k"],b19⟩
noncomputable def df20:Df:=⟨"_law_mixed",st 31,["_law_cell_here","_law_k"],["_law_cell_here","_law_k","_law_once"],b20⟩
noncomputable def df21:Df:=⟨"_law_row",st 32,["_law_script","_law_many"],["_law_script","_law_many","_law_k","_law_row_here"],b21⟩
noncomputable def df22:Df:=⟨"_law_sizes",st 33,["_law_script"],["_law_script","_law_d","_law_count"],b22⟩
noncomputable def df23:Df:=⟨"_law_made",st 34,["_law_message","_law_count"],["_law_message","_law_count","_law_row_here","_law_x","_law_j"],b23⟩
noncomputable def df24:Df:=⟨"_law_places",st 35,["_law_script","_law_many","_law_some","_law_turn"],["_law_script","_law_many","_law_some","_law_turn","_law_left","_law_places_here","_law_k","_law_d"],b24⟩
noncomputable def df25:Df:=⟨"_law_spoilt",st 36,["_law_script","_law_row_here","_law_wrong","_law_missing"],["_law_script","_law_row_here","_law_wrong","_law_missing","_law_spoilt_here","_law_k","_law_change"],b25⟩
noncomputable def df26:Df:=⟨"_law_grains",st 37,["_law_found","_law_many"],["_law_found","_law_many","_law_grain"],b26⟩
noncomputable def df27:Df:=⟨"_law_told",st 38,["_law_found","_law_row_here","_law_wrong"],["_law_found","_law_row_here","_law_wrong"],Fj⟩
noncomputable def df28:Df:=⟨"_law_long",st 39,["_law_script","_law_k"],["_law_script","_law_k","_law_found","_law_j"],BY⟩
noncomputable def df29:Df:=⟨"_law_budget",st 40,["_law_rest","_law_many","_law_checks"],["_law_rest","_law_many","_law_checks","_law_picked","_law_load","_law_turn","_law_way","_law_place"],b29⟩
noncomputable def df30:Df:=⟨"_law_spelled",st 41,["_law_cells","_law_many"],["_law_cells","_law_many","_law_row_here","_law_rest","_law_k"],b30⟩
noncomputable def df31:Df:=⟨"_law_by_digits",st 42,["_law_script"],["_law_script","_law_cells","_law_number","_law_count","_law_row_here","_law_picked","_law_spoilt_here","_law_place","_law_way","_law_grain","_law_wrong","_law_missing"],b31⟩
noncomputable def df32:Df:=⟨"_law_by_draws",st 43,["_law_script"],["_law_script","_law_count","_law_held","_law_row_here","_law_d","_law_lost","_law_most","_law_many","_law_places_here","_law_missing","_law_wrong"],b32⟩
noncomputable def Fc:Df:=⟨"law",st 44,["_law_script"],["_law_script","_law_count","_law_row_here","_law_spoilt_here","_law_wrong","_law_missing","_law_handed","_law_found"],b33⟩
noncomputable def p:Pg:=⟨[df0,df1,df2,df3,df4,df5,df6,df7,df8,df9,df10,df11,df12,df13,df14,df15,df16,df17,df18,df19,df20,df21,df22,df23,df24,df25,df26,df27,df28,df29,df30,df31,df32,Fc],xE,fw,gl,1000⟩
theorem ok:vL (Df.Ok p) p.dfs:=by
 refine⟨?a0,?a1,?a2,?a3,?a4,?a5,?a6,?a7,?a8,?a9,?a10,?a11,?a12,?a13,?a14,?a15,?a16,?a17,?a18,?a19,?a20,?a21,?a22,?a23,?a24,?a25,?a26,?a27,?a28,?a29,?a30,?a31,?a32,?a33,trivial⟩
 case a0 | a2 | a3 | a4 | a7 | a9 | a13 | a14 | a16 | a18 | a19 | a20 | a21 | a23 | a26 | a28 | a30=>exact Df.ok_of (n:=60) (by decide +kernel) rfl (fun _ _ _ _ _ _ us hl=>@ET (fun us=>bindArgs _ ⟨us,[]⟩=pure (List.zip _ us)) us hl (fun _ _=>rfl))
 case a1 | a5 | a6 | a11 | a17 | a22 | a31 | a32 | a33=>exact Df.ok_of (n:=60) (by decide +kernel) rfl (fun _ _ _ _ _ _ us hl=>@Fv (fun us=>bindArgs _ ⟨us,[]⟩=pure (List.zip _ us)) us hl (fun _=>rfl))
 case a8 | a10 | a12 | a15 | a27 | a29=>exact Df.ok_of (n:=60) (by decide +kernel) rfl (fun _ _ _ _ _ _ us hl=>@GK (fun us=>bindArgs _ ⟨us,[]⟩=pure (List.zip _ us)) us hl (fun _ _ _=>rfl))
 case a24 | a25=>exact Df.ok_of (n:=60) (by decide +kernel) rfl (fun _ _ _ _ _ _ us hl=>@len4 (fun us=>bindArgs _ ⟨us,[]⟩=pure (List.zip _ us)) us hl (fun _ _ _ _=>rfl))
theorem plaw (ns:List Int) (hl:ns.length≤63):∃ fr,p.run 7 33 [.lst (ns.map D.int)] = .ok (.bl true,fr):=law ns hl
end K16
namespace K16
open PySem PySem.W Pc.Hd
noncomputable def K (P:Params):Frag:=[(2,{ cls:=Value.none,data:=Data.dict #[] }),
 di 3 #[kv P "__name__" 165 (sv "law_patchsquare_k16_whole_rows_mended" 412),kv P "__doc__" 166 .none,kv P "__package__" 167 .none,kv P "__loader__" 168 (.builtin "__main__.__loader__#opaque"),kv P "__spec__" 169 .none,kv P "__annotations__" 170 (.ref 6),kv P "__builtins__" 171 (.ref 4),kv P "__file__" 173 (sv "/claim/cut.py" 172),kv P "__cached__" 174 .none,kv P "SquareError" 206 (.ref 24),kv P "NoInverse" 222 (.ref 37),kv P "NoMend" 247 (.ref 56),kv P "GRAINS" 251 (.int 64 250),kv P "FOLD" 253 (.int 67 252),kv P "times_of" 264 (.ref 65),kv P "inverse_of" 271 (.ref 72),kv P "power_of" 282 (.ref 79),kv P "worth_at" 292 (.ref 86),kv P "row_product" 307 (.ref 93),kv P "row_with_noughts" 316 (.ref 100),kv P "code_noughts" 324 (.ref 105),kv P "is_code" 330 (.ref 110),kv P "mended_row" 338 (.ref 115),kv P "locator_of" 346 (.ref 122),kv P "suspect_places" 352 (.ref 127),kv P "shortest_rule" 366 (.ref 134),kv P "gap_of_rule" 378 (.ref 141),kv P "scaled_row" 384 (.ref 146),kv P "added_rows" 395 (.ref 153),kv P "changed_row" 401 (.ref 158),kv P "distances_product" 411 (.ref 165),kv P "_law_whole" 420 (.ref 172),kv P "_law_times" 430 (.ref 179),kv P "_law_cell" 438 (.ref 186),kv P "_law_mixed" 447 (.ref 193),kv P "_law_row" 453 (.ref 198),kv P "_law_sizes" 462 (.ref 205),kv P "_law_made" 468 (.ref 210),kv P "_law_places" 482 (.ref 217),kv P "_law_spoilt" 495 (.ref 224),kv P "_law_grains" 504 (.ref 231),kv P "_law_told" 513 (.ref 238),kv P "_law_long" 523 (.ref 245),kv P "_law_budget" 537 (.ref 252),kv P "_law_spelled" 548 (.ref 259),kv P "_law_by_digits" 554 (.ref 264),kv P "_law_by_draws" 560 (.ref 269),kv P "law" 574 (.ref 276)] 48,
 di 6 #[] 0,
 tu 15 #[(.type "ValueError")],
 tu 22 #[],
 di 23 #[kv P "__module__" 196 (sv "patchsquare.errors" 187),kv P "__firstlineno__" 200 (.int 2 199),kv P "__static_attributes__" 201 (.ref 22),kv P "__weakref__" 203 (.ref 25),kv P "__doc__" 204 .none] 3,
 (24,{ cls:=Value.type "type",data:=Data.cls { name:=Str.ofString "SquareError",bases:=[Value.type "ValueError"],mro:=[Value.ref 24,Value.type "ValueError",Value.type "Exception",Value.type "BaseException",Value.type "object"],ns:=23,qualname:=Str.ofString "SquareError",subclasses:=[Value.ref 37,Value.ref 56] },slots:=#[some (Value.ref 15),none,some (Value.str (Str.ofString "SquareError") 189),some (Value.str (Str.ofString "SquareError") 197),some (Value.builtin "ValueError.__new__"),some (Value.bool true)] }),
 (25,{ cls:=Value.type "getset_descriptor",data:=Data.fields #[Value.str (Str.ofString "__weakref__") 202,Value.ref 24,Value.builtin "ExceptionGroup.__weakref__",Value.none] }),
 tu 28 #[(.ref 24)],
 tu 35 #[],
 di 36 #[kv P "__module__" 214 (sv "patchsquare.errors" 187),kv P "__firstlineno__" 218 (.int 4 217),kv P "__static_attributes__" 219 (.ref 35),kv P "__doc__" 220 .none] 2,
 (37,{ cls:=Value.type "type",data:=Data.cls { name:=Str.ofString "NoInverse",bases:=[Value.ref 24],mro:=[Value.ref 37,Value.ref 24,Value.type "ValueError",Value.type "Exception",Value.type "BaseException",Value.type "object"],ns:=36,qualname:=Str.ofString "NoInverse" },slots:=#[some (Value.ref 28),none,some (Value.str (Str.ofString "NoInverse") 207),some (Value.str (Str.ofString "NoInverse") 215),some (Value.builtin "ValueError.__new__"),some (Value.bool true)] }),
 tu 40 #[(.ref 24)],
 co 52 #[(sv "__init__" 235),(sv "NoMend.__init__" 236),(sv "/claim/cut.py" 237),(.int 8 0),(.int 2 0),(.int 0 0),(.int 0 0),(.int 3 0),(.ref 47),(.bool true),(.int 181 0),(.ref 48),.none,(.ref 49),(.ref 50),(.ref 51),(.int 240 0),(.int 8 0),(sv "/claim/cut.py" 241)],
 (53,{ cls:=Value.type "function",data:=Data.func { name:=Str.ofString "__init__",qualname:=Str.ofString "NoMend.__init__",params:={ posonlyargs:=[],args:=[{ arg:=Str.ofString "self",annotation:=none,pos:={ line:=8,col:=17,endLine:=8,endCol:=21 } },{ arg:=Str.ofString "block",annotation:=none,pos:={ line:=8,col:=23,endLine:=8,endCol:=28 } }],vararg:=none,kwonlyargs:=[],kw_defaults:=[],kwarg:=none,defaults:=[] },body:=FuncBody.stmts [Stmt.Expr (((Expr.Name (Str.ofString "SquareError") { line:=9,col:=8,endLine:=9,endCol:=19 }).Attribute (Str.ofString "__init__") { line:=9,col:=8,endLine:=9,endCol:=28 }).Call [Expr.Name (Str.ofString "self") { line:=9,col:=29,endLine:=9,endCol:=33 },Expr.JoinedStr [Expr.Constant (Const.str (Str.ofString "block ")) 0 { line:=9,col:=37,endLine:=9,endCol:=43 },(Expr.Name (Str.ofString "block") { line:=9,col:=44,endLine:=9,endCol:=49 }).FormattedValue (-1) none { line:=9,col:=43,endLine:=9,endCol:=50 },Expr.Constant (Const.str (Str.ofString " can't be mended")) 0 { line:=9,col:=50,endLine:=9,endCol:=66 }] { line:=9,col:=35,endLine:=9,endCol:=67 }] [] { line:=9,col:=8,endLine:=9,endCol:=68 }) { line:=9,col:=8,endLine:=9,endCol:=68 },Stmt.Assign [(Expr.Name (Str.ofString "self") { line:=10,col:=8,endLine:=10,endCol:=12 }).Attribute (Str.ofString "block") { line:=10,col:=8,endLine:=10,endCol:=18 }] (Expr.Name (Str.ofString "block") { line:=10,col:=21,endLine:=10,endCol:=26 }) { line:=10,col:=8,endLine:=10,endCol:=26 }],scope:={ kind:=ScopeKind.function,names:=[(Str.ofString "self",NameKind.local),(Str.ofString "block",NameKind.local),(Str.ofString "SquareError",NameKind.globalImplicit)],isGenerator:=false,isCoroutine:=false },globals:=3,closure:=[],defaults:=Value.none,kwdefaults:=Value.none,pyModule:=Value.str (Str.ofString "patchsquare.errors") 187,code:=Value.ref 52 } }),
 tu 54 #[(sv "block" 243)],
 di 55 #[kv P "__module__" 230 (sv "patchsquare.errors" 187),kv P "__firstlineno__" 234 (.int 6 233),kv P "__init__" 242 (.ref 53),kv P "__static_attributes__" 244 (.ref 54),kv P "__doc__" 245 .none] 2,
 (56,{ cls:=Value.type "type",data:=Data.cls { name:=Str.ofString "NoMend",bases:=[Value.ref 24],mro:=[Value.ref 56,Value.ref 24,Value.type "ValueError",Value.type "Exception",Value.type "BaseException",Value.type "object"],ns:=55,qualname:=Str.ofString "NoMend" },slots:=#[some (Value.ref 40),none,some (Value.str (Str.ofString "NoMend") 223),some (Value.str (Str.ofString "NoMend") 231),some (Value.builtin "ValueError.__new__"),some (Value.bool true)] }),
 co 64 #[(sv "times_of" 254),(sv "times_of" 255),(sv "/claim/cut.py" 256),(.int 14 0),(.int 2 0),(.int 0 0),(.int 0 0),(.int 3 0),(.ref 59),(.bool true),(.int 181 0),(.ref 60),.none,(.ref 61),(.ref 62),(.ref 63),(.int 262 0),(.int 14 0),(sv "/claim/cut.py" 263)],
 fo 65 (st 7) (sv "patchsquare.field" 248) (.ref 64),
 co 71 #[(sv "inverse_of" 265),(sv "inverse_of" 266),(sv "/claim/cut.py" 267),(.int 26 0),(.int 1 0),(.int 0 0),(.int 0 0),(.int 3 0),(.ref 66),(.bool true),(.int 181 0),(.ref 67),.none,(.ref 68),(.ref 69),(.ref 70),(.int 269 0),(.int 26 0),(sv "/claim/cut.py" 270)],
 fo 72 (st 8) (sv "patchsquare.field" 248) (.ref 71),
 co 78 #[(sv "power_of" 272),(sv "power_of" 273),(sv "/claim/cut.py" 274),(.int 30 0),(.int 2 0),(.int 0 0),(.int 0 0),(.int 3 0),(.ref 73),(.bool true),(.int 181 0),(.ref 74),.none,(.ref 75),(.ref 76),(.ref 77),(.int 280 0),(.int 30 0),(sv "/claim/cut.py" 281)],
 fo 79 (st 9) (sv "patchsquare.field" 248) (.ref 78),
 co 85 #[(sv "worth_at" 283),(sv "worth_at" 284),(sv "/claim/cut.py" 285),(.int 40 0),(.int 2 0),(.int 0 0),(.int 0 0),(.int 3 0),(.ref 80),(.bool true),(.int 181 0),(.ref 81),.none,(.ref 82),(.ref 83),(.ref 84),(.int 290 0),(.int 40 0),(sv "/claim/cut.py" 291)],
 fo 86 (st 10) (sv "patchsquare.field" 248) (.ref 85),
 co 92 #[(sv "row_product" 295),(sv "row_product" 296),(sv "/claim/cut.py" 297),(.int 46 0),(.int 2 0),(.int 0 0),(.int 0 0),(.int 3 0),(.ref 87),(.bool true),(.int 181 0),(.ref 88),.none,(.ref 89),(.ref 90),(.ref 91),(.int 305 0),(.int 46 0),(sv "/claim/cut.py" 306)],
 fo 93 (st 12) (sv "patchsquare.rows" 293) (.ref 92),
 co 99 #[(sv "row_with_noughts" 308),(sv "row_with_noughts" 309),(sv "/claim/cut.py" 310),(.int 52 0),(.int 1 0),(.int 0 0),(.int 0 0),(.int 3 0),(.ref 94),(.bool true),(.int 181 0),(.ref 95),.none,(.ref 96),(.ref 97),(.ref 98),(.int 314 0),(.int 52 0),(sv "/claim/cut.py" 315)],
 fo 100 (st 13) (sv "patchsquare.rows" 293) (.ref 99),
 co 104 #[(sv "code_noughts" 319),(sv "code_noughts" 320),(sv "/claim/cut.py" 321),(.int 58 0),(.int 1 0),(.int 0 0),(.int 0 0),(.int 3 0),(.ref 101),(.bool true),(.int 181 0),(.ref 102),.none,.none,.none,(.ref 103),(.int 322 0),(.int 58 0),(sv "/claim/cut.py" 323)],
 fo 105 (st 15) (sv "patchsquare.checks" 317) (.ref 104),
 co 109 #[(sv "is_code" 325),(sv "is_code" 326),(sv "/claim/cut.py" 327),(.int 60 0),(.int 2 0),(.int 0 0),(.int 0 0),(.int 3 0),(.ref 106),(.bool true),(.int 181 0),(.ref 107),.none,.none,.none,(.ref 108),(.int 328 0),(.int 60 0),(sv "/claim/cut.py" 329)],
 fo 110 (st 16) (sv "patchsquare.checks" 317) (.ref 109),
 co 114 #[(sv "mended_row" 333),(sv "mended_row" 334),(sv "/claim/cut.py" 335),(.int 63 0),(.int 3 0),(.int 0 0),(.int 0 0),(.int 3 0),(.ref 111),(.bool true),(.int 181 0),(.ref 112),.none,.none,.none,(.ref 113),(.int 336 0),(.int 63 0),(sv "/claim/cut.py" 337)],
 fo 115 (st 18) (sv "patchsquare.mending" 331) (.ref 114),
 co 121 #[(sv "locator_of" 339),(sv "locator_of" 340),(sv "/claim/cut.py" 341),(.int 73 0),(.int 2 0),(.int 0 0),(.int 0 0),(.int 3 0),(.ref 116),(.bool true),(.int 181 0),(.ref 117),.none,(.ref 118),(.ref 119),(.ref 120),(.int 344 0),(.int 73 0),(sv "/claim/cut.py" 345)],
 fo 122 (st 19) (sv "patchsquare.mending" 331) (.ref 121),
 co 126 #[(sv "suspect_places" 347),(sv "suspect_places" 348),(sv "/claim/cut.py" 349),(.int 75 0),(.int 3 0),(.int 0 0),(.int 0 0),(.int 3 0),(.ref 123),(.bool true),(.int 181 0),(.ref 124),.none,.none,.none,(.ref 125),(.int 350 0),(.int 75 0),(sv "/claim/cut.py" 351)],
 fo 127 (st 20) (sv "patchsquare.mending" 331) (.ref 126),
 co 133 #[(sv "shortest_rule" 353),(sv "shortest_rule" 354),(sv "/claim/cut.py" 355),(.int 81 0),(.int 1 0),(.int 0 0),(.int 0 0),(.int 3 0),(.ref 128),(.bool true),(.int 181 0),(.ref 129),.none,(.ref 130),(.ref 131),(.ref 132),(.int 364 0),(.int 81 0),(sv "/claim/cut.py" 365)],
 fo 134 (st 21) (sv "patchsquare.mending" 331) (.ref 133),
 co 140 #[(sv "gap_of_rule" 367),(sv "gap_of_rule" 368),(sv "/claim/cut.py" 369),(.int 98 0),(.int 3 0),(.int 0 0),(.int 0 0),(.int 3 0),(.ref 135),(.bool true),(.int 181 0),(.ref 136),.none,(.ref 137),(.ref 138),(.ref 139),(.int 376 0),(.int 98 0),(sv "/claim/cut.py" 377)],
 fo 141 (st 22) (sv "patchsquare.mending" 331) (.ref 140),
 co 145 #[(sv "scaled_row" 379),(sv "scaled_row" 380),(sv "/claim/cut.py" 381),(.int 103 0),(.int 2 0),(.int 0 0),(.int 0 0),(.int 3 0),(.ref 142),(.bool true),(.int 181 0),(.ref 143),.none,.none,.none,(.ref 144),(.int 382 0),(.int 103 0),(sv "/claim/cut.py" 383)],
 fo 146 (st 23) (sv "patchsquare.mending" 331) (.ref 145),
 co 152 #[(sv "added_rows" 385),(sv "added_rows" 386),(sv "/claim/cut.py" 387),(.int 105 0),(.int 2 0),(.int 0 0),(.int 0 0),(.int 3 0),(.ref 147),(.bool true),(.int 181 0),(.ref 148),.none,(.ref 149),(.ref 150),(.ref 151),(.int 393 0),(.int 105 0),(sv "/claim/cut.py" 394)],
 fo 153 (st 24) (sv "patchsquare.mending" 331) (.ref 152),
 co 157 #[(sv "changed_row" 396),(sv "changed_row" 397),(sv "/claim/cut.py" 398),(.int 110 0),(.int 3 0),(.int 0 0),(.int 0 0),(.int 3 0),(.ref 154),(.bool true),(.int 181 0),(.ref 155),.none,.none,.none,(.ref 156),(.int 399 0),(.int 110 0),(sv "/claim/cut.py" 400)],
 fo 158 (st 25) (sv "patchsquare.mending" 331) (.ref 157),
 co 164 #[(sv "distances_product" 402),(sv "distances_product" 403),(sv "/claim/cut.py" 404),(.int 118 0),(.int 2 0),(.int 0 0),(.int 0 0),(.int 3 0),(.ref 159),(.bool true),(.int 181 0),(.ref 160),.none,(.ref 161),(.ref 162),(.ref 163),(.int 409 0),(.int 118 0),(sv "/claim/cut.py" 410)],
 fo 165 (st 26) (sv "patchsquare.mending" 331) (.ref 164),
 co 171 #[(sv "_law_whole" 414),(sv "_law_whole" 415),(sv "/claim/cut.py" 416),(.int 125 0),(.int 1 0),(.int 0 0),(.int 0 0),(.int 3 0),(.ref 166),(.bool true),(.int 181 0),(.ref 167),.none,(.ref 168),(.ref 169),(.ref 170),(.int 418 0),(.int 125 0),(sv "/claim/cut.py" 419)],
 fo 172 (st 28) (sv "law_patchsquare_k16_whole_rows_mended" 412) (.ref 171),
 co 178 #[(sv "_law_times" 421),(sv "_law_times" 422),(sv "/claim/cut.py" 423),(.int 127 0),(.int 2 0),(.int 0 0),(.int 0 0),(.int 3 0),(.ref 173),(.bool true),(.int 181 0),(.ref 174),.none,(.ref 175),(.ref 176),(.ref 177),(.int 428 0),(.int 127 0),(sv "/claim/cut.py" 429)],
 fo 179 (st 29) (sv "law_patchsquare_k16_whole_rows_mended" 412) (.ref 178),
 co 185 #[(sv "_law_cell" 431),(sv "_law_cell" 432),(sv "/claim/cut.py" 433),(.int 136 0),(.int 2 0),(.int 0 0),(.int 0 0),(.int 3 0),(.ref 180),(.bool true),(.int 181 0),(.ref 181),.none,(.ref 182),(.ref 183),(.ref 184),(.int 436 0),(.int 136 0),(sv "/claim/cut.py" 437)],
 fo 186 (st 30) (sv "law_patchsquare_k16_whole_rows_mended" 412) (.ref 185),
 co 192 #[(sv "_law_mixed" 439),(sv "_law_mixed" 440),(sv "/claim/cut.py" 441),(.int 140 0),(.int 2 0),(.int 0 0),(.int 0 0),(.int 3 0),(.ref 187),(.bool true),(.int 181 0),(.ref 188),.none,(.ref 189),(.ref 190),(.ref 191),(.int 445 0),(.int 140 0),(sv "/claim/cut.py" 446)],
 fo 193 (st 31) (sv "law_patchsquare_k16_whole_rows_mended" 412) (.ref 192),
 co 197 #[(sv "_law_row" 448),(sv "_law_row" 449),(sv "/claim/cut.py" 450),(.int 143 0),(.int 2 0),(.int 0 0),(.int 0 0),(.int 3 0),(.ref 194),(.bool true),(.int 181 0),(.ref 195),.none,.none,.none,(.ref 196),(.int 451 0),(.int 143 0),(sv "/claim/cut.py" 452)],
 fo 198 (st 32) (sv "law_patchsquare_k16_whole_rows_mended" 412) (.ref 197),
 co 204 #[(sv "_law_sizes" 454),(sv "_law_sizes" 455),(sv "/claim/cut.py" 456),(.int 148 0),(.int 1 0),(.int 0 0),(.int 0 0),(.int 3 0),(.ref 199),(.bool true),(.int 181 0),(.ref 200),.none,(.ref 201),(.ref 202),(.ref 203),(.int 460 0),(.int 148 0),(sv "/claim/cut.py" 461)],
 fo 205 (st 33) (sv "law_patchsquare_k16_whole_rows_mended" 412) (.ref 204),
 co 209 #[(sv "_law_made" 463),(sv "_law_made" 464),(sv "/claim/cut.py" 465),(.int 158 0),(.int 2 0),(.int 0 0),(.int 0 0),(.int 3 0),(.ref 206),(.bool true),(.int 181 0),(.ref 207),.none,.none,.none,(.ref 208),(.int 466 0),(.int 158 0),(sv "/claim/cut.py" 467)],
 fo 210 (st 34) (sv "law_patchsquare_k16_whole_rows_mended" 412) (.ref 209),
 co 216 #[(sv "_law_places" 469),(sv "_law_places" 470),(sv "/claim/cut.py" 471),(.int 165 0),(.int 4 0),(.int 0 0),(.int 0 0),(.int 3 0),(.ref 211),(.bool true),(.int 181 0),(.ref 212),.none,(.ref 213),(.ref 214),(.ref 215),(.int 480 0),(.int 165 0),(sv "/claim/cut.py" 481)],
 fo 217 (st 35) (sv "law_patchsquare_k16_whole_rows_mended" 412) (.ref 216),
 co 223 #[(sv "_law_spoilt" 483),(sv "_law_spoilt" 484),(sv "/claim/cut.py" 485),(.int 172 0),(.int 4 0),(.int 0 0),(.int 0 0),(.int 3 0),(.ref 218),(.bool true),(.int 181 0),(.ref 219),.none,(.ref 220),(.ref 221),(.ref 222),(.int 493 0),(.int 172 0),(sv "/claim/cut.py" 494)],
 fo 224 (st 36) (sv "law_patchsquare_k16_whole_rows_mended" 412) (.ref 223),
 co 230 #[(sv "_law_grains" 496),(sv "_law_grains" 497),(sv "/claim/cut.py" 498),(.int 180 0),(.int 2 0),(.int 0 0),(.int 0 0),(.int 3 0),(.ref 225),(.bool true),(.int 181 0),(.ref 226),.none,(.ref 227),(.ref 228),(.ref 229),(.int 502 0),(.int 180 0),(sv "/claim/cut.py" 503)],
 fo 231 (st 37) (sv "law_patchsquare_k16_whole_rows_mended" 412) (.ref 230),
 co 237 #[(sv "_law_told" 505),(sv "_law_told" 506),(sv "/claim/cut.py" 507),(.int 187 0),(.int 3 0),(.int 0 0),(.int 0 0),(.int 3 0),(.ref 232),(.bool true),(.int 181 0),(.ref 233),.none,(.ref 234),(.ref 235),(.ref 236),(.int 511 0),(.int 187 0),(sv "/claim/cut.py" 512)],
 fo 238 (st 38) (sv "law_patchsquare_k16_whole_rows_mended" 412) (.ref 237),
 co 244 #[(sv "_law_long" 514),(sv "_law_long" 515),(sv "/claim/cut.py" 516),(.int 193 0),(.int 2 0),(.int 0 0),(.int 0 0),(.int 3 0),(.ref 239),(.bool true),(.int 181 0),(.ref 240),.none,(.ref 241),(.ref 242),(.ref 243),(.int 521 0),(.int 193 0),(sv "/claim/cut.py" 522)],
 fo 245 (st 39) (sv "law_patchsquare_k16_whole_rows_mended" 412) (.ref 244),
 co 251 #[(sv "_law_budget" 524),(sv "_law_budget" 525),(sv "/claim/cut.py" 526),(.int 199 0),(.int 3 0),(.int 0 0),(.int 0 0),(.int 3 0),(.ref 246),(.bool true),(.int 181 0),(.ref 247),.none,(.ref 248),(.ref 249),(.ref 250),(.int 535 0),(.int 199 0),(sv "/claim/cut.py" 536)],
 fo 252 (st 40) (sv "law_patchsquare_k16_whole_rows_mended" 412) (.ref 251),
 co 258 #[(sv "_law_spelled" 538),(sv "_law_spelled" 539),(sv "/claim/cut.py" 540),(.int 210 0),(.int 2 0),(.int 0 0),(.int 0 0),(.int 3 0),(.ref 253),(.bool true),(.int 181 0),(.ref 254),.none,(.ref 255),(.ref 256),(.ref 257),(.int 546 0),(.int 210 0),(sv "/claim/cut.py" 547)],
 fo 259 (st 41) (sv "law_patchsquare_k16_whole_rows_mended" 412) (.ref 258),
 co 263 #[(sv "_law_by_digits" 549),(sv "_law_by_digits" 550),(sv "/claim/cut.py" 551),(.int 219 0),(.int 1 0),(.int 0 0),(.int 0 0),(.int 3 0),(.ref 260),(.bool true),(.int 181 0),(.ref 261),.none,.none,.none,(.ref 262),(.int 552 0),(.int 219 0),(sv "/claim/cut.py" 553)],
 fo 264 (st 42) (sv "law_patchsquare_k16_whole_rows_mended" 412) (.ref 263),
 co 268 #[(sv "_law_by_draws" 555),(sv "_law_by_draws" 556),(sv "/claim/cut.py" 557),(.int 232 0),(.int 1 0),(.int 0 0),(.int 0 0),(.int 3 0),(.ref 265),(.bool true),(.int 181 0),(.ref 266),.none,.none,.none,(.ref 267),(.int 558 0),(.int 232 0),(sv "/claim/cut.py" 559)],
 fo 269 (st 43) (sv "law_patchsquare_k16_whole_rows_mended" 412) (.ref 268),
 co 275 #[(sv "law" 561),(sv "law" 562),(sv "/claim/cut.py" 563),(.int 250 0),(.int 1 0),(.int 0 0),(.int 0 0),(.int 3 0),(.ref 270),(.bool true),(.int 181 0),(.ref 271),.none,(.ref 272),(.ref 273),(.ref 274),(.int 572 0),(.int 250 0),(sv "/claim/cut.py" 573)],
 fo 276 (st 44) (sv "law_patchsquare_k16_whole_rows_mended" 412) (.ref 275)]
noncomputable def as:List Addr:=[2,3,6,15,22,23,24,25,28,35,36,37,40,52,53,54,55,56,64,65,71,72,78,79,85,86,92,93,99,100,104,105,109,110,114,115,121,122,126,127,133,134,140,141,145,146,152,153,157,158,164,165,171,172,178,179,185,186,192,193,197,198,204,205,209,210,216,217,223,224,230,231,237,238,244,245,251,252,258,259,263,264,268,269,275,276]
noncomputable def Q:Program:={ PySem.Challenge.pw_patchsquare_k16_whole_rows_mended with main:={ PySem.Challenge.pw_patchsquare_k16_whole_rows_mended.main with body:=[st 1,st 2,st 3,st 5,st 6,st 7,st 8,st 9,st 10,st 12,st 13,st 15,st 16,st 18,st 19,st 20,st 21,st 22,st 23,st 24,st 25,st 26,st 28,st 29,st 30,st 31,st 32,st 33,st 34,st 35,st 36,st 37,st 38,st 39,st 40,st 41,st 42,st 43,st 44] } }
noncomputable def H:Hook:=kHook K as (fun _=>rfl)
end K16
open PySem PySem.W PyProof.Rows
theorem K16.left:LeftO PySem.Challenge.pw_patchsquare_k16_whole_rows_mended K16.Q [] (fun s=>xlAt K16.Q [] s&&recOk (RowW.records PySem.Challenge.rw_patchsquare_k16_whole_rows_mended.row.toRowW) s) (Hook.obs K16.H) (Hook.val K16.H) 3640:=by
 intro w
 kernel_rfl
theorem PySem.Challenge.cw_patchsquare_k16_whole_rows_mended_holds : PySem.Challenge.rw_patchsquare_k16_whole_rows_mended.Holds := by
 refine holds_law (by decide +kernel) fun said=>?_
 refine holds_open (q:=K16.Q) (loose:=[]) (XP:=XL K16.Q []) (YP:=Hook.says K16.H) K16.left (Hook.of K16.H) (Hook.keeps K16.H) (fun s e=>xl_of s (Bool.and_eq_true_iff.mp e).1) XL.keeps (by rfl) (by rfl) (by rfl) (fun s e=>recFacts_of (Bool.and_eq_true_iff.mp e).2) (by rfl) said (by decide +kernel) ⟨rfl,rfl,rfl,rfl,rfl,by decide +kernel⟩ ?hw ?hc
 case hw=>w_witness2
 refine Pc.walk (l:=PySem.Challenge.rw_patchsquare_k16_whole_rows_mended) K16.p 7 33 "_law_script" K16.Fc rfl rfl (fun w h Y=>PySem.W.kIn_of Y) rfl rfl rfl ⟨rfl,by decide,by decide⟩ K16.ok ?st ?nl ?hh K16.plaw
 case nl=>intro w;rfl
 case hh=>intro w;exact Pc.FN rfl
 case st =>
  intro w;refine⟨⟨?d0,?d1,?d2,?d3,?d4,?d5,?d6,?d7,?d8,?d9,?d10,?d11,?d12,?d13,?d14,?d15,?d16,?d17,?d18,?d19,?d20,?d21,?d22,?d23,?d24,?d25,?d26,?d27,?d28,?d29,?d30,?d31,?d32,?d33,trivial⟩,Pc.z5 ⟨?glb0,?glb1,trivial⟩,⟨?e0,?e1,?e2,?e3,?e4,?e5,?e6,?e7,?e8,?e9,?e10,?e11,trivial⟩⟩
  case d0 | d1 | d2 | d3 | d4 | d5 | d6 | d7 | d8 | d9 | d10 | d11 | d12 | d13 | d14 | d15 | d16 | d17 | d18 | d19 | d20 | d21 | d22 | d23 | d24 | d25 | d26 | d27 | d28 | d29 | d30 | d31 | d32 | d33=>refine' Pc.Dn ?a ?l ?c ?k;(case a=>rfl);(case l=>rfl);(case c=>rfl);(case k=>rfl)
  case glb0=>refine' Pc.gl_int (i:=64) ?ga0;(case ga0=>rfl)
  case glb1=>refine' Pc.gl_int (i:=67) ?ga1;(case ga1=>rfl)
  case e0 | e1 | e2 | e3 | e4 | e5 | e6 | e7 | e8 | e9 | e10 | e11=>dsimp only;rfl
end
