import PyProof.Rows.All
import Wide.All
import OpenK.AllK
import Wide.FinOn
import Lean
import PyProof.EqAt
import PyProof.EqKinds
import PyProof.TupleCall
import PySem.Syntax
import PySem.Str
import PySem.Sem
import PySem.Builtin.Int.W1All
import PySem.Builtin.Str.Common
import PySem.Builtin.Range.Common
import KE.IntText
import KE.KSortAsk
import PyProof.IsRules
import PyProof.NeKinds
import PyProof.DictWalks
import PyProof.EnumMake
import PyProof.EnumFor
import PyProof.ZipIter
import PyProof.Rows.EnumRows
import PyProof.Rows.FactsT2
import KE.KRevIter
import PyProof.CompFree
import PyProof.CompUse
import PyProof.Cells
import PyProof.ConsumeWalk
import PyProof.IsInstanceH
import PyProof.IsiNone
import PyProof.SumWalkG
import PyProof.Rows.SumGenD
import PyProof.ListRange
import PyProof.MinMaxWalk
import PyProof.WalkInts
import PyProof.Conv_int_bool
import PyProof.Rows.CallKwBuiltin
import KE.KSorted
import KE.KSort
import OpenK.KOwn
import PyProof.RulesAs
import PyProof.RulesDel
import PyProof.ExcArgsOwn
import PyProof.ExcAttrAll.ValueError
import PyProof.Rows.RuleN_isinstance
import PyProof.IsiTuple
import PyProof.ExcInit
import PyProof.InstStoreFacts
import PyProof.ExcBaseAll.ValueError
import PyProof.FString
import PyProof.AssignAttr
import OpenK.KMore
import PySem.Challenge.RW_patchsquare_k19_missing_grains
set_option Elab.async false
set_option linter.all false
set_option maxRecDepth 100000
set_option maxHeartbeats 0
abbrev aa:=@List.mem_cons_of_mem
abbrev ae:=@Option.map_eq_some_iff
abbrev ag:=@List.mem_cons_self
abbrev ah:=@Option.bind_eq_some_iff
abbrev ai:=@Bool.and_eq_true
abbrev aj:=@List.length_map
abbrev ak:=@List.size_toArray
abbrev ao:=@List.mem_append_right
abbrev aq:=@List.length_set
abbrev au:=@Nat.le_refl
abbrev av:=@Nat.lt_of_lt_of_le
abbrev ax:=@List.map_cons
abbrev ay:=@List.mem_append_left
abbrev az:=@Bool.false_eq_true
abbrev ba:=@Bool.false_ne_true
abbrev bc:=@List.length_replicate
abbrev bg:=@List.map_map
abbrev bh:=@Nat.xor_assoc
abbrev bj:=@Int.toNat_natCast
abbrev bo:=@List.append_nil
abbrev bq:=@Option.map_some
abbrev br:=@decide_eq_true_eq
abbrev bt:=@Nat.ne_of_lt
abbrev bu:=@Nat.le_trans
abbrev bw:=@List.all_eq_true
abbrev bz:=@List.nodup_nil
abbrev cg:=@List.length_range
abbrev cj:=@Ne.symm
abbrev cm:=@PySem.mem_of_lookup
abbrev cq:=@List.mem_of_getElem
abbrev cu:=@Nat.zero_xor
abbrev cv:=@if_true
abbrev cw:=@Option.some.injEq
abbrev cy:=@if_false
abbrev cz:=@List.length_append
abbrev c8:=@List.lookup_cons
abbrev c9:=@List.length_cons
abbrev de:=@decide_eq_false
abbrev df:=@Option.some.inj
abbrev dh:=@List.all_cons
abbrev dk:=@List.replicate_succ
abbrev dm:=@Nat.zero_le
abbrev dn:=@List.flatten_cons
abbrev dq:=@decide_eq_true
abbrev dr:=@PyProof.Rows.callWith_type1
abbrev du:=@of_decide_eq_true
abbrev dw:=@Nat.mod_two_eq_zero_or_one
abbrev dz:=@List.not_mem_nil
abbrev eg:=@List.length_take
abbrev eh:=@List.nodup_append
abbrev ek:=@List.append_assoc
abbrev en:=@List.map_congr_left
abbrev eo:=@Nat.zero_add
abbrev et:=@List.mem_cons
abbrev eu:=@Decidable.byContradiction
abbrev ey:=@Bool.eq_iff_iff
abbrev fb:=@Bool.not_eq_true'
abbrev fe:=@Nat.lt_irrefl
abbrev fh:=@PySem.F.plainAttrs_list
abbrev fi:=@Int.natCast_nonneg
abbrev fk:=@Prod.mk.injEq
abbrev fm:=@Nat.xor_self
abbrev fq:=@List.length_drop
abbrev fu:=@Nat.shiftRight_eq_div_pow
abbrev fv:=@Nat.not_lt_zero
abbrev fw:=@List.of_mem_zip
abbrev f7:=@Bool.or_eq_true
abbrev f9:=@List.lookup_append
abbrev gb:=@Nat.xor_zero
abbrev gi:=@List.length_filter_le
abbrev gj:=@Nat.mod_lt
abbrev gm:=@Nat.le_of_not_lt
abbrev gn:=@List.ext_getElem
abbrev gq:=@Bool.not_eq_true
abbrev gu:=@List.mem_filter
abbrev gv:=@beq_eq_false_iff_ne
abbrev gx:=@or_false
abbrev g6:=@beq_iff_eq
abbrev g7:=@Nat.lt_of_le_of_lt
abbrev g8:=@List.contains_cons
abbrev g9:=@List.mem_or_eq_of_mem_set
abbrev h8:=@List.pairwise_map
abbrev ie:=@List.any_cons
abbrev ig:=@Bool.true_and
abbrev ij:=@congrArg
abbrev ik:=@Nat.min_le_right
abbrev il:=@PySem.W.cellsFrom_some
abbrev ip:=@Nat.sub_self
abbrev iq:=@Nat.pow_succ
abbrev iu:=@List.take_of_length_le
abbrev iw:=@List.nodup_cons
abbrev iy:=@List.mem_append
abbrev iz:=@List.map_append
section
namespace L2
open PySem PySem.Spec PyProof.Rows
noncomputable abbrev Key:=Sum Int Str
noncomputable def Cq:Key→Value→Bool
 |.inl k,v=>Value.isInt k v
 |.inr x,v=>Value.isStrOf x v
noncomputable def keyH (w:World):Key→Int
 |.inl k=>hashInt k
 |.inr x=>hashStr w x
theorem bV:∀{k:Key}{v:Value},Cq k v=true→(∃ i t,k=Sum.inl i∧v=Value.int i t)∨(∃ x t,k=Sum.inr x∧v=Value.str x t)
 | .inl i,v,h=>by
  obtain⟨t,e⟩:=Value.isInt_shape (k:=i) (v:=v) h;exact .inl ⟨i,t,rfl,e⟩
 | .inr x,v,h=>by
  obtain⟨t,e⟩:=Value.isStrOf_shape (x:=x) (v:=v) h;exact .inr ⟨x,t,rfl,e⟩
theorem Di (a b:Int):decide ((Sum.inl a:Key)=Sum.inl b)=(a==b):=by
 by_cases e:a=b
 ·subst e;simp
 ·have h:¬ (Sum.inl a:Key)=Sum.inl b:=fun q=>e (Sum.inl.inj q)
  rw[de h];exact (gv.mpr e).symm
theorem CZ (a b:Str):decide ((Sum.inr a:Key)=Sum.inr b)=decide (a=b):=by
 by_cases e:a=b
 ·subst e;simp
 ·have h:¬ (Sum.inr a:Key)=Sum.inr b:=fun q=>e (Sum.inr.inj q)
  rw[de h,de e]
theorem Dp (a:Int) (b:Str):decide ((Sum.inl a:Key)=Sum.inr b)=false:=de (fun q=>nomatch q)
theorem EL (a:Str) (b:Int):decide ((Sum.inr a:Key)=Sum.inl b)=false:=de (fun q=>nomatch q)
noncomputable def pq (prog:Program) (w:World):PySem.KeyKind prog w Key where
 is:=Cq
 hash:=keyH w
 inj:=fun v a b ha hb=>by
  rcases bV ha with ⟨i,t,rfl,rfl⟩ | ⟨x,t,rfl,rfl⟩
  ·rcases bV hb with ⟨j,u,rfl,e⟩ | ⟨y,u,rfl,e⟩
   ·injection e with e1 _;rw[e1]
   ·exact nomatch e
  ·rcases bV hb with ⟨j,u,rfl,e⟩ | ⟨y,u,rfl,e⟩
   ·exact nomatch e
   ·injection e with e1 _;rw[e1]
 byValue:=fun k v h=>by
  rcases bV h with ⟨i,t,rfl,rfl⟩ | ⟨x,t,rfl,rfl⟩<;>rfl
 pyHash:=fun hv h=>by
  rcases bV hv with ⟨i,t,rfl,rfl⟩ | ⟨x,t,rfl,rfl⟩
  ·exact wpAny_pyHash_int h
  ·exact wpAny_pyHash_str h
 eqBool:=fun hu hv h=>by
  rcases bV hu with ⟨i,t,rfl,rfl⟩ | ⟨x,t,rfl,rfl⟩
  ·rcases bV hv with ⟨j,u,rfl,rfl⟩ | ⟨y,u,rfl,rfl⟩
   ·rw[Di] at h;exact wpAny_eqBool_int h
   ·rw[Dp] at h;exact SeqAt.EqAt.int_str i t y u _ _ _ _ h
  ·rcases bV hv with ⟨j,u,rfl,rfl⟩ | ⟨y,u,rfl,rfl⟩
   ·rw[EL] at h;exact SeqAt.EqAt.str_int x t j u _ _ _ _ h
   ·rw[CZ] at h;exact wpAny_eqBool_str h
 «strs»:=fun k x t v h=>by
  rcases bV h with ⟨i,u,rfl,e⟩ | ⟨y,u,rfl,e⟩
  ·exact nomatch e
  ·injection e with e1 _
   subst e1;cases v<;>rfl
end L2
namespace L2
open PySem PySem.Spec PyProof.Rows
inductive V where
 | non | bl (b:Bool) | int (i:Int) | str (x:Str) | byt (b:Array UInt8) | flt (b:UInt64) | ref (a:Addr) | ty (n:String)
 deriving DecidableEq
noncomputable def RelV:V→Value→Prop
 |.non,u=>u=Value.none
 |.bl b,u=>u=Value.bool b
 |.int i,u=>∃ t,u=Value.int i t
 |.str x,u=>∃ t,u=Value.str x t
 |.byt b,u=>∃ t,u=Value.bytes b t
 |.flt b,u=>∃ t,u=Value.float b t
 |.ref a,u=>u=Value.ref a
 |.ty n,u=>u=Value.type n
noncomputable abbrev aQ:List V→List Value→Prop:=Paired RelV
theorem aQ.length {xs:List V}{us:List Value}(r:aQ xs us):xs.length=us.length:=Paired.length r
theorem aQ.get:∀{xs:List V}{us:List Value}{i:Nat}{x:V},aQ xs us→xs[i]? = some x→∃ u,us[i]? = some u∧RelV x u
 |_,_,_,_,.nil,e=>by simp at e
 |_,_,0,_,.cons r _,e=>by simp at e;subst e;exact⟨_,rfl,r⟩
 | _,_,i+1,x,.cons _ t,e=>by
  obtain⟨u,h1,h2⟩:=aQ.get (i:=i) (x:=x) t (by simpa using e);exact⟨u,by simpa using h1,h2⟩
theorem aQ.set {x:V}{u:Value}(r:RelV x u):∀{xs:List V}{us:List Value}(i:Nat),aQ xs us→aQ (xs.set i x) (us.set i u)
 |_,_,_,.nil=>.nil
 |_,_,0,.cons _ t=>.cons r t
 |_,_,i+1,.cons q t=>.cons q (aQ.set r i t)
theorem aQ.append:∀{xs ys:List V}{us ws:List Value},aQ xs us→aQ ys ws→aQ (xs++ys) (us++ws)
 |_,_,_,_,.nil,s=>s
 |_,_,_,_,.cons r t,s=>.cons r (aQ.append t s)
theorem aQ.take:∀{xs:List V}{us:List Value}(n:Nat),aQ xs us→aQ (xs.take n) (us.take n)
 |_,_,0,_=>.nil
 |_,_,_+1,.nil=>.nil
 |_,_,n+1,.cons r t=>.cons r (aQ.take n t)
theorem aQ.drop:∀{xs:List V}{us:List Value}(n:Nat),aQ xs us→aQ (xs.drop n) (us.drop n)
 |_,_,0,r=>r
 |_,_,_+1,.nil=>.nil
 |_,_,n+1,.cons _ t=>aQ.drop n t
noncomputable def Gn:Option V→Option Value→Prop
 |some v,some u=>RelV v u
 |none,none=>True
 |_,_=>False
noncomputable def KV {κ:Type}:List (κ×V)→List (κ×Value)→Prop:=Paired fun (p:κ×V) (q:κ×Value)=>p.1=q.1∧RelV p.2 q.2
noncomputable def kV:Key→V
 |.inl i=>.int i
 |.inr x=>.str x
inductive HO where
 | lst (xs:List V)
 | tup (xs:List V)
 | dK (kvs:List (Key×V)) | dT (kvs:List (List Key×V))
 | set (S:Int→Bool) (n:Nat)
 | ins (C dx:Addr) (fs:List (Str×V))
 | own (x:Addr)
 | xd (fs:List (Str×V))
 | met (f x:Addr)
 | rng (lo hi:Int)
 | frz (o:Obj) (u:HO)
 | tbl (ps:Array Value)
 | ext (φ:Heap→Prop)
noncomputable abbrev Hp:=Addr→Option HO
noncomputable def upd (H:Hp) (a:Addr) (o:HO):Hp:=fun b=>if b=a then some o else H b
theorem bN {H:Hp}{a:Addr}{o:HO}:upd H a o a=some o:=by unfold upd;rw[if_pos rfl]
theorem aS {H:Hp}{a b:Addr}{o:HO}(h:b≠a):upd H a o b=H b:=by unfold upd;rw[if_neg h]
theorem bX {H:Hp}{a b:Addr}{o:HO}(h:H a=some o) (h':H b=none):a≠b:=by
 intro e;subst e;rw[h] at h';cases h'
section
variable (P:Program) (w:World)
noncomputable def dX (H:Hp) (h:Heap) (a:Addr):HO→Prop
 |.lst xs=>xs.length≤sizeLine∧∃(its:List Value) (n:Nat),aQ xs its∧h.get? a=some { cls:=.type "list",data:=.seq its.toArray n }
 |.tup xs=>xs.length≤sizeLine∧∃ its:List Value,aQ xs its∧IsTup h a its.toArray
 |.dK kvs=>kvs.length≤sizeLine∧(a==sysModules)=false∧∃ vs,KV kvs vs∧h.DictOf (pq P w) a vs
 | .dT kvs=>kvs.length≤sizeLine∧(a==sysModules)=false∧∃ xs:List (List Key×Addr×Value),
   Paired (fun (p:List Key×V) (q:List Key×Addr×Value)=>p.1=q.1∧H q.2.1=some (.tup (p.1.map kV))∧RelV p.2 q.2.2) kvs xs ∧
   ∃ o es ep,h.get? a=some o∧o.ExactDict∧o.data = .dict es ep∧es.toList=xs.map (entryOfKey (tupleKind (pq P w)))∧(xs.map (·.1)).Nodup
 |.set S n=>h.SetOf (intKind P w) a S n
 | .ins C dx fs=>H dx=some (.own a)∧fs.length≤1000∧dx≠a∧h.get? a=some (PySem.W.instObj C dx) ∧
   ∃ mA,h.Ns1 dx mA∧(∀ f,Gn (fs.lookup f) (mA f))∧PySem.Within mA (fs.map (·.1))
 |.own _=>∃ o,h.get? a=some o
 |.xd fs=>∃ mA,h.Ns1 a mA∧∀ f,Gn (fs.lookup f) (mA f)
 |.rng lo hi=>∃ t u v,h.get? a=some { cls:=.type "range",data:=.fields #[.int lo t,.int hi u,.int 1 v] }
 |.frz o u=>h.get? a=some o∧dX H h a u
 |.tbl ps=>h.get? a=some { cls:=.none,data:=.fields ps }
 |.met f x=>h.get? a=some (PySem.W.methodObj (.ref f) (.ref x))
 |.ext φ=>φ h∧(∃ o,h.get? a=some o)∧∀ h1 h2:Heap,φ h1→(∀ o,h1.get? a=some o→h2.get? a=some o)→φ h2
noncomputable def kx (H:Hp) (h:Heap):Prop:=∀ a o,H a=some o→dX P w H h a o
end
section
variable {P:Program}{w:World}{H H':Hp}{h h':Heap}{a:Addr}{o:HO}
theorem dX.lt (x:dX P w H h a o):a<h.objs.size:=by
 cases o with
 |lst xs=>obtain⟨_,_,_,_,e⟩:=x;exact Heap.lt_size e
 |tup xs=>obtain⟨_,_,_,p⟩:=x;exact p.lt
 |dK kvs=>obtain⟨_,_,_,_,o,_,_,e,_⟩:=x;exact Heap.lt_size e
 |dT kvs=>obtain⟨_,_,_,_,o,_,_,e,_⟩:=x;exact Heap.lt_size e
 |set S n=>obtain⟨o,_,_,_,e,_⟩:=x;exact Heap.lt_size e
 |ins C dx fs=>obtain⟨_,_,_,e,_⟩:=x;exact Heap.lt_size e
 |own y=>obtain⟨_,e⟩:=x;exact Heap.lt_size e
 |xd fs=>obtain⟨_,⟨_,_,_,e,_⟩,_⟩:=x;exact Heap.lt_size e
 |rng lo hi=>obtain⟨_,_,_,e⟩:=x;exact Heap.lt_size e
 |frz ob u=>obtain⟨e,_⟩:=x;exact Heap.lt_size e
 |tbl ps=>exact Heap.lt_size (show h.get? a=some _ from x)
 |met f y=>exact Heap.lt_size (show h.get? a=some _ from x)
 |ext φ=>obtain⟨_,⟨_,e⟩,_⟩:=x;exact Heap.lt_size e
theorem Paired.mapP {α β:Type}{F G:α→β→Prop}:∀{l₁:List α}{l₂:List β},Paired F l₁ l₂→(∀ a b,F a b→G a b)→Paired G l₁ l₂
 |_,_,.nil,_=>.nil
 |_,_,.cons r t,f=>.cons (f _ _ r) (Paired.mapP t f)
theorem dX.stay (x:dX P w H h a o) (k:∀ b u,(b=a∨H b=some (.own a))→h.get? b=some u→h'.get? b=some u)
  (ho:∀ b,H b=some (.own a)→H' b=some (.own a)) (ht:∀ b xs,H b=some (.tup xs)→H' b=some (.tup xs)):dX P w H' h' a o:=by
 induction o with
 |lst xs=>obtain⟨z,its,n,r,e⟩:=x;exact⟨z,its,n,r,k _ _ (.inl rfl) e⟩
 |tup xs=>obtain⟨z,its,r,ob,e,c⟩:=x;exact⟨z,its,r,ob,k _ _ (.inl rfl) e,c⟩
 |dK kvs=>obtain⟨z,y,vs,r,ob,es,ep,e,c⟩:=x;exact⟨z,y,vs,r,ob,es,ep,k _ _ (.inl rfl) e,c⟩
 |dT kvs =>
  obtain⟨z,y,xs,r,ob,es,ep,e,c⟩:=x;exact⟨z,y,xs,Paired.mapP r fun p q z=>⟨z.1,ht _ _ z.2.1,z.2.2⟩,ob,es,ep,k _ _ (.inl rfl) e,c⟩
 |set S n=>obtain⟨ob,es,ep,t,e,c⟩:=x;exact⟨ob,es,ep,t,k _ _ (.inl rfl) e,c⟩
 |ins C dx fs =>
  obtain⟨d,z,ne,e,mA,⟨od,es,ep,e2,c⟩,r⟩:=x;exact⟨ho _ d,z,ne,k _ _ (.inl rfl) e,mA,⟨od,es,ep,k _ _ (.inr d) e2,c⟩,r⟩
 |own y=>obtain⟨ob,e⟩:=x;exact⟨ob,k _ _ (.inl rfl) e⟩
 |xd fs=>obtain⟨mA,⟨od,es,ep,e,c⟩,r⟩:=x;exact⟨mA,⟨od,es,ep,k _ _ (.inl rfl) e,c⟩,r⟩
 |rng lo hi=>obtain⟨t,u,v,e⟩:=x;exact⟨t,u,v,k _ _ (.inl rfl) e⟩
 |frz ob u ih=>obtain⟨e,q⟩:=x;exact⟨k _ _ (.inl rfl) e,ih q⟩
 |tbl ps =>
  have e:h.get? a=some { cls:=.none,data:=.fields ps }:=x;show h'.get? a=some { cls:=.none,data:=.fields ps };exact k a _ (.inl rfl) e
 |met f y =>
  have e:h.get? a=some (PySem.W.methodObj (.ref f) (.ref y)):=x;show h'.get? a=some (PySem.W.methodObj (.ref f) (.ref y));exact k a _ (.inl rfl) e
 |ext φ=>obtain⟨p,⟨o,e⟩,st⟩:=x;exact⟨st _ _ p fun o q=>k _ _ (.inl rfl) q,⟨o,k _ _ (.inl rfl) e⟩,st⟩
theorem kx.lt (x:kx P w H h) (e:H a=some o):a<h.objs.size:=(x a o e).lt
theorem kx.fresh (x:kx P w H h) (e:h.objs.size≤a):H a=none:=by
 cases q:H a with
 |none=>rfl
 |some u=>exact absurd (av (x.lt q) e) (fe _)
theorem kx.kept (x:kx P w H h) (k:∀ b u,h.get? b=some u→h'.get? b=some u):kx P w H h':=fun a o e =>
 (x a o e).stay (fun b u _ q=>k b u q) (fun _ q=>q) fun _ _ q=>q
theorem kx.laid (x:kx P w H h) (k:∀ b u,h.get? b=some u→h'.get? b=some u) (hp:h.objs.size≤a) (new:dX P w (upd H a o) h' a o):kx P w (upd H a o) h':=fun b u e=>by
 have hn:=x.fresh hp;by_cases hb:b=a
 ·subst hb;rw[bN] at e;cases e;exact new
 ·rw[aS hb] at e;exact (x b u e).stay (fun c v _ q=>k c v q) (fun c q=>by rw[aS (bX q hn)];exact q) fun c xs q=>by rw[aS (bX q hn)];exact q
end
noncomputable def Rd (H:Hp) (a:Addr) (u:HO):Prop:=H a=some u∨∃ o,H a=some (.frz o u)
theorem Rd.ok {P:Program}{w:World}{H:Hp}{h:Heap}{a:Addr}{u:HO}(r:Rd H a u) (x:kx P w H h):dX P w H h a u:=by
 rcases r with r | ⟨o,r⟩
 ·exact x a u r
 ·obtain⟨_,q⟩:=x a _ r;exact q
noncomputable def rY:Option HO→Prop
 | some (.lst _)=>True
 | some (.dK _)=>True
 | some (.dT _)=>True
 | some (.set _ _)=>True
 | some (.ins _ _ _)=>True
 | some (.ext _)=>True
 |_=>False
section
variable {P:Program}{w:World}{H:Hp}{h h':Heap}{x e:Addr}{o':HO}
theorem kx.write (ok:kx P w H h) (mu:rY (H x)) (he:e=x∨H e=some (.own x)) (k:∀ b u,b≠e→h.get? b=some u→h'.get? b=some u) (heo:∃ u,h'.get? e=some u)
  (new:dX P w (upd H x o') h' x o'):kx P w (upd H x o') h':=fun b u q=>by
 have nown:∀ c y,H c=some (.own y)→c≠x:=fun c y r z=>by subst z;rw[r] at mu;exact mu
 have ntup:∀ c xs,H c=some (.tup xs)→c≠x:=fun c xs r z=>by subst z;rw[r] at mu;exact mu
 by_cases hb:b=x
 ·subst hb;rw[bN] at q;cases q;exact new
 ·rw[aS hb] at q;by_cases hbe:b=e
  ·have q':H b=some (.own x):=by
    rcases he with z | z
    ·exact absurd (hbe.trans z) hb
    ·rw[hbe];exact z
   rw[q] at q';cases q';obtain⟨v,hv⟩:=heo;exact⟨v,by rw[hbe];exact hv⟩
  ·refine (ok b u q).stay (fun c v hc r=>k c v ?_ r) (fun c r=>by rw[aS (nown c b r)];exact r) fun c xs r=>by rw[aS (ntup c xs r)];exact r
   rcases hc with rfl | hc
   ·exact hbe
   ·rintro rfl;rcases he with z | z
    ·exact nown c b hc z
    ·rw[hc] at z;cases z;exact hb rfl
end
structure Un (fs ex:List Addr) (H H':Hp) (h h':Heap):Prop where
 keep:∀ b o,h.get? b=some o→H b=none→b∉fs→b∉ex→h'.get? b=some o
 slot:∀ b o,h.get? b=some o→H b=none→b∈fs→b∉ex→∃ sl,h'.get? b=some { o with slots:=sl }
 free:∀ b o,h.get? b=some o→H b=none→b∉ex→H' b=none
 there:∀ b o,h.get? b=some o→b∉ex→∃ o',h'.get? b=some o'
 tups:∀ b xs,H b=some (.tup xs)→H' b=some (.tup xs)
 frzs:∀ b o u,H b=some (.frz o u)→H' b=some (.frz o u)
 tbls:∀ b ps,H b=some (.tbl ps)→∃ more,H' b=some (.tbl (ps++more))
section
variable {fs fs' ex ex':List Addr}{H H1 H2:Hp}{h h1 h2 h':Heap}{a x e:Addr}{o:HO}
theorem Un.any (u:Un fs ex H H1 h h1) {b:Addr}{ob:Obj}(q:h.get? b=some ob) (n:H b=none) (hx:b∉ex):∃ sl,h1.get? b=some { ob with slots:=sl }:=by
 by_cases hb:b∈fs
 ·exact u.slot b ob q n hb hx
 ·exact⟨ob.slots,u.keep b ob q n hb hx⟩
theorem Un.kept (k:∀ b u,h.get? b=some u→h'.get? b=some u):Un fs ex H H h h' :=
 ⟨fun b ob q _ _ _=>k b ob q,fun b ob q _ _ _=>⟨ob.slots,k b ob q⟩,fun _ _ _ n _=>n,fun b ob q _=>⟨ob,k b ob q⟩,fun _ _ q=>q,fun _ _ _ q=>q,fun _ ps q=>⟨#[],by rw[q];simp⟩⟩
theorem Un.refl:Un fs ex H H h h:=Un.kept fun _ _ q=>q
theorem Un.laid (k:∀ b u,h.get? b=some u→h'.get? b=some u) (hp:h.objs.size≤a) (hn:H a=none):Un fs ex H (upd H a o) h h' where
 keep:=fun b u q _ _ _=>k b u q
 slot:=fun b u q _ _ _=>⟨u.slots,k b u q⟩
 free:=fun b u q n _=>by rw[aS (bt (av (Heap.lt_size q) hp))];exact n
 there:=fun b u q _=>⟨u,k b u q⟩
 tups:=fun b xs q=>by rw[aS (bX q hn)];exact q
 frzs:=fun b u xs q=>by rw[aS (bX q hn)];exact q
 tbls:=fun b ps q=>⟨#[],by rw[aS (bX q hn),q];simp⟩
theorem Un.write (mu:rY (H x)) (he:e=x∨H e=some (.own x)) (k:∀ b u,b≠e→h.get? b=some u→h'.get? b=some u) (heo:∃ u,h'.get? e=some u):Un fs ex H (upd H x o) h h':=by
 have hx:∀ b,H b=none→b≠x:=fun b n z=>by subst z;rw[n] at mu;exact mu
 have hb:∀ b,H b=none→b≠e:=fun b n z=>by
  subst z;rcases he with r | r
  ·exact hx b n r
  ·rw[n] at r;cases r
 have hm:∀ b u,H b=some u→¬ rY (some u)→b≠x:=fun b u q nm z=>by subst z;rw[q] at mu;exact nm mu
 refine⟨fun b u q n _ _=>k b u (hb b n) q,fun b u q n _ _=>⟨u.slots,k b u (hb b n) q⟩,fun b u q n _=>by rw[aS (hx b n)];exact n,fun b u q _=>?_,
  fun b xs q=>by rw[aS (hm b _ q fun z=>z)];exact q,fun b u xs q=>by rw[aS (hm b _ q fun z=>z)];exact q,fun b ps q=>⟨#[],by rw[aS (hm b _ q fun z=>z),q];simp⟩⟩
 by_cases hbe:b=e
 ·subst hbe;exact heo
 ·exact⟨u,k b u hbe q⟩
end
noncomputable def trk (h:Heap) (H:Hp):List Addr:=(List.range h.objs.size).filter fun a=>(H a).isSome
noncomputable def pY (h:Heap) (H:Hp):Heap:=PySem.W.hideAll h (trk h H)
theorem vZ (h:Heap) (H:Hp):(pY h H).objs.size=h.objs.size:=PySem.W.hideAll_size _ _
theorem xv {h:Heap}{H:Hp}{b:Addr}{o:Obj}(e:h.get? b=some o) (n:H b=none):(pY h H).get? b=some o :=
 PySem.W.hideAll_get _ e fun hm=>by
  have q:(H b).isSome=true:=(gu.mp hm).2;rw[n] at q;simp at q
theorem An {h:Heap}{H:Hp}{b:Addr}{o:Obj}(e:(pY h H).get? b=some o):h.get? b=some o∧H b=none:=by
 have e':h.get? b=some o:=PySem.W.of_hideAll (trk h H) e;refine⟨e',?_⟩;cases q:H b with
 |none=>rfl
 |some x =>
  have hm:b∈trk h H:=List.mem_filter.mpr ⟨List.mem_range.mpr (Heap.lt_size e'),by simp[q]⟩;have z:(pY h H).get? b=none:=PySem.W.hideAll_none (trk h H) hm;rw[z] at e;cases e
noncomputable def AF (g h:Heap) (L:Addr):List (Addr×Obj):=(List.range h.objs.size).filterMap fun a=>if a=L∨(g.get? a).isSome=true then none else (h.get? a).map fun o=>(a,o)
noncomputable def rest (g h:Heap) (L d:Addr):List (Addr×Obj):=(AF g h L).filter fun p=>decide (p.1≠d)
end L2
namespace L2
open PySem PySem.Spec PyProof.Rows
structure Mod (K:PySem.W.Frag) (mg:Str→Option Value) (base:Heap):Prop where
 kin:K.In base
 glob:base.Ns mainGlobals mg
 blt:∃ mb,base.Ns builtinsNs mb∧∀ x:Str,x≠"__name__"→mb x=bootBuiltins x
 nolimit:base.NoLimit
structure Cx where
 prog:Program
 w:World
 K:PySem.W.Frag
 mg:Str→Option Value
 base:Heap
 A:Around
 N:List Str
 s₀:Shared
 H₀:Hp
 env:Env
 outer:List Env
 stack:List Env
 ex:List Addr
 fn:Str→Bool
 calm:Bool
 pn:List (Addr×Obj)
 xe:Value→Shared→Prop
noncomputable def fW (l:List Env):List Addr:=l.filterMap (·.frame)
noncomputable abbrev Cx.fs (X:Cx):List Addr:=fW X.outer
noncomputable def B8 (sc:Scope) (x:Str):Prop:=sc.names.lookup x=some .local∨sc.names.lookup x=some .cell∨sc.names.lookup x=some .free
noncomputable def Loc (sc:Scope) (x:Str):Prop:=sc.names.lookup x=some .local∨sc.names.lookup x=some .cell
noncomputable def Look (env:Env) (h:Heap) (m:Str→Option Value) (x:Str) (u:Value):Prop :=
 (env.kindOf x=some .local∧m x=some u)∨((env.kindOf x=some .cell∨env.kindOf x=some .free)∧∃ c,env.cells.lookup x=some c∧h.IsCell c (some u))
structure Cx.Ok (X:Cx):Prop where
 mod:Mod X.K X.mg X.base
 kind:X.env.scope.kind = .function
 glob:X.env.globals=mainGlobals
 blt:X.env.builtins=builtinsNs
 above:X.s₀.heap.objs.size≤X.env.locals
 inj:∀ x y c,X.env.cells.lookup x=some c→X.env.cells.lookup y=some c→x=y
 has:∀ x,(X.env.kindOf x=some .cell∨X.env.kindOf x=some .free)→∃ c,X.env.cells.lookup x=some c
 cab:∀ x c,X.fn x=true→X.env.cells.lookup x=some c→X.s₀.heap.objs.size≤c
 hd:X.calm=true→X.A.handled=none
 frames:X.A.frames=some X.stack
 stk:X.stack=X.outer∨(X.stack=X.env::X.outer∧X.env.frame=some X.env.locals)
 exf:∀ b∈X.ex,b≠X.env.locals∧∀ x c,X.env.cells.lookup x=some c→c≠b
 bs:∀ b o,X.base.get? b=some o→X.s₀.heap.get? b=some o∧X.H₀ b=none
 bsz:X.base.objs.size≤X.s₀.heap.objs.size
 noex:∀ b o,X.base.get? b=some o→b∉X.ex
 exfs:∀ b∈X.ex,b∉X.fs
 funs:X.s₀.heap.FunFrames X.base X.outer
 frf:∀ b∈X.fs,X.H₀ b=none
structure Inv (X:Cx) (pins:List (Addr×Obj)) (σ:List (Option V)) (H:Hp) (s:Shared):Prop where
 ok:X.Ok
 os:s.os=X.s₀.os
 bare:AllBare s.gens
 base:Un X.fs X.ex X.H₀ H X.s₀.heap s.heap
 loc:∃ m,s.heap.Ns X.env.locals m∧∀(i:Nat) (x:Str) (v:V),X.N[i]? = some x→σ[i]? = some (some v)→B8 X.env.scope x→∃ u,RelV v u∧Look X.env s.heap m x u
 cell:∀ x c,X.env.cells.lookup x=some c→∃ v,s.heap.IsCell c v
 free:H X.env.locals=none
 freeC:∀ x c,X.env.cells.lookup x=some c→H c=none
 pin:∀ p∈X.pn++pins,s.heap.get? p.1=some p.2∧H p.1=none∧p.1≠X.env.locals∧p.1∉X.fs∧∀ v,p.2.data≠.cell v
 hok:kx X.prog X.w H s.heap
 len:σ.length=X.N.length
section
variable {X:Cx}{pins:List (Addr×Obj)}{σ:List (Option V)}{H H':Hp}{s:Shared}{h':Heap}
theorem Cx.Ok.nofr (ok:X.Ok) {b:Addr}{o:Obj}(e:X.base.get? b=some o):b∉X.fs:=fun hb=>by
 have:=(ok.funs.mem hb).1;rw[e] at this;cases this
theorem Inv.bs (I:Inv X pins σ H s):∀ b o,X.base.get? b=some o→s.heap.get? b=some o∧H b=none:=fun b o e =>
 ⟨I.base.keep b o (I.ok.bs b o e).1 (I.ok.bs b o e).2 (I.ok.nofr e) (I.ok.noex b o e),I.base.free b o (I.ok.bs b o e).1 (I.ok.bs b o e).2 (I.ok.noex b o e)⟩
theorem Inv.bk (I:Inv X pins σ H s):∀ b o,X.base.get? b=some o→s.heap.get? b=some o:=fun b o e=>(I.bs b o e).1
theorem Inv.mod (I:Inv X pins σ H s):Mod X.K X.mg X.base:=I.ok.mod
theorem Inv.kIn (I:Inv X pins σ H s):X.K.In s.heap:=I.ok.mod.kin.keeps I.bk
theorem Inv.lt (I:Inv X pins σ H s):X.env.locals<s.heap.objs.size:=let ⟨_,hn,_⟩:=I.loc;hn.lt
theorem Inv.sz (I:Inv X pins σ H s):X.s₀.heap.objs.size≤s.heap.objs.size:=bu I.ok.above (Nat.le_of_lt I.lt)
theorem Inv.nofs (I:Inv X pins σ H s) {a:Addr}(h:s.heap.objs.size≤a):a∉X.fs:=fun hb=>by
 obtain⟨_,o,ho,_⟩:=I.ok.funs.mem hb;exact absurd (av (Heap.lt_size ho) (bu I.sz h)) (fe _)
theorem Inv.cne (I:Inv X pins σ H s):∀ x c,X.env.cells.lookup x=some c→c≠X.env.locals:=fun x c e z=>by
 obtain⟨v,o,ho,hd⟩:=I.cell x c e;obtain⟨m,⟨o',es,ep,ho',hd',_⟩,_⟩:=I.loc;rw[z,ho'] at ho;cases ho;rw[hd'] at hd;cases hd
theorem Inv.funs (I:Inv X pins σ H s):s.heap.FunFrames X.base X.outer:=by
 have all:∀(l:List Env),(∀ b∈fW l,b∈X.fs)→X.s₀.heap.FunFrames X.base l→s.heap.FunFrames X.base l:=by
  intro l
  induction l with
  |nil=>intro _ _;trivial
  |cons env r ih =>
   intro hs hl;obtain⟨hk,⟨L,o,hf,hn,ho,hd⟩,hr⟩:=hl;have hL:L∈X.fs:=hs L (by unfold fW;rw[List.filterMap_cons,hf];exact ag);obtain⟨sl,e⟩:=I.base.slot L o ho (I.ok.frf L hL) hL fun z=>I.ok.exfs L z hL
   exact⟨hk,⟨L,_,hf,hn,e,hd⟩,ih (fun b hb=>hs b (by unfold fW;rw[List.filterMap_cons,hf];exact aa _ hb)) hr⟩
 exact all X.outer (fun _ hb=>hb) I.ok.funs
theorem Inv.stack (I:Inv X pins σ H s):s.heap.FunFrames X.base X.stack:=by
 rcases I.ok.stk with e | ⟨e,hf⟩
 ·rw[e];exact I.funs
 ·rw[e];obtain⟨m,hn,_⟩:=I.loc;refine .cons (by rw[I.ok.kind];decide) hf hn ?_ I.funs;exact Heap.get?_none_of_le (bu I.ok.bsz I.ok.above)
theorem Inv.stkSub (I:Inv X pins σ H s):∀ b∈fW X.stack,b∈X.env.locals::X.fs:=fun b hb=>by
 rcases I.ok.stk with e | ⟨e,hf⟩
 ·rw[e] at hb;exact aa _ hb
 ·rw[e] at hb;unfold fW at hb;rw[List.filterMap_cons,hf] at hb;exact hb
theorem Inv.stkFree (I:Inv X pins σ H s):∀ b∈fW X.stack,H b=none:=fun b hb=>by
 rcases et.mp (I.stkSub b hb) with e | hb
 ·rw[e];exact I.free
 ·obtain⟨_,o,ho,_⟩:=I.ok.funs.mem hb;exact I.base.free b o ho (I.ok.frf b hb) fun z=>I.ok.exfs b z hb
theorem Inv.step {g':Array GenState}{t':Nat}{d':Drawn}{ch:List Addr}(I:Inv X pins σ H s)
  (hch:∀ b∈ch,(b∈X.ex∨X.s₀.heap.objs.size≤b)∧b≠X.env.locals∧(∀ x c,X.env.cells.lookup x=some c→c≠b)∧∀ p∈X.pn++pins,p.1≠b)
  (keep:∀ b o,b≠X.env.locals→b∉X.fs→b∉ch→s.heap.get? b=some o→H b=none→h'.get? b=some o)
  (slot:∀ b o,b≠X.env.locals→b∈X.fs→b∉ch→s.heap.get? b=some o→H b=none→∃ sl,h'.get? b=some { o with slots:=sl }) (free:∀ b o,b∉ch→s.heap.get? b=some o→H b=none→H' b=none)
  (there:∀ b o,b∉ch→s.heap.get? b=some o→∃ o',h'.get? b=some o')
  (tups:∀ b xs,H b=some (.tup xs)→H' b=some (.tup xs)) (frzs:∀ b o u,H b=some (.frz o u)→H' b=some (.frz o u)) (tbls:∀ b ps,H b=some (.tbl ps)→∃ more,H' b=some (.tbl (ps++more)))
  (ns:∀ m,s.heap.Ns X.env.locals m→h'.Ns X.env.locals m) (hok:kx X.prog X.w H' h') (hg:AllBare g') :
  Inv X pins σ H' { s with heap:=h',gens:=g',drawn:=d',toks:=t' }:=by
 have neL:∀ b o,X.s₀.heap.get? b=some o→b≠X.env.locals:=fun b o e=>bt (av (Heap.lt_size e) I.ok.above)
 have neC:∀ b o,X.s₀.heap.get? b=some o→b∉X.ex→b∉ch:=fun b o e hx hb=>by
  rcases (hch b hb).1 with z | z
  ·exact hx z
  ·exact absurd (av (Heap.lt_size e) z) (fe _)
 have cellK:∀ x c,X.env.cells.lookup x=some c→∀ v,s.heap.IsCell c v→h'.IsCell c v:=fun x c e v ⟨o,ho,hd⟩=>by
  have nch:c∉ch:=fun z=>(hch c z).2.2.1 x c e rfl
  by_cases hc:c∈X.fs
  ·obtain⟨sl,q⟩:=slot c o (I.cne x c e) hc nch ho (I.freeC x c e);exact⟨_,q,hd⟩
  ·exact⟨o,keep c o (I.cne x c e) hc nch ho (I.freeC x c e),hd⟩
 refine⟨I.ok,I.os,hg,⟨fun b o e n hb hx=>?_,fun b o e n hb hx=>?_,fun b o e n hx=>?_,fun b o e hx=>?_,fun b xs e=>tups b xs (I.base.tups b xs e),fun b o xs e=>frzs b o xs (I.base.frzs b o xs e),fun b ps e=>?_⟩,?_,fun x c e=>?_,?_,fun x c e=>?_,fun p hp=>?_,hok,I.len⟩
 ·exact keep b o (neL b o e) hb (neC b o e hx) (I.base.keep b o e n hb hx) (I.base.free b o e n hx)
 ·obtain⟨sl,e1⟩:=I.base.slot b o e n hb hx;obtain⟨sl',e2⟩:=slot b _ (neL b o e) hb (neC b o e hx) e1 (I.base.free b o e n hx);exact⟨sl',e2⟩
 ·obtain⟨o',e1⟩:=I.base.there b o e hx;exact free b o' (neC b o e hx) e1 (I.base.free b o e n hx)
 ·obtain⟨o',e1⟩:=I.base.there b o e hx;exact there b o' (neC b o e hx) e1
 ·obtain⟨m1,e1⟩:=I.base.tbls b ps e;obtain⟨m2,e2⟩:=tbls b _ e1;exact⟨m1++m2,by rw[e2,Array.append_assoc]⟩
 ·obtain⟨m,hn,hl⟩:=I.loc;refine⟨m,ns m hn,fun i x v e1 e2 e3=>?_⟩;obtain⟨u,r,l⟩:=hl i x v e1 e2 e3;refine⟨u,r,?_⟩;rcases l with l | ⟨k,c,e,z⟩
  ·exact .inl l
  ·exact .inr ⟨k,c,e,cellK x c e _ z⟩
 ·obtain⟨v,z⟩:=I.cell x c e;exact⟨v,cellK x c e v z⟩
 ·obtain⟨m,⟨o,_,_,ho,_⟩,_⟩:=I.loc;exact free _ o (fun z=>(hch _ z).2.1 rfl) ho I.free
 ·obtain⟨v,o,ho,hd⟩:=I.cell x c e;exact free c o (fun z=>(hch c z).2.2.1 x c e rfl) ho (I.freeC x c e)
 ·obtain⟨e,n,ne,nf,d⟩:=I.pin p hp;have nch:p.1∉ch:=fun z=>(hch p.1 z).2.2.2 p hp rfl
  exact⟨keep p.1 p.2 ne nf nch e n,free p.1 p.2 nch e n,ne,nf,d⟩
theorem Inv.un {t':Nat}(I:Inv X pins σ H s) (u:Un X.fs [] H H' s.heap h') (hok:kx X.prog X.w H' h'):Inv X pins σ H' { s with heap:=h',toks:=t' }:=by
 obtain⟨m,⟨o,es,ep,ho,r⟩,_⟩:=id I.loc;obtain⟨sl,hL⟩:=u.any ho I.free (by simp);exact I.step (g':=s.gens) (d':=s.drawn) (ch:=[]) (fun _ z=>nomatch z) (fun b o _ hb _ e n=>u.keep b o e n hb (by simp)) (fun b o _ hb _ e n=>u.slot b o e n hb (by simp)) (fun b o _ e n=>u.free b o e n (by simp)) (fun b o _ e=>u.there b o e (by simp)) u.tups u.frzs u.tbls (fun m' hm=>by
  obtain⟨o',es',ep',ho',r'⟩:=hm;rw[ho] at ho';cases ho';exact⟨_,es',ep',hL,r'⟩) hok I.bare
theorem Inv.call {g':Array GenState}{t':Nat}{d':Drawn}{ch:List Addr}(I:Inv X pins σ H s) (u:Un (fW X.stack) ch H H' s.heap h') (hok:kx X.prog X.w H' h') (hg:AllBare g')
  (hch:∀ b∈ch,(b∈X.ex∨X.s₀.heap.objs.size≤b)∧b≠X.env.locals∧(∀ x c,X.env.cells.lookup x=some c→c≠b)∧∀ p∈X.pn++pins,p.1≠b) :
  Inv X pins σ H' { s with heap:=h',gens:=g',drawn:=d',toks:=t' }:=by
 obtain⟨m,⟨o,es,ep,ho,r⟩,_⟩:=id I.loc;obtain⟨sl,hL⟩:=u.any ho I.free fun z=>(hch _ z).2.1 rfl
 exact I.step (ch:=ch) hch (fun b o hL hb hc e n=>u.keep b o e n (fun z=>(et.mp (I.stkSub b z)).elim hL hb) hc) (fun b o _ _ hc e n=>u.any e n hc) (fun b o hc e n=>u.free b o e n hc) (fun b o hc e=>u.there b o e hc) u.tups u.frzs u.tbls (fun m' hm=>by
  obtain⟨o',es',ep',ho',r'⟩:=hm;rw[ho] at ho';cases ho';exact⟨_,es',ep',hL,r'⟩) hok hg
theorem Inv.turned {t':Nat}{it:Addr}(I:Inv X pins σ H s) (k:∀ b o,b≠it→s.heap.get? b=some o→h'.get? b=some o) (hn:H it=none) (hL:it≠X.env.locals)
  (h1:it∈X.ex∨X.s₀.heap.objs.size≤it) (h2:∀ x c,X.env.cells.lookup x=some c→c≠it) (h3:∀ p∈X.pn++pins,p.1≠it):Inv X pins σ H { s with heap:=h',toks:=t' }:=by
 have nit:∀ b u,H b=some u→b≠it:=fun b u e z=>by rw[z,hn] at e;cases e
 refine I.step (g':=s.gens) (d':=s.drawn) (ch:=[it]) (fun b hb=>?_) (fun b o _ _ hc e _=>k b o (fun z=>hc (by simp[z])) e) (fun b o _ _ hc e _=>⟨o.slots,k b o (fun z=>hc (by simp[z])) e⟩) (fun _ _ _ _ n=>n)
  (fun b o hc e=>⟨o,k b o (fun z=>hc (by simp[z])) e⟩) (fun _ _ e=>e) (fun _ _ _ e=>e) (fun b ps e=>⟨#[],by rw[e];simp⟩) (fun m hm=>?_) (fun b u e=>?_) I.bare
 ·have e:b=it:=by simpa using hb
  subst e;exact⟨h1,hL,h2,h3⟩
 ·obtain⟨o,es,ep,ho,r⟩:=hm;exact⟨o,es,ep,k _ o (cj hL) ho,r⟩
 ·refine (I.hok b u e).stay (fun c v hc q=>k c v ?_ q) (fun _ q=>q) fun _ _ q=>q
  rcases hc with z | z
  ·rw[z];exact nit b u e
  ·exact nit c _ z
theorem Inv.tok (I:Inv X pins σ H s) (t:Nat):Inv X pins σ H { s with toks:=t }:=I.un (h':=s.heap) (t':=t) Un.refl I.hok
theorem Inv.kept {t':Nat}(I:Inv X pins σ H s) (k:∀ b u,s.heap.get? b=some u→h'.get? b=some u):Inv X pins σ H { s with heap:=h',toks:=t' }:=I.un (Un.kept k) (I.hok.kept k)
theorem Inv.laid {a:Addr}{o:HO}{t':Nat}(I:Inv X pins σ H s) (k:∀ b u,s.heap.get? b=some u→h'.get? b=some u) (hp:s.heap.objs.size≤a) (new:dX X.prog X.w (upd H a o) h' a o) :
  Inv X pins σ (upd H a o) { s with heap:=h',toks:=t' }:=I.un (Un.laid k hp (I.hok.fresh hp)) (I.hok.laid k hp new)
theorem Inv.write {x e:Addr}{o:HO}{t':Nat}(I:Inv X pins σ H s) (mu:rY (H x)) (he:e=x∨H e=some (.own x)) (k:∀ b u,b≠e→s.heap.get? b=some u→h'.get? b=some u) (heo:∃ u,h'.get? e=some u)
  (new:dX X.prog X.w (upd H x o) h' x o):Inv X pins σ (upd H x o) { s with heap:=h',toks:=t' }:=I.un (Un.write mu he k heo) (I.hok.write mu he k heo new)
theorem Inv.weak {σ':List (Option V)}(I:Inv X pins σ H s) (hl:σ'.length=σ.length) (w:∀(i:Nat) v,σ'[i]? = some (some v)→σ[i]? = some (some v)):Inv X pins σ' H s :=
 ⟨I.ok,I.os,I.bare,I.base,let ⟨m,hn,hl'⟩:=I.loc;⟨m,hn,fun i x v e1 e2 e3=>hl' i x v e1 (w i v e2) e3⟩,I.cell,I.free,I.freeC,I.pin,I.hok,hl.trans I.len⟩
theorem Inv.pins_of {pins':List (Addr×Obj)}(I:Inv X pins σ H s) (h:∀ p∈pins',s.heap.get? p.1=some p.2∧H p.1=none∧p.1≠X.env.locals∧p.1∉X.fs∧∀ v,p.2.data≠.cell v):Inv X pins' σ H s :=
 ⟨I.ok,I.os,I.bare,I.base,I.loc,I.cell,I.free,I.freeC,fun p hp=>(iy.mp hp).elim (fun z=>I.pin p (ay _ z)) (h p),I.hok,I.len⟩
theorem rG {N:List Str}(hN:N.Nodup) {i j:Nat}{x:Str}(a:N[i]? = some x) (b:N[j]? = some x):i=j:=by
 obtain⟨h1,e1⟩:=List.getElem?_eq_some_iff.mp a;obtain⟨h2,e2⟩:=List.getElem?_eq_some_iff.mp b;exact (List.getElem_inj hN).mp (e1.trans e2.symm)
theorem wc {M:Model}{A:Around}{E:Value→Shared→Prop}{i:Nat}{x:Str}{v:V}{u:Value}{Q:Unit→Shared→Prop}(I:Inv X pins σ H s) (hN:X.N.Nodup) (hi:X.N[i]? = some x) (hx:Loc X.env.scope x) (r:RelV v u)
  (h:∀ s',Inv X pins (σ.set i (some v)) H s'→(∃ a,Heap.SameBut a s.heap s'.heap∧(a=X.env.locals∨X.env.cells.lookup x=some a))→Q () s') (hf:X.fn x=true∨X.env.scope.names.lookup x=some .local:=by first | exact .inl rfl | exact .inr rfl | assumption):wpAny M A (storeName X.env x u) Q E s:=by
 obtain⟨m,hn,hl⟩:=id I.loc;have hcls:(X.env.scope.kind == .class || (X.env.scope.kind == .module&&X.env.locals != X.env.globals))=false:=by rw[I.ok.kind];rfl
 have hiσ:i<σ.length:=by rw[I.len];exact (List.getElem?_eq_some_iff.mp hi).1
 have cne:=I.cne;have tracked:∀{a:Addr}{h':Heap},(∃ o,s.heap.get? a=some o∧H a=none)→Heap.SameBut a s.heap h'→kx X.prog X.w H h':=fun {a h'} ha hs b ob e=>by
  obtain⟨_,_,hfree⟩:=ha;refine (I.hok b ob e).stay (fun c w' hc q=>(hs.2 c ?_).trans q) (fun _ q=>q) fun _ _ q=>q
  rintro rfl;rcases hc with rfl | hc
  ·rw[hfree] at e;cases e
  ·rw[hfree] at hc;cases hc
 rcases hx with hk | hk
 ·refine wpAny_storeName_local hk hn (fun h' hn' hs=>?_) hcls;obtain⟨oL,_,_,hoL,_⟩:=id hn;refine h _ ⟨I.ok,I.os,I.bare,⟨fun b o e n hb hx=>?_,fun b o e n hb hx=>?_,I.base.free,fun b o e hx=>?_,I.base.tups,I.base.frzs,I.base.tbls⟩,⟨_,hn',fun j y v' e1 e2 e3=>?_⟩,fun y c e=>?_,I.free,I.freeC,fun p hp=>?_,tracked ⟨oL,hoL,I.free⟩ hs,by simpa using I.len⟩ ⟨_,hs,.inl rfl⟩
  ·exact (hs.2 b (bt (av (Heap.lt_size e) I.ok.above))).trans (I.base.keep b o e n hb hx)
  ·obtain⟨sl,e1⟩:=I.base.slot b o e n hb hx;exact⟨sl,(hs.2 b (bt (av (Heap.lt_size e) I.ok.above))).trans e1⟩
  ·obtain⟨o',e1⟩:=I.base.there b o e hx;exact⟨o',(hs.2 b (bt (av (Heap.lt_size e) I.ok.above))).trans e1⟩
  ·by_cases hj:j=i
   ·subst hj;rw[hi] at e1;cases e1;rw[List.getElem?_set_self hiσ] at e2;cases e2;exact⟨u,r,.inl ⟨hk,by simp⟩⟩
   ·rw[List.getElem?_set_ne (cj hj)] at e2;obtain⟨u',r',q⟩:=hl j y v' e1 e2 e3;refine⟨u',r',?_⟩;rcases q with ⟨k,e⟩ | ⟨k,c,e,z⟩
    ·refine .inl ⟨k,?_⟩;have:y≠x:=fun e=>hj (rG hN e1 (e ▸ hi))
     simp[this,e]
    ·exact .inr ⟨k,c,e,z.sameBut hs (cne y c e)⟩
  ·obtain⟨w',z⟩:=I.cell y c e;exact⟨w',z.sameBut hs (cne y c e)⟩
  ·obtain⟨e,n,ne,nf,d⟩:=I.pin p hp;exact⟨(hs.2 p.1 ne).trans e,n,ne,nf,d⟩
 ·have hfn:X.fn x=true:=by
   rcases hf with z | z
   ·exact z
   ·rw[z] at hk;cases hk
  obtain⟨c,hc⟩:=I.ok.has x (.inl hk);obtain⟨w',z⟩:=I.cell x c hc;refine wpAny_storeName_cell I.ok.kind hk hc z (fun h' hc' hs=>?_);obtain⟨oc,hoc,hocd⟩:=id z;refine h { s with heap:=h' } ⟨I.ok,I.os,I.bare,⟨fun b o e n hb hx=>?_,fun b o e n hb hx=>?_,I.base.free,fun b o e hx=>?_,I.base.tups,I.base.frzs,I.base.tbls⟩,⟨m,hn.sameBut hs (Ne.symm (cne x c hc)),fun j y v' e1 e2 e3=>?_⟩,fun y c' e=>?_,I.free,I.freeC,fun p hp=>?_,tracked ⟨oc,hoc,I.freeC x c hc⟩ hs,by simpa using I.len⟩ ⟨c,hs,.inr hc⟩
  ·exact (hs.2 b (bt (av (Heap.lt_size e) (I.ok.cab x c hfn hc)))).trans (I.base.keep b o e n hb hx)
  ·obtain⟨sl,e1⟩:=I.base.slot b o e n hb hx;exact⟨sl,(hs.2 b (bt (av (Heap.lt_size e) (I.ok.cab x c hfn hc)))).trans e1⟩
  ·obtain⟨o',e1⟩:=I.base.there b o e hx;exact⟨o',(hs.2 b (bt (av (Heap.lt_size e) (I.ok.cab x c hfn hc)))).trans e1⟩
  ·by_cases hj:j=i
   ·subst hj;rw[hi] at e1;cases e1;rw[List.getElem?_set_self hiσ] at e2;cases e2;exact⟨u,r,.inr ⟨.inl hk,c,hc,hc'⟩⟩
   ·rw[List.getElem?_set_ne (cj hj)] at e2;obtain⟨u',r',q⟩:=hl j y v' e1 e2 e3;refine⟨u',r',?_⟩;rcases q with q | ⟨k,c',e,z'⟩
    ·exact .inl q
    ·refine .inr ⟨k,c',e,z'.sameBut hs ?_⟩;rintro rfl;exact hj (rG hN e1 (I.ok.inj _ _ _ e hc ▸ hi))
  ·by_cases hcc:c'=c
   ·subst hcc;exact⟨_,hc'⟩
   ·obtain⟨w2,z2⟩:=I.cell y c' e;exact⟨w2,z2.sameBut hs hcc⟩
  ·obtain⟨e,n,ne,nf,d⟩:=I.pin p hp;refine⟨(hs.2 p.1 ?_).trans e,n,ne,nf,d⟩;intro q;rw[q,hoc] at e;have q':oc=p.2:=df e;exact d w' (by rw[←q'];exact hocd)
theorem kr {M:Model}{A:Around}{E:Value→Shared→Prop}{i:Nat}{x:Str}{v:V}{u:Value}{Q:Unit→Shared→Prop}(I:Inv X pins σ H s) (hN:X.N.Nodup) (hi:X.N[i]? = some x) (hx:Loc X.env.scope x) (r:RelV v u)
  (h:∀ s',Inv X pins (σ.set i (some v)) H s'→Q () s') (hf:X.fn x=true∨X.env.scope.names.lookup x=some .local:=by first | exact .inl rfl | exact .inr rfl | assumption):wpAny M A (storeName X.env x u) Q E s :=
 wc I hN hi hx r (fun s' I' _=>h s' I') hf
theorem Inv.call' {s':Shared}{ch:List Addr}(I:Inv X pins σ H s) (ho:s'.os=s.os) (u:Un (fW X.stack) ch H H' s.heap s'.heap) (hok:kx X.prog X.w H' s'.heap) (hg:AllBare s'.gens)
  (hch:∀ b∈ch,(b∈X.ex∨X.s₀.heap.objs.size≤b)∧b≠X.env.locals∧(∀ x c,X.env.cells.lookup x=some c→c≠b)∧∀ p∈X.pn++pins,p.1≠b):Inv X pins σ H' s':=by
 obtain⟨h',g',d',t',o'⟩:=s';have e:o'=s.os:=ho;subst e;exact I.call (g':=g') (t':=t') (d':=d') u hok hg hch
end
noncomputable abbrev XK:=Value→Option Addr→Hp→Prop
noncomputable abbrev St:=List (Option V)
noncomputable abbrev VK:=V→Hp→Prop
noncomputable abbrev TE:=St→Hp→VK→Prop
noncomputable abbrev TT:=St→Hp→(Bool→Hp→Prop)→Prop
noncomputable abbrev TA:=St→Hp→(List V→Hp→Prop)→Prop
structure Ends where
 nx:St→Hp→Prop
 rt:VK
 bk:St→Hp→Prop:=fun _ _=>False
 ct:St→Hp→Prop:=fun _ _=>False
noncomputable abbrev TS:=Ends→St→Hp→Prop
noncomputable def EP (X:Cx) (pins:List (Addr×Obj)) (σ:St) (Q:VK) (u:Value) (s':Shared):Prop:=∃ v H',Inv X pins σ H' s'∧RelV v u∧Q v H'
noncomputable def TP (X:Cx) (pins:List (Addr×Obj)) (σ:St) (Q:Bool→Hp→Prop) (b:Bool) (s':Shared):Prop:=∃ H',Inv X pins σ H' s'∧Q b H'
noncomputable def AP (X:Cx) (pins:List (Addr×Obj)) (σ:St) (Q:List V→Hp→Prop) (us:List Value) (s':Shared):Prop:=∃ vs H',Inv X pins σ H' s'∧aQ vs us∧Q vs H'
noncomputable def SP (X:Cx) (pins:List (Addr×Obj)) (D:Ends) (f:Flow) (s':Shared):Prop :=
 match f with
 |.next=>∃ σ' H',Inv X pins σ' H' s'∧D.nx σ' H'
 |.brk=>∃ σ' H',Inv X pins σ' H' s'∧D.bk σ' H'
 |.cont=>∃ σ' H',Inv X pins σ' H' s'∧D.ct σ' H'
 |.ret u=>∃ v σ' H',Inv X pins σ' H' s'∧RelV v u∧D.rt v H'
noncomputable def PE (X:Cx) (e:Expr) (t:TE):Prop :=
 ∀(pins:List (Addr×Obj)) (s:Shared) (σ:St) (H:Hp) (Q:VK),Inv X pins σ H s→t σ H Q→wpAny (model X.prog X.w) X.A (eval e X.env) (EP X pins σ Q) X.xe s
noncomputable def PT (X:Cx) (e:Expr) (t:TT):Prop :=
 ∀(pins:List (Addr×Obj)) (s:Shared) (σ:St) (H:Hp) (Q:Bool→Hp→Prop),Inv X pins σ H s→t σ H Q→wpAny (model X.prog X.w) X.A (isTrue e X.env (eval e X.env)) (TP X pins σ Q) X.xe s
noncomputable def PW (X:Cx) (e:Expr) (t:TT):Prop :=
 ∀(whole:Sem Value) (pins:List (Addr×Obj)) (s:Shared) (σ:St) (H:Hp) (Q:Bool→Hp→Prop),Inv X pins σ H s→t σ H Q→wpAny (model X.prog X.w) X.A (isTrue e X.env whole) (TP X pins σ Q) X.xe s
theorem PW.pt {X:Cx}{e:Expr}{t:TT}(h:PW X e t):PT X e t:=h _
noncomputable def PA (X:Cx) (es:List Expr) (t:TA):Prop :=
 ∀(pos:Pos) (pins:List (Addr×Obj)) (s:Shared) (σ:St) (H:Hp) (Q:List V→Hp→Prop),Inv X pins σ H s→t σ H Q→wpAny (model X.prog X.w) X.A (spliced (backTo pos (starEach es X.env))) (AP X pins σ Q) X.xe s
noncomputable def PS (X:Cx) (st:Stmt) (t:TS):Prop :=
 ∀(pins:List (Addr×Obj)) (s:Shared) (σ:St) (H:Hp) (D:Ends),Inv X pins σ H s→t D σ H→wpAny (model X.prog X.w) X.A (exec st X.env) (SP X pins D) X.xe s
noncomputable def jJ (X:Cx) (st:List Stmt) (t:TS):Prop :=
 ∀(pins:List (Addr×Obj)) (s:Shared) (σ:St) (H:Hp) (D:Ends),Inv X pins σ H s→t D σ H→wpAny (model X.prog X.w) X.A (execs st X.env) (SP X pins D) X.xe s
theorem dB {α:Type}{t:Sem α}{Q Q':α→Shared→Prop}{M:Model}{A:Around}{E:Value→Shared→Prop}{s:Shared}(h:wpAny M A t Q E s) (hQ:∀ a s,Q a s→Q' a s):wpAny M A t Q' E s:=wpAny_mono h hQ fun _ _ x=>x
end L2
namespace L2
open PySem PySem.Spec PyProof.Rows
section
variable {X:Cx}
noncomputable def Bw (i:Nat):TE:=fun σ H Q=>∃ v,σ[i]? = some (some v)∧Q v H
noncomputable def tC (v:V):TE:=fun _ H Q=>Q v H
theorem jL {i:Nat}{x:Str}{pos:Pos}(hN:X.N[i]? = some x) (hv:B8 X.env.scope x) (hd:(x==("__debug__" : Str))=false:=by decide) (hcd:(x==("__classdict__" : Str))=false:=by decide):PE X (.Name x pos) (Bw i):=by
 intro pins s σ H Q I h;obtain⟨v,e,h⟩:=h;obtain⟨m,hn,hl⟩:=I.loc;obtain⟨u,r,l⟩:=hl i x v hN e hv;have fin:EP X pins σ Q u s:=⟨v,H,I,r,h⟩;rcases l with ⟨hk,hm⟩ | ⟨hk,c,hc,hcell⟩
 ·exact wpAny_Name (wpAny_loadName_local I.ok.kind hk hn hm fin) hd
 ·rcases hk with hk | hk
  ·exact wpAny_Name (wpAny_loadName_cell I.ok.kind hk hc hcell fin) hd
  ·exact wpAny_Name (wpAny_loadName_free I.ok.kind hk hc hcell fin hcd) hd
theorem tP {i j pos}:PE X (.Constant (.int i) j pos) (tC (.int i)):=fun _ _ _ H _ I h=>wpAny_Constant_int ⟨.int i,H,I.tok _,⟨_,rfl⟩,h⟩
theorem B9 {b j pos}:PE X (.Constant (.bool b) j pos) (tC (.bl b)):=fun _ _ _ H _ I h=>Constant_bool ⟨.bl b,H,I,rfl,h⟩
theorem pz {j pos}:PE X (.Constant .none j pos) (tC .non):=fun _ _ _ H _ I h=>Constant_none ⟨.non,H,I,rfl,h⟩
noncomputable def Gl (X:Cx) (x:Str):Prop:=X.env.kindOf x=some .globalImplicit
theorem jq {E:Value→Shared→Prop}{pins:List (Addr×Obj)}{s:Shared}{σ:St}{H:Hp}{x:Str}{u:Value}{pos:Pos}{Q:Value→Shared→Prop}(I:Inv X pins σ H s) (hg:Gl X x) (hm:X.mg x=some u) (h:Q u s)
  (hd:(x==("__debug__" : Str))=false:=by decide):wpAny (model X.prog X.w) X.A (eval (.Name x pos) X.env) Q E s :=
 Calls.Name_function_global I.ok.kind hg (Calls.loadGlobal_global (by rw[I.ok.glob];exact I.mod.glob.keeps I.bk) hm h) hd
theorem iX {E:Value→Shared→Prop}{pins:List (Addr×Obj)}{s:Shared}{σ:St}{H:Hp}{x:Str}{u:Value}{pos:Pos}{Q:Value→Shared→Prop}(I:Inv X pins σ H s) (hg:Gl X x) (hm:X.mg x=none) (hv:bootBuiltins x=some u) (h:Q u s)
  (hn:x≠"__name__":=by decide) (hd:(x==("__debug__" : Str))=false:=by decide):wpAny (model X.prog X.w) X.A (eval (.Name x pos) X.env) Q E s:=by
 obtain⟨mb,h1,h2⟩:=I.mod.blt;exact Calls.Name_function_global I.ok.kind hg (Calls.loadGlobal_builtin (by rw[I.ok.glob];exact I.mod.glob.keeps I.bk) hm (by rw[I.ok.blt];exact h1.keeps I.bk) ((h2 x hn).trans hv) h) hd
theorem AU {x:Str}{v:V}{u:Value}{pos:Pos}(hg:Gl X x) (hm:X.mg x=some u) (r:RelV v u) (hd:(x==("__debug__" : Str))=false:=by decide):PE X (.Name x pos) (tC v) :=
 fun _ _ _ H _ I h=>jq I hg hm ⟨v,H,I,r,h⟩ hd
theorem Bc {x:Str}{v:V}{u:Value}{pos:Pos}(hg:Gl X x) (hm:X.mg x=none) (hv:bootBuiltins x=some u) (r:RelV v u) (hn:x≠"__name__":=by decide) (hd:(x==("__debug__" : Str))=false:=by decide):PE X (.Name x pos) (tC v) :=
 fun _ _ _ H _ I h=>iX I hg hm hv ⟨v,H,I,r,h⟩ hn hd
variable {a b:Expr}{ta tb:TE}{pos:Pos}
variable {tA tB':TT}{rest:List Expr}
noncomputable def tAnd (t u:TT):TT:=fun σ H Q=>t σ H fun c H1=>if c=true then u σ H1 Q else Q false H1
noncomputable def tOr (t u:TT):TT:=fun σ H Q=>t σ H fun c H1=>if c=true then Q true H1 else u σ H1 Q
noncomputable def tNot (t:TT):TT:=fun σ H Q=>t σ H fun c H1=>Q (!c) H1
theorem BO (ha:PT X a tA):PW X (.BoolOp .And [a] pos) tA:=by
 intro wh pins s σ H Q I h;refine isTrue_and (dB (ha pins s σ H Q I h) fun c s1 e=>?_);cases c with
 |true=>exact isTrue_and_nil e
 |false=>exact e
theorem C5 (ha:PT X a tA):PW X (.BoolOp .Or [a] pos) tA:=by
 intro wh pins s σ H Q I h;refine isTrue_or (dB (ha pins s σ H Q I h) fun c s1 e=>?_);cases c with
 |false=>exact isTrue_or_nil e
 |true=>exact e
theorem CK (ha:PT X a tA) (hb:PW X (.BoolOp .And (b::rest) pos) tB'):PW X (.BoolOp .And (a::b::rest) pos) (tAnd tA tB'):=by
 intro wh pins s σ H Q I h;refine isTrue_and (dB (ha pins s σ H _ I h) fun c s1 ⟨H1,I1,q1⟩=>?_);cases c with
 |true=>exact hb wh pins s1 σ H1 Q I1 q1
 |false=>exact⟨H1,I1,q1⟩
theorem GY (ha:PT X a tA) (hb:PW X (.BoolOp .Or (b::rest) pos) tB'):PW X (.BoolOp .Or (a::b::rest) pos) (tOr tA tB'):=by
 intro wh pins s σ H Q I h;refine isTrue_or (dB (ha pins s σ H _ I h) fun c s1 ⟨H1,I1,q1⟩=>?_);cases c with
 |true=>exact⟨H1,I1,q1⟩
 |false=>exact hb wh pins s1 σ H1 Q I1 q1
theorem D4 (ha:PT X a tA):PT X (.UnaryOp .Not a pos) (tNot tA):=by
 intro pins s σ H Q I h;exact isTrue_not (ha pins s σ H (fun c H1=>Q (!c) H1) I h)
noncomputable def FV (ta tb:TE):TE:=fun σ H Q=>ta σ H fun x H1=>∃ c,x = .bl c∧if c=true then tb σ H1 Q else Q (.bl false) H1
noncomputable def tOrV (ta tb:TE):TE:=fun σ H Q=>ta σ H fun x H1=>∃ c,x = .bl c∧if c=true then Q (.bl true) H1 else tb σ H1 Q
noncomputable def GW (ta:TE):TE:=fun σ H Q=>ta σ H fun x H1=>∃ c,x = .bl c∧Q (.bl (!c)) H1
theorem C6 {op} {t:TE}(h:PE X a t):PE X (.BoolOp op [a] pos) t:=fun pins s σ H Q I hw=>BoolOp_one (h pins s σ H Q I hw)
theorem Eo (ha:PE X a ta) (hb:PE X (.BoolOp .And (b::rest) pos) tb):PE X (.BoolOp .And (a::b::rest) pos) (FV ta tb):=by
 intro pins s σ H Q I h;refine BoolOp_and (dB (ha pins s σ H _ I h) fun v s1 ⟨x,H1,I1,r1,q1⟩=>?_);obtain⟨c,rfl,q1⟩:=q1;cases r1;refine wpAny_truthy_bool ?_;cases c with
 |true=>exact hb pins s1 σ H1 Q I1 q1
 |false=>exact⟨.bl false,H1,I1,rfl,q1⟩
theorem Fd (ha:PE X a ta) (hb:PE X (.BoolOp .Or (b::rest) pos) tb):PE X (.BoolOp .Or (a::b::rest) pos) (tOrV ta tb):=by
 intro pins s σ H Q I h;refine BoolOp_or (dB (ha pins s σ H _ I h) fun v s1 ⟨x,H1,I1,r1,q1⟩=>?_);obtain⟨c,rfl,q1⟩:=q1;cases r1;refine wpAny_truthy_bool ?_;cases c with
 |false=>exact hb pins s1 σ H1 Q I1 q1
 |true=>exact⟨.bl true,H1,I1,rfl,q1⟩
theorem Ej (ha:PE X a ta):PE X (.UnaryOp .Not a pos) (GW ta):=by
 intro pins s σ H Q I h;refine UnaryOp_ (dB (ha pins s σ H _ I h) fun v s1 ⟨x,H1,I1,r1,q1⟩=>?_);obtain⟨c,rfl,q1⟩:=q1;cases r1;exact not_of (wpAny_truthy_bool ⟨.bl (!c),H1,I1,rfl,q1⟩)
noncomputable def tIf (t:TT) (ta tb:TE):TE:=fun σ H Q=>t σ H fun c H1=>if c=true then ta σ H1 Q else tb σ H1 Q
theorem yk {c:Expr}(hc:PT X c tA) (ha:PE X a ta) (hb:PE X b tb):PE X (.IfExp c a b pos) (tIf tA ta tb):=by
 intro pins s σ H Q I h;refine wpAny_IfExp (dB (hc pins s σ H _ I h) fun d s1 ⟨H1,I1,q1⟩=>?_);cases d with
 |true=>exact ha pins s1 σ H1 Q I1 q1
 |false=>exact hb pins s1 σ H1 Q I1 q1
end
end L2
namespace L2
open PySem PySem.Spec PyProof.Rows
noncomputable def ky (K:PySem.W.Frag) (H:Hp) (a:Addr) (xs:List V):Prop :=
 Rd H a (.lst xs) ∨
  ∃(o:Obj) (its:Array Value) (n:Nat),K.lookup a=some o∧o.cls = .type "list"∧o.dict=none∧o.data = .seq its n∧its.size≤sizeLine∧aQ xs its.toList
noncomputable def nK (K:PySem.W.Frag) (H:Hp) (a:Addr) (xs:List V):Prop :=
 Rd H a (.tup xs) ∨
  ∃(o:Obj) (its:Array Value) (n:Nat),K.lookup a=some o∧o.cls = .type "tuple"∧o.data = .seq its n∧its.size≤sizeLine∧aQ xs its.toList
noncomputable def absV:Value→Option V
 |.none=>some .non
 |.bool b=>some (.bl b)
 |.int i _=>some (.int i)
 |.str x _=>some (.str x)
 |.bytes b _=>some (.byt b)
 |.float b _=>some (.flt b)
 |.ref a=>some (.ref a)
 |.type n=>some (.ty n)
 |_=>none
theorem RelV.abs {x:V}{u:Value}(r:RelV x u):absV u=some x:=by
 cases x with
 |non=>cases r;rfl
 |bl _=>cases r;rfl
 |int _=>obtain⟨t,rfl⟩:=r;rfl
 |str _=>obtain⟨t,rfl⟩:=r;rfl
 |byt _=>obtain⟨t,rfl⟩:=r;rfl
 |flt _=>obtain⟨t,rfl⟩:=r;rfl
 |ref _=>cases r;rfl
 |ty _=>cases r;rfl
theorem RelV.inj {x y:V}{u:Value}(r:RelV x u) (q:RelV y u):x=y:=df (r.abs.symm.trans q.abs)
theorem aQ.inj:∀{xs ys:List V}{us:List Value},aQ xs us→aQ ys us→xs=ys
 |_,_,_,.nil,.nil=>rfl
 |_,_,_,.cons r t,.cons r' t'=>by rw[r.inj r',aQ.inj t t']
section
variable {X:Cx}{pins:List (Addr×Obj)}{σ:St}{H:Hp}{s:Shared}{a:Addr}{xs ys:List V}
theorem Inv.list (I:Inv X pins σ H s) (h:ky X.K H a xs):∃ its:List Value,aQ xs its∧PlainL s.heap a its.toArray∧xs.length≤sizeLine:=by
 rcases h with h | ⟨o,its,n,hk,hc,hd,hs,hz,r⟩
 ·obtain⟨z,its,n,r,e⟩:=h.ok I.hok;exact⟨its,r,⟨_,n,e,rfl,rfl,rfl⟩,z⟩
 ·refine⟨its.toList,r,⟨o,n,I.kIn a o hk,hc,hd,by simpa using hs⟩,?_⟩;have e:=r.length;simp only[Array.length_toList] at e;omega
theorem Inv.tuple (I:Inv X pins σ H s) (h:nK X.K H a xs):∃ its:List Value,aQ xs its∧IsTup s.heap a its.toArray∧xs.length≤sizeLine:=by
 rcases h with h | ⟨o,its,n,hk,hc,hs,hz,r⟩
 ·obtain⟨z,its,r,p⟩:=h.ok I.hok;exact⟨its,r,p,z⟩
 ·refine⟨its.toList,r,⟨o,I.kIn a o hk,hc,n,by simpa using hs⟩,?_⟩;have e:=r.length;simp only[Array.length_toList] at e;omega
theorem Inv.list_inj (I:Inv X pins σ H s) (h:ky X.K H a xs) (h':ky X.K H a ys):xs=ys:=by
 obtain⟨its,r,⟨o,n,e,_,_,d⟩,_⟩:=I.list h;obtain⟨its',r',⟨o',n',e',_,_,d'⟩,_⟩:=I.list h';rw[e] at e';cases e';rw[d] at d';injection d' with d1 _
 have:its=its':=by simpa using congrArg Array.toList d1
 subst this;exact r.inj r'
theorem Inv.tuple_inj (I:Inv X pins σ H s) (h:nK X.K H a xs) (h':nK X.K H a ys):xs=ys:=by
 obtain⟨its,r,⟨o,e,_,n,d⟩,_⟩:=I.tuple h;obtain⟨its',r',⟨o',e',_,n',d'⟩,_⟩:=I.tuple h';rw[e] at e';cases e';rw[d] at d';injection d' with d1 _
 have:its=its':=by simpa using congrArg Array.toList d1
 subst this;exact r.inj r'
end
noncomputable abbrev Cx.wish (X:Cx) (E:Value→Shared→Prop):Cx:={ X with xe:=E }
noncomputable abbrev Cx.nox (X:Cx):Cx:=X.wish fun _ _=>False
theorem Cx.Ok.wish {X:Cx}(ok:X.Ok) (E:Value→Shared→Prop):(X.wish E).Ok :=
 ⟨ok.mod,ok.kind,ok.glob,ok.blt,ok.above,ok.inj,ok.has,ok.cab,ok.hd,ok.frames,ok.stk,ok.exf,ok.bs,ok.bsz,ok.noex,ok.exfs,ok.funs,ok.frf⟩
theorem Cx.Ok.unwish {X:Cx}{E:Value→Shared→Prop}(ok:(X.wish E).Ok):X.Ok :=
 ⟨ok.mod,ok.kind,ok.glob,ok.blt,ok.above,ok.inj,ok.has,ok.cab,ok.hd,ok.frames,ok.stk,ok.exf,ok.bs,ok.bsz,ok.noex,ok.exfs,ok.funs,ok.frf⟩
section
variable {X:Cx}{pins:List (Addr×Obj)}{σ:St}{H:Hp}{s:Shared}{E:Value→Shared→Prop}
theorem Inv.wish (I:Inv X pins σ H s) (E:Value→Shared→Prop):Inv (X.wish E) pins σ H s:=⟨I.ok.wish E,I.os,I.bare,I.base,I.loc,I.cell,I.free,I.freeC,I.pin,I.hok,I.len⟩
theorem Inv.unwish (I:Inv (X.wish E) pins σ H s):Inv X pins σ H s:=⟨I.ok.unwish,I.os,I.bare,I.base,I.loc,I.cell,I.free,I.freeC,I.pin,I.hok,I.len⟩
theorem SP.unwish {D:Ends}{f:Flow}{s':Shared}(h:SP (X.wish E) pins D f s'):SP X pins D f s':=by
 cases f with
 |next=>obtain⟨σ',H',I,q⟩:=h;exact⟨σ',H',I.unwish,q⟩
 |brk=>obtain⟨σ',H',I,q⟩:=h;exact⟨σ',H',I.unwish,q⟩
 |cont=>obtain⟨σ',H',I,q⟩:=h;exact⟨σ',H',I.unwish,q⟩
 |ret u=>obtain⟨v,σ',H',I,r,q⟩:=h;exact⟨v,σ',H',I.unwish,r,q⟩
theorem PT.nox {e:Expr}{t:TT}(h:PT X.nox e t):PT X e t:=fun pins s σ H Q I hw =>
 wpAny_mono (h pins s σ H Q (I.wish _) hw) (fun _ _ ⟨H',I',q⟩=>⟨H',I'.unwish,q⟩) fun _ _ z=>False.elim z
theorem jJ.nox {st:List Stmt}{t:TS}(h:jJ X.nox st t):jJ X st t:=fun pins s σ H D I hw =>
 wpAny_mono (h pins s σ H D (I.wish _) hw) (fun _ _ q=>q.unwish) fun _ _ z=>False.elim z
end
section
variable {X:Cx}{st:Stmt}{rest:List Stmt}{t u:TS}{e:Expr}{te:TE}{pos:Pos}
noncomputable def ze:TS:=fun D σ H=>D.nx σ H
noncomputable def tSeq (t u:TS):TS:=fun D σ H=>t { D with nx:=u D } σ H
theorem u7:jJ X [] ze:=fun _ _ σ H _ I h=>wpAny_execs_nil ⟨σ,H,I,h⟩
theorem jZ (h1:PS X st t) (h2:jJ X rest u):jJ X (st::rest) (tSeq t u):=by
 intro pins s σ H D I h;refine wpAny_execs_cons (dB (h1 pins s σ H { D with nx:=u D } I h) fun f s1 q=>?_);cases f with
 |next =>
  obtain⟨σ',H',I',q⟩:=q;exact h2 pins s1 σ' H' D I' q
 |ret v=>exact q
 |brk=>exact q
 |cont=>exact q
theorem qa (h1:PS X st t):jJ X [st] t:=by
 intro pins s σ H D I h;refine wpAny_execs_cons (dB (h1 pins s σ H D I h) fun f s1 q=>?_);cases f with
 |next=>exact wpAny_execs_nil q
 |ret v=>exact q
 |brk=>exact q
 |cont=>exact q
noncomputable def Dx:TS:=fun D σ H=>D.bk σ H
noncomputable def F8:TS:=fun D σ H=>D.ct σ H
theorem Ab:PS X (.Pass pos) ze:=fun _ _ σ H _ I h=>wpAny_Pass ⟨σ,H,I,h⟩
theorem x5:PS X (.Break pos) Dx:=fun _ _ σ H _ I h=>wpAny_Break ⟨σ,H,I,h⟩
theorem rA:PS X (.Continue pos) F8:=fun _ _ σ H _ I h=>wpAny_Continue ⟨σ,H,I,h⟩
theorem Inv.quiet {pins:List (Addr×Obj)}{σ:St}{H:Hp}{s:Shared}(I:Inv X pins σ H s):interactive X.env=false:=by simp[interactive,I.ok.kind]
theorem CQ {x j pos pos'}:PS X (.Expr (.Constant (.str x) j pos) pos') ze:=fun _ s σ H _ I h=>wpAny_Expr (Calls.Constant_str (show SP X _ _ .next { s with toks:=s.toks+1 } from ⟨σ,H,I.tok _,h⟩)) I.quiet
noncomputable def uu (te:TE):TS:=fun D σ H=>te σ H fun _ H1=>D.nx σ H1
theorem kf (he:PE X e te) (hs:swapsWith e none pos.line X.env=pure false:=by rfl):PS X (.Expr e pos) (uu te):=by
 intro pins s σ H D I h;exact wpAny_Expr_any (dB (he pins s σ H _ I h) fun v s1 ⟨x,H1,I1,r1,q1⟩=>⟨σ,H1,I1,q1⟩) I.quiet hs
noncomputable def tRet (te:TE):TS:=fun D σ H=>te σ H D.rt
theorem zi (he:PE X e te):PS X (.Return (some e) pos) (tRet te):=by
 intro pins s σ H D I h;exact wpAny_Return_some (dB (he pins s σ H _ I h) fun v s1 ⟨x,H1,I1,r1,q1⟩=>⟨x,σ,H1,I1,r1,q1⟩)
noncomputable def Gk:TS:=fun D _ H=>D.rt .non H
theorem z7:PS X (.Return none pos) Gk:=fun _ _ σ H _ I h=>wpAny_Return_none ⟨.non,σ,H,I,rfl,h⟩
noncomputable def tIfS (c:TT) (t u:TS):TS:=fun D σ H=>c σ H fun b H1=>if b=true then t D σ H1 else u D σ H1
theorem Cc {c:Expr}{a b:List Stmt}{tc:TT}(hc:PT X c tc) (ha:jJ X a t) (hb:jJ X b u):PS X (.If c a b pos) (tIfS tc t u):=by
 intro pins s σ H D I h;refine wpAny_If (dB (hc pins s σ H _ I h) fun d s1 ⟨H1,I1,q1⟩=>?_);cases d with
 |true=>exact ha pins s1 σ H1 D I1 q1
 |false=>exact hb pins s1 σ H1 D I1 q1
end
noncomputable abbrev TG:=V→St→Hp→(St→Hp→Prop)→Prop
noncomputable abbrev BY:=List V→St→Hp→(St→Hp→Prop)→Prop
noncomputable def PG (X:Cx) (target:Expr) (t:TG):Prop :=
 ∀(pins:List (Addr×Obj)) (s:Shared) (σ:St) (H:Hp) (v:V) (u:Value) (Q:St→Hp→Prop),Inv X pins σ H s→RelV v u→t v σ H Q →
  wpAny (model X.prog X.w) X.A (assign target X.env u) (fun _ s'=>∃ σ' H',Inv X pins σ' H' s'∧Q σ' H') X.xe s
noncomputable def Fc (X:Cx) (ts:List Expr) (t:BY):Prop :=
 ∀(pins:List (Addr×Obj)) (s:Shared) (σ:St) (H:Hp) (vs:List V) (us:List Value) (Q:St→Hp→Prop),Inv X pins σ H s→aQ vs us→t vs σ H Q →
  wpAny (model X.prog X.w) X.A (assignInOrder ((assignEach ts X.env).map (·.2)) us) (fun _ s'=>∃ σ' H',Inv X pins σ' H' s'∧Q σ' H') X.xe s
noncomputable abbrev C7:=V→V→V→Hp→(Hp→Prop)→Prop
noncomputable def FZ (X:Cx) (t:C7):Prop :=
 ∀(pins:List (Addr×Obj)) (s:Shared) (σ:St) (H:Hp) (o i v:V) (ov iv u:Value) (Q:Hp→Prop),Inv X pins σ H s→RelV o ov→RelV i iv→RelV v u→t o i v H Q →
  wpAny (model X.prog X.w) X.A (setItem ov iv u) (fun _ s'=>∃ H',Inv X pins σ H' s'∧Q H') X.xe s
section
variable {X:Cx}{pos:Pos}
noncomputable def mj (i:Nat):TG:=fun v σ H Q=>Q (σ.set i (some v)) H
theorem uq {i:Nat}{x:Str}(hN:X.N.Nodup) (hi:X.N[i]? = some x) (hx:Loc X.env.scope x) (hf:X.fn x=true∨X.env.scope.names.lookup x=some .local:=by first | exact .inl rfl | exact .inr rfl | assumption):PG X (.Name x pos) (mj i):=by
 intro pins s σ H v u Q I r h;exact wpAny_assign_Name (kr I hN hi hx r (fun s' I'=>⟨_,H,I',h⟩) hf)
noncomputable def E8:BY:=fun vs σ H Q=>vs=[]∧Q σ H
noncomputable def B6 (t:TG) (u:BY):BY:=fun vs σ H Q=>∃ v r,vs=v::r∧t v σ H fun σ' H'=>u r σ' H' Q
theorem AV:Fc X [] E8:=by
 intro pins s σ H vs us Q I r h;obtain⟨e,h⟩:=h;subst e;cases r;exact assignInOrder_nil ⟨σ,H,I,h⟩
theorem yF {e:Expr}{es:List Expr}{t:TG}{u:BY}(h1:PG X e t) (h2:Fc X es u)
  (hs:(assignEach (e::es) X.env).map (·.2)=assign e X.env::(assignEach es X.env).map (·.2):=by rfl):Fc X (e::es) (B6 t u):=by
 intro pins s σ H vs us Q I r h;obtain⟨v,vr,e1,h⟩:=h;subst e1;cases r with
 |cons r rr =>
  rw[hs];refine assignInOrder_cons (dB (h1 pins s σ H _ _ _ I r h) fun _ s1 ⟨σ1,H1,I1,q1⟩=>?_);exact h2 pins s1 σ1 H1 _ _ Q I1 rr q1
noncomputable def xY (K:PySem.W.Frag) (n:Nat) (t:BY):TG:=fun v σ H Q=>∃ a xs,v = .ref a∧nK K H a xs∧xs.length=n∧t xs σ H Q
theorem zw {es:List Expr}{k:Nat}{t:BY}{n:Nat}(hc:X.calm=true) (h:Fc X es t)
  (hn:(assignEach es X.env).length=n:=by rfl) (hst:(assignEach es X.env).findIdx? (·.1)=none:=by rfl):PG X (.Tuple es k pos) (xY X.K n t):=by
 intro pins s σ H v u Q I r hw;obtain⟨a,xs,e1,hq,hl,hw⟩:=hw;subst e1;cases r;obtain⟨its,rv,ht,hz⟩:=I.tuple hq;refine assign_Tuple_tuple (I.ok.hd hc) ht (by simp[hn,←hl,rv.length]) hst fun h' hx=>?_
 have I1:Inv X pins σ H { s with heap:=h' }:=I.kept (t':=s.toks) fun b o e=>hx b o (bt (Heap.lt_size e)) e
 exact h pins _ σ H xs _ Q I1 (by simpa using rv) hw
noncomputable def GO (to ti:TE) (t:C7):TG:=fun v σ H Q=>to σ H fun o H1=>ti σ H1 fun i H2=>t o i v H2 fun H3=>Q σ H3
theorem Eg {o i:Expr}{to ti:TE}{t:C7}(ho:PE X o to) (hi:PE X i ti) (hs:FZ X t)
  (ha:∀ v,assign (.Subscript o i pos) X.env v=(do
   let ov ← holding [v] (eval o X.env);let iv ← holding [v,ov] (eval i X.env)
   standAt pos
   holding [v,ov,iv] (setItem ov iv v)
   release [v,ov,iv] []):=by intro _;rfl):PG X (.Subscript o i pos) (GO to ti t):=by
 intro pins s σ H v u Q I r h;rw[ha];refine wpAny_bind (wpAny_holding (dB (ho pins s σ H _ I h) fun ov s1 ⟨x,H1,I1,r1,q1⟩=>?_));refine wpAny_bind (wpAny_holding (dB (hi pins s1 σ H1 _ I1 q1) fun iv s2 ⟨y,H2,I2,r2,q2⟩=>?_));refine wpAny_bind (wpAny_standAt (wpAny_bind (wpAny_holding (dB (hs pins s2 σ H2 x y v ov iv u _ I2 r1 r2 r q2) fun _ s3 ⟨H3,I3,q3⟩=>?_))));exact wpAny_release ⟨σ,H3,I3,q3⟩
noncomputable def xN (te:TE) (g:TG):TS:=fun D σ H=>te σ H fun x H1=>g x σ H1 D.nx
theorem xU {tg e:Expr}{te:TE}{g:TG}(he:PE X e te) (hg:PG X tg g) (hs:swapsWithSole [tg] e pos.line X.env=pure false:=by rfl) (hw:swappedStores [tg] e X.env=pure none:=by rfl)
  (h1:(assignEach [tg] X.env).map (·.2)=[assign tg X.env]:=by rfl):PS X (.Assign [tg] e pos) (xN te g):=by
 intro pins s σ H D I h;refine wpAny_Assign_stores (dB (he pins s σ H _ I h) fun v s1 ⟨x,H1,I1,r1,q1⟩=>?_) hs hw;rw[h1];exact dB (hg pins s1 σ H1 x v _ I1 r1 q1) fun _ s2 q=>q
theorem sC {i:Nat}{x:Str}{e:Expr}{te:TE}{pos':Pos}(hN:X.N.Nodup) (hi:X.N[i]? = some x) (hx:Loc X.env.scope x) (he:PE X e te) (hs:swapsWith e (some (.Name x pos')) pos.line X.env=pure false:=by rfl) (hf:X.fn x=true∨X.env.scope.names.lookup x=some .local:=by first | exact .inl rfl | exact .inr rfl | assumption) :
  PS X (.Assign [.Name x pos'] e pos) (xN te (mj i)):=by
 intro pins s σ H D I h;refine wpAny_Assign_Name (dB (he pins s σ H _ I h) fun v s1 ⟨y,H1,I1,r1,q1⟩=>?_) hs;exact kr I1 hN hi hx r1 (fun s2 I2=>⟨_,H1,I2,q1⟩) hf
end
section
variable {X:Cx}{pos:Pos}
noncomputable def Ed (c:TT) (tb:TS):TS:=fun D σ H=>∃ W:Nat→St→Hp→Prop,(∃ m,W m σ H)∧∀ m σ H,W m σ H →
 c σ H fun b H1=>if b=true then ∃ N:St→Hp→Prop,(∀ σ' H',N σ' H'→∃ m',m'<m∧W m' σ' H')∧tb { D with nx:=N,ct:=N,bk:=D.nx } σ H1 else D.nx σ H1
theorem xr {c:Expr}{body:List Stmt}{tc:TT}{tb:TS}(hp:PassesOwn (model X.prog X.w) X.A X.env X.xe) (hc:PT X c tc) (hb:jJ X body tb):PS X (.While c body [] pos) (Ed tc tb):=by
 intro pins s σ H D I h;obtain⟨W,⟨m0,w0⟩,turn⟩:=h;refine wpAny_While (codeAny_whileLoop (fun n s'=>∃ σ' H',Inv X pins σ' H' s'∧W n σ' H') ?_ m0 ⟨σ,H,I,w0⟩);rintro n s1 ⟨σ1,H1,I1,w1⟩;refine wpAny_passesOwn hp (dB (hc pins s1 σ1 H1 _ I1 (turn n σ1 H1 w1)) fun b s2 ⟨H2,I2,q2⟩=>?_);cases b with
 |true =>
  obtain⟨N,hN,q2⟩:=q2;rw[if_pos rfl];refine wpAny_passesOwn hp (dB (hb pins s2 σ1 H2 _ I2 q2) fun f s3 q3=>?_);cases f with
  |next =>
   obtain⟨σ3,H3,I3,n3⟩:=q3;obtain⟨m',hm,w3⟩:=hN σ3 H3 n3;exact⟨m',hm,σ3,H3,I3,w3⟩
  |cont =>
   obtain⟨σ3,H3,I3,n3⟩:=q3;obtain⟨m',hm,w3⟩:=hN σ3 H3 n3;exact⟨m',hm,σ3,H3,I3,w3⟩
  |brk=>exact q3
  |ret v=>exact q3
 |false =>
  rw[if_neg ba];exact wpAny_execs_nil ⟨σ1,H2,I2,q2⟩
end
structure It where
 go:Nat→Hp→Prop
 yld:Nat→Hp→V→Hp→Prop
 stop:Nat→Hp→Prop
noncomputable def jx (X:Cx) (pins:List (Addr×Obj)) (H:Hp) (b:Addr):Prop :=
 H b=none∧b≠X.env.locals∧b∉X.fs∧(b∈X.ex∨X.s₀.heap.objs.size≤b)∧(∀ x c,X.env.cells.lookup x=some c→c≠b)∧∀ p∈X.pn++pins,p.1≠b
theorem Inv.fpOk {X:Cx}{pins:List (Addr×Obj)}{σ:St}{H H':Hp}{s:Shared}{b:Addr}(I:Inv X pins σ H s) (hb:s.heap.objs.size≤b) (hn:H' b=none):jx X pins H' b:=by
 refine⟨hn,Nat.ne_of_gt (av I.lt hb),I.nofs hb,.inr (bu I.sz hb),fun x c e z=>?_,fun p hp z=>?_⟩
 ·obtain⟨v,q⟩:=I.cell x c e;exact absurd (av q.lt (by rw[z];exact hb)) (fe _)
 ·exact absurd (av (Heap.lt_size (I.pin p hp).1) (by rw[z];exact hb)) (fe _)
structure Turn (P:Program) (w:World) (K:PySem.W.Frag) (tg:Expr) (J:It) (fp:List Addr) (it:Addr) (tn:Nat→Heap→Prop):Prop where
 mem:it∈fp
 obj:∀ i h,tn i h→∀ b∈fp,∃ o,h.get? b=some o∧∀ v,o.data≠.cell v
 keep:∀ i h h',tn i h→(∀ b∈fp,∀ o,h.get? b=some o→h'.get? b=some o)→tn i h'
 item:∀(X:Cx),X.prog=P→X.w=w→X.K=K→X.calm=true→∀(i:Nat) (pins:List (Addr×Obj)) (s:Shared) (σ:St) (H:Hp) (E:Value→Shared→Prop),Inv X pins σ H s→(∀ b∈fp,jx X pins H b)→tn i s.heap→J.go i H →
  wpAny (model P w) X.A (pyNext (.ref it)) (fun r s1=>∃ u,r=some u ∧
   wpAny (model P w) X.A (letOwnedTupleGo tg (.ref it) u) (fun _ s2=>∃ x H',Inv X pins σ H' s2∧RelV x u∧J.yld i H x H'∧tn (i+1) s2.heap∧∀ b∈fp,H' b=none) E s1) E s
 done:∀(X:Cx),X.prog=P→X.w=w→X.K=K→X.calm=true→∀(i:Nat) (pins:List (Addr×Obj)) (s:Shared) (σ:St) (H:Hp) (E:Value→Shared→Prop),Inv X pins σ H s→(∀ b∈fp,jx X pins H b)→tn i s.heap→J.stop i H →
  wpAny (model P w) X.A (pyNext (.ref it)) (fun r s1=>r=none∧Inv X pins σ H s1) E s
 self:∀(A:Around) (i:Nat) (s:Shared) (Q:Value→Shared→Prop) (E:Value→Shared→Prop),tn i s.heap→Q (.ref it) s→wpAny (model P w) A (pyIter (.ref it)) Q E s
noncomputable abbrev TI:=St→Hp→(It→Hp→Prop)→Prop
noncomputable def PIE (X:Cx) (pins:List (Addr×Obj)) (σ:St) (tg:Expr) (R:It→Hp→Prop) (itv:Value) (s2:Shared):Prop :=
 ∃(it:Addr) (fp:List Addr) (tn:Nat→Heap→Prop) (J:It) (H':Hp),itv = .ref it∧Inv X pins σ H' s2∧Turn X.prog X.w X.K tg J fp it tn∧tn 0 s2.heap∧(∀ b∈fp,jx X pins H' b)∧R J H'
noncomputable def PI (X:Cx) (tg iter:Expr) (wi:TI):Prop :=
 ∀(pins:List (Addr×Obj)) (s:Shared) (σ:St) (H:Hp) (R:It→Hp→Prop),Inv X pins σ H s→wi σ H R →
  wpAny (model X.prog X.w) X.A (eval iter X.env) (fun v s1=>wpAny (model X.prog X.w) X.A (pyIter v) (PIE X pins σ tg R) X.xe s1) X.xe s
theorem xq {M:Model}{A:Around}{E:Value→Shared→Prop}{s:Shared}{tg:Expr}{it:Addr}{u:Value}{o:Obj}{n:String}{vs:Array Value}{Q:Unit→Shared→Prop}(ho:s.heap.get? it=some o) (hc:o.cls = .type n) (hd:o.data = .fields vs)
  (hn:["enumerate","zip","dict_itemiterator","dict_reverseitemiterator","odict_iterator","itertools.zip_longest","itertools.pairwise"].contains n=false) (hQ:Q () s):wpAny M A (letOwnedTupleGo tg (.ref it) u) Q E s:=by
 unfold letOwnedTupleGo;cases tg<;>first
  | exact wpAny_pure hQ
  | (cases u<;>first
    | exact wpAny_pure hQ
    | (refine wpAny_bind (wpAny_load ho ?_)
       rw[hc,hd];show wpAny M A (if (["enumerate","zip","dict_itemiterator","dict_reverseitemiterator","odict_iterator","itertools.zip_longest","itertools.pairwise"].contains n&&vs[0]?==some (rawInt _))=true then _ else _) Q E s;rw[if_neg (by intro h;rw[hn,Bool.false_and] at h;cases h)];exact wpAny_pure hQ))
noncomputable def Itl (K:PySem.W.Frag) (a:Addr):It :=
 ⟨fun i H=>∃ xs x,ky K H a xs∧xs[i]? = some x,fun i H x H'=>H'=H∧∀ xs,ky K H a xs→xs[i]? = some x,fun i H=>∃ xs,ky K H a xs∧xs.length≤i⟩
noncomputable def Itt (K:PySem.W.Frag) (a:Addr):It :=
 ⟨fun i H=>∃ xs x,nK K H a xs∧xs[i]? = some x,fun i H x H'=>H'=H∧∀ xs,nK K H a xs→xs[i]? = some x,fun i H=>∃ xs,nK K H a xs∧xs.length≤i⟩
theorem wF {P:Program}{w:World}{K:PySem.W.Frag}{tg:Expr}(a it:Addr):Turn P w K tg (Itl K a) [it] it (fun i h=>h.IsListIter it a i) where
 mem:=by simp
 obj:=fun i h st b hb=>by
  have e:b=it:=by simpa using hb
  subst e;obtain⟨o,e,c,d⟩:=st;exact⟨o,e,fun v z=>by rw[d] at z;cases z⟩
 keep:=fun i h h' st k=>st.at fun o e=>k it (by simp) o e
 item:=by
  intro X hP hw hK hc i pins s σ H E I hf st hg;subst hP hw hK;obtain⟨xs,x,hq,hx⟩:=hg;obtain⟨its,rv,p,hz⟩:=I.list hq;obtain⟨u,hu,ru⟩:=rv.get hx;obtain⟨f0,f1,f2,f3,f4,f5⟩:=hf it (by simp);refine wpAny_pyNext_list_item st p.isList (x:=u) (by simpa using hu) fun h' st' sb=>?_
  have I1:Inv X pins σ H { s with heap:=h' }:=I.turned (t':=s.toks) (fun b o hb e=>(sb.2 b hb).trans e) f0 f1 f3 f4 f5;obtain⟨o,e,c,d⟩:=id st';exact⟨u,rfl,xq (s:={ s with heap:=h' }) e c d (by decide) ⟨x,H,I1,ru,⟨rfl,fun ys hy=>by rw[I.list_inj hy hq];exact hx⟩,st',fun b hb=>(hf b hb).1⟩⟩
 done:=by
  intro X hP hw hK hc i pins s σ H E I hf st hg;subst hP hw hK;obtain⟨xs,hq,hx⟩:=hg;obtain⟨its,rv,p,hz⟩:=I.list hq;obtain⟨f0,f1,f2,f3,f4,f5⟩:=hf it (by simp);have hl:=rv.length;exact wpAny_pyNext_list_end (I.ok.hd hc) st p.isList (by simp;omega) fun h' eb=>⟨rfl,I.turned (t':=s.toks) (fun b o hb e=>eb b o hb e) f0 f1 f3 f4 f5⟩
 self:=fun _ _ _ _ _ st h=>wpAny_pyIter_listiter st h
theorem sO {P:Program}{w:World}{K:PySem.W.Frag}{tg:Expr}(a it:Addr):Turn P w K tg (Itt K a) [it] it (fun i h=>h.IsTupleIter it a i) where
 mem:=by simp
 obj:=fun i h st b hb=>by
  have e:b=it:=by simpa using hb
  subst e;obtain⟨o,e,c,d⟩:=st;exact⟨o,e,fun v z=>by rw[d] at z;cases z⟩
 keep:=fun i h h' st k=>st.at fun o e=>k it (by simp) o e
 item:=by
  intro X hP hw hK hc i pins s σ H E I hf st hg;subst hP hw hK;obtain⟨xs,x,hq,hx⟩:=hg;obtain⟨its,rv,p,hz⟩:=I.tuple hq;obtain⟨u,hu,ru⟩:=rv.get hx;obtain⟨f0,f1,f2,f3,f4,f5⟩:=hf it (by simp);refine wpAny_pyNext_tuple_item st (show s.heap.IsTuple a its.toArray from p) (x:=u) (by simpa using hu) fun h' st' sb=>?_
  have I1:Inv X pins σ H { s with heap:=h' }:=I.turned (t':=s.toks) (fun b o hb e=>(sb.2 b hb).trans e) f0 f1 f3 f4 f5;obtain⟨o,e,c,d⟩:=id st';exact⟨u,rfl,xq (s:={ s with heap:=h' }) e c d (by decide) ⟨x,H,I1,ru,⟨rfl,fun ys hy=>by rw[I.tuple_inj hy hq];exact hx⟩,st',fun b hb=>(hf b hb).1⟩⟩
 done:=by
  intro X hP hw hK hc i pins s σ H E I hf st hg;subst hP hw hK;obtain⟨xs,hq,hx⟩:=hg;obtain⟨its,rv,p,hz⟩:=I.tuple hq;obtain⟨f0,f1,f2,f3,f4,f5⟩:=hf it (by simp);have hl:=rv.length;exact wpAny_pyNext_tuple_end (I.ok.hd hc) st (show s.heap.IsTuple a its.toArray from p) (by simp;omega) fun h' eb=>⟨rfl,I.turned (t':=s.toks) (fun b o hb e=>eb b o hb e) f0 f1 f3 f4 f5⟩
 self:=fun _ _ _ _ _ st h=>wpAny_pyIter_tupleiter st h
end L2
namespace L2
open PySem PySem.Spec PyProof.Rows
section
variable {X:Cx}{tg:Expr}
noncomputable def tFor (wi:TI) (g:TG) (tb:TS):TS:=fun D σ H=>wi σ H fun J H1=>∃ W:Nat→Nat→St→Hp→Prop,(∃ m,W 0 m σ H1)∧∀ i m σ H,W i m σ H →
 (J.stop i H∧D.nx σ H)∨(J.go i H∧∃ N:St→Hp→Prop,(∀ σ' H',N σ' H'→∃ m',m'<m∧W (i+1) m' σ' H')∧∀ x H',J.yld i H x H'→g x σ H' fun σ2 H2=>tb { D with nx:=N,ct:=N,bk:=D.nx } σ2 H2)
noncomputable def mZ (fp:List Addr) (h:Heap):List (Addr×Obj):=fp.filterMap fun b=>(h.get? b).map fun o=>(b,o)
theorem fK {fp:List Addr}{h:Heap}{b:Addr}{o:Obj}(hb:b∈fp) (e:h.get? b=some o):(b,o)∈mZ fp h:=List.mem_filterMap.mpr ⟨b,hb,by rw[e];rfl⟩
theorem wy {fp:List Addr}{h:Heap}{p:Addr×Obj}(hp:p∈mZ fp h):p.1∈fp∧h.get? p.1=some p.2:=by
 obtain⟨b,hb,e⟩:=List.mem_filterMap.mp hp;cases q:h.get? b with
 |none=>rw[q] at e;cases e
 |some o =>
  rw[q] at e;have e':(b,o)=p:=df e;subst e';exact⟨hb,q⟩
theorem Inv.pinned {pins:List (Addr×Obj)}{σ:St}{H:Hp}{s:Shared}{fp:List Addr}(I:Inv X pins σ H s) (hf:∀ b∈fp,jx X pins H b) (ho:∀ b∈fp,∃ o,s.heap.get? b=some o∧∀ v,o.data≠.cell v):Inv X (pins++mZ fp s.heap) σ H s :=
 I.pins_of fun p hp=>(iy.mp hp).elim (fun z=>I.pin p (ao _ z)) fun z=>by
  obtain⟨hb,e⟩:=wy z;obtain⟨f0,f1,f2,_⟩:=hf p.1 hb;obtain⟨o,e',d⟩:=ho p.1 hb;rw[e] at e';cases e';exact⟨e,f0,f1,f2,d⟩
theorem Inv.unpinned {pins pl:List (Addr×Obj)}{σ:St}{H:Hp}{s:Shared}(I:Inv X (pins++pl) σ H s):Inv X pins σ H s:=I.pins_of fun p hp=>I.pin p (ao _ (ay _ hp))
theorem Ds {iter:Expr}{body:List Stmt}{wi:TI}{g:TG}{tb:TS}{pos:Pos}(hp:PassesOwn (model X.prog X.w) X.A X.env X.xe) (hc:X.calm=true) (hi:PI X tg iter wi) (hg:PG X tg g) (hb:jJ X body tb)
  (hs:∀ x,foldedSetIterable iter X.env x=pure x:=by intro _;rfl):PS X (.For tg iter body [] pos) (tFor wi g tb):=by
 intro pins s σ H D I h;refine wpAny_For (dB (hi pins s σ H _ I h) fun v s1 h1=>dB h1 fun itv s2 h2=>?_) hs;obtain⟨it,fp,tn,J,H2,e,I2,T,st2,f2,W,⟨m0,w0⟩,turn⟩:=h2;subst e;have stat:∀{H':Hp},(∀ b∈fp,H' b=none)→∀ b∈fp,jx X pins H' b:=fun hn b hb=>⟨hn b hb,(f2 b hb).2⟩
 refine codeAny_forLoop_any (fun n s'=>∃ i σ' H',Inv X pins σ' H' s'∧tn i s'.heap∧(∀ b∈fp,H' b=none)∧W i n σ' H') ?_ m0 ⟨0,σ,H2,I2,st2,fun b hb=>(f2 b hb).1,w0⟩;rintro n s3 ⟨i,σ3,H3,I3,st3,fr3,w3⟩;rcases turn i n σ3 H3 w3 with ⟨stop,qn⟩ | ⟨go,N,hN,step⟩
 ·refine wpAny_passesOwn hp (dB (T.done X rfl rfl rfl hc i pins s3 σ3 H3 X.xe I3 (stat fr3) st3 stop) fun r s4 ⟨hr,I4⟩=>?_);subst hr;exact wpAny_execs_nil ⟨σ3,H3,I4,qn⟩
 ·refine wpAny_passesOwn hp (dB (T.item X rfl rfl rfl hc i pins s3 σ3 H3 X.xe I3 (stat fr3) st3 go) fun r s4 ⟨u,hr,h4⟩=>?_);subst hr;refine wpAny_passesOwn hp (dB h4 fun _ s5 ⟨x,H5,I5,r5,y5,st5,fr5⟩=>?_);have I5':=I5.pinned (stat fr5) (T.obj _ _ st5);refine wpAny_passesOwn hp (dB (hg _ s5 σ3 H5 x u _ I5' r5 (step x H5 y5)) fun _ s6 ⟨σ6,H6,I6,q6⟩=>?_);refine wpAny_passesOwn hp (dB (hb _ s6 σ6 H6 _ I6 q6) fun f s7 q7=>?_);have again:∀{σ7:St}{H7:Hp},Inv X (pins++mZ fp s5.heap) σ7 H7 s7→N σ7 H7→∃ m,m<n∧∃ i σ' H',Inv X pins σ' H' s7∧tn i s7.heap∧(∀ b∈fp,H' b=none)∧W i m σ' H':=fun {σ7 H7} I7 n7=>by
   obtain⟨m',hm,w7⟩:=hN σ7 H7 n7;refine⟨m',hm,i+1,σ7,H7,I7.unpinned,T.keep _ _ _ st5 fun b hb o e=>(I7.pin (b,o) (ao _ (ao _ (fK hb e)))).1,fun b hb=>?_,w7⟩;obtain⟨o,e,d⟩:=T.obj _ _ st5 b hb;exact (I7.pin (b,o) (ao _ (ao _ (fK hb e)))).2.1
  cases f with
  |next=>obtain⟨σ7,H7,I7,n7⟩:=q7;exact again I7 n7
  |cont=>obtain⟨σ7,H7,I7,n7⟩:=q7;exact again I7 n7
  |brk=>obtain⟨σ7,H7,I7,q7⟩:=q7;exact⟨σ7,H7,I7.unpinned,q7⟩
  |ret v=>obtain⟨x7,σ7,H7,I7,r7,q7⟩:=q7;exact⟨x7,σ7,H7,I7.unpinned,r7,q7⟩
end
end L2
namespace L2
open PySem PySem.Spec PyProof.Rows
noncomputable abbrev R2:=V→V→Hp→VK→Prop
noncomputable def jw (X:Cx) (f:Value→Value→Sem Value) (r:R2):Prop :=
 ∀(pins:List (Addr×Obj)) (s:Shared) (σ:St) (H:Hp) (x y:V) (v u:Value) (Q:VK),Inv X pins σ H s→RelV x v→RelV y u→r x y H Q →
  wpAny (model X.prog X.w) X.A (f v u) (EP X pins σ Q) X.xe s
noncomputable def UnR (X:Cx) (f:Value→Sem Value) (r:V→Hp→VK→Prop):Prop :=
 ∀(pins:List (Addr×Obj)) (s:Shared) (σ:St) (H:Hp) (x:V) (v:Value) (Q:VK),Inv X pins σ H s→RelV x v→r x H Q →
  wpAny (model X.prog X.w) X.A (f v) (EP X pins σ Q) X.xe s
noncomputable def gQ (X:Cx) (f:Value) (r:List V→Hp→VK→Prop):Prop :=
 ∀(pins:List (Addr×Obj)) (s:Shared) (σ:St) (H:Hp) (xs:List V) (us:List Value) (Q:VK),Inv X pins σ H s→aQ xs us→r xs H Q →
  wpAny (model X.prog X.w) X.A (call f us) (EP X pins σ Q) X.xe s
noncomputable def TruR (X:Cx) (r:V→Hp→(Bool→Hp→Prop)→Prop):Prop :=
 ∀(pins:List (Addr×Obj)) (s:Shared) (σ:St) (H:Hp) (x:V) (v:Value) (Q:Bool→Hp→Prop),Inv X pins σ H s→RelV x v→r x H Q →
  wpAny (model X.prog X.w) X.A (truthy v) (TP X pins σ Q) X.xe s
noncomputable def FG (r:R2) (ta tb:TE):TE:=fun σ H Q=>ta σ H fun x H1=>tb σ H1 fun y H2=>r x y H2 Q
noncomputable def tUn (r:V→Hp→VK→Prop) (ta:TE):TE:=fun σ H Q=>ta σ H fun x H1=>r x H1 Q
noncomputable def rI (C:Int→Int→Prop) (g:Int→Int→V):R2:=fun x y H Q=>∃ i j,x = .int i∧y = .int j∧C i j∧Q (g i j) H
noncomputable def wU (g:Int→Int→V):R2:=fun x y H Q=>∃ i j,x = .int i∧y = .int j∧Q (g i j) H
noncomputable def rU (g:Int→V):V→Hp→VK→Prop:=fun x H Q=>∃ i,x = .int i∧Q (g i) H
section
variable {X:Cx}{a b c:Expr}{ta tb tc:TE}{pos:Pos}
theorem CI (ha:PE X a ta) (hb:PE X b tb) {pins:List (Addr×Obj)}{s:Shared}{σ:St}{H:Hp}{R:V→V→Hp→Prop}(I:Inv X pins σ H s)
  (h:ta σ H fun x H1=>tb σ H1 fun y H2=>R x y H2) {Q:Value→Shared→Prop}{f:Value→Value→Sem Value}
  (hf:∀ v u s2 x y H2,Inv X pins σ H2 s2→RelV x v→RelV y u→R x y H2→wpAny (model X.prog X.w) X.A (f v u) Q X.xe s2) :
  wpAny (model X.prog X.w) X.A (eval a X.env) (fun v s₁=>wpAny (model X.prog X.w) X.A (eval b X.env) (fun u s₂=>wpAny (model X.prog X.w) X.A (f v u) Q X.xe s₂) X.xe s₁) X.xe s:=by
 refine dB (ha pins s σ H _ I h) fun v s1 ⟨x,H1,I1,r1,q1⟩=>?_
 refine dB (hb pins s1 σ H1 _ I1 q1) fun u s2 ⟨y,H2,I2,r2,q2⟩=>?_
 exact hf v u s2 x y H2 I2 r1 r2 q2
theorem GP {op:Operator}{r:R2}(ho:jw X (binaryOp op) r) (ha:PE X a ta) (hb:PE X b tb):PE X (.BinOp a op b pos) (FG r ta tb):=by
 intro pins s σ H Q I h;exact wpAny_BinOp (CI ha hb I h fun v u s2 x y H2 I2 rx ry q=>ho pins s2 σ H2 x y v u Q I2 rx ry q)
theorem FP {op:UnaryOp}{r:V→Hp→VK→Prop}(ho:UnR X (unaryOp op) r) (ha:PE X a ta):PE X (.UnaryOp op a pos) (tUn r ta):=by
 intro pins s σ H Q I h;exact UnaryOp_ (dB (ha pins s σ H _ I h) fun v s1 ⟨x,H1,I1,r1,q1⟩=>ho pins s1 σ H1 x v Q I1 r1 q1)
theorem EZ {f:Value→Value→Sem Value}{C:Int→Int→Prop}{g:Int→Int→Int}
  (rule:∀(i j:Int) (t u:Tok) (s:Shared) (Q:Value→Shared→Prop) (E:Value→Shared→Prop),C i j→Q (.int (g i j) s.toks) { s with toks:=s.toks+1 }→wpAny (model X.prog X.w) X.A (f (.int i t) (.int j u)) Q E s) :
  jw X f (rI C fun i j=>.int (g i j)):=by
 intro pins s σ H x y v u Q I rx ry h;obtain⟨i,j,rfl,rfl,hc,q⟩:=h;obtain⟨t,rfl⟩:=rx;obtain⟨t',rfl⟩:=ry;exact rule i j t t' s _ _ hc ⟨.int (g i j),H,I.tok _,⟨_,rfl⟩,q⟩
theorem zU {f:Value→Value→Sem Value}{g:Int→Int→Int}
  (rule:∀(i j:Int) (t u:Tok) (s:Shared) (Q:Value→Shared→Prop) (E:Value→Shared→Prop),Q (.int (g i j) s.toks) { s with toks:=s.toks+1 }→wpAny (model X.prog X.w) X.A (f (.int i t) (.int j u)) Q E s) :
  jw X f (wU fun i j=>.int (g i j)):=by
 intro pins s σ H x y v u Q I rx ry h;obtain⟨i,j,rfl,rfl,q⟩:=h;obtain⟨t,rfl⟩:=rx;obtain⟨t',rfl⟩:=ry;exact rule i j t t' s _ _ ⟨.int (g i j),H,I.tok _,⟨_,rfl⟩,q⟩
theorem BA {f:Value→Value→Sem Value}{g:Int→Int→Bool}
  (rule:∀(i j:Int) (t u:Tok) (s:Shared) (Q:Value→Shared→Prop) (E:Value→Shared→Prop),Q (.bool (g i j)) s→wpAny (model X.prog X.w) X.A (f (.int i t) (.int j u)) Q E s) :
  jw X f (wU fun i j=>.bl (g i j)):=by
 intro pins s σ H x y v u Q I rx ry h;obtain⟨i,j,rfl,rfl,q⟩:=h;obtain⟨t,rfl⟩:=rx;obtain⟨t',rfl⟩:=ry;exact rule i j t t' s _ _ ⟨.bl (g i j),H,I,rfl,q⟩
noncomputable def CDiv (i j:Int):Prop:=0<j∧j<1073741824
noncomputable def FU (i j:Int):Prop:=0≤j∧j≤1000000∧i.natAbs<2 ^ 64
noncomputable def De (i j:Int):Prop:=(-(2 ^ 64)<i∧i<2 ^ 64)∨(-(2 ^ 64)<j∧j<2 ^ 64)
theorem De.ok {i j:Int}(h:De i j):IntMulOk i j:=by
 rcases h with ⟨h1,h2⟩ | ⟨h1,h2⟩
 ·exact .of_left (intBits_le_64 h1 h2)
 ·exact .of_right (intBits_le_64 h1 h2)
theorem tf (k:Nat):(0:Int)≤2 ^ k:=by
 rw[two_pow_cast];exact fi _
theorem Es:jw X (binaryOp .Add) (wU fun i j=>.int (i+j)):=zU fun _ _ _ _ _ _ _ q=>add_int q
theorem Cz:jw X (binaryOp .Sub) (wU fun i j=>.int (i - j)):=zU fun _ _ _ _ _ _ _ q=>sub_int q
theorem D5:jw X (binaryOp .Mult) (rI De fun i j=>.int (i*j)):=EZ fun _ _ _ _ _ _ _ hc q=>mul_int q hc.ok
theorem BB:jw X (binaryOp .FloorDiv) (rI CDiv fun i j=>.int (i / j)):=EZ fun i j _ _ _ _ _ hc q=>by
 have h1:(0:Int)<j:=hc.1;have h2:j<1073741824:=hc.2;exact floordiv_int (by omega) (by rw[Int.fdiv_eq_ediv_of_nonneg i (by omega)];exact q) (.inl (PyProof.noPylong_small (by omega)))
theorem CT:jw X (binaryOp .Mod) (rI (fun _ j=>0<j) fun i j=>.int (i%j)):=EZ fun i j _ _ _ _ _ hc q=>by
 have h1:(0:Int)<j:=hc;exact mod_int' (by omega) (by rw[Int.fmod_eq_emod_of_nonneg i (by omega)];exact q)
theorem EF:jw X (binaryOp .Pow) (rI FU fun i j=>.int (i ^ j.toNat)):=EZ fun _ _ _ _ _ _ _ hc q=>pow_int_small hc.1 hc.2.1 hc.2.2 q
theorem DH:jw X (binaryOp .LShift) (rI FU fun i j=>.int (i*2 ^ j.toNat)):=EZ fun _ _ _ _ _ _ _ hc q=>lshift_int_small hc.1 hc.2.1 hc.2.2 q
theorem Dj:jw X (binaryOp .RShift) (rI (fun _ j=>0≤j) fun i j=>.int (i / 2 ^ j.toNat)):=EZ fun i j _ _ _ _ _ hc q =>
 rshift_int hc (by rw[Int.fdiv_eq_ediv_of_nonneg i (tf _)];exact q)
theorem Cv:jw X (binaryOp .BitAnd) (wU fun i j=>.int (Builtin.bitAnd i j)):=zU fun _ _ _ _ _ _ _ q=>and_int q
theorem Fv:jw X (binaryOp .BitOr) (wU fun i j=>.int (Builtin.bitOr i j)):=zU fun _ _ _ _ _ _ _ q=>or_int q
theorem DF:jw X (binaryOp .BitXor) (wU fun i j=>.int (Builtin.bitXor i j)):=zU fun _ _ _ _ _ _ _ q=>xor_int q
theorem unI {f:Value→Sem Value}{g:Int→Int}
  (rule:∀(i:Int) (t:Tok) (s:Shared) (Q:Value→Shared→Prop) (E:Value→Shared→Prop),Q (.int (g i) s.toks) { s with toks:=s.toks+1 }→wpAny (model X.prog X.w) X.A (f (.int i t)) Q E s) :
  UnR X f (rU fun i=>.int (g i)):=by
 intro pins s σ H x v Q I rx h;obtain⟨i,rfl,q⟩:=h;obtain⟨t,rfl⟩:=rx;exact rule i t s _ _ ⟨.int (g i),H,I.tok _,⟨_,rfl⟩,q⟩
theorem Em:UnR X (unaryOp .USub) (rU fun i=>.int (-i)):=unI fun _ _ _ _ _ q=>neg_int q
end
noncomputable def ja:V→V→Bool
 |.non,.non=>true | .non,.int _=>true | .int _,.non=>true | .non,.bl _=>true | .bl _,.non=>true | .non,.str _=>true | .str _,.non=>true
 |.int _,.int _=>true | .bl _,.bl _=>true | .str _,.str _=>true | .byt _,.byt _=>true
 |.int _,.str _=>true | .str _,.int _=>true | .bl _,.str _=>true | .str _,.bl _=>true
 |_,_=>false
section
variable {X:Cx}{a b c:Expr}{ta tb tc:TE}{pos:Pos}
theorem w9 {pins:List (Addr×Obj)}{σ:St}{H:Hp}{s:Shared}{Q:VK}{k k':Bool}(I:Inv X pins σ H s) (q:Q (.bl k) H) (e:k=k'):EP X pins σ Q (.bool k') s:=by
 subst e;exact⟨.bl k,H,I,rfl,q⟩
theorem Fq:jw X (compareOp .Lt) (wU fun i j=>.bl (decide (i<j))):=BA fun _ _ _ _ _ _ _ q=>lt_int q
theorem F9:jw X (compareOp .LtE) (wU fun i j=>.bl (decide (i≤j))):=BA fun _ _ _ _ _ _ _ q=>le_int q
theorem E9:jw X (compareOp .Gt) (wU fun i j=>.bl (decide (j<i))):=BA fun _ _ _ _ _ _ _ q=>gt_int q
theorem GD:jw X (compareOp .GtE) (wU fun i j=>.bl (decide (j≤i))):=BA fun _ _ _ _ _ _ _ q=>ge_int q
theorem CV:jw X (compareOp .Is) (fun x y H Q=>y = .non∧Q (.bl (decide (x = .non))) H):=by
 intro pins s σ H x y v u Q I rx ry h;obtain⟨rfl,q⟩:=h;cases ry;refine is_none_gen (w9 I q ?_);cases x<;>first
  | (cases rx;rfl)
  | (obtain⟨t,rfl⟩:=rx;rfl)
theorem Am:jw X (compareOp .IsNot) (fun x y H Q=>y = .non∧Q (.bl (!decide (x = .non))) H):=by
 intro pins s σ H x y v u Q I rx ry h;obtain⟨rfl,q⟩:=h;cases ry;refine isnot_none_gen (w9 I q ?_);cases x<;>first
  | (cases rx;rfl)
  | (obtain⟨t,rfl⟩:=rx;rfl)
theorem BJ {op:CmpOp}{r:R2}(ho:jw X (compareOp op) r) (ha:PE X a ta) (hb:PE X b tb) (hm:behindInMarks op b=false):PE X (.Compare a [op] [b] pos) (FG r ta tb):=by
 intro pins s σ H Q I h;exact wpAny_Compare1 (CI ha hb I h fun v u s2 x y H2 I2 rx ry q=>ho pins s2 σ H2 x y v u Q I2 rx ry q) hm
noncomputable def FC (t:TE):TT:=fun σ H Q=>t σ H fun x H'=>∃ k,x = .bl k∧Q k H'
theorem AX {op:CmpOp}{r:R2}(ho:jw X (compareOp op) r) (ha:PE X a ta) (hb:PE X b tb) (hm:behindInMarks op b=false):PT X (.Compare a [op] [b] pos) (FC (FG r ta tb)):=by
 intro pins s σ H Q I h;refine wpAny_isTrue_Compare1 (dB (ha pins s σ H _ I h) fun v s1 ⟨x,H1,I1,r1,q1⟩=>dB (hb pins s1 σ H1 _ I1 q1) fun u s2 ⟨y,H2,I2,r2,q2⟩ =>
  dB (ho pins s2 σ H2 x y v u _ I2 r1 r2 q2) fun c s3 ⟨z,H3,I3,r3,k,e,q3⟩=>?_) hm
 subst e;cases r3;exact wpAny_truthy_bool ⟨H3,I3,q3⟩
noncomputable def EI (K:PySem.W.Frag) (x:V) (H:Hp) (k:Bool):Prop :=
 match x with
 |.non=>k=false
 |.bl b=>k=b
 |.int i=>k=(i != 0)
 |.str y=>y.length≤sizeLine∧k=((y.length:Int) != 0)
 |.byt y=>y.size≤sizeLine∧k=((y.size:Int) != 0)
 |.ref p=>(∃ xs,ky K H p xs∧k = !xs.isEmpty)∨(∃ xs,nK K H p xs∧k = !xs.isEmpty)∨∃ kvs,H p=some (.dK kvs)∧k = !kvs.isEmpty
 |_=>False
theorem tG {κ:Type}{kvs:List (κ×V)}{vs:List (κ×Value)}(r:KV kvs vs):(!vs.isEmpty) = !kvs.isEmpty:=by
 cases r<;>rfl
theorem lV {xs:List V}{its:List Value}(r:aQ xs its):(!its.toArray.isEmpty) = !xs.isEmpty:=by
 cases r<;>simp
theorem mP:(sizeLine:Nat)<2 ^ 63:=by rw[sizeLine_eq];decide
theorem DU:TruR X (fun x H Q=>∃ k,EI X.K x H k∧Q k H):=by
 intro pins s σ H x v Q I rx h;obtain⟨k,e,q⟩:=h;have hl:=mP;have hs:sizeLine=16777216:=sizeLine_eq;cases x with
 |non =>
  cases rx;have e':k=false:=e;subst e';exact truthy_none ⟨H,I,q⟩
 |bl b =>
  cases rx;have e':k=b:=e;subst e';exact wpAny_truthy_bool ⟨H,I,q⟩
 |int i =>
  obtain⟨t,rfl⟩:=rx;have e':k=(i != 0):=e;subst e';exact PySem.P.truthy_int ⟨H,I,q⟩
 |str y =>
  obtain⟨t,rfl⟩:=rx;obtain⟨hy,e'⟩:y.length≤sizeLine∧k=((y.length:Int) != 0):=e;subst e';exact PySem.P.truthy_str (by omega) ⟨H,I.tok _,q⟩
 |byt y =>
  obtain⟨t,rfl⟩:=rx;obtain⟨hy,e'⟩:y.size≤sizeLine∧k=((y.size:Int) != 0):=e;subst e';exact PySem.W.truthy_bytes (by omega) ⟨H,I.tok _,q⟩
 |ref p =>
  cases rx;have e':(∃ xs,ky X.K H p xs∧k = !xs.isEmpty)∨(∃ xs,nK X.K H p xs∧k = !xs.isEmpty)∨∃ kvs,H p=some (.dK kvs)∧k = !kvs.isEmpty:=e;rcases e' with ⟨xs,hx,e'⟩ | ⟨xs,hx,e'⟩ | ⟨kvs,hx,e'⟩
  ·subst e';obtain⟨its,r,pl,hz⟩:=I.list hx;have hlen:=r.length;exact wpAny_truthy_list pl.isList (by simp only[List.size_toArray];omega) ⟨H,I.tok _,by rw[lV r];exact q⟩
  ·subst e';obtain⟨its,r,pl,hz⟩:=I.tuple hx;have hlen:=r.length;exact truthy_tuple pl (by simp only[List.size_toArray];omega) ⟨H,I.tok _,by rw[lV r];exact q⟩
  ·subst e';obtain⟨hz,hS,vs,r,m⟩:kvs.length≤sizeLine∧(p==sysModules)=false∧∃ vs,KV kvs vs∧s.heap.DictOf (pq X.prog X.w) p vs:=I.hok p _ hx;have hlen:kvs.length=vs.length:=Paired.length r;exact wpAny_truthy_dict hS m (by omega) ⟨H,I.tok _,by rw[tG r];exact q⟩
 |_=>exact (show False from e).elim
theorem zR (ha:PE X a ta) (he:∀ whole,isTrue a X.env whole=(do let v ← whole;standAt a.pos;holding [v] (truthy v))) :
  PT X a (fun σ H Q=>ta σ H fun x H'=>∃ k,EI X.K x H' k∧Q k H'):=by
 intro pins s σ H Q I h;exact isTrue_plain (dB (ha pins s σ H _ I h) fun v s1 ⟨x,H1,I1,r1,q1⟩=>DU pins s1 σ H1 x v Q I1 r1 q1) (he _)
theorem vals1 {x:V}{us:List Value}(r:aQ [x] us):∃ u,us=[u]∧RelV x u:=by
 cases r with
 |cons r1 r2=>cases r2;exact⟨_,rfl,r1⟩
theorem vals2 {x y:V}{us:List Value}(r:aQ [x,y] us):∃ u w',us=[u,w']∧RelV x u∧RelV y w':=by
 cases r with
 |cons r1 r2 =>
  cases r2 with
  |cons r3 r4=>cases r4;exact⟨_,_,rfl,r1,r3⟩
theorem vH (hc:X.calm=true):gQ X (.builtin "min") (fun xs H Q=>∃ i j,xs=[.int i,.int j]∧Q (.int (if j<i then j else i)) H):=by
 intro pins s σ H xs us Q I r h;obtain⟨i,j,rfl,q⟩:=h;obtain⟨u,w',rfl,⟨t,rfl⟩,⟨t',rfl⟩⟩:=vals2 r;refine min_two_ints (I.ok.hd hc) fun h' tk k=>⟨_,H,I.kept k,?_,q⟩
 by_cases hj:j<i
 ·rw[if_pos hj,if_pos hj];exact⟨_,rfl⟩
 ·rw[if_neg hj,if_neg hj];exact⟨_,rfl⟩
end
end L2
namespace L2
open PySem PySem.Spec PyProof.Rows
structure ObjM (h:Heap) (x dx C:Addr) (mA:Str→Option Value):Prop where
 obj:h.get? x=some (PySem.W.instObj C dx)
 ns:h.Ns1 dx mA
 ne:dx≠x
section
variable {prog:Program}{w:World}{A:Around}{E:Value→Shared→Prop}{s:Shared}{K:PySem.W.Frag}{x dx C f:Addr}{mA:Str→Option Value}{name:Str}{v:Value}
end
section
variable {P:Program}{w:World}{H H':Hp}{h h':Heap}{a C dx:Addr}{fs fs':List (Str×V)}
end
structure Cls (K:PySem.W.Frag) (C:Addr):Prop where
 pg:PySem.W.plainGet K C Str.empty=true
 hd:PySem.W.hasDictIn K C=true
 po:PySem.W.plainOver K C=true
 sa:PySem.W.findIn K (.ref C) "__setattr__" = some (some (.builtin "object.__setattr__"))
structure Con (K:PySem.W.Frag) (C:Addr) (f:Str) (v:V) (u:Value):Prop where
 at_:PySem.W.findIn K (.ref C) f=some (some u)
 rel:RelV v u
 get:PySem.W.specialIn K u "__get__" = some none
 cp:PySem.W.copiedNames.contains f=false
structure Meth (K:PySem.W.Frag) (C:Addr) (m:Str) (f:Addr):Prop where
 at_:PySem.W.findIn K (.ref C) m=some (some (.ref f))
 fn:PySem.W.isFn K (.ref f)=true
 kp:PySem.W.keepIn K (.ref f)=true
section
variable {X:Cx}{pins:List (Addr×Obj)}{σ:St}{H:Hp}{s:Shared}{a C dx:Addr}{fs:List (Str×V)}{f:Str}{v:V}{A:Around}{E:Value→Shared→Prop}
end
section
variable {X:Cx}{o e value:Expr}{f:Str}{pos pos' tpos:Pos}{ta tv:TE}
end
section
variable {X:Cx}{pins:List (Addr×Obj)}{σ:St}{H:Hp}{s:Shared}{A:Around}{E:Value→Shared→Prop}{Q:Value→Shared→Prop}{c:Value}{b:Bool}
inductive mO (K:PySem.W.Frag) (H:Hp):V→Value→Prop where
 | non:mO K H .non (.type "NoneType")
 | bl (x:Bool):mO K H (.bl x) (.type "bool")
 | int (i:Int):mO K H (.int i) (.type "int")
 | str (x:Str):mO K H (.str x) (.type "str")
 | flt (x:UInt64):mO K H (.flt x) (.type "float")
 | lst {a:Addr}{xs:List V}(e:H a=some (.lst xs)):mO K H (.ref a) (.type "list")
 | frz {a:Addr}{o:Obj}{xs:List V}(e:H a=some (.frz o (.lst xs))):mO K H (.ref a) (.type "list")
 | tup {a:Addr}{xs:List V}(e:H a=some (.tup xs)):mO K H (.ref a) (.type "tuple")
 | dK {a:Addr}{kvs:List (Key×V)}(e:H a=some (.dK kvs)):mO K H (.ref a) (.type "dict")
 | dT {a:Addr}{kvs:List (List Key×V)}(e:H a=some (.dT kvs)):mO K H (.ref a) (.type "dict")
 | ins {a C dx:Addr}{fs:List (Str×V)}(e:H a=some (.ins C dx fs)) (cl:Cls K C) (ha:PySem.W.findIn K (.ref C) "__class__" = some (some (.builtin "object.__class__")))
   (hn:PySem.W.specialIn K (.builtin "object.__class__") "__get__" = some (some (.builtin "getset_descriptor.__get__"))) (htk:PySem.W.takesIn K (.builtin "object.__class__")=some true)
   (hm:PySem.W.mroIn K C (.type "object")=some true):mO K H (.ref a) (.ref C)
end
end L2
namespace L2
open PySem PySem.Spec PyProof.Rows
structure fR (k:Nat) (A:Around):Prop where
 hd:A.handled=none
 dp:A.depth+3*k+5<recursionLimit
 un:A.units+16*k+200<cLine
theorem fR.deeper {k:Nat}{A:Around}(r:fR (k+1) A) (env:Env):fR k (A.deeper env) :=
 ⟨r.hd,by have:=r.dp;show A.depth+1+3*k+5<_;omega,by have:=r.un;show A.units+3+16*k+200<_;omega⟩
theorem fR.depth {k:Nat}{A:Around}(r:fR k A):A.depth<recursionLimit:=by have:=r.dp;omega
theorem fR.units {k:Nat}{A:Around}(r:fR k A):A.units+64<cLine:=by have:=r.un;omega
noncomputable def xC:TA:=fun _ H Q=>Q [] H
noncomputable def mE (ta:TE) (tr:TA):TA:=fun σ H Q=>ta σ H fun x H1=>tr σ H1 fun xs H2=>Q (x::xs) H2
section
variable {X:Cx}{e:Expr}{es:List Expr}{te:TE}{t:TA}{pos:Pos}
theorem mJ:PA X [] xC:=fun _ _ _ _ H Q I h=>Calls.spliced_nil ⟨[],H,I,.nil,h⟩
theorem fZ (ha:PE X e te) (hr:PA X es t) (hs:starEach (e::es) X.env=(false,eval e X.env)::starEach es X.env:=by rfl):PA X (e::es) (mE te t):=by
 intro pos pins s σ H Q I h;rw[hs];show wpAny _ _ (spliced ((false,eval e X.env)::backTo pos (starEach es X.env))) _ _ s;refine Calls.spliced_cons (dB (ha pins s σ H _ I h) fun u s1 ⟨x,H1,I1,r1,q1⟩=>?_);exact dB (hr pos pins s1 σ H1 _ I1 q1) fun us s2 ⟨xs,H2,I2,r2,q2⟩=>⟨x::xs,H2,I2,.cons r1 r2,q2⟩
noncomputable def tTup (t:TA):TE:=fun σ H Q=>t σ H fun xs H1=>xs.length≤sizeLine∧∀ p,H1 p=none→Q (.ref p) (upd H1 p (.tup xs))
noncomputable def tLst (t:TA):TE:=fun σ H Q=>t σ H fun xs H1=>xs.length≤sizeLine∧∀ p,H1 p=none→Q (.ref p) (upd H1 p (.lst xs))
theorem Dd {x1} (h:PA X es t):PE X (.Tuple es x1 pos) (tTup t):=by
 intro pins s σ H Q I hq;refine wpAny_Tuple_spliced (dB (h pos pins s σ H _ I hq) fun us s1 ⟨xs,H1,I1,r,z,q⟩=>⟨by rw[←r.length];exact z,?_⟩);have hf:H1 s1.heap.objs.size=none:=I1.hok.fresh (au _);refine⟨.ref s1.heap.objs.size,upd H1 s1.heap.objs.size (.tup xs),I1.laid (t':=s1.toks) (fun b u e=>Heap.get?_push_of_some _ e) (au _) ?_,rfl,q _ hf⟩;exact⟨z,us,r,⟨_,Heap.get?_push_size _ rfl,rfl,_,rfl⟩⟩
theorem C3 (h:PA X es t):PE X (.List es pos) (tLst t):=by
 intro pins s σ H Q I hq;refine wpAny_List_spliced (dB (h pos pins s σ H _ I hq) fun us s1 ⟨xs,H1,I1,r,z,q⟩=>⟨by rw[←r.length];exact z,?_⟩);have hf:H1 s1.heap.objs.size=none:=I1.hok.fresh (au _);refine⟨.ref s1.heap.objs.size,upd H1 s1.heap.objs.size (.lst xs),I1.laid (t':=s1.toks) (fun b u e=>Heap.get?_push_of_some _ e) (au _) ?_,rfl,q _ hf⟩;exact⟨z,us,0,r,Heap.get?_push_size _ rfl⟩
end
noncomputable abbrev Sp:=List V→Hp→VK→XK→Prop
noncomputable abbrev rV:=List Env→Hp→Shared→XK→Value→Shared→Prop
structure zQ (P:Program) (w:World) (K:PySem.W.Frag) (mg:Str→Option Value) (base:Heap) (A:Around) (outer:List Env) (s:Shared) (H:Hp):Prop where
 frames:A.frames=some outer
 mod:Mod K mg base
 bs:∀ b o,base.get? b=some o→s.heap.get? b=some o∧H b=none
 bsz:base.objs.size≤s.heap.objs.size
 funs:s.heap.FunFrames base outer
 frf:∀ b∈fW outer,H b=none
 hok:kx P w H s.heap
 bare:AllBare s.gens
noncomputable def CE (outer:List Env) (P:Program) (w:World) (H:Hp) (s:Shared) (Q:VK) (u:Value) (s':Shared):Prop :=
 ∃ v H',s'.os=s.os∧AllBare s'.gens∧Un (fW outer) [] H H' s.heap s'.heap∧kx P w H' s'.heap∧RelV v u∧Q v H'
noncomputable def CR (CX:rV) (outer:List Env) (P:Program) (w:World) (H:Hp) (s:Shared) (Q:VK) (E:XK) (r:Result) (s':Shared):Prop :=
 match r with
 | .ok (.ret u)=>CE outer P w H s Q u s'
 |.ok _=>False
 |.error e=>CX outer H s E e s'
structure kT (P:Program) (w:World) (K:PySem.W.Frag) (mg:Str→Option Value) (base:Heap) (CX:rV) (k:Nat) (f:Addr) (fd:FuncData) (ps:List Str) (sp:Sp):Prop where
 len:∀ vs H Q E,sp vs H Q E→vs.length=ps.length
 run:∀(A:Around) (outer:List Env) (s:Shared) (H:Hp) (args:Args) (us:List Value) (vs:List V) (Q:VK) (E:XK),fR k A→zQ P w K mg base A outer s H→BindsTo s fd args (ps.zip us)→aQ vs us→sp vs H Q E →
  codeAny (model P w) A (.call (.ref f) args) (CR CX outer P w H s Q E) s
section
variable {X:Cx}{pins:List (Addr×Obj)}{σ:St}{H:Hp}{s s':Shared}
theorem Inv.env0 (I:Inv X pins σ H s):zQ X.prog X.w X.K X.mg X.base X.A X.stack s H :=
 ⟨I.ok.frames,I.ok.mod,I.bs,bu I.ok.bsz I.sz,I.stack,I.stkFree,I.hok,I.bare⟩
theorem Inv.after {Q:VK}{u:Value}(I:Inv X pins σ H s) (h:CE X.stack X.prog X.w H s Q u s'):EP X pins σ Q u s':=by
 obtain⟨v,H',os,bare,un,hok,r,q⟩:=h;obtain⟨hh,g,d,t,os'⟩:=s';obtain rfl:os'=s.os:=os;exact⟨v,H',I.call (h':=hh) (g':=g) (d':=d) (t':=t) (ch:=[]) un hok bare (fun b z=>absurd z (by simp)),r,q⟩
end
noncomputable def zr (sp:Sp) (dvs:List V) (E:XK) (t:TA):TE:=fun σ H Q=>t σ H fun vs H1=>sp (vs++dvs) H1 Q E
noncomputable def Binds (K:PySem.W.Frag) (fd:FuncData) (ps:List Str) (ds:List Value):Prop :=
 ∀(s:Shared) (us:List Value),K.In s.heap→(us++ds).length=ps.length→BindsTo s fd ⟨us,[]⟩ (ps.zip (us++ds))
theorem Binds.all {K:PySem.W.Frag}{fd:FuncData}{ps:List Str}(h:∀ us:List Value,us.length=ps.length→bindArgs fd ⟨us,[]⟩=pure (ps.zip us)):Binds K fd ps []:=fun s us _ hl=>by
 rw[bo] at hl ⊢;exact .of_eq (h us hl)
noncomputable def pO (CX:rV) (X:Cx) (E:XK):Prop:=∀(pins:List (Addr×Obj)) (σ:St) (H:Hp) (s:Shared) (e:Value) (s':Shared),Inv X pins σ H s→CX X.stack H s E e s'→X.xe e s'
section
variable {X:Cx}{CX:rV}{k:Nat}{f C:Addr}{fd:FuncData}{ps:List Str}{sp:Sp}{dvs:List V}{ds:List Value}{E:XK}{x m:Str}{p pos apos:Pos}{e o:Expr}{es:List Expr}{ta:TE}{t:TA}
theorem zM {pins:List (Addr×Obj)}{σ:St}{H:Hp}{s:Shared}{Q:VK}{us:List Value}{vs:List V}(F:kT X.prog X.w X.K X.mg X.base CX k f fd ps sp) (hr:fR k X.A) (hb:Binds X.K fd ps ds) (hd:aQ dvs ds) (hx:pO CX X E)
  (I:Inv X pins σ H s) (r:aQ vs us) (h:sp (vs++dvs) H Q E):wpAny (model X.prog X.w) X.A (call (.ref f) us) (EP X pins σ Q) X.xe s:=by
 have r2:aQ (vs++dvs) (us++ds):=r.append hd;have hl:(us++ds).length=ps.length:=by rw[←r2.length];exact F.len _ _ _ _ h
 refine wpAny_call (codeAny_mono (F.run X.A X.stack s H ⟨us,[]⟩ (us++ds) (vs++dvs) Q E hr I.env0 (hb s us I.kIn hl) r2 h) fun r s' hq=>?_);cases r with
 |error e=>exact hx pins σ H s e s' I hq
 |ok fl =>
  cases fl with
  |ret u=>exact I.after hq
  |next=>exact False.elim hq
  |brk=>exact False.elim hq
  |cont=>exact False.elim hq
theorem Bj (F:kT X.prog X.w X.K X.mg X.base CX k f fd ps sp) (hr:fR k X.A) (hg:Gl X x) (hm:X.mg x=some (.ref f)) (hk:PySem.W.keepIn X.K (.ref f)=true) (hb:Binds X.K fd ps ds) (hd:aQ dvs ds) (hx:pO CX X E)
  (ha:PA X (e::es) t) (hdb:(x==("__debug__" : Str))=false:=by decide) (he:starEach (e::es) X.env=(false,eval e X.env)::starEach es X.env:=by rfl) (hpl:(backTo pos (starEach es X.env)).any (·.1)=false:=by rfl) :
  PE X (.Call (.Name x p) (e::es) [] pos) (zr sp dvs E t):=by
 intro pins s σ H Q I h;refine wpAny_Call_Name_kw (jq I hg hm ?_ hdb);refine PySem.W.callWith_K (h₀:=X.base) I.ok.mod.kin hk (dB (ha pos pins s σ H _ I h) fun us s1 ⟨vs,H1,I1,r,q⟩=>⟨I1.kIn,?_⟩) he hpl;exact zM F hr hb hd hx I1 r q
theorem yU (F:kT X.prog X.w X.K X.mg X.base CX k f fd ps sp) (hr:fR k X.A) (hg:Gl X x) (hm:X.mg x=some (.ref f)) (hk:PySem.W.keepIn X.K (.ref f)=true) (hb:Binds X.K fd ps ds) (hd:aQ dvs ds) (hx:pO CX X E)
  (hdb:(x==("__debug__" : Str))=false:=by decide):PE X (.Call (.Name x p) [] [] pos) (zr sp dvs E xC):=by
 intro pins s σ H Q I h;refine wpAny_Call_Name_kw (jq I hg hm ?_ hdb);exact PySem.W.callWith_K0 I.kIn hk (zM (us:=[]) F hr hb hd hx I .nil h)
structure Mk (K:PySem.W.Frag) (C f:Addr):Prop where
 makes:PySem.W.makesIn K C=true
 init:PySem.W.findIn K (.ref C) "__init__" = some (some (.ref f))
 fn:PySem.W.isFn K (.ref f)=true
 kp:PySem.W.keepIn K (.ref C)=true
end
section
variable {X:Cx}{CX:rV}{k:Nat}{f C:Addr}{fd:FuncData}{ps ks:List Str}{sp:Sp}{E:XK}{x m:Str}{p pos apos kpos:Pos}{e o:Expr}{es:List Expr}{kws:List Keyword}{te ta:TE}{t tk:TA}{nm:Option Str}
structure KBinds (K:PySem.W.Frag) (fd:FuncData) (ps ks:List Str) (g:List Value→List Value→List Value) (gV:List V→List V→List V):Prop where
 to:∀(s:Shared) (us ws:List Value),K.In s.heap→(g us ws).length=ps.length→BindsTo s fd ⟨us,ks.zip ws⟩ (ps.zip (g us ws))
 rel:∀{vs:List V}{us:List Value}{zs:List V}{ws:List Value},aQ vs us→aQ zs ws→aQ (gV vs zs) (g us ws)
variable {g:List Value→List Value→List Value}{gV:List V→List V→List V}
end
structure eF (N P:List Str) (sc:Scope):Prop where
 kind:sc.kind = .function
 co:sc.isCoroutine=false
 gen:sc.isGenerator=false
 nd:N.Nodup
 pre:N.take P.length=P
 par:∀ x∈P,sc.names.lookup x=some .local∨sc.names.lookup x=some .cell
 nofree:∀ y∈sc.names,y.2≠.free
theorem oA {kindOf:Str→Option NameKind}{x:Str}:∀{binds:List (Str×Value)}{m:Str→Option Value},(∀ v,(x,v)∉binds)→bindL kindOf binds m x=m x
 |[],_,_=>rfl
 | (n,v)::r,m,h=>by
  unfold bindL;rw[oA fun w hw=>h w (aa _ hw)];split
  ·have:x≠n:=by rintro rfl;exact h v ag
   simp[this]
  ·rfl
theorem om {kindOf:Str→Option NameKind}{x:Str}:∀{binds:List (Str×Value)}{m:Str→Option Value},(∀ v,(x,v)∉binds)→bindC kindOf binds m x=m x
 |[],_,_=>rfl
 | (n,v)::r,m,h=>by
  unfold bindC;rw[om fun w hw=>h w (aa _ hw)];split
  ·rfl
  ·have:x≠n:=by rintro rfl;exact h v ag
   simp[this]
theorem ju {kindOf:Str→Option NameKind}{x:Str}{v:Value}:∀{P:List Str}{vs:List Value}{i:Nat}{m:Str→Option Value},P.Nodup→P[i]? = some x→vs[i]? = some v→kindOf x=some .local →
  bindL kindOf (P.zip vs) m x=some v
 |[],_,_,_,_,h,_,_=>by simp at h
 |_::_,[],_,_,_,_,h,_=>by simp at h
 | p::P,w::vs,0,m,nd,h1,h2,hk=>by
  simp at h1 h2;subst h1;subst h2;show bindL kindOf ((p,w)::P.zip vs) m p=_;unfold bindL;rw[oA fun v hv=>(iw.mp nd).1 (fw hv).1,if_pos hk];simp
 | p::P,w::vs,i+1,m,nd,h1,h2,hk=>by
  show bindL kindOf ((p,w)::P.zip vs) m x=_;unfold bindL;exact ju (i:=i) (List.nodup_cons.mp nd).2 (by simpa using h1) (by simpa using h2) hk
theorem oU {kindOf:Str→Option NameKind}{x:Str}{v:Value}:∀{P:List Str}{vs:List Value}{i:Nat}{m:Str→Option Value},P.Nodup→P[i]? = some x→vs[i]? = some v→kindOf x≠some .local →
  bindC kindOf (P.zip vs) m x=some v
 |[],_,_,_,_,h,_,_=>by simp at h
 |_::_,[],_,_,_,_,h,_=>by simp at h
 | p::P,w::vs,0,m,nd,h1,h2,hk=>by
  simp at h1 h2;subst h1;subst h2;show bindC kindOf ((p,w)::P.zip vs) m p=_;unfold bindC;rw[om fun v hv=>(iw.mp nd).1 (fw hv).1,if_neg hk];simp
 | p::P,w::vs,i+1,m,nd,h1,h2,hk=>by
  show bindC kindOf ((p,w)::P.zip vs) m x=_;unfold bindC;exact oU (i:=i) (List.nodup_cons.mp nd).2 (by simpa using h1) (by simpa using h2) hk
noncomputable def start (N:List Str) (vs:List V):St:=vs.map some++List.replicate (N.length - vs.length) none
noncomputable def gF (CX:rV) (P:Program) (w:World) (K:PySem.W.Frag) (mg:Str→Option Value) (base:Heap) (N:List Str) (qual:Str) (scope:Scope) (f:Addr) (cd:Value) (A:Around) (outer:List Env) (s:Shared) (H:Hp) (E:XK):Cx where
 prog:=P
 w:=w
 K:=K
 mg:=mg
 base:=base
 A:=A.deeper (envOfC qual scope s.heap.objs.size f cd)
 N:=N
 s₀:=s
 H₀:=H
 env:=envOfC qual scope s.heap.objs.size f cd
 outer:=outer
 stack:=envOfC qual scope s.heap.objs.size f cd::outer
 ex:=[]
 calm:=true
 fn:=fun _=>true
 pn:=[]
 xe:=fun e s'=>wpAny (model P w) (A.deeper (envOfC qual scope s.heap.objs.size f cd)) (leaving (envOfC qual scope s.heap.objs.size f cd) e) (fun _ s''=>CX outer H s E e s'') (fun e' s''=>CX outer H s E e' s'') s'
theorem rq {sc:Scope}{n:Nat}{x:Str}(h:sc.names.lookup x=some .cell):∃ c,(cellsFrom n sc.names []).lookup x=some c:=by
 have q:=il sc.names n [] (.inl h);exact Option.isSome_iff_exists.mp q
theorem nX {CX:rV}{P:Program}{w:World}{K:PySem.W.Frag}{mg:Str→Option Value}{base:Heap}{N ps:List Str}{qual:Str}{scope:Scope}{f:Addr}{cd:Value}{A:Around}{outer:List Env}{s s1:Shared}{H:Hp}{E:XK}{us:List Value}{vs:List V}
  (S:eF N ps scope) (hd:A.handled=none) (e0:zQ P w K mg base A outer s H) (hl:vs.length=ps.length) (r:aQ vs us)
  (x:InCallC s s.heap.objs.size (bindL (envOfC qual scope s.heap.objs.size f cd).kindOf (ps.zip us) fun _=>none) (cellsFrom (s.heap.objs.size+1) scope.names []) (bindC (envOfC qual scope s.heap.objs.size f cd).kindOf (ps.zip us) fun _=>none) s1) :
  Inv (gF CX P w K mg base N qual scope f cd A outer s H E) [] (start N vs) H s1:=by
 have hpl:ps.length≤N.length:=by have:=ij List.length S.pre;rw[eg] at this;omega
 obtain⟨h1,tk,rfl,hk⟩:=x.done;have noA:∀ b:Addr,b∉(gF CX P w K mg base N qual scope f cd A outer s H E).ex:=fun b z=>absurd (show b∈([]:List Addr) from z) (by simp)
 refine⟨⟨e0.mod,S.kind,rfl,rfl,au _,fun y z c h1 h2=>?_,fun y hy=>?_,fun y c _ h=>?_,fun _=>hd,Around.frames_deeper e0.frames,.inr ⟨rfl,rfl⟩,fun b z=>absurd z (noA b),e0.bs,e0.bsz,fun b _ _=>noA b,fun b z=>absurd z (noA b),e0.funs,e0.frf⟩,
  rfl,e0.bare,Un.kept hk,⟨_,x.toInCall.ns,fun i y v h1 h2 h3=>?_⟩,fun y c h=>⟨_,x.cell y c h⟩,e0.hok.fresh (Nat.le_refl _),fun y c h=>?_,fun p hp=>absurd (show p∈([]:List (Addr×Obj)) from hp) (by simp),e0.hok.kept hk,?_⟩
 ·exact name_of_addr x.apart (cm h1) (cm h2)
 ·have hy:scope.names.lookup y=some .cell∨scope.names.lookup y=some .free:=hy;rcases hy with hy | hy
  ·exact rq hy
  ·exact absurd rfl (S.nofree _ (cm hy))
 ·exact Nat.le_of_lt (x.above y c (cm h))
 ·have hi:i<vs.length:=by
   unfold start at h2;by_cases hi:i<vs.length
   ·exact hi
   ·rw[List.getElem?_append_right (by simpa using hi)] at h2;rw[List.getElem?_replicate] at h2;split at h2<;>cases h2
  have ha:vs[i]? = some v:=by
   unfold start at h2;rw[List.getElem?_append_left (by simpa using hi),List.getElem?_map] at h2;cases e:vs[i]? with
   |none=>rw[e] at h2;cases h2
   |some a=>rw[e] at h2;cases h2;rfl
  obtain⟨u,hu,rv⟩:=r.get ha;have hp:ps[i]? = some y:=by
   rw[←S.pre,List.getElem?_take_of_lt (by omega)];exact h1
  have ndP:ps.Nodup:=by rw[←S.pre];exact S.nd.sublist (List.take_sublist _ _)
  refine⟨u,rv,?_⟩;rcases S.par y (List.mem_of_getElem? hp) with k | k
  ·exact .inl ⟨k,ju ndP hp hu k⟩
  ·obtain⟨c,e⟩:=rq (n:=s.heap.objs.size+1) k;refine .inr ⟨.inl k,c,e,?_⟩;have q:=x.cell y c e;rw[oU ndP hp hu (by show scope.names.lookup y≠_;rw[k];decide)] at q;exact q
 ·exact e0.hok.fresh (Nat.le_of_lt (x.above y c (cm h)))
 ·unfold start;show _=N.length;rw[cz,aj,bc];omega
theorem F7 {CX:rV}{P:Program}{w:World}{K:PySem.W.Frag}{mg:Str→Option Value}{base:Heap}{k:Nat}{f:Addr}{name qual:Str}{params:Arguments}{body:List Stmt}{scope:Scope}{dV kV doc pm cdv ct oc:Value}{an od:Option Addr}
  {osl:Array (Option Value)}{N ps:List Str}{sp:Sp}(lk:K.lookup f=some ⟨oc,od,.func (PySem.W.fnOf name qual params body scope dV kV doc pm an cdv ct),osl⟩) (hcd:PySem.W.codeIn K cdv qual=true) (S:eF N ps scope)
  (len:∀ vs H Q E,sp vs H Q E→vs.length=ps.length)
  (hbody:∀(A:Around) (outer:List Env) (s:Shared) (H:Hp) (vs:List V) (Q:VK) (E:XK),fR k (A.deeper (envOfC qual scope s.heap.objs.size f cdv))→sp vs H Q E →
   ∃ t,jJ (gF CX P w K mg base N qual scope f cdv A outer s H E) body t∧t { nx:=fun _ H'=>Q .non H',rt:=Q } (start N vs) H) :
  kT P w K mg base CX (k+1) f (PySem.W.fnOf name qual params body scope dV kV doc pm an cdv ct) ps sp:=by
 refine⟨len,fun A outer s H args us vs Q E hr e0 hb r hsp=>?_⟩;have hl:=len _ _ _ _ hsp;have KX:K.In s.heap:=e0.mod.kin.keeps fun b o e=>(e0.bs b o e).1
 have lim:s.heap.NoLimit:=e0.mod.nolimit.keeps fun b o e=>(e0.bs b o e).1
 have hkind:∀ y∈ps.zip us,scope.names.lookup y.1=some .local∨(scope.names.lookup y.1=some .cell∧((cellsFrom (s.heap.objs.size+1) scope.names []).lookup y.1).isSome=true):=fun ⟨n,v⟩ hy=>by
  rcases S.par n (fw hy).1 with q | q
  ·exact .inl q
  ·exact .inr ⟨q,il _ _ _ (.inl q)⟩
 refine codeAny_call_function hr.depth (KX _ _ lk) rfl S.co S.gen rfl (PySem.W.codeRec_of KX hcd) (hb _ _ _ _ ?_);refine wpAny_newFunctionEnv_cells S.kind hkind fun env he s1 x=>?_
 subst he;refine⟨lim.keeps x.toInCall.keep,codeAny_func ?_⟩;obtain⟨t,ht,hq⟩:=hbody A outer s H vs Q E (hr.deeper _) hsp;have I:Inv (gF CX P w K mg base N qual scope f cdv A outer s H E) [] (start N vs) H s1:=nX S hr.hd e0 hl r x;refine wpAny_mono (ht [] s1 (start N vs) H _ I hq) (fun fl s' hs=>?_) fun e s' hs=>hs
 have fin:∀{σ':St}{H':Hp}{v:V}{u:Value},Inv (gF CX P w K mg base N qual scope f cdv A outer s H E) [] σ' H' s'→RelV v u→Q v H'→CE outer P w H s Q u s' :=
  fun {σ' H' v u} J rv q=>⟨v,H',J.os,J.bare,J.base,J.hok,rv,q⟩
 cases fl with
 |ret u =>
  obtain⟨v,σ',H',J,rv,q⟩:=hs;exact fin J rv q
 |next =>
  obtain⟨σ',H',J,q⟩:=hs;exact fin (v:=V.non) (u:=Value.none) J rfl q
 |brk =>
  obtain⟨_,_,_,q⟩:=hs;exact False.elim q
 |cont =>
  obtain⟨_,_,_,q⟩:=hs;exact False.elim q
end L2
namespace L2
open PySem PySem.Spec PyProof.Rows
section
variable {X:Cx}{x:Str}{p pos:Pos}{e:Expr}{es:List Expr}{t:TA}{id T:String}{r:List V→Hp→VK→Prop}
noncomputable def tCB (r:List V→Hp→VK→Prop) (t:TA):TE:=fun σ H Q=>t σ H fun vs H1=>r vs H1 Q
theorem qj (hc:gQ X (.builtin id) r) (hg:Gl X x) (hm:X.mg x=none) (hv:bootBuiltins x=some (.builtin id)) (ha:PA X (e::es) t) (hn:x≠"__name__":=by decide) (hdb:(x==("__debug__" : Str))=false:=by decide)
  (he:starEach (e::es) X.env=(false,eval e X.env)::starEach es X.env:=by rfl) (hpl:(backTo pos (starEach es X.env)).any (·.1)=false:=by rfl):PE X (.Call (.Name x p) (e::es) [] pos) (tCB r t):=by
 intro pins s σ H Q I h;refine wpAny_Call_Name_kw (iX I hg hm hv ?_ hn hdb);exact PyProof.Rows.callWith_builtin1 (dB (ha pos pins s σ H _ I h) fun us s1 ⟨vs,H1,I1,r1,q1⟩=>hc pins s1 σ H1 vs us Q I1 r1 q1) he hpl
theorem wd (hc:gQ X (.type T) r) (hg:Gl X x) (hm:X.mg x=none) (hv:bootBuiltins x=some (.type T)) (ha:PA X (e::es) t) (hn:x≠"__name__":=by decide) (hdb:(x==("__debug__" : Str))=false:=by decide)
  (he:starEach (e::es) X.env=(false,eval e X.env)::starEach es X.env:=by rfl) (hpl:(backTo pos (starEach es X.env)).any (·.1)=false:=by rfl):PE X (.Call (.Name x p) (e::es) [] pos) (tCB r t):=by
 intro pins s σ H Q I h;refine wpAny_Call_Name_kw (iX I hg hm hv ?_ hn hdb);exact dr (dB (ha pos pins s σ H _ I h) fun us s1 ⟨vs,H1,I1,r1,q1⟩=>hc pins s1 σ H1 vs us Q I1 r1 q1) he hpl
end
end L2
namespace HT
open PySem PyProof.Rows
section
open PySem.SeqAt
open PySem.AutoSeq1 (wpAny_loadPart')
open PySem.MeetsSeq PySem.MeetsSeq2 PySem.MeetsSeq3
end
section
variable {prog:Program}{w:World}{A:Around}{E:Value→Shared→Prop}{s:Shared}
noncomputable def cF (n d:Nat):Option Int→Nat
 |none=>d
 |some v=>if v<0 then (v+(n:Int)).toNat else min v.toNat n
theorem pW (n d:Nat) (hd:d≤n) (o:Option Int):cF n d o≤n:=by
 cases o with
 |none=>exact hd
 |some v =>
  show (if v<0 then (v+(n:Int)).toNat else min v.toNat n)≤n;by_cases hv:v<0
  ·rw[if_pos hv];omega
  ·rw[if_neg hv];exact ik _ _
theorem uR (v:Int) (n d:Nat):(if v<0 then max (v+(n:Int)) 0 else min v (n:Int))=((cF n d (some v):Nat):Int):=by
 show (if v<0 then max (v+(n:Int)) 0 else min v (n:Int))=(((if v<0 then (v+(n:Int)).toNat else min v.toNat n):Nat):Int);by_cases hv:v<0
 ·simp only[if_pos hv];omega
 ·simp only[if_neg hv];omega
theorem tM (lo hi:Option Int) (n:Nat):Builtin.Slice.sliceAdjust lo hi 1 (n:Int)=(((cF n 0 lo:Nat):Int),((cF n n hi:Nat):Int)):=by
 have h1:¬ ((1:Int)<0):=by omega
 unfold Builtin.Slice.sliceAdjust;simp only[h1,if_false];refine Prod.ext ?_ ?_
 ·cases lo with
  |none=>rfl
  |some v=>exact uR v n 0
 ·cases hi with
  |none=>rfl
  |some v=>exact uR v n n
theorem tB (i j:Nat):Builtin.Slice.slicePlaces (i:Int) (j:Int) 1=j - i:=by
 unfold Builtin.Slice.slicePlaces;have h1:(1:Int) > 0:=by omega
 simp only[h1,if_true,Int.ediv_one];split<;>omega
theorem mY {v:Value}{o:Option Int}{Q:Option Int→Shared→Prop}(p:IsPart v o) (h:Q o s):wpAny (model prog w) A (Builtin.Slice.slicePartIndex v) Q E s:=by
 cases p with
 |none=>exact slicePart_none h
 |int i t=>exact slicePart_int h
theorem kJ {sl:Addr}{vl vu:Value}{lo hi:Option Int}{n:Nat}{Q:Int×Int×Nat→Shared→Prop}(hs:s.heap.IsSliceOf sl vl vu .none) (pl:IsPart vl lo) (pu:IsPart vu hi)
  (h:Q (((cF n 0 lo:Nat):Int),1,cF n n hi - cF n 0 lo) s):wpAny (model prog w) A (Builtin.Slice.sliceApplied (.ref sl) (pure (n:Int))) Q E s:=by
 obtain⟨os,hos,hcs,hds⟩:=id hs;unfold Builtin.Slice.sliceApplied Builtin.Slice.sliceFields;refine wpAny_bind (wpAny_bind (wpAny_field hos hds (x:=vl) rfl (wpAny_bind (wpAny_field hos hds (x:=vu) rfl (wpAny_bind (wpAny_field hos hds (x:=.none) rfl (wpAny_pure ?_)))))));refine wpAny_bind (slicePart_none ?_);show wpAny _ _ (if ((1:Int)==0)=true then _ else _) _ _ s;rw[if_neg (by decide)];refine wpAny_bind (mY pl (wpAny_bind (mY pu (wpAny_bind (wpAny_pure ?_)))));show wpAny _ _ (match Builtin.Slice.sliceAdjust lo hi 1 (n:Int) with | (lo,hi)=>pure (lo,(1:Int),Builtin.Slice.slicePlaces lo hi 1)) _ _ s;rw[tM lo hi n];show wpAny _ _ (pure (((cF n 0 lo:Nat):Int),(1:Int),Builtin.Slice.slicePlaces ((cF n 0 lo:Nat):Int) ((cF n n hi:Nat):Int) 1)) _ _ s;rw[tB];exact wpAny_pure h
theorem yN (xs:Array Value) (i k:Nat):((List.range k).filterMap fun (m:Nat)=>xs[((i:Int)+(m:Int)*1).toNat]?).toArray=((xs.toList.drop i).take k).toArray:=by
 have e:(fun (m:Nat)=>xs[((i:Int)+(m:Int)*1).toNat]?)=fun m=>xs[i+m]?:=by
  funext m;have:((i:Int)+(m:Int)*1).toNat=i+m:=by omega
  rw[this]
 rw[e];have:=pick_run xs i k;rw[List.filterMap_map] at this;have e2:((fun x=>xs[x]?)∘fun x=>i+x)=fun m=>xs[i+m]?:=rfl
 rw[e2] at this;rw[this]
theorem ke {t sl:Addr}{items:Array Value}{vl vu:Value}{lo hi:Option Int}{Q:Value→Shared→Prop}(ht:IsTup s.heap t items) (hs:s.heap.IsSliceOf sl vl vu .none) (pl:IsPart vl lo) (pu:IsPart vu hi)
  (hw:¬ (cF items.size 0 lo=0∧cF items.size items.size hi=items.size))
  (h:Q (.ref s.heap.objs.size) { s with heap:=s.heap.push { cls:=.type "tuple",data:=.seq ((items.toList.drop (cF items.size 0 lo)).take (cF items.size items.size hi - cF items.size 0 lo)).toArray } })
  (hsz:items.size≤sizeLine):wpAny (model prog w) A (getItem (.ref t) (.ref sl)) Q E s:=by
 have htake:sizeOk (.seq ((items.toList.drop (cF items.size 0 lo)).take (cF items.size items.size hi - cF items.size 0 lo)).toArray):=by
  show ((items.toList.drop (cF items.size 0 lo)).take (cF items.size items.size hi - cF items.size 0 lo)).toArray.size≤sizeLine;rw[ak,eg,fq,Array.length_toList];omega
 have hj:cF items.size items.size hi≤items.size:=pW _ _ (au _) hi;obtain⟨os,hos,hcs,hds⟩:=id hs;have hTs:s.TypeIs (.ref sl) "slice":=⟨os,hos,hcs⟩;unfold getItem
 try with_reducible refine wpAny_holding ?_
 first | refine wpAny_bind (wpAny_pure ?_) | skip
 refine wpAny_bind (wpAny_sequenceKey ht.typeIs (by decide) ?_);refine wpAny_bind (wpAny_callSpecial?_slot (name:=Str.ofString "__getitem__") ht.typeIs PyProof.Rows.slot_tuple_getitem
  (wpAny_call_entry PyProof.Rows.slot_tuple_getitem ht.typeIs entry_tuple_getitem ?_ (args_tuple_getitem _ _)))
 show wpAny _ _ (Builtin.Tuple.tupleItemsOf (.ref t) >>= _) _ _ s;refine wpAny_bind (tupleItemsOf_ ht ?_);refine wpAny_bind (wpAny_typeOf hTs ?_);rw[if_pos (by decide)];refine wpAny_bind (kJ hs pl pu ?_);have hno:¬ ((((cF items.size 0 lo:Nat):Int)==0&&(1:Int)==1&&(cF items.size items.size hi - cF items.size 0 lo)==items.size)=true):=by
  intro q;rw[ai,ai] at q;have q1:((cF items.size 0 lo:Nat):Int)=0:=eq_of_beq q.1.1;have q2:cF items.size items.size hi - cF items.size 0 lo=items.size:=eq_of_beq q.2;exact hw ⟨by omega,by omega⟩
 show wpAny _ _ (if (((cF items.size 0 lo:Nat):Int)==0&&(1:Int)==1&&(cF items.size items.size hi - cF items.size 0 lo)==items.size)=true then _ else _) _ _ s;rw[if_neg hno,yN]
 first
  | exact wpAny_bind (m:=Builtin.Tuple.tupleExact _) (wpAny_newObj_type (wpAny_pure ⟨_,rfl,wpAny_pure h⟩) htake)
  | exact wpAny_bind (m:=Builtin.Tuple.tupleExact _) (wpAny_newObj_type (wpAny_bind (wpAny_pure (wpAny_pure ⟨_,rfl,wpAny_pure h⟩))) htake)
  | exact wpAny_bind (wpAny_bind (m:=Builtin.Tuple.tupleExact _) (wpAny_newObj_type (wpAny_pure (wpAny_pure ⟨_,rfl,wpAny_pure h⟩)) htake))
  | exact wpAny_bind (wpAny_bind (m:=Builtin.Tuple.tupleExact _) (wpAny_newObj_type (wpAny_pure ⟨_,rfl,wpAny_pure h⟩) htake))
end
end HT
namespace L2
open PySem PySem.Spec PyProof.Rows
noncomputable abbrev TO:=St→Hp→(Option Int→Hp→Prop)→Prop
noncomputable def PO (X:Cx) (e:Option Expr) (t:TO):Prop :=
 ∀(pins:List (Addr×Obj)) (s:Shared) (σ:St) (H:Hp) (Q:Option Int→Hp→Prop),Inv X pins σ H s→t σ H Q →
  wpAny (model X.prog X.w) X.A (evalPart e X.env) (fun u s'=>∃ o H',Inv X pins σ H' s'∧IsPart u o∧Q o H') X.xe s
noncomputable def Bg:TO:=fun _ H Q=>Q none H
noncomputable def Fi (t:TE):TO:=fun σ H Q=>t σ H fun x H1=>∃ i,x = .int i∧Q (some i) H1
section
variable {X:Cx}{e:Expr}{te:TE}{lo hi:Option Expr}{tl th:TO}{pos p2:Pos}
theorem Ax:PO X none Bg:=by
 intro pins s σ H Q I h;rw[evalPart_none];exact wpAny_pure ⟨none,H,I,.none,h⟩
theorem Af (h:PE X e te):PO X (some e) (Fi te):=by
 intro pins s σ H Q I hw;rw[evalPart_some];refine dB (h pins s σ H _ I hw) fun u s1 ⟨x,H1,I1,r1,q1⟩=>?_
 obtain⟨i,rfl,q⟩:=q1;obtain⟨t,rfl⟩:=r1;exact⟨some i,H1,I1,.int i t,q⟩
noncomputable def Ck (X:Cx) (r:V→Option Int→Option Int→Hp→VK→Prop):Prop :=
 ∀(pins:List (Addr×Obj)) (s:Shared) (σ:St) (H:Hp) (x:V) (v vl vu:Value) (lo hi:Option Int) (sl:Addr) (Q:VK),Inv X pins σ H s→RelV x v→s.heap.IsSliceOf sl vl vu .none→IsPart vl lo→IsPart vu hi→r x lo hi H Q →
  ∃ T id,typeLookup (.type T) "__getitem__" = pure (some (.builtin id))∧s.TypeIs v T∧wpAny (model X.prog X.w) X.A (getItem v (.ref sl)) (EP X pins σ Q) X.xe s
theorem Ck.or {r r':V→Option Int→Option Int→Hp→VK→Prop}(h:Ck X r) (h':Ck X r'):Ck X (fun x lo hi H Q=>r x lo hi H Q∨r' x lo hi H Q):=by
 intro pins s σ H x v vl vu lo hi sl Q I rx hs pl pu q;rcases q with q | q
 ·exact h pins s σ H x v vl vu lo hi sl Q I rx hs pl pu q
 ·exact h' pins s σ H x v vl vu lo hi sl Q I rx hs pl pu q
noncomputable def tSl (r:V→Option Int→Option Int→Hp→VK→Prop) (te:TE) (tl th:TO):TE:=fun σ H Q=>te σ H fun x H1=>tl σ H1 fun l H2=>th σ H2 fun u H3=>r x l u H3 Q
theorem xw {r:V→Option Int→Option Int→Hp→VK→Prop}(hr:Ck X r) (he:PE X e te) (hl:PO X lo tl) (hu:PO X hi th):PE X (.Subscript e (.Slice lo hi none p2) pos) (tSl r te tl th):=by
 intro pins s σ H Q I h;refine Subscript_ (dB (he pins s σ H _ I h) fun v s1 ⟨x,H1,I1,r1,q1⟩=>?_);refine wpAny_Slice (dB (hl pins s1 σ H1 _ I1 q1) fun vl s2 ⟨l,H2,I2,pl,q2⟩=>dB (hu pins s2 σ H2 _ I2 q2) fun vu s3 ⟨u,H3,I3,pu,q3⟩=>?_);rw[evalPart_none];refine wpAny_pure ?_;have I4:Inv X pins σ H3 { s3 with heap:=s3.heap.push { cls:=.type "slice",data:=.fields #[vl,vu,.none] } }:=I3.kept (t':=s3.toks) fun b ob q=>Heap.get?_push_of_some _ q
 obtain⟨T,id,hT,ht,hg⟩:=hr pins { s3 with heap:=s3.heap.push { cls:=.type "slice",data:=.fields #[vl,vu,.none] } } σ H3 x v vl vu l u s3.heap.objs.size Q I4 r1 (Heap.IsSliceOf.new ..) pl pu q3;show wpAny (model X.prog X.w) X.A (subscriptTail e (.Slice lo hi none p2) v (.ref s3.heap.objs.size)) (EP X pins σ Q) X.xe { s3 with heap:=s3.heap.push { cls:=.type "slice",data:=.fields #[vl,vu,.none] } };exact tail_any (ops:=[.ref s3.heap.objs.size,v]) ht hT hg (by with_unfolding_all rfl)
noncomputable def qF (xs:List V) (lo hi:Option Int):List V:=(xs.drop (HT.cF xs.length 0 lo)).take (HT.cF xs.length xs.length hi - HT.cF xs.length 0 lo)
theorem lh (xs:List V) (lo hi:Option Int):(qF xs lo hi).length≤xs.length:=by
 unfold qF;rw[eg,fq];omega
noncomputable def rSlT (K:PySem.W.Frag):V→Option Int→Option Int→Hp→VK→Prop:=fun x lo hi H Q=>∃ a xs,x = .ref a∧nK K H a xs ∧
 ¬ (HT.cF xs.length 0 lo=0∧HT.cF xs.length xs.length hi=xs.length)∧∀ p,H p=none→Q (.ref p) (upd H p (.tup (qF xs lo hi)))
theorem Ei:Ck X (rSlT X.K):=by
 intro pins s σ H x v vl vu lo hi sl Q I rx hs pl pu h;obtain⟨a,xs,rfl,hx,hw,q⟩:=h;cases rx;obtain⟨its,r,ht,hz⟩:=I.tuple hx;have hlen:its.toArray.size=xs.length:=by rw[ak];exact r.length.symm
 refine⟨"tuple",_,PyProof.Rows.slot_tuple_getitem.lookup,ht.typeIs,?_⟩;refine HT.ke ht hs pl pu (by rw[hlen];exact hw) ?_ (by rw[hlen];exact hz);rw[hlen];refine⟨.ref s.heap.objs.size,_,I.laid (t':=s.toks) (o:=.tup (qF xs lo hi)) (fun b ob q=>Heap.get?_push_of_some _ q) (au _) ?_,rfl,q _ (I.hok.fresh (au _))⟩;exact⟨bu (lh xs lo hi) hz,_,(r.drop (HT.cF xs.length 0 lo)).take (HT.cF xs.length xs.length hi - HT.cF xs.length 0 lo),IsTup.new _ _⟩
end
end L2
namespace L2
open PySem PySem.Spec PyProof.Rows
noncomputable def jy (n:Nat) (i:Int):Option Nat:=if 0≤i then (if i<n then some i.toNat else none) else if -(n:Int)≤i then some (i+n).toNat else none
noncomputable def Cr {α:Type}(xs:List α) (i:Int):Option α:=(jy xs.length i).bind fun j=>xs[j]?
theorem uZ {n:Nat}{i:Int}{j:Nat}(h:jy n i=some j):seqIndex? i n=some j∧j<n∧-(n:Int)≤i∧i<n:=by
 unfold jy at h;by_cases h0:0≤i
 ·rw[if_pos h0] at h;by_cases h1:i<n
  ·rw[if_pos h1] at h;have e:i.toNat=j:=df h;exact⟨by rw[seqIndex_of h0 h1,e],by omega,by omega,h1⟩
  ·rw[if_neg h1] at h;cases h
 ·rw[if_neg h0] at h;by_cases h1 : -(n:Int)≤i
  ·rw[if_pos h1] at h;have e:(i+n).toNat=j:=df h;exact⟨by rw[seqIndex_neg (by omega) h1,e],by omega,h1,by omega⟩
  ·rw[if_neg h1] at h;cases h
theorem ua {α:Type}{xs:List α}{i:Int}{v:α}(h:Cr xs i=some v):∃ j,seqIndex? i xs.length=some j∧xs[j]? = some v∧j<xs.length∧-(xs.length:Int)≤i∧i<xs.length:=by
 unfold Cr at h;cases e:jy xs.length i with
 |none=>rw[e] at h;cases h
 |some j =>
  rw[e] at h;obtain⟨h1,h2,h3,h4⟩:=uZ e;exact⟨j,h1,h,h2,h3,h4⟩
noncomputable def lN (b:Expr):Prop:=∀ o i,subscripted b false o i=operate [o,i] (getItem o i)
noncomputable def zY (X:Cx) (r:R2):Prop :=
 ∀(value slice:Expr) (pins:List (Addr×Obj)) (s:Shared) (σ:St) (H:Hp) (x y:V) (v u:Value) (Q:VK),Inv X pins σ H s→RelV x v→RelV y u→r x y H Q →
  subscripted slice false v u=operate [v,u] (getItem v u)→wpAny (model X.prog X.w) X.A (subscriptTail value slice v u) (EP X pins σ Q) X.xe s
noncomputable def MtR (X:Cx) (id:String) (r:V→List V→Hp→VK→Prop):Prop :=
 ∀(pins:List (Addr×Obj)) (s:Shared) (σ:St) (H:Hp) (x:V) (xs:List V) (v:Value) (us:List Value) (Q:VK),Inv X pins σ H s→RelV x v→aQ xs us→r x xs H Q →
  wpAny (model X.prog X.w) X.A (call (.builtin id) (v::us)) (EP X pins σ Q) X.xe s
section
variable {X:Cx}{a b:Expr}{ta tb:TE}{pos:Pos}
theorem zY.or {r r':R2}(h:zY X r) (h':zY X r'):zY X (fun x y H Q=>r x y H Q∨r' x y H Q):=by
 intro value slice pins s σ H x y v u Q I rx ry q hs;rcases q with q | q
 ·exact h value slice pins s σ H x y v u Q I rx ry q hs
 ·exact h' value slice pins s σ H x y v u Q I rx ry q hs
theorem Cn {r:R2}(hr:zY X r) (ha:PE X a ta) (hb:PE X b tb) (hs:lN b):PE X (.Subscript a b pos) (FG r ta tb):=by
 intro pins s σ H Q I h;exact Subscript_ (CI ha hb I h fun v u s2 x y H2 I2 rx ry q=>hr a b pins s2 σ H2 x y v u Q I2 rx ry q (hs _ _))
noncomputable def rIxL (K:PySem.W.Frag):R2:=fun x y H Q=>∃ p xs i v,x = .ref p∧y = .int i∧ky K H p xs∧Cr xs i=some v∧Q v H
noncomputable def rIxT (K:PySem.W.Frag):R2:=fun x y H Q=>∃ p xs i v,x = .ref p∧y = .int i∧nK K H p xs∧Cr xs i=some v∧Q v H
theorem vg:zY X (rIxL X.K):=by
 intro value slice pins s σ H x y v u Q I rx ry h hs;obtain⟨p,xs,i,z,rfl,rfl,hq,he,q⟩:=h;cases rx;obtain⟨t,rfl⟩:=ry;obtain⟨its,r,pl,hz⟩:=I.list hq;obtain⟨j,h1,h2,h3,h4,h5⟩:=ua he;obtain⟨w,ew,eV⟩:=r.get h2;have hl:=r.length;have hn:=mP;have fin:EP X pins σ Q w s:=⟨z,H,I,eV,q⟩;by_cases h0:0≤i
 ·have hj:i.toNat=j:=by
   rw[seqIndex_of h0 h5] at h1;exact df h1
  exact item_listR pl.isList h0 (by omega) (by rw[hj];simpa using ew) fin hs
 ·have hj:(i+(its.toArray.size:Int)).toNat=j:=by
   rw[seqIndex_neg (by omega) h4] at h1;rw[ak,←hl];exact df h1
  exact subscriptTail_builtinR (x:=w) pl.isList.typeIs slot_list_getitem.lookup
   (wpAny_getItem_list_neg (Q:=fun r s'=>r=w∧EP X pins σ Q r s') pl.isList (by omega) (by rw[List.size_toArray]<;>omega) (by omega) (by rw[hj];simpa using ew) ⟨rfl,fin⟩) hs
theorem yZ:zY X (rIxT X.K):=by
 intro value slice pins s σ H x y v u Q I rx ry h hs;obtain⟨p,xs,i,z,rfl,rfl,hq,he,q⟩:=h;cases rx;obtain⟨t,rfl⟩:=ry;obtain⟨its,r,pl,hz⟩:=I.tuple hq;obtain⟨j,h1,h2,h3,h4,h5⟩:=ua he;obtain⟨w,ew,eV⟩:=r.get h2;have hl:=r.length;have hn:=mP;have fin:EP X pins σ Q w s:=⟨z,H,I,eV,q⟩;exact subscriptTail_builtinR (x:=w) pl.typeIs slot_tuple_getitem.lookup
  (getItem_tuple (j:=j) (Q:=fun r s'=>r=w∧EP X pins σ Q r s') pl (by omega) (by omega) (by rw[List.size_toArray,←hl];exact h1) (by simpa using ew) ⟨rfl,fin⟩) hs
theorem sg (its:List Value) (n j:Nat) (u:Value):Obj.mapSeq (·.setIfInBounds j u) { cls:=.type "list",data:=.seq its.toArray n }={ cls:=.type "list",data:=.seq (its.set j u).toArray n }:=by
 simp[Obj.mapSeq]
theorem Inv.lst {pins:List (Addr×Obj)}{σ:St}{H:Hp}{s:Shared}{p:Addr}{xs:List V}(I:Inv X pins σ H s) (h:H p=some (.lst xs)) :
  ∃(its:List Value) (n:Nat),aQ xs its∧s.heap.get? p=some { cls:=.type "list",data:=.seq its.toArray n }∧xs.length≤sizeLine:=by
 obtain⟨z,its,n,r,e⟩:=I.hok p _ h;exact⟨its,n,r,e,z⟩
theorem Inv.lstUpd {pins:List (Addr×Obj)}{σ:St}{H:Hp}{s:Shared}{p:Addr}{xs ys:List V}{its its':List Value}{n n':Nat}{f:Obj→Obj}(I:Inv X pins σ H s) (h:H p=some (.lst xs))
  (ho:s.heap.get? p=some { cls:=.type "list",data:=.seq its.toArray n }) (hf:f { cls:=.type "list",data:=.seq its.toArray n }={ cls:=.type "list",data:=.seq its'.toArray n' }) (r:aQ ys its') (hz:ys.length≤sizeLine) (t:Nat) :
  Inv X pins σ (upd H p (.lst ys)) { s with heap:=s.heap.update p f,toks:=t }:=by
 have e:(s.heap.update p f).get? p=some { cls:=.type "list",data:=.seq its'.toArray n' }:=by
  rw[Heap.get?_update_self f ho (by rw[hf]<;>rfl),hf]
 refine I.write (x:=p) (e:=p) (by rw[h];trivial) (.inl rfl) (fun b u hb q=>(Heap.get?_update_other _ _ (cj hb)).trans q) ⟨_,e⟩ ?_;exact⟨hz,its',n',r,e⟩
noncomputable def B4:V→V→V→Hp→(Hp→Prop)→Prop:=fun o i v H Q=>∃ p xs k j,o = .ref p∧i = .int k∧H p=some (.lst xs)∧jy xs.length k=some j∧Q (upd H p (.lst (xs.set j v)))
theorem set_list:FZ X B4:=by
 intro pins s σ H o i v ov iv u Q I ro ri rv h;obtain⟨p,xs,k,j,rfl,rfl,hp,hj,q⟩:=h;cases ro;obtain⟨t,rfl⟩:=ri;obtain⟨its,n,r,ho,hz⟩:=I.lst hp;obtain⟨h1,h2,h3,h4⟩:=uZ hj;have hl:=r.length;have hn:=mP;have I':Inv X pins σ (upd H p (.lst (xs.set j v))) { s with heap:=s.heap.update p (Obj.mapSeq (·.setIfInBounds j u)) } :=
  I.lstUpd hp ho (sg its n j u) (r.set rv j) (by rw[aq];exact hz) s.toks
 by_cases h0:0≤k
 ·have hk:k.toNat=j:=by
   rw[seqIndex_of h0 h4] at h1;exact df h1
  exact PySem.W.ki_setAt ho h0 (by omega) (by rw[ak,←hl];exact h4) (by rw[hk];exact⟨_,I',q⟩)
 ·have hk:(k+(its.toArray.size:Int)).toNat=j:=by
   rw[seqIndex_neg (by omega) h3] at h1;rw[ak,←hl];exact df h1
  exact PySem.W.ki_setBack ho (by omega) (by rw[ak,←hl];exact h3) (by omega) (by rw[hk];exact⟨_,I',q⟩)
theorem qh (lo hi:Option Int) (n:Nat):(sliceBounds lo hi none n).1=((HT.cF n 0 lo:Nat):Int)∧(sliceBounds lo hi none n).2.1=((HT.cF n n hi:Nat):Int)∧(sliceBounds lo hi none n).2.2=1:=by
 refine⟨?_,?_,rfl⟩
 ·cases lo with
  |none=>simp[sliceBounds,HT.cF]
  |some i =>
   simp only[sliceBounds,HT.cF,Option.getD_none,show (1:Int) > 0 by decide,if_true];by_cases h:i<0
   ·simp only[h,if_true]<;>omega
   ·simp only[h,if_false]<;>omega
 ·cases hi with
  |none=>simp[sliceBounds,HT.cF]
  |some i =>
   simp only[sliceBounds,HT.cF,Option.getD_none,show (1:Int) > 0 by decide,if_true];by_cases h:i<0
   ·simp only[h,if_true]<;>omega
   ·simp only[h,if_false]<;>omega
theorem nM (its:List Value) (lo hi:Option Int):slicePick its.toArray lo hi none=((its.drop (HT.cF its.length 0 lo)).take (HT.cF its.length its.length hi - HT.cF its.length 0 lo)).toArray:=by
 obtain⟨h1,h2,h3⟩:=qh lo hi its.toArray.size;unfold slicePick;rw[h1,h2,h3];simp only[sliceRange_one,pick_run,List.size_toArray]<;>rfl
noncomputable def rSlL (K:PySem.W.Frag):V→Option Int→Option Int→Hp→VK→Prop:=fun x lo hi H Q=>∃ a xs,x = .ref a∧ky K H a xs∧∀ p,H p=none→Q (.ref p) (upd H p (.lst (qF xs lo hi)))
theorem Br:Ck X (rSlL X.K):=by
 intro pins s σ H x v vl vu lo hi sl Q I rx hs pl pu h;obtain⟨a,xs,rfl,hx,q⟩:=h;cases rx;obtain⟨its,r,ht,hz⟩:=I.list hx;have hlen:=r.length;refine⟨"list",_,slot_list_getitem.lookup,ht.isList.typeIs,?_⟩;refine wpAny_getItem_list_slice ht.isList hs pl pu .none (by simp) ?_ (by rw[List.size_toArray]<;>omega);rw[nM,←hlen];refine⟨.ref s.heap.objs.size,_,I.laid (t':=s.toks) (o:=.lst (qF xs lo hi)) (fun b ob q=>Heap.get?_push_of_some _ q) (au _) ?_,rfl,q _ (I.hok.fresh (au _))⟩;exact⟨bu (lh xs lo hi) hz,_,0,(r.drop (HT.cF xs.length 0 lo)).take (HT.cF xs.length xs.length hi - HT.cF xs.length 0 lo),Heap.get?_push_size _ rfl⟩
noncomputable def i7:V→Bool
 |.non=>true
 |.bl _=>true
 |.int _=>true
 |.str _=>true
 |_=>false
noncomputable def zX:V→V→Bool
 |.non,.non=>true
 |.bl a,.bl b=>a==b
 |.bl a,.int b=>(if a then 1 else 0)==b
 |.int a,.bl b=>a==(if b then 1 else 0)
 |.int a,.int b=>a==b
 |.str a,.str b=>a==b
 |_,_=>false
theorem CY {A:Around}{s:Shared}{y x:V}{u v:Value}(ry:RelV y u) (rx:RelV x v) (fy:i7 y=true) (fx:i7 x=true):SeqAt.EqAt A s u v (zX y x):=by
 cases y with
 |non =>
  cases ry;cases x with
  |non=>cases rx;exact SeqAt.EqAt.same _
  |bl b=>cases rx;exact SeqAt.EqAt.none_bool b
  |int b=>obtain⟨t,rfl⟩:=rx;exact SeqAt.EqAt.none_int b t
  |str b=>obtain⟨t,rfl⟩:=rx;exact SeqAt.EqAt.none_str b t
  |_=>exact absurd (show false=true from fx) ba
 |bl a =>
  cases ry;cases x with
  |non=>cases rx;exact SeqAt.EqAt.bool_none a
  |bl b=>cases rx;exact SeqAt.EqAt.bool_bool a b
  |int b=>obtain⟨t,rfl⟩:=rx;exact SeqAt.EqAt.bool_int a b t
  |str b=>obtain⟨t,rfl⟩:=rx;exact SeqAt.EqAt.bool_str a b t
  |_=>exact absurd (show false=true from fx) ba
 |int a =>
  obtain⟨t',rfl⟩:=ry;cases x with
  |non=>cases rx;exact SeqAt.EqAt.int_none a t'
  |bl b=>cases rx;exact SeqAt.EqAt.int_bool a t' b
  |int b=>obtain⟨t,rfl⟩:=rx;exact SeqAt.EqAt.int_int a t' b t
  |str b=>obtain⟨t,rfl⟩:=rx;exact SeqAt.EqAt.int_str a t' b t
  |_=>exact absurd (show false=true from fx) ba
 |str a =>
  obtain⟨t',rfl⟩:=ry;cases x with
  |non=>cases rx;exact SeqAt.EqAt.str_none a t'
  |bl b=>cases rx;exact SeqAt.EqAt.str_bool a t' b
  |int b=>obtain⟨t,rfl⟩:=rx;exact SeqAt.EqAt.str_int a t' b t
  |str b=>obtain⟨t,rfl⟩:=rx;exact SeqAt.EqAt.str_str a t' b t
  |_=>exact absurd (show false=true from fx) ba
 |_=>exact absurd (show false=true from fy) ba
noncomputable def tT (x:V) (u:Value):Bool:=match u with
 |.none=>zX .non x
 |.bool b=>zX (.bl b) x
 |.int i _=>zX (.int i) x
 |.str z _=>zX (.str z) x
 |_=>false
theorem xJ {x y:V}{u:Value}(r:RelV y u) (f:i7 y=true):tT x u=zX y x:=by
 cases y with
 |non=>cases r;rfl
 |bl b=>cases r;rfl
 |int i=>obtain⟨t,rfl⟩:=r;rfl
 |str z=>obtain⟨t,rfl⟩:=r;rfl
 |_=>exact absurd (show false=true from f) ba
theorem jQ {x:V}:∀{xs:List V}{us:List Value},aQ xs us→xs.all i7=true→us.any (tT x)=xs.any fun y=>zX y x
 |_,_,.nil,_=>rfl
 | y::xs,u::us,.cons r t,f=>by
  rw[dh,ai] at f;rw[ie,ie,xJ r f.1,jQ t f.2]
theorem jc {A:Around}{s:Shared}{x:V}{v:Value}(rx:RelV x v) (fx:i7 x=true):∀{xs:List V}{us:List Value},aQ xs us→xs.all i7=true→∀ u∈us,SeqAt.EqAt A s u v (tT x u)
 |_,_,.nil,_=>fun u hu=>by cases hu
 | y::xs,u::us,.cons r t,f=>fun u' hu=>by
  rw[dh,ai] at f;rcases et.mp hu with rfl | hu
  ·rw[xJ r f.1];exact CY r rx f.1 fx
  ·exact jc rx fx t f.2 u' hu
noncomputable def inV (x:V) (xs:List V):Bool:=xs.any fun y=>zX y x
noncomputable def rIn (K:PySem.W.Frag) (neg:Bool):R2:=fun x y H Q=>∃ p xs,y = .ref p∧(ky K H p xs∨nK K H p xs)∧i7 x=true∧xs.all i7=true∧Q (.bl (if neg then !inV x xs else inV x xs)) H
theorem vE:jw X (compareOp .In) (rIn X.K false):=by
 intro pins s σ H x y v u Q I rx ry h;obtain⟨p,xs,rfl,hq,fx,fs,q⟩:=h;cases ry;rcases hq with hq | hq
 ·obtain⟨its,r,pl,hz⟩:=I.list hq;refine SeqAt.in_listAt (tT x) pl.isList (fun w hw=>jc rx fx r fs w (by simpa using hw)) ⟨.bl _,H,I,rfl,?_⟩;rw[show its.toArray.any (tT x)=its.any (tT x) by simp,jQ r fs];exact q
 ·obtain⟨its,r,pl,hz⟩:=I.tuple hq;refine SeqAt.in_tupleAt (tT x) pl (fun w hw=>jc rx fx r fs w (by simpa using hw)) ⟨.bl _,H,I,rfl,?_⟩;rw[show its.toArray.any (tT x)=its.any (tT x) by simp,jQ r fs];exact q
theorem qf:jw X (compareOp .NotIn) (rIn X.K true):=by
 intro pins s σ H x y v u Q I rx ry h;obtain⟨p,xs,rfl,hq,fx,fs,q⟩:=h;cases ry;rcases hq with hq | hq
 ·obtain⟨its,r,pl,hz⟩:=I.list hq;refine SeqAt.notIn_listAt (tT x) pl.isList (fun w hw=>jc rx fx r fs w (by simpa using hw)) ⟨.bl _,H,I,rfl,?_⟩;rw[show its.toArray.any (tT x)=its.any (tT x) by simp,jQ r fs];exact q
 ·obtain⟨its,r,pl,hz⟩:=I.tuple hq;refine SeqAt.notIn_tupleAt (tT x) pl (fun w hw=>jc rx fx r fs w (by simpa using hw)) ⟨.bl _,H,I,rfl,?_⟩;rw[show its.toArray.any (tT x)=its.any (tT x) by simp,jQ r fs];exact q
theorem j8:gQ X (.builtin "len") (fun xs H Q=>∃ p ys,xs=[.ref p]∧(ky X.K H p ys∨nK X.K H p ys)∧Q (.int ys.length) H):=by
 intro pins s σ H xs us Q I r h;obtain⟨p,ys,rfl,hq,q⟩:=h;obtain⟨u,rfl,rx⟩:=vals1 r;cases rx;have hn:=mP;rcases hq with hq | hq
 ·obtain⟨its,r',pl,hz⟩:=I.list hq;have hlen:=r'.length;exact Calls.call_len_list pl.isList (by simp only[List.size_toArray]<;>omega) ⟨.int ys.length,H,I.tok _,⟨s.toks+1,by rw[List.size_toArray,hlen]⟩,q⟩
 ·obtain⟨its,r',pl,hz⟩:=I.tuple hq;have hlen:=r'.length;exact len_tuple pl (by simp only[List.size_toArray]<;>omega) ⟨.int ys.length,H,I.tok _,⟨s.toks+1,by rw[List.size_toArray,hlen]⟩,q⟩
theorem jX:gQ X (.type "list") (fun xs H Q=>∃ p ys,xs=[.ref p]∧(ky X.K H p ys∨nK X.K H p ys)∧∀ l,H l=none→Q (.ref l) (upd H l (.lst ys))):=by
 intro pins s σ H xs us Q I r h;obtain⟨p,ys,rfl,hq,q⟩:=h;obtain⟨u,rfl,rx⟩:=vals1 r;cases rx;have fin:∀(its:List Value),aQ ys its→ys.length≤sizeLine→∀(h':Heap) (c':Nat),(∀ b o',s.heap.get? b=some o'→h'.get? b=some o') →
   h'.get? s.heap.objs.size=some { cls:=.type "list",dict:=none,data:=.seq its.toArray c',slots:=#[] }→EP X pins σ Q (.ref s.heap.objs.size) { s with heap:=h' }:=fun its r' hz h' c' kp e =>
  ⟨.ref s.heap.objs.size,_,I.laid (t':=s.toks) kp (au _) (show dX X.prog X.w _ h' _ (.lst ys) from ⟨hz,its,c',r',e⟩),rfl,q _ (I.hok.fresh (au _))⟩
 rcases hq with hq | hq
 ·obtain⟨its,r',pl,hz⟩:=I.list hq;have hlen:=r'.length;obtain⟨o,ho,hc,n,hd⟩:=pl.isList;exact call_list_seq p (.inl rfl) ho hc hd (fun h' c' kp e=>fin its r' hz h' c' kp e) (by simp only[List.size_toArray]<;>omega)
 ·obtain⟨its,r',pl,hz⟩:=I.tuple hq;have hlen:=r'.length;obtain⟨o,ho,hc,n,hd⟩:=pl;exact call_list_seq p (.inr rfl) ho hc hd (fun h' c' kp e=>fin its r' hz h' c' kp e) (by simp only[List.size_toArray]<;>omega)
noncomputable def tyV (K:PySem.W.Frag) (T:String) (x:V) (H:Hp):Prop:=match x with
 |.str _=>T = "str"
 |.int _=>T = "int"
 | .ref p=>(T = "list"∧∃ xs,ky K H p xs)∨(T = "tuple"∧∃ o,K.lookup p=some o∧o.cls = .type "tuple"∧o.dict=none) ∨
   (T = "dict"∧((∃ kvs,H p=some (.dK kvs))∨∃ kvs,H p=some (.dT kvs)))∨(T = "set"∧∃ S n,H p=some (.set S n))
 |_=>False
theorem xm {pins:List (Addr×Obj)}{σ:St}{H:Hp}{s:Shared}{T:String}{x:V}{v:Value}(I:Inv X pins σ H s) (r:RelV x v) (ty:tyV X.K T x H) :
  s.TypeIs v T∧∀ a,v = .ref a→∃ ob,s.heap.get? a=some ob∧ob.dict=none:=by
 cases x with
 |str z =>
  obtain⟨t,rfl⟩:=r;cases (show T = "str" from ty);exact⟨typeIs_str s z t,fun _ e=>nomatch e⟩
 |int i =>
  obtain⟨t,rfl⟩:=r;cases (show T = "int" from ty);exact⟨typeIs_int s i t,fun _ e=>nomatch e⟩
 |ref p =>
  cases r;rcases ty with ⟨rfl,xs,hq⟩ | ⟨rfl,o,hk,hc,hd⟩ | ⟨rfl,hk⟩ | ⟨rfl,S,n,hk⟩
  ·obtain⟨its,_,pl,_⟩:=I.list hq;refine⟨pl.isList.typeIs,fun a e=>?_⟩;cases e;obtain⟨o,n,e,c,hd,_⟩:=pl;exact⟨o,e,hd⟩
  ·refine⟨⟨o,I.kIn p o hk,hc⟩,fun a e=>?_⟩;cases e;exact⟨o,I.kIn _ o hk,hd⟩
  ·have z:∃ o,s.heap.get? p=some o∧o.ExactDict:=by
    rcases hk with ⟨kvs,hk⟩ | ⟨kvs,hk⟩
    ·obtain⟨_,_,_,_,o,_,_,e,ex,_⟩:=I.hok p _ hk;exact⟨o,e,ex⟩
    ·obtain⟨_,_,_,_,o,_,_,e,ex,_⟩:=I.hok p _ hk;exact⟨o,e,ex⟩
   obtain⟨o,e,ex⟩:=z;refine⟨⟨o,e,ex.1⟩,fun a e2=>?_⟩;cases e2;exact⟨o,e,ex.2.1⟩
  ·obtain⟨o,_,_,_,e,ex,_⟩:=I.hok p _ hk;refine⟨⟨o,e,ex.1⟩,fun a e2=>?_⟩;cases e2;exact⟨o,e,ex.2.1⟩
 |_=>exact False.elim ty
noncomputable def GB (K:PySem.W.Frag) (T:String) (r:V→List V→Hp→VK→Prop) (to:TE):TE:=fun σ H Q=>to σ H fun x H1=>tyV K T x H1∧r x [] H1 Q
noncomputable def tBM (K:PySem.W.Frag) (T:String) (r:V→List V→Hp→VK→Prop) (to:TE) (t:TA):TE:=fun σ H Q=>to σ H fun x H1=>tyV K T x H1∧t σ H1 fun xs H2=>r x xs H2 Q
variable {o e:Expr}{es:List Expr}{to:TE}{t:TA}{name:Str}{apos cpos:Pos}{T id:String}{r:V→List V→Hp→VK→Prop}
theorem D2 (pa:PlainAttrs T) (slot:Slot T name id) (hty:typeOf (.builtin id)=pure (.type "method_descriptor")) (hm:MtR X id r) (ho:PE X o to)
  (hbase:attributeBase o name X.env (eval o X.env)=eval o X.env:=by rfl) (hline:(apos.endLine==cpos.line)=true:=by rfl):PE X (.Call (.Attribute o name apos) [] [] cpos) (GB X.K T r to):=by
 intro pins s σ H Q I h;refine wpAny_Call_method0_late hbase hline (dB (ho pins s σ H _ I h) fun v s1 ⟨x,H1,I1,r1,ty,q1⟩=>?_);obtain⟨h1,h2⟩:=xm I1 r1 ty;exact⟨T,id,pa,slot,hty,h1,h2,Calls.callWith_builtin rfl (PySem.evalArgs_none (hm pins s1 σ H1 x [] v [] Q I1 r1 .nil q1))⟩
theorem uM (pa:PlainAttrs T) (slot:Slot T name id) (hty:typeOf (.builtin id)=pure (.type "method_descriptor")) (hm:MtR X id r) (ho:PE X o to) (ha:PA X (e::es) t)
  (hbase:attributeBase o name X.env (eval o X.env)=eval o X.env:=by rfl)
  (hfew:((backTo cpos (starEach (e::es) X.env)).all (fun x=>!x.1)&&(backToKw cpos (keywordEach [] X.env)).all (fun x=>x.1.isSome)
   && decide ((e::es).length+([]:List Keyword).length+(if ([]:List Keyword).isEmpty then 0 else 1)<30))=true:=by rfl)
  (hline:(apos.endLine==cpos.line)=true:=by rfl) (hs:starEach (e::es) X.env=(false,eval e X.env)::starEach es X.env:=by rfl) (hplain:(backTo cpos (starEach es X.env)).any (·.1)=false:=by rfl) :
  PE X (.Call (.Attribute o name apos) (e::es) [] cpos) (tBM X.K T r to t):=by
 intro pins s σ H Q I h;refine wpAny_Call_method_late hbase hfew hline rfl (dB (ho pins s σ H _ I h) fun v s1 ⟨x,H1,I1,r1,ty,q1⟩=>?_);obtain⟨h1,h2⟩:=xm I1 r1 ty;refine⟨T,id,pa,slot,hty,h1,h2,?_⟩;have hA:=ha cpos pins s1 σ H1 _ I1 q1;rw[hs] at hA ⊢;refine Calls.callWith_builtin (by show (false || (backTo cpos (starEach es X.env)).any (·.1))=false;rw[hplain]<;>rfl) (Calls.evalArgs_plain ?_);exact dB hA fun us s2 ⟨vs,H2,I2,r2,q2⟩=>hm pins s2 σ H2 x vs v us Q I2 r1 r2 q2
end
end L2
namespace L2
open PySem PySem.Spec PyProof.Rows
noncomputable def Fo (X:Cx) (id:String) (r:V→List V→Hp→VK→Prop):Prop :=
 ∀(pins:List (Addr×Obj)) (s:Shared) (σ:St) (H:Hp) (x:V) (xs:List V) (v:Value) (us:List Value) (Q:VK),Inv X pins σ H s→RelV x v→aQ xs us→r x xs H Q →
  wpAny (model X.prog X.w) X.A (call (.builtin id) (v::us)) (EP X pins σ Q) X.xe s
theorem aQ.one:∀{x:V}{us:List Value},aQ [x] us→∃ u,us=[u]∧RelV x u
 |_,_,.cons r .nil=>⟨_,rfl,r⟩
theorem aQ.two:∀{x y:V}{us:List Value},aQ [x,y] us→∃ u v,us=[u,v]∧RelV x u∧RelV y v
 | _,_,_,.cons r (.cons q .nil)=>⟨_,_,rfl,r,q⟩
theorem aQ.zero:∀{us:List Value},aQ [] us→us=[]
 |_,.nil=>rfl
theorem aQ.dropLast {xs:List V}{us:List Value}(h:aQ xs us):aQ xs.dropLast us.dropLast:=by
 induction h with
 |nil=>exact .nil
 |cons r t ih =>
  cases t with
  |nil=>exact .nil
  |cons q t'=>exact .cons r ih
theorem aQ.eraseIdx:∀{xs:List V}{us:List Value}(i:Nat),aQ xs us→aQ (xs.eraseIdx i) (us.eraseIdx i)
 |_,_,_,.nil=>.nil
 |_,_,0,.cons _ t=>t
 |_,_,i+1,.cons r t=>.cons r (aQ.eraseIdx i t)
theorem aQ.rep {xs:List V}{us:List Value}(h:aQ xs us):∀ k:Nat,aQ (List.replicate k xs).flatten (List.replicate k us).flatten
 |0=>.nil
 | k+1=>by
  rw[dk,dk,dn,dn];exact aQ.append h (aQ.rep h k)
theorem mI {α:Type}(l:List α):l.eraseIdx (l.length - 1)=l.dropLast:=by
 induction l with
 |nil=>rfl
 |cons a r ih =>
  cases r with
  |nil=>rfl
  |cons b r =>
   have e:(a::b::r).length - 1=((b::r).length - 1)+1:=by
    have h1:(a::b::r).length=r.length+2:=rfl;have h2:(b::r).length=r.length+1:=rfl;omega
   rw[e,List.eraseIdx_cons_succ,ih]
   all_goals rfl
theorem nQ {α:Type}:∀(l:List α) (i:Nat),(l.eraseIdx i).length≤l.length
 |[],_=>au _
 |_::_,0=>Nat.le_succ _
 |_::r,i+1=>Nat.succ_le_succ (nQ r i)
theorem foldl_rep (its:List Value):∀(k:Nat) (acc:List Value),
  List.foldl (fun x1 x2=>x1++x2) acc.toArray (List.replicate k its.toArray)=(acc++(List.replicate k its).flatten).toArray
 |0,acc=>by simp
 | k+1,acc=>by
  have e:acc.toArray++its.toArray=(acc++its).toArray:=by simp
  have e2:(acc++its)++(List.replicate k its).flatten=acc++(List.replicate (k+1) its).flatten:=by
   rw[dk,dn,ek]
  rw[←e2,←foldl_rep its k (acc++its),←e,dk,List.foldl_cons]
section
variable {X:Cx}{pins:List (Addr×Obj)}{σ:St}{H:Hp}{s:Shared}{l b:Addr}{xs ys zs:List V}
theorem Inv.lset {its its':List Value}{n:Nat}{f:Array Value→Array Value}{t':Nat}(I:Inv X pins σ H s) (hH:H l=some (.lst xs))
  (e:s.heap.get? l=some { cls:=.type "list",data:=.seq its.toArray n }) (hf:f its.toArray=its'.toArray) (hv:aQ ys its') (hz:ys.length≤sizeLine) :
  Inv X pins σ (upd H l (.lst ys)) { s with heap:=s.heap.update l (Obj.mapSeq f),toks:=t' }:=by
 have q:=PySem.IsL.update e f;rw[hf] at q;refine I.write (x:=l) (e:=l) (by rw[hH];exact trivial) (.inl rfl) (fun b' u hb hu=>(Heap.get?_update_other s.heap (Obj.mapSeq f) (cj hb)).trans hu) ⟨_,q⟩ ?_;exact⟨hz,its',_,hv,q⟩
theorem Inv.lnew {its:List Value}{t':Nat}(I:Inv X pins σ H s) (hv:aQ ys its) (hz:ys.length≤sizeLine) :
  Inv X pins σ (upd H s.heap.objs.size (.lst ys)) { s with heap:=s.heap.push { cls:=.type "list",data:=.seq its.toArray },toks:=t' } :=
 I.laid (fun _ _ q=>Heap.get?_push_of_some _ q) (au _) ⟨hz,its,0,hv,Heap.get?_push_size _ rfl⟩
theorem Inv.fresh (I:Inv X pins σ H s):H s.heap.objs.size=none:=I.hok.fresh (au _)
theorem Inv.lstM (I:Inv X pins σ H s) (hH:H l=some (.lst xs)):xs.length≤sizeLine∧∃(its:List Value) (n:Nat),aQ xs its∧xs.length=its.length∧s.heap.get? l=some { cls:=.type "list",data:=.seq its.toArray n }:=by
 obtain⟨z,its,n,r,e⟩:=I.hok l _ hH;exact⟨z,its,n,r,r.length,e⟩
theorem xp {n:Nat}(h:n≤sizeLine):Builtin.List.listTooLong n=false:=by
 unfold Builtin.List.listTooLong;exact de (by omega)
end
section
variable {X:Cx}
noncomputable def AN:V→List V→Hp→VK→Prop:=fun x vs H Q=>∃ l xs y,x = .ref l∧vs=[y]∧H l=some (.lst xs)∧xs.length<sizeLine∧Q .non (upd H l (.lst (xs ++ [y])))
theorem oS:Fo X "list.append" AN:=by
 intro pins s σ H x vs v us Q I rx rv h;obtain⟨l,xs,y,rfl,rfl,hH,hz,q⟩:=h;cases rx;obtain⟨u,rfl,ru⟩:=rv.one;obtain⟨z,its,n,r,hl,e⟩:=I.lstM hH;refine call_meets F.slot_list_append ⟨_,e,rfl⟩ F.entry_list_append (F.args_list_append_2 _ _) (PySem.list_append l its.toArray n u (by rw[ak];omega)) ⟨e,?_⟩;refine⟨.non,_,I.lset (its':=its ++ [u]) hH e (by simp) (r.append (.cons ru .nil)) ?_,rfl,q⟩;rw[cz,List.length_singleton];omega
noncomputable def rPop:V→List V→Hp→VK→Prop:=fun x vs H Q=>∃ l xs y,x = .ref l∧vs=[]∧H l=some (.lst xs)∧xs[xs.length - 1]? = some y∧Q y (upd H l (.lst xs.dropLast))
theorem DR:Fo X "list.pop" rPop:=by
 intro pins s σ H x vs v us Q I rx rv h;obtain⟨l,xs,y,rfl,rfl,hH,hy,q⟩:=h;cases rx;have hus:=rv.zero;subst hus;obtain⟨z,its,n,r,hl,e⟩:=I.lstM hH;obtain⟨u,hu,ru⟩:=r.get hy;have hy':its.toArray[its.toArray.size - 1]? = some u:=by
  show its.toArray[its.length - 1]? = some u;rw[←Array.getElem?_toList,←hl];exact hu
 refine call_meets F.slot_list_pop ⟨_,e,rfl⟩ F.entry_list_pop (F.args_list_pop_1 _) (MeetsSeq.list_pop_last l its.toArray n u hy' (by rw[ak];omega)) ⟨e,?_⟩;refine⟨y,_,I.lset (its':=its.dropLast) hH e ?_ r.dropLast ?_,ru,q⟩
 ·show its.toArray.eraseIdxIfInBounds (its.toArray.size - 1)=its.dropLast.toArray;rw[ak,List.eraseIdxIfInBounds_toArray,mI]
 ·rw[List.length_dropLast];omega
noncomputable def Ee:V→List V→Hp→VK→Prop:=fun x vs H Q=>∃ l xs i k y,x = .ref l∧vs=[.int i]∧H l=some (.lst xs)∧-(2 ^ 63)≤i∧i<2 ^ 63∧seqIndex? i xs.length=some k∧xs[k]? = some y∧Q y (upd H l (.lst (xs.eraseIdx k)))
theorem zC:Fo X "list.pop" Ee:=by
 intro pins s σ H x vs v us Q I rx rv h;obtain⟨l,xs,i,k,y,rfl,rfl,hH,h1,h2,hk,hy,q⟩:=h;cases rx;obtain⟨u,rfl,ru⟩:=rv.one;obtain⟨t,rfl⟩:=ru;obtain⟨z,its,n,r,hl,e⟩:=I.lstM hH;obtain⟨w,hw,eV⟩:=r.get hy;refine call_meets F.slot_list_pop ⟨_,e,rfl⟩ F.entry_list_pop (F.args_list_pop_2 _ _)
  (MeetsSeq.list_pop_at l its.toArray n i t k w (fitsIndex_both h1 h2) (by rw[ak,←hl];exact hk) (by rw[←Array.getElem?_toList];exact hw) (by rw[ak];omega)) ⟨e,?_⟩
 refine⟨y,_,I.lset (its':=its.eraseIdx k) hH e ?_ (r.eraseIdx k) ?_,eV,q⟩
 ·show its.toArray.eraseIdxIfInBounds k=(its.eraseIdx k).toArray;rw[List.eraseIdxIfInBounds_toArray]
 ·have:=nQ xs k;omega
theorem len_rep {α:Type}(xs:List α) (k:Nat):(List.replicate k xs).flatten.length=k*xs.length:=by
 induction k with
 |zero=>simp
 |succ k ih=>rw[dk,dn,cz,ih,Nat.succ_mul,Nat.add_comm]
end
section
variable {prog:Program}{w:World}{A:Around}{E:Value→Shared→Prop}{s:Shared}
end
section
variable {X:Cx}
end
end L2
namespace zW
open PySem PySem.W PySem.Calls PyProof.Rows
theorem lH {P:Params}{h:Heap}:∀(ns:List Int) (vs:List Value),WellAll P h vs (ns.map WData.int)→IntsAre vs ns:=by
 intro ns
 induction ns with
 |nil =>
  intro vs w;rw[List.map_nil] at w;cases w;exact .nil
 |cons n ns ih =>
  intro vs w;rw[ax] at w;cases w with
  |cons a b =>
   cases a;exact .cons _ _ (ih _ b)
theorem vV {l:OpenLaw}{n:Nat}(hn:l.most=some n) {P:Params}{h:Heap}{args:List WData}{vals:List Value}
  (hpre:l.row.toRowW.claim.pre args=true) (hwl:WellAll P h vals args) :
  ∃ a vs ns,vals=[Value.ref a]∧args=[WData.list (ns.map WData.int)]∧h.get? a=some { cls:=.type "list",data:=.seq vs.toArray }∧IntsAre vs ns∧ns.length≤n:=by
 have hsh:WShape.hasAll [] args [.list .int]=true:=(pre_splitW hpre).1;have hc:l.pre.holds [] { args:=args }=true:=(pre_splitW hpre).2;obtain⟨d,r,rfl,h1,h2⟩:=hasAllW_cons hsh;obtain rfl:=hasAllW_nil h2;obtain⟨xs,rfl,h3⟩:=hasW_list h1;obtain⟨ns,rfl⟩:=items_int h3;have hlen:ns.length≤n:=by
  unfold OpenLaw.pre at hc;have h4:(WTm.not (.lt (.lit (.int (n:Int))) (.len (.arg 0)))).holds [] { args:=[.list (ns.map .int)] }=true:=by
   have h4:=(holds_andW hc).1;rw[hn] at h4;exact h4
  have h5:=condW_of h4 (w_not (w_lt w_lit (w_len_list (w_arg rfl))));rw[aj] at h5;refine gm fun q=>?_
  have q':(n:Int)<((ns.length:Nat):Int):=by omega
  first
   | (rw[dq q'] at h5;exact absurd h5 (by decide))
   | (simp at h5;omega)
 cases hwl with
 |cons w1 w2 =>
  cases w2;cases w1 with
  |list ho hall=>exact⟨_,_,ns,rfl,rfl,ho,lH ns _ hall,hlen⟩
theorem vA (l:OpenLaw) (args:List WData):l.row.toRowW.claim.post args (.bool true) args=true :=
 postW_of (r:=l.row.toRowW) (X:=(true==true))
  (show WShape.has [] (.bool true) .bool=true by first | rfl | decide | simp[WShape.has,WShape.arms,WShape.armsAll])
  (show (WTm.eq .res (.lit (.bool true))).value [] { args:=args,res:=some (.bool true),after:=args }=some (.bool (true==true)) from w_eq_bool (w_res rfl) w_lit) rfl
theorem qE {l:OpenLaw}{n:Nat}{q:Program}{loose:List Str}{XP:(Str→Option Value)→Heap→Prop}{YP:World→Heap→Prop}{d:DefRec}
  (hn:l.most=some n) (hdf:d.params.defaults=[])
  (call:∀(w:World) (s₀ s₁:Shared) (mg mb:Str→Option Value) (fa:Addr) (o:Obj) (pm cd doc:Value) (a:Addr) (vs:List Value) (ns:List Int),
   Ground q loose [] XP w s₀ mg mb s₁.heap→YP w s₁.heap →
   s₁.heap.get? fa=some o→o.data = .func (docDef d.name d.params d.body d.scope pm cd doc)→s₁.heap.CodeRec cd d.name→mg d.name=some (.ref fa) →
   s₁.heap.get? a=some { cls:=.type "list",data:=.seq vs.toArray }→IntsAre vs ns→ns.length≤n→s₁.gens = #[] →
   codeAny (model l.prog w) callerA (.call (.ref fa) ⟨[.ref a],[]⟩) (fun r s'=>r = .ok (.ret (.bool true))∧OldK s₁.heap s'.heap∧s'.os=s₁.os∧AllBare s'.gens) s₁) :
  WalkO q loose XP YP l.row.toRowW d [] (fun f vs=>PySem.call f vs):=by
 intro w s₀ s₁ mg mb G Y fa o pm cd doc dV kV ho hd hcd hD hmg hg args vals as hpre hlay hrd hwl hlo;obtain rfl:dV = .none:=Dflts.none hD hdf;obtain rfl:kV = .none:=Dflts.noKw hD;obtain⟨a,vs,ns,rfl,rfl,hobj,hints,hlen⟩:=vV hn hpre hwl;refine enter_call (codeAny_mono (call w s₀ s₁ mg mb fa o pm cd doc a vs ns G Y ho (fd_plain hd) hcd hmg hobj hints hlen hg) fun r s' hq=>?_);obtain⟨rfl,h2,h3,h4⟩:=hq;exact⟨.inl ⟨.bool true,.bool true,[],rfl,fun _=>rfl,.bool true,vA l _,fun _=>⟨List.Pairwise.nil,fun _ hm=>(nomatch hm)⟩⟩,h2,h3,h4⟩
section
variable {prog:Program}{w:World}{A:Around}{E:Value→Shared→Prop}{s:Shared}{K:Frag}
noncomputable def pR (h:Heap):Heap:={ h with objs:=#[] }
theorem mK (h:Heap) (b:Addr):(pR h).get? b=none:=by
 cases e:(pR h).get? b with
 |none=>rfl
 |some o=>exact absurd (Heap.lt_size e) (fv _)
noncomputable def ledger (h:Heap) (L d:Addr):List (Addr×Obj):=(List.range h.objs.size).filterMap fun a=>if a=L∨a=d then none else (h.get? a).map fun o=>(a,o)
theorem jB {h:Heap}{L d a:Addr}{o:Obj}:(a,o)∈ledger h L d↔a≠L∧a≠d∧h.get? a=some o:=by
 unfold ledger;rw[List.mem_filterMap];constructor
 ·rintro⟨b,_,e⟩;split at e
  ·cases e
  ·rename_i hb;obtain⟨o',ho,e'⟩:=ae.mp e;cases e';exact⟨fun q=>hb (.inl q),fun q=>hb (.inr q),ho⟩
 ·rintro⟨n1,n2,ho⟩;refine⟨a,List.mem_range.mpr (Heap.lt_size ho),?_⟩;rw[if_neg (show ¬ (a=L∨a=d) from fun q=>q.elim n1 n2),ho]<;>rfl
theorem DV {h:Heap}{L:Addr}{m:Str→Option Value}(n:h.Ns L m):Fr (pR h) L h m :=
 ⟨n,fun b o e=>(by rw[mK] at e;cases e),dm _⟩
end
end zW
namespace L2
open PySem PySem.Spec PyProof.Rows
theorem gZ:∀{vs:List Value}{ns:List Int},IntsAre vs ns→aQ (ns.map V.int) vs
 |_,_,.nil=>.nil
 |_,_,.cons n t h=>.cons ⟨t,rfl⟩ (gZ h)
noncomputable def DW (H:Hp):Prop:=∀ b,H b=none∨∃ o xs,H b=some (.frz o (.lst xs))
theorem yH {P:Program}{w:World}{K:PySem.W.Frag}{mg mb:Str→Option Value}{CX:rV}{k:Nat}{fa a:Addr}{fd:FuncData}{x:Str}{sp:Sp}{s₁:Shared}{vs:List Value}{ns:List Int}
  (KX:K.In s₁.heap) (hns:s₁.heap.Ns mainGlobals mg) (hb:s₁.heap.Ns builtinsNs mb) (hbb:∀ x:Str,x≠"__name__"→mb x=bootBuiltins x) (hlim:s₁.heap.NoLimit) (hg:s₁.gens = #[])
  (ha:s₁.heap.get? a=some { cls:=.type "list",data:=.seq vs.toArray }) (hi:IntsAre vs ns) (hl:ns.length≤sizeLine) (hr:fR k callerA)
  (F:∀ base:Heap,K.In base→base.Ns mainGlobals mg→kT P w K mg base CX k fa fd [x] sp) (hbind:∀(s:Shared) (u:Value),BindsTo s fd ⟨[u],[]⟩ [(x,u)])
  (hsp:∀ H:Hp,DW H→ky K H a (ns.map V.int)→sp [.ref a] H (fun v _=>v = .bl true) fun _ _ _=>False)
  (hCX:∀ H e s',CX [] H s₁ (fun _ _ _=>False) e s'→False) :
  codeAny (model P w) callerA (.call (.ref fa) ⟨[.ref a],[]⟩) (fun r s'=>r = .ok (.ret (.bool true))∧OldK s₁.heap s'.heap∧s'.os=s₁.os∧AllBare s'.gens) s₁:=by
 have rv:=gZ hi;have lenV:=hi.length;have core:∀ H:Hp,DW H→ky K H a (ns.map V.int)→kx P w H s₁.heap→(∀ b,H b≠none→b=a)→(H a≠none→K.lookup a=none) →
   codeAny (model P w) callerA (.call (.ref fa) ⟨[.ref a],[]⟩) (fun r s'=>r = .ok (.ret (.bool true))∧OldK s₁.heap s'.heap∧s'.os=s₁.os∧AllBare s'.gens) s₁:=by
  intro H hO hS hok hA hK;have base_of:∀{b:Addr}{o:Obj},s₁.heap.get? b=some o→H b=none→(pY s₁.heap H).get? b=some o:=fun e n=>xv e n
  have noA:∀{b:Addr}{o:Obj}{es:Array DictEntry}{ep:Nat},s₁.heap.get? b=some o→o.data = .dict es ep→H b=none:=fun {b o es ep} e d=>by
   cases q:H b with
   |none=>rfl
   |some u =>
    have e':b=a:=hA b (by rw[q];simp);subst e';rw[ha] at e;cases e;have d':Data.seq vs.toArray _=Data.dict es ep:=d;cases d'
  have nsK:∀{b:Addr}{m:Str→Option Value},s₁.heap.Ns b m→(pY s₁.heap H).Ns b m:=fun {b m} ⟨o,es,ep,e,d,r⟩=>⟨o,es,ep,base_of e (noA e d),d,r⟩
  have hKb:K.In (pY s₁.heap H):=fun b o e=>base_of (KX b o e) (by
   cases q:H b with
   |none=>rfl
   |some u =>
    have e':b=a:=hA b (by rw[q];simp);subst e';rw[hK (by rw[q];simp)] at e;cases e)
  have hM:Mod K mg (pY s₁.heap H):=⟨hKb,nsK hns,⟨mb,nsK hb,hbb⟩,let ⟨mc,h1,h2⟩:=hlim;⟨mc,nsK h1,h2⟩⟩;have e0:zQ P w K mg (pY s₁.heap H) callerA [] s₁ H:=⟨rfl,hM,fun b o e=>An e,Nat.le_of_eq (vZ _ _),trivial,fun b hb=>absurd (show b∈([]:List Addr) from hb) (by simp),hok,.of_eq hg⟩;refine codeAny_mono ((F _ hKb (nsK hns)).run callerA [] s₁ H ⟨[.ref a],[]⟩ [.ref a] [.ref a] _ _ hr e0 (hbind s₁ (.ref a)) (.cons rfl .nil) (hsp H hO hS)) fun r s' h=>?_
  cases r with
  |error e=>exact (hCX H e s' h).elim
  |ok fl =>
   cases fl with
   |next=>exact False.elim h
   |brk=>exact False.elim h
   |cont=>exact False.elim h
   |ret u =>
    obtain⟨v,H',os,bare,un,hok',r',q⟩:=h;have q':v = .bl true:=q;subst q';obtain rfl:u=Value.bool true:=r';refine⟨rfl,OldK.of_keep fun b o e=>?_,os,bare⟩;cases q:H b with
    |none=>exact un.keep b o e q (by intro z;exact absurd (show b∈([]:List Addr) from z) (by simp)) (by simp)
    |some u =>
     rcases hO b with z | ⟨ob,xs,z⟩
     ·rw[q] at z;cases z
     ·have z2:=un.frzs b ob _ z;obtain⟨e1,_⟩:=hok b _ z;obtain⟨e2,_⟩:=hok' b _ z2;rw[e] at e1;cases e1;exact e2
 cases hk:K.lookup a with
 |some o =>
  have e:=KX a o hk;rw[ha] at e;cases e;refine core (fun _=>none) (fun _=>.inl rfl) (.inr ⟨_,vs.toArray,_,hk,rfl,rfl,rfl,by rw[List.size_toArray,lenV];exact hl,by simpa using rv⟩) (fun b u z=>by have z':(none:Option HO)=some u:=z;cases z') (fun b z=>absurd rfl z) fun z=>absurd rfl z
 |none =>
  refine core (fun b=>if b=a then some (.frz { cls:=.type "list",data:=.seq vs.toArray } (.lst (ns.map V.int))) else none) (fun b=>?_) (.inl (.inr ⟨{ cls:=.type "list",data:=.seq vs.toArray },if_pos rfl⟩)) (fun b u z=>?_) (fun b z=>?_) fun _=>hk
  ·by_cases hb:b=a
   ·exact .inr ⟨_,_,if_pos hb⟩
   ·exact .inl (if_neg hb)
  ·by_cases hb:b=a
   ·have z':=(if_pos hb).symm.trans z;cases z';subst hb;exact⟨ha,by rw[aj];exact hl,vs,_,rv,ha⟩
   ·have z':=(if_neg hb).symm.trans z;cases z'
  ·by_cases hb:b=a
   ·exact hb
   ·exact absurd (if_neg hb) z
end L2
namespace L2
open PySem PySem.Spec PyProof.Rows
theorem BH {l:PySem.W.OpenLaw}{n k:Nat}{q:Program}{loose:List Str}{XP:(Str→Option Value)→Heap→Prop}{YP:World→Heap→Prop}{d:DefRec}{K:Params→PySem.W.Frag}{CX:World→rV}{sp:World→Sp}{x:Str}
  (hn:l.most=some n) (hn2:n≤sizeLine) (hdf:d.params.defaults=[]) (hr:fR k callerA)
  (hY:∀(w:World) (h:Heap),YP w h→(K w.params).In h)
  (F:∀(w:World) (mg:Str→Option Value) (fa:Addr) (h:Heap),(K w.params).In h→h.Ns mainGlobals mg→mg d.name=some (.ref fa) →
   ∃ fd:FuncData,(∀(s:Shared) (u:Value),BindsTo s fd ⟨[u],[]⟩ [(x,u)]) ∧
    ∀ base:Heap,(K w.params).In base→base.Ns mainGlobals mg→kT l.prog w (K w.params) mg base (CX w) k fa fd [x] (sp w))
  (hsp:∀(w:World) (H:Hp) (a:Addr) (ns:List Int),ns.length≤n→DW H→ky (K w.params) H a (ns.map V.int)→sp w [.ref a] H (fun v _=>v = .bl true) fun _ _ _=>False)
  (hCX:∀(w:World) (H:Hp) (s:Shared) (e:Value) (s':Shared),CX w [] H s (fun _ _ _=>False) e s'→False) :
  PySem.W.WalkO q loose XP YP l.row.toRowW d [] (fun f vs=>PySem.call f vs):=by
 refine zW.qE hn hdf fun w s₀ s₁ mg mb fa o pm cd doc a vs ns G Y ho hd hcd hmg hobj hints hlen hg=>?_
 have KX:=hY w _ Y;obtain⟨fd,hb,hF⟩:=F w mg fa _ KX G.T.g hmg;exact yH KX G.T.g G.T.b G.T.builtins G.T.nolimit hg hobj hints (bu hlen hn2) hr hF hb (fun H hO hS=>hsp w H a ns hlen hO hS) fun H e s'=>hCX w H s₁ e s'
end L2
namespace L2
open PySem PySem.Spec PyProof.Rows
noncomputable def eE (s:Stmt):Arguments:=match s with
 |.FunctionDef _ a _ _ _ _ _ _ _ _=>a
 |_=>{ posonlyargs:=[],args:=[],vararg:=none,kwonlyargs:=[],kw_defaults:=[],kwarg:=none,defaults:=[] }
noncomputable def bM (s:Stmt):List Stmt:=match s with
 |.FunctionDef _ _ b _ _ _ _ _ _ _=>b
 |_=>[]
noncomputable def aE (s:Stmt):Scope:=match s with
 |.FunctionDef _ _ _ _ _ _ sc _ _ _=>sc
 |_=>{ kind:=.function,names:=[],isGenerator:=false,isCoroutine:=false }
noncomputable abbrev wN:rV:=fun _ _ _ _ _ _=>False
noncomputable abbrev E0:XK:=fun _ _ _=>False
theorem BU {X:Cx}:pO wN X E0:=fun _ _ _ _ _ _ _ h=>h.elim
structure vk (K:PySem.W.Frag) (x qual:Str) (st:Stmt) (f:Addr) (fd:FuncData):Prop where
 ex:∃(oc:Value) (od:Option Addr) (kV doc pm:Value) (an:Option Addr) (cdv ct:Value) (osl:Array (Option Value)),
  fd=PySem.W.fnOf x qual (eE st) (bM st) (aE st) .none kV doc pm an cdv ct∧K.lookup f=some ⟨oc,od,.func fd,osl⟩∧PySem.W.codeIn K cdv qual=true
 kp:PySem.W.keepIn K (.ref f)=true
section
variable {P:Program}{w:World}{K:PySem.W.Frag}{mg:Str→Option Value}{base:Heap}
theorem vk.ok {x qual:Str}{st:Stmt}{f:Addr}{fd:FuncData}{N ps:List Str}{k:Nat}{sp:Sp}(F:vk K x qual st f fd) (S:eF N ps (aE st)) (len:∀ vs H Q E,sp vs H Q E→vs.length=ps.length)
  (hbody:∀(cdv:Value) (A:Around) (outer:List Env) (s:Shared) (H:Hp) (vs:List V) (Q:VK) (E:XK),fR k (A.deeper (envOfC qual (aE st) s.heap.objs.size f cdv))→sp vs H Q E →
   ∃ t,jJ (gF wN P w K mg base N qual (aE st) f cdv A outer s H E).nox (bM st) t∧t { nx:=fun _ H'=>Q .non H',rt:=Q } (start N vs) H):kT P w K mg base wN (k+1) f fd ps sp:=by
 obtain⟨oc,od,kV,doc,pm,an,cdv,ct,osl,rfl,lk,hcd⟩:=F.ex;refine F7 lk hcd S len fun A outer s H vs Q E hr hsp=>?_
 obtain⟨t,h,q⟩:=hbody cdv A outer s H vs Q E hr hsp;exact⟨t,h.nox,q⟩
theorem vk.binds {x qual:Str}{st:Stmt}{f:Addr}{fd:FuncData}{ps:List Str}(F:vk K x qual st f fd)
  (h:∀(kV doc pm:Value) (an:Option Addr) (cdv ct:Value) (us:List Value),us.length=ps.length→bindArgs (PySem.W.fnOf x qual (eE st) (bM st) (aE st) .none kV doc pm an cdv ct) ⟨us,[]⟩=pure (ps.zip us)):Binds K fd ps []:=by
 obtain⟨oc,od,kV,doc,pm,an,cdv,ct,osl,rfl,lk,hcd⟩:=F.ex;exact .all (h kV doc pm an cdv ct)
theorem Dy {x qual:Str}{st:Stmt}{f:Addr}{oc:Value}{od an:Option Addr}{osl:Array (Option Value)}{kV doc pm cdv ct:Value}(l:K.lookup f=some ⟨oc,od,.func (PySem.W.fnOf x qual (eE st) (bM st) (aE st) .none kV doc pm an cdv ct),osl⟩)
  (c:PySem.W.codeIn K cdv qual=true) (k:PySem.W.keepIn K (.ref f)=true):vk K x qual st f (PySem.W.fnOf x qual (eE st) (bM st) (aE st) .none kV doc pm an cdv ct):=⟨⟨oc,od,kV,doc,pm,an,cdv,ct,osl,rfl,l,c⟩,k⟩
end
section
variable {X:Cx}
end
noncomputable def aN (H H':Hp):Prop:=∀ b o,H b=some o→H' b=some o
theorem aN.refl (H:Hp):aN H H:=fun _ _ h=>h
theorem aN.trans {H H1 H2:Hp}(a:aN H H1) (b:aN H1 H2):aN H H2:=fun c o h=>b c o (a c o h)
end L2
end
section
namespace L2
open PySem PySem.Spec PyProof.Rows
section
variable {κ:Type}[DecidableEq κ]
end
section
variable {P:Program}{w:World}{H:Hp}{h:Heap}{a:Addr}
end
section
variable {X:Cx}{pins:List (Addr×Obj)}{σ:St}{H:Hp}{s:Shared}{a:Addr}{y v:V}{u r:Value}{o:Option V}{A:Around}{E:Value→Shared→Prop}
end
section
variable {X:Cx}{pins:List (Addr×Obj)}{σ:St}{H:Hp}{s:Shared}{a:Addr}{kvs:List (Key×V)}{k:Key}{u:Value}{A:Around}{E:Value→Shared→Prop}
end
section
variable {X:Cx}{o i e value:Expr}{pos pos' tpos:Pos}{td ty tv:TE}
end
section
variable {X:Cx}{pos:Pos}
end
end L2
end
section
namespace Pc
open PySem
inductive D where
 | non | bl (b:Bool) | int (i:Int) | lst (xs:List D) | tup (xs:List D)
deriving Inhabited
mutual
noncomputable def D.flat:D→Bool
 |.lst _=>false
 |.tup xs=>D.flats xs
 |.non=>true
 |.bl _=>true
 |.int _=>true
noncomputable def D.flats:List D→Bool
 |[]=>true
 |x::xs=>D.flat x&&D.flats xs
end
noncomputable def qz (f:D→D→Option Bool):List D→List D→Option Bool
 |[],[]=>some true
 |x::xs,y::ys=>(f x y).bind fun a=>(qz f xs ys).map fun b=>a&&b
 |_,_=>none
noncomputable def D.eqf:Nat→D→D→Option Bool
 |0,_,_=>none
 |_+1,.non,.non=>some true
 |_+1,.bl a,.bl b=>some (a==b)
 |_+1,.int a,.int b=>some (a==b)
 |_+1,.bl a,.int b=>some ((if a then (1:Int) else 0)==b)
 |_+1,.int a,.bl b=>some (a==(if b then (1:Int) else 0))
 |n+1,.lst a,.lst b=>if a.length=b.length then qz (D.eqf n) a b else some false
 |n+1,.tup a,.tup b=>if a.length=b.length then qz (D.eqf n) a b else none
 |_+1,_,_=>some false
noncomputable def D.ja:D→Bool
 |.lst _=>false
 |.tup _=>false
 |_=>true
noncomputable def D.eqs:D→D→Bool
 |.non,.non=>true
 |.bl a,.bl b=>a==b
 |.int a,.int b=>a==b
 |.bl a,.int b=>(if a then (1:Int) else 0)==b
 |.int a,.bl b=>a==(if b then (1:Int) else 0)
 |_,_=>false
structure Exc where
 cls:Str
 fs:List (Str×D)
deriving Inhabited
inductive Rs (α:Type) where
 | ok (a:α) | exc (e:Exc) | bad
noncomputable def Rs.bind {α β:Type}(x:Rs α) (f:α→Rs β):Rs β:=match x with
 |.ok a=>f a
 |.exc e=>.exc e
 |.bad=>.bad
inductive Rt where
 | mv (R:List Nat)
 | sh (R:List Nat)
noncomputable def Rt.roots:Rt→List Nat
 |.mv R=>R
 |.sh R=>R
inductive Tg where
 | own | lk | sh (R:List Nat)
noncomputable abbrev Slot:=Option (D×Tg)
noncomputable abbrev En:=List Slot
noncomputable def lim:Nat:=1000000
inductive lG where
 | nm (i:Nat) | tp (is:List Nat)
inductive AZ where
 | len | list | tuple | int | str | abs | min2 | max2 | all | any | sum | isi (T:String) | sorted | bool | lrev | lrng | divm | maxd
inductive Mth where
 | sfind | sindex | sjoin | ssplit | lindex | lcount | szfill | scount | sstarts
inductive rY where
 | append | extend | insert | pop | kY | reverse | clear
mutual
inductive Ex where
 | var (i:Nat)
 | cst (d:D)
 | glb (k:Nat)
 | bin (op:Operator) (a b:Ex)
 | neg (a:Ex)
 | cmp (op:CmpOp) (a b:Ex)
 | chn (op op':CmpOp) (a b c:Ex)
 | and (a b:Ex)
 | or (a b:Ex)
 | not (a:Ex)
 | ite (c a b:Ex)
 | lst (es:lT)
 | tup (es:lT)
 | ix (a i:Ex)
 | sl (a:Ex) (lo hi:nt)
 | call (f:Nat) (es:lT)
 | blt (b:AZ) (es:lT)
 | mth (m:Mth) (o:Ex) (es:lT)
 | comp (own:Nat) (pick:List Nat) (t:lG) (it:rT) (c:nt) (e:Ex)
inductive lT where
 | nil | cons (e:Ex) (es:lT)
inductive nt where
 | none | some (e:Ex)
inductive rT where
 | seq (e:Ex) | rng1 (a:Ex) | rng2 (a b:Ex) | rng3 (a b c:Ex) | enum (e:Ex) | zip (a b:Ex) | rev (e:Ex)
end
mutual
inductive St where
 | asg (t:lG) (e:Ex) (mv:Bool)
 | mut (x:Nat) (path:nt) (m:rY) (es:lT)
 | setix (x:Nat) (path:nt) (i:Ex) (e:Ex)
 | aug (x:Nat) (op:Operator) (e:Ex)
 | popa (y x:Nat) (es:lT)
 | apop (y x:Nat) (es:lT)
 | expr (e:Ex)
 | ite (c:Ex) (a b:bF)
 | forr (t:lG) (it:rT) (b:bF)
 | forw (x:Nat) (e:Ex) (b:bF)
 | whl (c:Ex) (b:bF)
 | ret (e:Ex)
 | retN | brk | cnt | pass
inductive bF where
 | nil | cons (s:St) (r:bF)
end
noncomputable def ck (n:Nat) (d:D):Option D:=if n≤lim then some d else none
noncomputable def small (i:Int):Bool:=decide (-(2 ^ 64)<i∧i<2 ^ 64)
noncomputable def binI:Operator→Int→Int→Option Int
 |.Add,i,j=>some (i+j)
 |.Sub,i,j=>some (i - j)
 |.Mult,i,j=>if small i || small j then some (i*j) else none
 |.FloorDiv,i,j=>if 0<j∧j<1073741824 then some (i / j) else none
 |.Mod,i,j=>if 0<j then some (i%j) else none
 |.Pow,i,j=>if 0≤j∧j≤1000000∧i.natAbs<2 ^ 64 then some (i ^ j.toNat) else none
 |.LShift,i,j=>if 0≤j∧j≤1000000∧i.natAbs<2 ^ 64 then some (i*2 ^ j.toNat) else none
 |.RShift,i,j=>if 0≤j then some (i / 2 ^ j.toNat) else none
 |.BitAnd,i,j=>some (Builtin.bitAnd i j)
 |.BitOr,i,j=>some (Builtin.bitOr i j)
 |.BitXor,i,j=>some (Builtin.bitXor i j)
 |_,_,_=>none
noncomputable def FT (op:Operator) (a:List D):D→Option D
 |.lst b=>(match op with
  |.Add=>ck (a.length+b.length) (.lst (a++b))
  |_=>none)
 |.int k=>(match op with
  |.Mult=>if -(2 ^ 63)≤k∧k<2 ^ 63 then (if D.flats a then ck (a.length*k.toNat) (.lst (List.replicate k.toNat a).flatten) else none) else none
  |_=>none)
 |_=>none
noncomputable def nF (op:Operator):D→D→Option D
 |.int i,y=>(match y with
  |.int j=>(binI op i j).map .int
  |_=>none)
 |.lst a,y=>FT op a y
 |_,_=>none
noncomputable def nJ:List D→Option (List Int)
 |[]=>some []
 |.int i::r=>(nJ r).map (i :: ·)
 |_::_=>none
noncomputable def inD (x:D):D→Option Bool
 |.lst ys=>if x.ja&&ys.all D.ja then some (ys.any fun y=>D.eqs y x) else none
 |_=>none
noncomputable def B0:D→Bool
 |.non=>true
 |_=>false
noncomputable def lI (f:Int→Int→Bool):D→D→Option Bool
 |.int i,y=>(match y with
  |.int j=>some (f i j)
  |_=>none)
 |_,_=>none
noncomputable def isD (x:D):D→Option Bool
 |.non=>some (B0 x)
 |_=>none
noncomputable def iU:CmpOp→D→D→Option Bool
 |.Lt,x,y=>lI (fun i j=>decide (i<j)) x y
 |.LtE,x,y=>lI (fun i j=>decide (i≤j)) x y
 |.Gt,x,y=>lI (fun i j=>decide (j<i)) x y
 |.GtE,x,y=>lI (fun i j=>decide (j≤i)) x y
 |.Eq,x,y=>D.eqf 40 x y
 |.NotEq,x,y=>(D.eqf 40 x y).map (!·)
 |.In,x,y=>inD x y
 |.NotIn,x,y=>(inD x y).map (!·)
 |.Is,x,y=>isD x y
 |.IsNot,x,y=>(isD x y).map (!·)
noncomputable def truth:D→Option Bool
 |.bl b=>some b
 |.int i=>some (i != 0)
 |.lst xs=>some (!xs.isEmpty)
 |.tup xs=>some (!xs.isEmpty)
 |.non=>some false
noncomputable def jy (n:Nat) (i:Int):Option Nat:=if 0≤i then (if i<n then some i.toNat else none) else if -(n:Int)≤i then some (i+n).toNat else none
noncomputable def cF (n d:Nat):Option Int→Nat
 |none=>d
 |some v=>if v<0 then (v+(n:Int)).toNat else min v.toNat n
noncomputable def cut {α:Type}(xs:List α) (lo hi:Option Int):List α :=
 let a:=cF xs.length 0 lo
 (xs.drop a).take (cF xs.length xs.length hi - a)
noncomputable def EU:D→D→Option D
 |.lst xs,.int i=>(jy xs.length i).bind fun j=>xs[j]?
 |.tup xs,.int i=>(jy xs.length i).bind fun j=>xs[j]?
 |_,_=>none
noncomputable def slD:D→Option Int→Option Int→Option D
 |.lst xs,lo,hi=>some (.lst (cut xs lo hi))
 |_,_,_=>none
noncomputable def D.inner:D→Bool
 |.lst xs=>D.flats xs
 |.tup xs=>D.flats xs
 |_=>true
noncomputable def ji (d:D) (R:List Nat):Rt:=if d.inner then .mv [] else .sh R
noncomputable def r8 (d:D) (r:Rt):Rt:=if d.flat then .mv [] else .sh r.roots
noncomputable def eM:List Rt→Option (List Nat)
 |[]=>some []
 |.mv R::r=>(eM r).map (R ++ ·)
 |.sh _::_=>none
noncomputable def aZ (l:List Rt):List Nat:=(l.map Rt.roots).flatten
noncomputable def pI (l:List Rt):Rt:=match eM l with
 |some R=>if R.Nodup then .mv R else .sh R
 |none=>.sh (aZ l)
noncomputable def xZ (T:String):D→Bool
 |.non=>T == "NoneType"
 |.bl _=>T == "bool" || T == "int"
 |.int _=>T == "int"
 |.lst _=>T == "list"
 |.tup _=>T == "tuple"
noncomputable def D.isBl:D→Bool
 |.bl _=>true
 |_=>false
noncomputable def allB:List D→Option Bool
 |[]=>some true
 |.bl b::r=>if b then allB r else some false
 |_::_=>none
noncomputable def anyB:List D→Option Bool
 |[]=>some false
 |.bl b::r=>if b then some true else anyB r
 |_::_=>none
noncomputable def Gf:Int→List D→Option Int
 |a,[]=>some a
 |a,.int i::r=>Gf (a+i) r
 |_,_::_=>none
noncomputable def BX:Int→List D→Option Int
 |a,[]=>some a
 |a,.int i::r=>BX (if i > a then i else a) r
 |_,_::_=>none
noncomputable def bC:Int→Int→Nat→List D
 |_,_,0=>[]
 |a,s,n+1=>.int a::bC (a+s) s n
noncomputable def fJ (i:Int):Bool:=decide (-(2 ^ 62)≤i∧i<2 ^ 62)
noncomputable def insI (a:Int):List Int→List Int
 |[]=>[a]
 |b::l=>if a≤b then a::b::l else b::insI a l
noncomputable def eQ:List Int→List Int
 |[]=>[]
 |a::l=>insI a (eQ l)
noncomputable def zT:List D→Option D
 |[.lst xs]=>match nJ xs with
  |some ns=>if ns.length<64 then some (.lst ((eQ ns).map .int)) else none
  |none=>none
 |_=>none
noncomputable def G4:List D→Option D
 |[.lst xs]=>some (.int xs.length)
 |[.tup xs]=>some (.int xs.length)
 |_=>none
noncomputable def Eh:List D→Option D
 |[.lst xs]=>some (.lst xs)
 |[.tup xs]=>some (.lst xs)
 |_=>none
noncomputable def A3:List D→Option D
 |[.lst xs]=>some (.tup xs)
 |_=>none
noncomputable def FJ:List D→Option D
 |[.int i]=>some (.int (if i<0 then -i else i))
 |_=>none
noncomputable def Eu:List D→Option D
 |[.int i,.int j]=>some (.int (if j<i then j else i))
 |_=>none
noncomputable def CL:List D→Option D
 |[.int i,.int j]=>some (.int (if j > i then j else i))
 |_=>none
noncomputable def BQ:List D→Option D
 |[.lst xs]=>if xs.all D.isBl then (allB xs).map .bl else none
 |_=>none
noncomputable def Fw:List D→Option D
 |[.lst xs]=>if xs.all D.isBl then (anyB xs).map .bl else none
 |_=>none
noncomputable def Gd:List D→Option D
 |[.lst xs]=>(Gf 0 xs).map .int
 |_=>none
noncomputable def GN (T:String):List D→Option D
 |[d]=>some (.bl (xZ T d))
 |_=>none
noncomputable def EN:List D→Option D
 |[.lst xs]=>some (.lst xs.reverse)
 |_=>none
noncomputable def tD:List D→Option D
 |[.int n]=>if fJ n=true∧n≤1000000 then some (.lst (bC 0 1 n.toNat)) else none
 |[.int a,.int b]=>if fJ a=true∧fJ b=true∧b - a≤1000000 then some (.lst (bC a 1 (b - a).toNat)) else none
 |_=>none
noncomputable def Fk:List D→Option D
 |[.int i]=>some (.int i)
 |[.bl b]=>some (.int (if b then 1 else 0))
 |_=>none
noncomputable def CA:List D→Option D
 |[.int i,.int j]=>if 0<j∧j<1073741824 then some (.tup [.int (i / j),.int (i%j)]) else none
 |_=>none
noncomputable def Dl:List D→Option D
 |[.lst [],.int d]=>some (.int d)
 | [.lst (.int i::r),.int _]=>(BX i r).map .int
 |_=>none
noncomputable def lF:AZ→List D→Option D
 |.sorted,ds=>zT ds
 |.len,ds=>G4 ds
 |.list,ds=>Eh ds
 |.tuple,ds=>A3 ds
 |.abs,ds=>FJ ds
 |.min2,ds=>Eu ds
 |.max2,ds=>CL ds
 |.all,ds=>BQ ds
 |.any,ds=>Fw ds
 |.sum,ds=>Gd ds
 |.isi T,ds=>GN T ds
 |.lrev,ds=>EN ds
 |.lrng,ds=>tD ds
 |.int,ds=>Fk ds
 |.divm,ds=>CA ds
 |.maxd,ds=>Dl ds
 |_,_=>none
noncomputable def FK (k:Int):List D→Option Nat
 |[]=>some 0
 |.int i::r=>(FK k r).map fun c=>if i==k then c+1 else c
 |_::_=>none
noncomputable def mthD:Mth→D→List D→Option D
 |.sindex,.lst xs,[.int k]=>(nJ xs).bind fun ns=>if k∈ns∧ns.length≤lim then some (.int ((ns.idxOf k:Nat):Int)) else none
 |.lcount,.lst xs,[.int k]=>(FK k xs).map fun (c:Nat)=>.int (c:Int)
 |_,_,_=>none
noncomputable def Tg.drop (i:Nat):Tg→Tg
 |.sh R=>.sh (R.filter (· != i))
 |t=>t
noncomputable def cG (d:D) (R:List Nat):Tg:=if d.flat then .own else .sh R
noncomputable def put (env:En) (i:Nat) (d:D) (t:Tg):En:=(env.map fun (s:Slot)=>s.map fun (p:D×Tg)=>(p.1,p.2.drop i)).set i (some (d,t))
noncomputable def jr (R:List Nat):Tg→Bool
 |.sh Q=>Q.any fun q=>R.contains q
 |_=>false
noncomputable def kill (R:List Nat) (env:En):En:=env.mapIdx fun i (s:Slot)=>match s with
 | some (d,t)=>if R.contains i || jr R t then none else some (d,t)
 |none=>none
noncomputable def bW (env:En) (R:List Nat):Bool:=R.all fun i=>match env[i]? with
 | some (some (_,.own))=>true
 |_=>false
noncomputable def bindM (f:D→Tg):List Nat→List D→En→Option En
 |[],[],env=>some env
 |i::is,d::ds,env=>if i<env.length then bindM f is ds (put env i d (f d)) else none
 |_,_,_=>none
noncomputable def aW (R:List Nat):lG→D→En→Option En
 |.nm i,d,env=>if i<env.length then some (put env i d (cG d R)) else none
 |.tp is,.tup ds,env=>bindM (fun d=>cG d R) is ds env
 |_,_,_=>none
structure Tb where
 cl:Nat→List D→Rs (D×Bool)
 gl:Nat→D
 fuel:Nat
noncomputable def gO {α:Type}:Option α→Rs α
 |some a=>.ok a
 |none=>.bad
noncomputable def Ec:D→Option (List D)
 |.lst xs=>some xs
 |.tup xs=>some xs
 |_=>none
noncomputable def oQ:D→Option (List D)
 |.lst xs=>some xs
 |_=>none
noncomputable def dJ (f:D→Rs (Option (D×Rt))):List D→Rs (List (D×Rt))
 |[]=>.ok []
 |d::r=>(f d).bind fun o=>(dJ f r).bind fun l=>.ok (match o with
  |some p=>p::l
  |none=>l)
noncomputable def aX (o:Option En) (c:En→Rs Bool) (e:En→Rs (D×Rt)):Rs (Option (D×Rt)):=match o with
 |none=>.bad
 |some env=>(c env).bind fun k=>if k then (e env).bind fun q=>.ok (some q) else .ok none
noncomputable def eT:Rt→Bool
 |.mv []=>true
 |_=>false
noncomputable def bG (i:Nat):Tg→List Nat
 |.own=>[i]
 |.lk=>[i]
 |.sh R=>R
noncomputable def n5 (env:En) (pick:List Nat):List Nat:=(pick.map fun j=>match env[j]? with
 | some (some (_,t))=>bG j t
 |_=>[]).flatten
noncomputable def aL (env:En) (own:Nat) (pick:List Nat):En:=List.replicate own none++pick.map fun i=>match env[i]? with
 | some (some (d,_))=>some (d,.sh [])
 |_=>none
mutual
noncomputable def ev (T:Tb):Ex→En→Rs (D×Rt)
 |.var i,env=>match env[i]? with
  | some (some (d,t))=>.ok (d,if d.flat then .mv [] else match t with
   |.own=>.mv [i]
   |.lk=>.mv [i]
   |.sh R=>.sh R)
  |_=>.bad
 |.cst d,_=>.ok (d,.mv [])
 |.glb k,_=>.ok (T.gl k,.mv [])
 |.bin op a b,env=>(ev T a env).bind fun p=>(ev T b env).bind fun q=>(gO (nF op p.1 q.1)).bind fun d=>.ok (d,ji d (p.2.roots++q.2.roots))
 |.neg a,env=>(ev T a env).bind fun p=>match p.1 with
  |.int i=>.ok (.int (-i),.mv [])
  |_=>.bad
 |.cmp op a b,env=>(ev T a env).bind fun p=>(ev T b env).bind fun q=>(gO (iU op p.1 q.1)).bind fun c=>.ok (.bl c,.mv [])
 |.chn op op' a b c,env=>(ev T a env).bind fun p=>(ev T b env).bind fun q=>(gO (iU op p.1 q.1)).bind fun k =>
   if k then (ev T c env).bind fun r=>(gO (iU op' q.1 r.1)).bind fun k'=>.ok (.bl k',.mv []) else .ok (.bl false,.mv [])
 |.and a b,env=>(ev T a env).bind fun p=>match p.1 with
  |.bl true=>ev T b env
  |.bl false=>.ok (.bl false,.mv [])
  |_=>.bad
 |.or a b,env=>(ev T a env).bind fun p=>match p.1 with
  |.bl true=>.ok (.bl true,.mv [])
  |.bl false=>ev T b env
  |_=>.bad
 |.not a,env=>(ev T a env).bind fun p=>match p.1 with
  |.bl k=>.ok (.bl (!k),.mv [])
  |_=>.bad
 |.ite c a b,env=>(ev T c env).bind fun p=>(gO (truth p.1)).bind fun k=>if k then ev T a env else ev T b env
 |.lst es,env=>(bK T es env).bind fun l=>if l.length≤lim then .ok (.lst (l.map (·.1)),pI (l.map (·.2))) else .bad
 |.tup es,env=>(bK T es env).bind fun l=>if l.length≤lim then .ok (.tup (l.map (·.1)),pI (l.map (·.2))) else .bad
 |.ix a i,env=>(ev T a env).bind fun p=>(ev T i env).bind fun q=>(gO (EU p.1 q.1)).bind fun d=>.ok (d,r8 d p.2)
 |.sl a lo hi,env=>(ev T a env).bind fun p=>(mH T lo env).bind fun l=>(mH T hi env).bind fun h=>(gO (slD p.1 l h)).bind fun d=>.ok (d,ji d p.2.roots)
 |.call f es,env=>(bK T es env).bind fun l=>(T.cl f (l.map (·.1))).bind fun r=>.ok (r.1,if r.2 then .mv [] else .sh (aZ (l.map (·.2))))
 |.blt b es,env=>(bK T es env).bind fun l=>(gO (lF b (l.map (·.1)))).bind fun d=>.ok (d,ji d (aZ (l.map (·.2))))
 |.mth m o es,env=>(ev T o env).bind fun p=>(bK T es env).bind fun l=>(gO (mthD m p.1 (l.map (·.1)))).bind fun d=>.ok (d,ji d (p.2.roots++aZ (l.map (·.2))))
 |.comp own pick t it c e,env=>(fQ T it env).bind fun p=>(dJ (fun d=>aX (aW [] t d (aL env own pick)) (mQ T c) (ev T e)) p.1).bind fun l =>
    if p.1.length≤lim then .ok (.lst (l.map (·.1)),if l.all (fun q=>q.1.flat || eT q.2) then .mv [] else .sh (p.2++n5 env pick)) else .bad
noncomputable def bK (T:Tb):lT→En→Rs (List (D×Rt))
 |.nil,_=>.ok []
 |.cons e es,env=>(ev T e env).bind fun p=>(bK T es env).bind fun l=>.ok (p::l)
noncomputable def mH (T:Tb):nt→En→Rs (Option Int)
 |.none,_=>.ok none
 |.some e,env=>(ev T e env).bind fun p=>match p.1 with
  |.int i=>.ok (some i)
  |_=>.bad
noncomputable def mQ (T:Tb):nt→En→Rs Bool
 |.none,_=>.ok true
 |.some e,env=>(ev T e env).bind fun p=>gO (truth p.1)
noncomputable def fQ (T:Tb):rT→En→Rs (List D×List Nat)
 |.seq e,env=>(ev T e env).bind fun p=>(gO (Ec p.1)).bind fun l=>.ok (l,p.2.roots)
 |.rng1 a,env=>(ev T a env).bind fun p=>match p.1 with
  |.int j=>if fJ j then .ok (bC 0 1 j.toNat,[]) else .bad
  |_=>.bad
 |.rng2 a b,env=>(ev T a env).bind fun p=>(ev T b env).bind fun q=>match p.1,q.1 with
  |.int i,.int j=>if fJ i&&fJ j then .ok (bC i 1 (j - i).toNat,[]) else .bad
  |_,_=>.bad
 |.rng3 a b c,env=>(ev T a env).bind fun p=>(ev T b env).bind fun q=>(ev T c env).bind fun r=>match p.1,q.1,r.1 with
  |.int i,.int j,.int k=>if fJ i&&fJ j&&k != 0&&decide (k.natAbs<1073741824) then .ok (bC i k (Builtin.Range.rangeSize i j k).toNat,[]) else .bad
  |_,_,_=>.bad
 |.enum e,env=>(ev T e env).bind fun p=>(gO (oQ p.1)).bind fun l=>.ok (l.zipIdx.map fun q=>.tup [.int q.2,q.1],p.2.roots)
 |.zip a b,env=>(ev T a env).bind fun p=>(ev T b env).bind fun q=>(gO (oQ p.1)).bind fun l=>(gO (oQ q.1)).bind fun m=>.ok ((l.zip m).map fun z=>.tup [z.1,z.2],p.2.roots++q.2.roots)
 |.rev e,env=>(ev T e env).bind fun p=>(gO (oQ p.1)).bind fun l=>.ok (l.reverse,p.2.roots)
end
noncomputable def D.at1:D→Option Int→Option (List D)
 |.lst xs,none=>some xs
 |.lst xs,some i=>(jy xs.length i).bind fun j=>match xs[j]? with
  | some (.lst ys)=>some ys
  |_=>none
 |.tup xs,some i=>(jy xs.length i).bind fun j=>match xs[j]? with
  | some (.lst ys)=>some ys
  |_=>none
 |_,_=>none
noncomputable def D.set1:D→Option Int→List D→D
 |.lst _,none,n=>.lst n
 |.lst xs,some i,n=>match jy xs.length i with
  |some j=>.lst (xs.set j (.lst n))
  |none=>.lst xs
 |.tup xs,some i,n=>match jy xs.length i with
  |some j=>.tup (xs.set j (.lst n))
  |none=>.tup xs
 |d,_,_=>d
noncomputable def yi:rY→List D→List D→Option (List D)
 |.append,xs,[d]=>some (xs ++ [d])
 |.extend,xs,[.lst ys]=>if D.flats ys then some (xs++ys) else none
 |.insert,xs,[.int i,d]=>if -(2 ^ 63)≤i∧i<2 ^ 63 then some (xs.take (cF xs.length 0 (some i))++d::xs.drop (cF xs.length 0 (some i))) else none
 |.pop,xs,[]=>if xs.isEmpty then none else some xs.dropLast
 |.reverse,xs,[]=>some xs.reverse
 |.clear,_,[]=>some []
 |_,_,_=>none
noncomputable def kY (xs:List D) (j:Nat):Option (D×List D):=match xs[j]? with
 |some r=>if r.flat then some (r,xs.eraseIdx j) else none
 |none=>none
noncomputable def pX (xs:List D):List D→Option (D×List D)
 |[]=>kY xs (xs.length - 1)
 |[.int i]=>if -(2 ^ 63)≤i∧i<2 ^ 63 then (jy xs.length i).bind (kY xs) else none
 |_=>none
inductive Fl where
 | nx (env:En) | rt (d:D) (fr:Bool) | bk (env:En) | ct (env:En) | xc (e:Exc) (env:En) | bad
noncomputable def Au:Option En→Fl
 |some env=>.nx env
 |none=>.bad
noncomputable def kO (t:lG) (mv:Bool) (env:En) (p:D×Rt):Fl:=match t with
 |.nm i=>if i<env.length then (match p.2 with
  |.mv []=>.nx (put env i p.1 .own)
  |.mv R=>if mv then (if bW env R then .nx (put (kill R env) i p.1 .own) else .bad) else .nx (put env i p.1 (.sh (R.filter (· != i))))
  |.sh R=>.nx (put env i p.1 (.sh (R.filter (· != i))))) else .bad
 |.tp is=>match p.1 with
  |.tup ds=>match p.2 with
   |.mv []=>Au (bindM (fun _=>.own) is ds env)
   |r=>if is.all (fun i=>!r.roots.contains i) then Au (bindM (fun d=>cG d r.roots) is ds env) else .bad
  |_=>.bad
noncomputable def Fl.andThen (f:Fl) (k:En→Fl):Fl:=match f with
 |.nx env=>k env
 |x=>x
noncomputable def iI {α:Type}(env:En) (x:Rs α) (k:α→Fl):Fl:=match x with
 |.ok a=>k a
 |.exc e=>.xc e env
 |.bad=>.bad
noncomputable def bD (t:lG) (R:List Nat) (b:En→Fl):List D→En→Fl
 |[],env=>.nx env
 |d::r,env=>match aW R t d env with
  |none=>.bad
  |some env'=>match b env' with
   |.nx e=>bD t R b r e
   |.ct e=>bD t R b r e
   |.bk e=>.nx e
   |x=>x
noncomputable def Ct (x:Nat) (b:En→Fl):List D→En→Fl
 |[],env=>.nx env
 |d::r,env=>if x<env.length then (match b (put env x d .own) with
  |.nx e=>Ct x b r e
  |_=>.bad) else .bad
noncomputable def iT (c:En→Rs Bool) (b:En→Fl):Nat→En→Fl
 |0,_=>.bad
 |n+1,env=>iI env (c env) fun k=>if k then (match b env with
   |.nx e=>iT c b n e
   |.ct e=>iT c b n e
   |.bk e=>.nx e
   |x=>x) else .nx env
noncomputable def lock (R:List Nat) (env:En):En:=env.mapIdx fun i (s:Slot)=>match s with
 | some (d,.own)=>if R.contains i then some (d,.lk) else some (d,.own)
 |s=>s
noncomputable def unlock (R:List Nat) (env0 env:En):En:=env.mapIdx fun i (s:Slot)=>match s with
 | some (d,.lk)=>match env0[i]? with
  | some (some (_,.own))=>if R.contains i then some (d,.own) else some (d,.lk)
  |_=>some (d,.lk)
 |s=>s
noncomputable def rY.copies:rY→Bool
 |.extend=>true
 |_=>false
noncomputable def dF (x:Nat) (path:Option Int) (env:En) (d:D) (ys:List D) (rs:List Rt):Fl:=match eM rs with
 |none=>.bad
 |some R=>if R.Nodup&&bW env R && !R.contains x&&decide (ys.length≤lim) then .nx ((kill (x::R) env).set x (some (d.set1 path ys,.own))) else .bad
noncomputable def ownAt (env:En) (x:Nat):Option D:=match env[x]? with
 | some (some (d,.own))=>some d
 |_=>none
noncomputable def augI:Operator→Int→Int→Option Int
 |.Add,i,j=>some (i+j)
 |.Sub,i,j=>some (i - j)
 |_,_,_=>none
noncomputable def augE (op:Operator) (x:Nat) (a:Int) (env:En) (p:D×Rt):Fl:=match p.1 with
 |.int b=>(match augI op a b with
  |some c=>kO (.nm x) false env (.int c,.mv [])
  |none=>.bad)
 |_=>.bad
noncomputable def intAt (env:En) (x:Nat):Option Int:=match env[x]? with
 | some (some (.int a,_))=>some a
 |_=>none
mutual
noncomputable def bE (T:Tb):St→En→Fl
 |.asg t e mv,env=>iI env (ev T e env) (kO t mv env)
 |.mut x path m es,env=>match ownAt env x with
  |none=>.bad
  |some d=>iI env (mH T path env) fun p=>match d.at1 p with
   |none=>.bad
   |some xs=>iI env (bK T es env) fun l=>match yi m xs (l.map (·.1)) with
    |none=>.bad
    |some ys=>if (aZ (l.map (·.2))).contains x then .bad else dF x p env d ys (if m.copies then [] else l.map (·.2))
 |.setix x path i e,env=>match ownAt env x with
  |none=>.bad
  |some d=>iI env (ev T e env) fun v=>iI env (mH T path env) fun p=>match d.at1 p with
   |none=>.bad
   |some xs=>iI env (ev T i env) fun q=>match q.1 with
    |.int i=>(match jy xs.length i with
     |none=>.bad
     |some j=>dF x p env d (xs.set j v.1) [v.2])
    |_=>.bad
 |.aug x op e,env=>match intAt env x with
  |none=>.bad
  |some a=>iI env (ev T e env) (augE op x a env)
 |.popa y x es,env=>match ownAt env x with
  |none=>.bad
  |some d=>(match d.at1 none with
   |none=>.bad
   |some xs=>iI env (bK T es env) fun l=>match pX xs (l.map (·.1)) with
    |none=>.bad
    |some q=>(dF x none env d q.2 []).andThen fun e=>kO (.nm y) false e (q.1,.mv []))
 |.apop y x es,env=>if y=x then .bad else match ownAt env x with
  |none=>.bad
  |some d=>(match d.at1 none with
   |none=>.bad
   |some xs=>iI env (bK T es env) fun l=>match pX xs (l.map (·.1)) with
    |none=>.bad
    |some q=>(dF x none env d q.2 []).andThen fun e=>match ownAt e y with
     |none=>.bad
     |some dy=>(match dy.at1 none with
      |none=>.bad
      |some ys=>dF y none e dy (ys ++ [q.1]) []))
 |.expr e,env=>iI env (ev T e env) fun _=>.nx env
 |.ite c a b,env=>iI env (ev T c env) fun p=>match truth p.1 with
  |some true=>aC T a env
  |some false=>aC T b env
  |none=>.bad
 |.forr t it b,env=>iI env (fQ T it env) fun p=>(match bD t p.2 (aC T b) p.1 (lock p.2 env) with
  |.nx e=>.nx (unlock p.2 env e)
  |x=>x)
 |.forw x e b,env=>iI env (ev T e env) fun p=>match p with
  | (.lst xs,.mv [])=>Ct x (aC T b) xs env
  |_=>.bad
 |.whl c b,env=>iT (fun env=>(ev T c env).bind fun p=>gO (truth p.1)) (aC T b) T.fuel env
 |.ret e,env=>iI env (ev T e env) fun p=>.rt p.1 (match p.2 with
  |.mv R=>bW env R
  |.sh _=>false)
 |.retN,_=>.rt .non true
 |.brk,env=>.bk env
 |.cnt,env=>.ct env
 |.pass,env=>.nx env
noncomputable def aC (T:Tb):bF→En→Fl
 |.nil,env=>.nx env
 |.cons s r,env=>(bE T s env).andThen (aC T r)
end
structure Fn where
 ps:Nat
 slots:Nat
 body:bF
noncomputable def aF (ds:List D) (n:Nat):En:=ds.map (fun d=>some (d,cG d []))++List.replicate (n - ds.length) none
noncomputable def run (fns:List Fn) (gl:Nat→D) (fuel:Nat):Nat→Nat→List D→Rs (D×Bool)
 |0,_,_=>.bad
 |n+1,f,ds=>match fns[f]? with
  |none=>.bad
  |some F=>if ds.length=F.ps then (match aC ⟨run fns gl fuel n,gl,fuel⟩ F.body (aF ds F.slots) with
   |.rt d fr=>.ok (d,fr)
   |.nx _=>.ok (.non,true)
   |.xc e _=>.exc e
   |_=>.bad) else .bad
end Pc
end
section
namespace Pc
open PySem L2
noncomputable abbrev Frag:=PySem.W.Frag
inductive nH:List DictEntry→List (Key×Option Int)→Prop where
 | nil:nH [] []
 | cons {e:DictEntry}{es:List DictEntry}{k v:Int}{kvs:List (Key×Option Int)}{t u:Tok}(hh:e.hash=hashInt k) (hk:e.key = .int k t) (hv:e.val = .int v u) (r:nH es kvs):nH (e::es) ((.inl k,some v)::kvs)
 | si {e:DictEntry}{es:List DictEntry}{k:Str}{v:Int}{kvs:List (Key×Option Int)}{t u:Tok}(hk:e.key = .str k t) (hv:e.val = .int v u) (r:nH es kvs):nH (e::es) ((.inr k,some v)::kvs)
 | sn {e:DictEntry}{es:List DictEntry}{k:Str}{kvs:List (Key×Option Int)}{t:Tok}(hk:e.key = .str k t) (hv:e.val = .none) (r:nH es kvs):nH (e::es) ((.inr k,none)::kvs)
noncomputable def wO (w:World) (K:Frag):Prop:=∀ a o es ep,K.lookup a=some o→o.data = .dict es ep→∀ kvs,nH es.toList kvs→∀ e∈es.toList,∀ s t,e.key = .str s t→(a==sysModules)=false∧e.hash=hashStr w s
inductive ML where
 | l (vs:List V) | k (kvs:List (Key×V)) | t (kvs:List (List Key×V))
noncomputable def ML.o:ML→HO
 |.l vs=>.lst vs
 |.k kvs=>.dK kvs
 |.t kvs=>.dT kvs
noncomputable def ER:List V→Bool
 |[.int _,.int _]=>true
 |_=>false
noncomputable def qb (K:Frag) (H:Hp) (a:Addr) (xs:List V):Prop :=
 H a=some (.tup xs) ∨
  ER xs=false∧∃(o:Obj) (its:Array Value) (n:Nat),K.lookup a=some o∧o.cls = .type "tuple"∧o.data = .seq its n∧its.size≤sizeLine∧aQ xs its.toList
theorem qb.sq {K:Frag}{H:Hp}{a:Addr}{xs:List V}(h:qb K H a xs):nK K H a xs:=h.imp .inl And.right
mutual
inductive Rep (K:Frag) (H:Hp):D→V→List Addr→Prop where
 | non:Rep K H .non .non []
 | bl (b:Bool):Rep K H (.bl b) (.bl b) []
 | int (i:Int):Rep K H (.int i) (.int i) []
 | lst {p:Addr}{vs:List V}{ds:List D}{G:List Addr}(h:Rd H p (.lst vs)) (r:aI K H ds vs G):Rep K H (.lst ds) (.ref p) (p::G)
 | tup {p:Addr}{vs:List V}{ds:List D}{G:List Addr}(h:qb K H p vs) (r:aI K H ds vs G):Rep K H (.tup ds) (.ref p) G
inductive aI (K:Frag) (H:Hp):List D→List V→List Addr→Prop where
 | nil:aI K H [] [] []
 | cons {d:D}{v:V}{ds:List D}{vs:List V}{G G':List Addr}(h:Rep K H d v G) (r:aI K H ds vs G'):aI K H (d::ds) (v::vs) (G++G')
end
theorem AM {H H':Hp}{b:Addr}(k:∀ u:HO,H b=some u→H' b=some u) {o:HO}(h:Rd H b o):Rd H' b o:=by
 rcases h with h | ⟨u,h⟩
 ·exact .inl (k _ h)
 ·exact .inr ⟨u,k _ h⟩
noncomputable def Ff (H H':Hp):Prop:=∀ b o u,H b=some (.frz o u)→H' b=some (.frz o u)
section
variable {K:Frag}{H H':Hp}
theorem Rep.keep (t:∀ b vs,qb K H b vs→qb K H' b vs) (z:Ff H H') {d:D}{v:V}{G:List Addr}(h:Rep K H d v G):(∀ b∈G,∀ u:HO,H b=some u→H' b=some u)→Rep K H' d v G :=
 Rep.rec (motive_1:=fun d v G _=>(∀ b∈G,∀ u:HO,H b=some u→H' b=some u)→Rep K H' d v G) (motive_2:=fun ds vs G _=>(∀ b∈G,∀ u:HO,H b=some u→H' b=some u)→aI K H' ds vs G)
  (fun _=>.non) (fun b _=>.bl b) (fun i _=>.int i) (fun h _ ih k=>.lst (AM (k _ ag) h) (ih fun b hb=>k b (aa _ hb)))
  (fun h _ ih k=>.tup (t _ _ h) (ih k))
  (fun _=>.nil) (fun _ _ i1 i2 k=>.cons (i1 fun b hb=>k b (ay _ hb)) (i2 fun b hb=>k b (ao _ hb))) h
theorem aI.keep (t:∀ b vs,qb K H b vs→qb K H' b vs) (z:Ff H H') {ds:List D}{vs:List V}{G:List Addr}(h:aI K H ds vs G):(∀ b∈G,∀ u:HO,H b=some u→H' b=some u)→aI K H' ds vs G :=
 aI.rec (motive_1:=fun d v G _=>True) (motive_2:=fun ds vs G _=>(∀ b∈G,∀ u:HO,H b=some u→H' b=some u)→aI K H' ds vs G)
  trivial (fun _=>trivial) (fun _=>trivial) (fun _ _ _=>trivial) (fun _ _ _=>trivial)
  (fun _=>.nil) (fun h _ _ i2 k=>.cons (Rep.keep t z h fun b hb=>k b (ay _ hb)) (i2 fun b hb=>k b (ao _ hb))) h
theorem aN.rd (e:aN H H') {b:Addr}{o:HO}(h:Rd H b o):Rd H' b o:=by
 rcases h with h | ⟨u,h⟩
 ·exact .inl (e _ _ h)
 ·exact .inr ⟨u,e _ _ h⟩
theorem aN.tqT (e:aN H H') {b:Addr}{vs:List V}(h:qb K H b vs):qb K H' b vs:=by
 rcases h with h | h
 ·exact .inl (e _ _ h)
 ·exact .inr h
theorem aN.sqT (e:aN H H') {b:Addr}{vs:List V}(h:nK K H b vs):nK K H' b vs:=by
 rcases h with h | h
 ·exact .inl (aN.rd e h)
 ·exact .inr h
theorem Rep.same (e:aN H H') {d:D}{v:V}{G:List Addr}(h:Rep K H d v G):Rep K H' d v G:=h.keep (fun _ _=>aN.tqT e) (fun _ _ _ h=>e _ _ h) fun _ _ _ h=>e _ _ h
theorem aI.same (e:aN H H') {d:List D}{v:List V}{G:List Addr}(h:aI K H d v G):aI K H' d v G:=h.keep (fun _ _=>aN.tqT e) (fun _ _ _ h=>e _ _ h) fun _ _ _ h=>e _ _ h
theorem Rep.flat {d:D}{v:V}{G:List Addr}(h:Rep K H d v G):d.flat=true→G=[] :=
 Rep.rec (motive_1:=fun d v G _=>d.flat=true→G=[]) (motive_2:=fun ds vs G _=>D.flats ds=true→G=[])
  (fun _=>rfl) (fun _ _=>rfl) (fun _ _=>rfl) (fun _ _ _ f=>by simp[D.flat] at f) (fun _ _ ih f=>ih (by simpa[D.flat] using f))
  (fun _=>rfl) (fun _ _ i1 i2 f=>by
   simp only[D.flats,Bool.and_eq_true] at f;rw[i1 f.1,i2 f.2];rfl) h
theorem aI.flat {ds:List D}{vs:List V}{G:List Addr}(h:aI K H ds vs G):D.flats ds=true→G=[] :=
 aI.rec (motive_1:=fun d v G _=>True) (motive_2:=fun ds vs G _=>D.flats ds=true→G=[])
  trivial (fun _=>trivial) (fun _=>trivial) (fun _ _ _=>trivial) (fun _ _ _=>trivial)
  (fun _=>rfl) (fun h _ _ i2 f=>by
   simp only[D.flats,Bool.and_eq_true] at f;rw[Rep.flat h f.1,i2 f.2];rfl) h
theorem Rep.live {d:D}{v:V}{G:List Addr}(h:Rep K H d v G):∀ a∈G,∃ vs:ML,Rd H a vs.o :=
 Rep.rec (motive_1:=fun d v G _=>∀ a∈G,∃ vs:ML,Rd H a vs.o) (motive_2:=fun ds vs G _=>∀ a∈G,∃ vs:ML,Rd H a vs.o)
  (fun _ h=>(nomatch h)) (fun _ _ h=>(nomatch h)) (fun _ _ h=>(nomatch h)) (fun h _ ih a m=>(et.mp m).elim (fun e=>e ▸ ⟨.l _,h⟩) (ih a)) (fun _ _ ih=>ih)
  (fun _ h=>(nomatch h)) (fun _ _ i1 i2 a m=>(iy.mp m).elim (i1 a) (i2 a)) h
theorem aI.live {ds:List D}{vs:List V}{G:List Addr}(h:aI K H ds vs G):∀ a∈G,∃ vs:ML,Rd H a vs.o :=
 aI.rec (motive_1:=fun d v G _=>True) (motive_2:=fun ds vs G _=>∀ a∈G,∃ vs:ML,Rd H a vs.o)
  trivial (fun _=>trivial) (fun _=>trivial) (fun _ _ _=>trivial) (fun _ _ _=>trivial)
  (fun _ h=>(nomatch h)) (fun h _ _ i2 a m=>(iy.mp m).elim (Rep.live h a) (i2 a)) h
theorem Rd.ne_none {a:Addr}{u:HO}(h:Rd H a u):H a≠none:=by
 rcases h with h | ⟨o,h⟩<;>rw[h]<;>simp
theorem Rep.nn {d:D}{v:V}{G:List Addr}(h:Rep K H d v G) {a:Addr}(m:a∈G):H a≠none:=let ⟨_,q⟩:=h.live a m;Rd.ne_none q
theorem aI.nn {d:List D}{v:List V}{G:List Addr}(h:aI K H d v G) {a:Addr}(m:a∈G):H a≠none:=let ⟨_,q⟩:=h.live a m;Rd.ne_none q
theorem aI.len:∀{ds:List D}{vs:List V}{G:List Addr},aI K H ds vs G→ds.length=vs.length
 |_,_,_,.nil=>rfl
 |_,_,_,.cons _ r=>by simp[aI.len r]
theorem aI.get:∀{ds:List D}{vs:List V}{G:List Addr}{i:Nat}{d:D},aI K H ds vs G→ds[i]? = some d→∃ v G',vs[i]? = some v∧Rep K H d v G'∧G'.Sublist G
 |_,_,_,_,_,.nil,e=>by simp at e
 | _,_,_,0,_,.cons h r,e=>by
  simp at e;subst e;exact⟨_,_,rfl,h,List.sublist_append_left _ _⟩
 | _,_,_,i+1,d,.cons h r,e=>by
  obtain⟨v,G',a,b,c⟩:=aI.get (i:=i) (d:=d) r (by simpa using e);exact⟨v,G',by simpa using a,b,c.trans (List.sublist_append_right _ _)⟩
theorem aI.append:∀{ds es:List D}{vs us:List V}{G G':List Addr},aI K H ds vs G→aI K H es us G'→aI K H (ds++es) (vs++us) (G++G')
 |_,_,_,_,_,_,.nil,s=>s
 | _,_,_,_,_,_,.cons h r,s=>by
  rw[ek];exact .cons h (aI.append r s)
theorem aI.take:∀{ds:List D}{vs:List V}{G:List Addr}(n:Nat),aI K H ds vs G→∃ G',aI K H (ds.take n) (vs.take n) G'∧G'.Sublist G
 |_,_,_,0,_=>⟨[],by simpa using .nil,by simp⟩
 |_,_,_,_+1,.nil=>⟨[],by simpa using .nil,by simp⟩
 | _,_,_,n+1,.cons h r=>by
  obtain⟨G',a,b⟩:=aI.take n r;exact⟨_,by simpa using .cons h a,List.Sublist.append (List.Sublist.refl _) b⟩
theorem aI.drop:∀{ds:List D}{vs:List V}{G:List Addr}(n:Nat),aI K H ds vs G→∃ G',aI K H (ds.drop n) (vs.drop n) G'∧G'.Sublist G
 |_,_,_,0,r=>⟨_,by simpa using r,List.Sublist.refl _⟩
 |_,_,_,_+1,.nil=>⟨[],by simpa using .nil,by simp⟩
 | _,_,_,n+1,.cons h r=>by
  obtain⟨G',a,b⟩:=aI.drop n r;exact⟨_,by simpa using a,b.trans (List.sublist_append_right _ _)⟩
theorem aI.split:∀{ds:List D}{vs:List V}{G:List Addr}{i:Nat}{d:D},aI K H ds vs G→ds[i]? = some d→∃ v G1 G' G2,vs[i]? = some v∧G=G1++(G'++G2)∧Rep K H d v G' ∧
  ∀(H':Hp) (d':D) (v':V) (N:List Addr),(∀ b vs,qb K H b vs→qb K H' b vs)→Ff H H'→(∀ b∈G1++G2,∀ u:HO,H b=some u→H' b=some u)→Rep K H' d' v' N→aI K H' (ds.set i d') (vs.set i v') (G1++(N++G2))
 |_,_,_,_,_,.nil,e=>by simp at e
 | _,_,_,0,_,.cons (G:=G) (G':=G') h r,e=>by
  simp at e;subst e;refine⟨_,[],_,_,rfl,rfl,h,fun H' d' v' N t z k n=>?_⟩;show aI K H' (_::_) (_::_) (N++G');exact .cons n (r.keep t z fun b hb=>k b (by simpa using hb))
 | _,_,_,i+1,d,.cons (G:=G) (G':=G') h r,e=>by
  obtain⟨v,G1,Gi,G2,a,b,c,f⟩:=aI.split (i:=i) (d:=d) r (by simpa using e);refine⟨v,G++G1,Gi,G2,by simpa using a,by rw[b];simp,c,fun H' d' v' N t z k n=>?_⟩;have q:=aI.cons (h.keep t z fun b hb=>k b (by simp[hb])) (f H' d' v' N t z (fun b hb=>k b (by simp at hb ⊢;exact Or.inr hb)) n);rw[←ek] at q;exact q
end
noncomputable def bJ:Tg→Bool
 |.own=>true
 |.lk=>true
 |.sh _=>false
structure RE (K:Frag) (P:Addr→Prop) (env:En) (σ:L2.St) (H:Hp) (F:Nat→List Addr):Prop where
 len:env.length=σ.length
 val:∀ i d t,env[i]? = some (some (d,t))→∃ v,σ[i]? = some (some v)∧Rep K H d v (F i)
 emp:∀ i,(∀ d t,env[i]?≠some (some (d,t)))→F i=[]
 one:∀ i d t,env[i]? = some (some (d,t))→bJ t=true→(F i).Nodup∧(∀ a∈F i,∃ vs:ML,H a=some vs.o) ∧
  ∀ a∈F i,∀ j d' t',env[j]? = some (some (d',t'))→a∈F j→i∈bG j t'
 wr:∀ i d,env[i]? = some (some (d,.own))→∀ a∈F i,¬ P a
 pl:∀ a,P a→H a≠none
structure bY (env:En) (F:Nat→List Addr) (H:Hp) (r:Rt) (H':Hp) (G:List Addr):Prop where
 cont:∀ a∈G,H a=none∨∃ i d t,a∈F i∧env[i]? = some (some (d,t))∧∀ q∈bG i t,q∈r.roots
 mv:∀ R,r = .mv R→G.Nodup∧(∀ a∈G,∃ vs:ML,H' a=some vs.o)∧∀ a∈G,H a=none∨∃ i d t,i∈R∧a∈F i∧env[i]? = some (some (d,t))∧bJ t=true
theorem bY.nil {env:En}{F:Nat→List Addr}{H H':Hp}{r:Rt}:bY env F H r H' []:=⟨fun _ h=>(nomatch h),fun _ _=>⟨bz,fun _ h=>(nomatch h),fun _ h=>(nomatch h)⟩⟩
theorem RE.same {K:Frag}{P:Addr→Prop}{env:En}{σ:L2.St}{H H':Hp}{F:Nat→List Addr}(r:RE K P env σ H F) (e:aN H H'):RE K P env σ H' F where
 len:=r.len
 val:=fun i d t h=>let ⟨v,a,b⟩:=r.val i d t h;⟨v,a,b.same e⟩
 emp:=r.emp
 one:=fun i d t h o=>let ⟨a,b,c⟩:=r.one i d t h o;⟨a,fun x hx=>let ⟨vs,q⟩:=b x hx;⟨vs,e _ _ q⟩,c⟩
 wr:=r.wr
 pl:=fun a h z=>by
  cases q:H a with
  |none=>exact r.pl a h q
  |some o=>rw[e _ _ q] at z;cases z
theorem aN.no {H H':Hp}(e:aN H H') {a:Addr}(h:H' a=none):H a=none:=by
 cases q:H a with
 |none=>rfl
 |some o=>rw[e _ _ q] at h;cases h
theorem bY.back {env:En}{F:Nat→List Addr}{H H1 H':Hp}{r:Rt}{G:List Addr}(h:bY env F H1 r H' G) (e:aN H H1):bY env F H r H' G where
 cont:=fun a ha=>(h.cont a ha).imp (aN.no e) id
 mv:=fun R hr=>let ⟨a,b,c⟩:=h.mv R hr;⟨a,b,fun x hx=>(c x hx).imp (aN.no e) id⟩
theorem bY.later {env:En}{F:Nat→List Addr}{H H1 H':Hp}{r:Rt}{G:List Addr}(h:bY env F H r H1 G) (e:aN H1 H'):bY env F H r H' G where
 cont:=h.cont
 mv:=fun R hr=>let ⟨a,b,c⟩:=h.mv R hr;⟨a,fun x hx=>let ⟨vs,q⟩:=b x hx;⟨vs,e _ _ q⟩,c⟩
theorem bY.part {env:En}{F:Nat→List Addr}{H H':Hp}{r r':Rt}{G G':List Addr}(h:bY env F H r H' G) (hs:∀ a∈G',a∈G) (hr:∀ q∈r.roots,q∈r'.roots) (hn:∀ R,r'≠.mv R):bY env F H r' H' G' where
 cont:=fun a ha=>(h.cont a (hs a ha)).imp id fun ⟨i,d,t,x,y,z⟩=>⟨i,d,t,x,y,fun q hq=>hr q (z q hq)⟩
 mv:=fun R e=>absurd e (hn R)
noncomputable def qH (F:Nat→List Addr) (i:Nat) (G:List Addr):Nat→List Addr:=fun j=>if j=i then G else F j
theorem eP {F:Nat→List Addr}{i:Nat}{G:List Addr}:qH F i G i=G:=if_pos rfl
theorem eD {F:Nat→List Addr}{i j:Nat}{G:List Addr}(h:j≠i):qH F i G j=F j:=if_neg h
theorem sy (env:En) (i:Nat) (d:D) (t:Tg):(put env i d t).length=env.length:=by simp[put]
theorem eB {env:En}{i:Nat}{d:D}{t:Tg}(h:i<env.length):(put env i d t)[i]? = some (some (d,t)):=by
 unfold put;rw[List.getElem?_set_self (by simpa using h)]
theorem y6 {env:En}{i j:Nat}{d:D}{t:Tg}(h:j≠i):(put env i d t)[j]? = (env[j]?).map fun s=>s.map fun p=>(p.1,p.2.drop i):=by
 unfold put;rw[List.getElem?_set_ne (cj h),List.getElem?_map]
theorem iP {env:En}{i j:Nat}{d d':D}{t t':Tg}(h:j≠i) (e:(put env i d t)[j]? = some (some (d',t'))):∃ t0,env[j]? = some (some (d',t0))∧t'=t0.drop i:=by
 rw[y6 h] at e;cases q:env[j]? with
 |none=>rw[q] at e;cases e
 |some s =>
  rw[q] at e;cases s with
  |none=>cases e
  |some p =>
   obtain⟨a,b⟩:=p;simp only[Option.map_some,Option.some.injEq,Prod.mk.injEq] at e;obtain⟨rfl,rfl⟩:=e;exact⟨b,rfl,rfl⟩
theorem lz (t:Tg) (i:Nat):bJ (t.drop i)=bJ t:=by cases t<;>rfl
theorem lK {t:Tg}{i j k:Nat}(h:k∈bG j t) (hk:k≠i):k∈bG j (t.drop i):=by
 cases t with
 |own=>exact h
 |lk=>exact h
 |sh R =>
  simp only[bG,Tg.drop,List.mem_filter] at h ⊢;exact⟨h,by simpa using hk⟩
section
variable {K:Frag}{P:Addr→Prop}{env:En}{σ:L2.St}{H:Hp}{F:Nat→List Addr}
theorem RE.nn (re:RE K P env σ H F) {j:Nat}{d:D}{t:Tg}(h:env[j]? = some (some (d,t))) {a:Addr}(m:a∈F j):H a≠none:=let ⟨_,_,r⟩:=re.val j d t h;r.nn m
theorem RE.at' (re:RE K P env σ H F) {j:Nat}{a:Addr}(m:a∈F j):∃ d t,env[j]? = some (some (d,t)):=by
 by_cases h:∃ d t,env[j]? = some (some (d,t))
 ·exact h
 ·rw[re.emp j fun d t e=>h ⟨d,t,e⟩] at m;cases m
theorem RE.put (re:RE K P env σ H F) {i:Nat}{d:D}{v:V}{G:List Addr}{t:Tg}(hi:i<env.length) (rp:Rep K H d v G)
  (ho:bJ t=true→G.Nodup∧(∀ a∈G,∃ vs:ML,H a=some vs.o)∧∀ a∈G,∀ j,j≠i→a∉F j) (hw:t = .own→∀ a∈G,¬ P a)
  (hs:∀ a∈G,∀ j d' t',j≠i→env[j]? = some (some (d',t'))→bJ t'=true→a∈F j→j∈bG i t):RE K P (put env i d t) (σ.set i (some v)) H (qH F i G) where
 len:=by rw[sy,aq];exact re.len
 val:=fun j d' t' e=>by
  by_cases h:j=i
  ·subst h;rw[eB hi] at e;cases e;exact⟨v,List.getElem?_set_self (by rw[←re.len];exact hi),by rw[eP];exact rp⟩
  ·obtain⟨t0,e0,rfl⟩:=iP h e;obtain⟨u,a,b⟩:=re.val j d' t0 e0;exact⟨u,by rw[List.getElem?_set_ne (cj h)];exact a,by rw[eD h];exact b⟩
 emp:=fun j h=>by
  by_cases hj:j=i
  ·subst hj;exact absurd (eB hi) (h d t)
  ·rw[eD hj];refine re.emp j fun d' t' e=>h d' (t'.drop i) ?_
   rw[y6 hj,e];rfl
 one:=fun j d' t' e o=>by
  by_cases h:j=i
  ·subst h;rw[eB hi] at e;cases e;obtain⟨a,b,c⟩:=ho o;rw[eP];refine⟨a,b,fun x hx k d2 t2 e2 m=>?_⟩;by_cases hk:k=j
   ·subst hk;rw[eB hi] at e2;cases e2;cases t<;>simp_all [bG,bJ]
   ·rw[eD hk] at m;exact absurd m (c x hx k hk)
  ·obtain⟨t0,e0,rfl⟩:=iP h e;rw[lz] at o;obtain⟨a,b,c⟩:=re.one j d' t0 e0 o;rw[eD h];refine⟨a,b,fun x hx k d2 t2 e2 m=>?_⟩;by_cases hk:k=i
   ·subst hk;rw[eB hi] at e2;cases e2;rw[eP] at m;exact hs x m j d' t0 h e0 o hx
   ·rw[eD hk] at m;obtain⟨t3,e3,rfl⟩:=iP hk e2;exact lK (c x hx k d2 t3 e3 m) h
 wr:=fun j d' e=>by
  by_cases h:j=i
  ·subst h;rw[eB hi] at e;cases e;rw[eP];exact hw rfl
  ·obtain⟨t0,e0,q⟩:=iP h e;rw[eD h];cases t0 with
   |own=>exact re.wr j d' e0
   |lk=>cases q
   |sh R=>cases q
 pl:=re.pl
theorem RE.forget (re:RE K P env σ H F) {env':En}(hl:env'.length=env.length) (he:∀(i:Nat) (d:D) (t:Tg),env'[i]? = some (some (d,t))→env[i]? = some (some (d,t))) :
  RE K P env' σ H (fun i=>match env'[i]? with | some (some _)=>F i | _=>[]) where
 len:=hl.trans re.len
 val:=fun i d t e=>by rw[e];exact re.val i d t (he i d t e)
 emp:=fun i h=>by
  split
  ·rename_i p q;exact absurd q (h p.1 p.2)
  ·rfl
 one:=fun i d t e o=>by
  rw[e];obtain⟨a,b,c⟩:=re.one i d t (he i d t e) o;refine⟨a,b,fun x hx k d2 t2 e2 m=>?_⟩;rw[e2] at m;exact c x hx k d2 t2 (he k d2 t2 e2) m
 wr:=fun i d e=>by rw[e];exact re.wr i d (he i d _ e)
 pl:=re.pl
end
theorem dU (R:List Nat) (env:En):(kill R env).length=env.length:=by simp[kill]
theorem cL {R:List Nat}{env:En}{i:Nat}{d:D}{t:Tg}(e:(kill R env)[i]? = some (some (d,t))):env[i]? = some (some (d,t))∧i∉R∧∀ q∈R,q∉bG i t:=by
 unfold kill at e;rw[List.getElem?_mapIdx] at e;cases q:env[i]? with
 |none=>rw[q] at e;cases e
 |some s =>
  rw[q] at e;cases s with
  |none=>cases e
  |some p =>
   obtain⟨a,b⟩:=p;simp only[Option.map_some,Option.some.injEq] at e;by_cases h:(R.contains i || jr R b)=true
   ·rw[if_pos h] at e;cases e
   ·rw[if_neg h] at e;cases e;rw[f7,not_or] at h;have h1:i∉R:=fun z=>h.1 (by simpa using z)
    refine⟨rfl,h1,fun r hq z=>?_⟩;cases t with
    |own=>simp only[bG,List.mem_singleton] at z;subst z;exact h1 hq
    |lk=>simp only[bG,List.mem_singleton] at z;subst z;exact h1 hq
    |sh Q =>
     apply h.2;simp only[jr,List.any_eq_true];exact⟨r,z,by simpa using hq⟩
section
variable {K:Frag}{P:Addr→Prop}{env:En}{σ:L2.St}{H:Hp}{F:Nat→List Addr}
theorem ko {p b:Addr}{ws vs:List V}{o:HO}(hp:H p=some (.lst ws)) (h:qb K H b vs):qb K (upd H p o) b vs:=by
 rcases h with h | h
 ·exact .inl (by rw[aS];exact h;intro z;subst z;rw[hp] at h;cases h)
 ·exact .inr h
theorem xR {p b:Addr}{ws:ML}{vs:List V}{o:HO}(hp:H p=some ws.o) (h:qb K H b vs):qb K (upd H p o) b vs:=by
 rcases h with h | h
 ·exact .inl (by rw[aS];exact h;intro z;subst z;rw[hp] at h;cases ws<;>cases h)
 ·exact .inr h
theorem CG {p b:Addr}{o o':HO}(hne:b≠p) (h:Rd H b o):Rd (upd H p o') b o:=by
 rcases h with h | ⟨u,h⟩
 ·exact .inl (by rw[aS hne];exact h)
 ·exact .inr ⟨u,by rw[aS hne];exact h⟩
theorem kz {H:Hp}{p:Addr}{ws:ML}{o:HO}(hp:H p=some ws.o):Ff H (L2.upd H p o):=fun b ob u h=>by
 rw[aS fun e=>?_]
 ·exact h
 ·subst e;rw[hp] at h;cases ws<;>cases h
theorem Rep.upd {p:Addr}{ws:List V}{o:HO}{d:D}{v:V}{G:List Addr}(hp:H p=some (.lst ws)) (h:Rep K H d v G) (hn:p∉G):Rep K (upd H p o) d v G :=
 h.keep (fun _ _=>ko hp) (kz (ws:=.l _) hp) fun b hb _ h=>(aS (fun (z:b=p)=>hn (z ▸ hb))).trans h
theorem Rep.updM {p:Addr}{ws:ML}{o:HO}{d:D}{v:V}{G:List Addr}(hp:H p=some ws.o) (h:Rep K H d v G) (hn:p∉G):Rep K (L2.upd H p o) d v G :=
 h.keep (fun _ _=>xR hp) (kz hp) fun b hb _ h=>(aS (fun (z:b=p)=>hn (z ▸ hb))).trans h
theorem aI.upd {p:Addr}{ws:List V}{o:HO}{d:List D}{v:List V}{G:List Addr}(hp:H p=some (.lst ws)) (h:aI K H d v G) (hn:p∉G):aI K (upd H p o) d v G :=
 h.keep (fun _ _=>ko hp) (kz (ws:=.l _) hp) fun b hb _ h=>(aS (fun (z:b=p)=>hn (z ▸ hb))).trans h
noncomputable def rN (F:Nat→List Addr) (env:En) (x:Nat) (R:List Nat) (G:List Addr):Nat→List Addr:=fun j=>if j=x then G else match (kill (x::R) env)[j]? with
 | some (some _)=>F j
 |_=>[]
theorem RE.mutateM (re:RE K P env σ H F) {x:Nat}{d d':D}{v:V}{p:Addr}{vs:ML}{R:List Nat}{N G:List Addr}(hx:env[x]? = some (some (d,.own))) (hv:σ[x]? = some (some v)) (hp:p∈F x)
  (rp:Rep K (upd H p vs.o) d' v G) (nd:G.Nodup) (sub:∀ a∈G,a∈F x∨a∈N)
  (hN:∀ a∈N,(∃ vs:ML,H a=some vs.o)∧¬ P a∧∀(j:Nat) (d:D) (t:Tg),env[j]? = some (some (d,t))→a∈F j→∃ q∈x::R,q∈bG j t) :
  RE K P ((kill (x::R) env).set x (some (d',.own))) σ (upd H p vs.o) (rN F env x R G):=by
 obtain⟨ndx,lsx,onx⟩:=re.one x d .own hx rfl;obtain⟨ws,hpl⟩:=lsx p hp;have hxl:x<(kill (x::R) env).length:=by
  rw[dU];exact (List.getElem?_eq_some_iff.mp hx).1
 have other:∀{j:Nat}{d2:D}{t2:Tg},j≠x→((kill (x::R) env).set x (some (d',.own)))[j]? = some (some (d2,t2))→(kill (x::R) env)[j]? = some (some (d2,t2)):=fun {j d2 t2} hj e=>by
  rw[List.getElem?_set_ne (cj hj)] at e;exact e
 have live:∀ a,(∃ vs:ML,H a=some vs.o)→∃ ws:ML,upd H p vs.o a=some ws.o:=fun a ⟨ws,h⟩=>by
  by_cases z:a=p
  ·subst z;exact⟨vs,bN⟩
  ·exact⟨ws,by rw[aS z];exact h⟩
 have apart:∀{j:Nat}{d2:D}{t2:Tg},j≠x→(kill (x::R) env)[j]? = some (some (d2,t2))→∀ a∈F x,a∉F j:=fun {j d2 t2} hj e a ha hb=>by
  obtain⟨e0,_,h3⟩:=cL e;exact h3 x ag (onx a ha j d2 t2 e0 hb)
 have fj:∀{j:Nat}{d2:D}{t2:Tg},j≠x→(kill (x::R) env)[j]? = some (some (d2,t2))→rN F env x R G j=F j:=fun {j d2 t2} hj e=>by
  unfold rN;rw[if_neg hj,e]
 have fx:rN F env x R G x=G:=if_pos rfl;refine⟨?_,fun j d2 t2 e=>?_,fun j h=>?_,fun j d2 t2 e o=>?_,fun j d2 e=>?_,fun a h=>?_⟩
 ·rw[aq,dU];exact re.len
 ·by_cases hj:j=x
  ·subst hj;rw[List.getElem?_set_self hxl] at e;cases e;exact⟨v,hv,by rw[fx];exact rp⟩
  ·have e1:=other hj e;obtain⟨e0,_,_⟩:=cL e1;obtain⟨u,h1,h2⟩:=re.val j d2 t2 e0;exact⟨u,h1,by rw[fj hj e1];exact h2.updM hpl (apart hj e1 p hp)⟩
 ·by_cases hj:j=x
  ·subst hj;exact absurd (List.getElem?_set_self hxl) (h d' .own)
  ·unfold rN;rw[if_neg hj];split
   ·rename_i q e;exact absurd (by rw[List.getElem?_set_ne (cj hj)];exact e) (h q.1 q.2)
   ·rfl
 ·by_cases hj:j=x
  ·subst hj;rw[List.getElem?_set_self hxl] at e;cases e;rw[fx];refine⟨nd,fun a ha=>live a ?_,fun a ha k d3 t3 e3 m=>?_⟩
   ·rcases sub a ha with q | q
    ·exact lsx a q
    ·exact (hN a q).1
   ·by_cases hk:k=j
    ·subst hk;rw[List.getElem?_set_self hxl] at e3;cases e3;simp[bG]
    ·have e4:=other hk e3;rw[fj hk e4] at m;rcases sub a ha with q | q
     ·exact absurd m (apart hk e4 a q)
     ·obtain⟨e0,_,h3⟩:=cL e4;obtain⟨r,r1,r2⟩:=(hN a q).2.2 k d3 t3 e0 m;exact absurd r2 (h3 r r1)
  ·have e1:=other hj e;obtain⟨e0,_,_⟩:=cL e1;obtain⟨a,b,c⟩:=re.one j d2 t2 e0 o;rw[fj hj e1];refine⟨a,fun y hy=>live y (b y hy),fun y hy k d3 t3 e3 m=>?_⟩;by_cases hk:k=x
   ·subst hk;rw[List.getElem?_set_self hxl] at e3;cases e3;rw[fx] at m;rcases sub y m with q | q
    ·exact absurd hy (apart hj e1 y q)
    ·obtain⟨_,_,h3⟩:=cL e1;obtain⟨r,r1,r2⟩:=(hN y q).2.2 j d2 t2 e0 hy;exact absurd r2 (h3 r r1)
   ·have e4:=other hk e3;rw[fj hk e4] at m;exact c y hy k d3 t3 (cL e4).1 m
 ·by_cases hj:j=x
  ·subst hj;rw[fx];intro a ha;rcases sub a ha with q | q
   ·exact re.wr j d hx a q
   ·exact (hN a q).2.1
  ·have e1:=other hj e;rw[fj hj e1];exact re.wr j d2 (cL e1).1
 ·intro z;by_cases q:a=p
  ·subst q;rw[bN] at z;cases z
  ·rw[aS q] at z;exact re.pl a h z
theorem RE.mutate (re:RE K P env σ H F) {x:Nat}{d d':D}{v:V}{p:Addr}{vs:List V}{R:List Nat}{N G:List Addr}(hx:env[x]? = some (some (d,.own))) (hv:σ[x]? = some (some v)) (hp:p∈F x)
  (rp:Rep K (upd H p (.lst vs)) d' v G) (nd:G.Nodup) (sub:∀ a∈G,a∈F x∨a∈N)
  (hN:∀ a∈N,(∃ vs:ML,H a=some vs.o)∧¬ P a∧∀(j:Nat) (d:D) (t:Tg),env[j]? = some (some (d,t))→a∈F j→∃ q∈x::R,q∈bG j t) :
  RE K P ((kill (x::R) env).set x (some (d',.own))) σ (upd H p (.lst vs)) (rN F env x R G):=re.mutateM (vs:=.l vs) hx hv hp rp nd sub hN
inductive PV (K:Frag) (H:Hp):V→Option Int→Addr→Prop where
 | top (p:Addr):PV K H (.ref p) none p
 | item {q p:Addr}{ws:List V}{i:Int}{j:Nat}(h:Rd H q (.lst ws)∨nK K H q ws) (hj:jy ws.length i=some j) (e:ws[j]? = some (.ref p)):PV K H (.ref q) (some i) p
theorem EB {n:Nat}{i:Int}{j:Nat}(h:jy n i=some j):j<n:=by
 unfold jy at h;split at h
 ·split at h
  ·cases h;omega
  ·cases h
 ·split at h
  ·cases h;omega
  ·cases h
theorem Rep.lst_inv {ds:List D}{v:V}{G:List Addr}(h:Rep K H (.lst ds) v G):∃ p vs G',v = .ref p∧G=p::G'∧Rd H p (.lst vs)∧aI K H ds vs G':=by
 cases h with
 |lst a b=>exact⟨_,_,_,rfl,rfl,a,b⟩
theorem vK {d:D}{v:V}{G:List Addr}{path:Option Int}{xs:List D}(rp:Rep K H d v G) (nd:G.Nodup) (h:d.at1 path=some xs):∃ p,PV K H v path p∧∀ H',aN H H'→(∀ a∈G,∃ vs:ML,H' a=some vs.o) →
  ∃ vs Gx,H' p=some (.lst vs)∧aI K H' xs vs Gx∧p∈G∧(∀ a∈Gx,a∈G)∧Gx.Nodup∧p∉Gx ∧
   ∀ ys us Gy,aI K (upd H' p (.lst us)) ys us Gy→Gy.Nodup→p∉Gy→(∀ a∈Gy,a∈Gx∨a∉G)→∃ G',Rep K (upd H' p (.lst us)) (d.set1 path ys) v G'∧G'.Nodup∧∀ a∈G',a∈G∨a∈Gy:=by
 have rdl:∀{H':Hp}{p:Addr}{vs:List V},(∀ a∈G,∃ vs:ML,H' a=some vs.o)→p∈G→Rd H' p (.lst vs)→H' p=some (.lst vs):=fun {H' p vs} hl hp r=>by
  obtain⟨ws,q⟩:=hl p hp;rcases r with r | ⟨o,r⟩
  ·exact r
  ·rw[q] at r;cases ws<;>cases r
 cases path with
 |none =>
  cases rp with
  |lst hr r =>
   rename_i p vs ds G0;simp only[D.at1,Option.some.injEq] at h;subst h;obtain⟨n1,n2⟩:=iw.mp nd;refine⟨p,.top p,fun H' e hl=>⟨vs,G0,rdl hl ag (aN.rd e hr),r.same e,ag,fun a ha=>aa _ ha,n2,n1,fun ys us Gy ry ny hy hs=>?_⟩⟩;exact⟨p::Gy,.lst (.inl bN) ry,List.nodup_cons.mpr ⟨hy,ny⟩,fun a ha=>(List.mem_cons.mp ha).imp (fun z=>by simp[z]) id⟩
  |_=>simp[D.at1] at h
 |some i =>
  have core:∀{ds:List D}{vs:List V}{G0:List Addr}{j:Nat}{q:Addr},aI K H ds vs G0→(∀ a∈G0,a∈G)→G0.Nodup→(Rd H q (.lst vs)∨nK K H q vs)→v = .ref q→jy ds.length i=some j→ds[j]? = some (.lst xs) →
    ∃ p,PV K H v (some i) p∧∀ H',aN H H'→(∀ a∈G,∃ vs:ML,H' a=some vs.o)→∃ ws Gx,H' p=some (.lst ws)∧aI K H' xs ws Gx∧p∈G0∧(∀ a∈Gx,a∈G0)∧Gx.Nodup∧p∉Gx ∧
     ∀ ys us Gy,aI K (upd H' p (.lst us)) ys us Gy→Gy.Nodup→p∉Gy→(∀ a∈Gy,a∈Gx∨a∉G) →
      ∃ G1,aI K (upd H' p (.lst us)) (ds.set j (.lst ys)) vs G1∧G1.Nodup∧(∀ a∈G1,a∈G0∨a∈Gy):=by
   intro ds vs G0 j q r hs n0 hq hv hj he;obtain⟨w0,g0,e0,r0,_⟩:=r.get he;have hlen:=r.len;obtain⟨p,ws0,Gx0,rfl,_,_,_⟩:=r0.lst_inv
   ·refine⟨p,by rw[hv];exact .item hq (by rw[←hlen];exact hj) e0,fun H' e hl=>?_⟩;obtain⟨w,A,B,C,e1,e2,r1,f⟩:=(r.same e).split he;rw[e0] at e1;cases e1;subst e2;obtain⟨p',ws,Gx,ep,rfl,hr,r2⟩:=r1.lst_inv;cases ep
    ·have hpG:p∈A++(p::Gx++C):=by simp
     rw[eh] at n0;obtain⟨nA,nB,nAB⟩:=n0;rw[eh] at nB;obtain⟨nB1,nC,nBC⟩:=nB;obtain⟨np,nx⟩:=iw.mp nB1;have hpl:=rdl hl (hs p hpG) hr;refine⟨ws,Gx,hpl,r2,hpG,fun a ha=>by simp[ha],nx,np,fun ys us Gy ry ny hy hsy=>?_⟩;have hA:p∉A:=fun z=>nAB p z p (by simp) rfl
     have hC:p∉C:=fun z=>nBC p (by simp) p z rfl
     have e3:=f (upd H' p (.lst us)) (.lst ys) (.ref p) (p::Gy) (fun _ _=>ko hpl) (kz (ws:=.l _) hpl) (fun b hb _ h=>(aS fun (z:b=p)=>by
      subst z;rcases iy.mp hb with hb | hb
      ·exact hA hb
      ·exact hC hb).trans h) (.lst (.inl bN) ry)
     have bK:vs.set j (.ref p)=vs:=by
      obtain⟨hj',ej⟩:=List.getElem?_eq_some_iff.mp e0;rw[←ej,List.set_getElem_self]
     rw[bK] at e3;refine⟨_,e3,?_,fun a ha=>?_⟩
     ·rw[eh];refine⟨nA,?_,fun a ha b hb z=>?_⟩
      ·rw[eh];refine⟨iw.mpr ⟨hy,ny⟩,nC,fun a ha b hb z=>?_⟩;subst z;rcases et.mp ha with rfl | ha
       ·exact hC hb
       ·rcases hsy a ha with q | q
        ·exact nBC a (by simp[q]) a hb rfl
        ·exact q (hs a (by simp[hb]))
      ·subst z;rcases iy.mp hb with hb | hb
       ·rcases et.mp hb with rfl | hb
        ·exact hA ha
        ·rcases hsy a hb with q | q
         ·exact nAB a ha a (by simp[q]) rfl
         ·exact q (hs a (by simp[ha]))
       ·exact nAB a ha a (by simp[hb]) rfl
     ·simp only[List.mem_append,List.mem_cons,List.cons_append] at ha ⊢;rcases ha with ha | ha | ha | ha
      ·exact .inl (.inl ha)
      ·exact .inl (.inr (.inl ha))
      ·exact .inr ha
      ·exact .inl (.inr (.inr (.inr ha)))
  cases rp with
  |lst hr r =>
   rename_i q vs ds G0;simp only[D.at1,Option.bind_eq_some_iff] at h;obtain⟨j,hj,h⟩:=h;have he:ds[j]? = some (.lst xs):=by
    split at h
    ·rename_i ys e;cases h;exact e
    ·cases h
   obtain⟨n1,n2⟩:=iw.mp nd;obtain⟨p,a1,ff⟩:=core r (fun a ha=>aa _ ha) n2 (.inl hr) rfl hj he;refine⟨p,a1,fun H' e hl=>?_⟩;obtain⟨ws,Gx,a2,a3,a4,a5,a6,a7,f⟩:=ff H' e hl;have hqp:q≠p:=fun z=>n1 (by rw[z];exact a4)
   refine⟨ws,Gx,a2,a3,aa _ a4,fun a ha=>aa _ (a5 a ha),a6,a7,fun ys us Gy ry ny hy hs=>?_⟩;obtain⟨G1,b1,b2,b3⟩:=f ys us Gy ry ny hy hs;have es:D.set1 (.lst ds) (some i) ys = .lst (ds.set j (.lst ys)):=by simp[D.set1,hj]
   rw[es];refine⟨q::G1,.lst (CG hqp (aN.rd e hr)) b1,iw.mpr ⟨fun z=>?_,b2⟩,fun a ha=>?_⟩
   ·rcases b3 q z with z | z
    ·exact n1 z
    ·rcases hs q z with z | z
     ·exact n1 (a5 q z)
     ·exact z ag
   ·rcases et.mp ha with rfl | ha
    ·exact .inl ag
    ·exact (b3 a ha).imp (aa _) id
  |tup hr r =>
   rename_i q vs ds;simp only[D.at1,Option.bind_eq_some_iff] at h;obtain⟨j,hj,h⟩:=h;have he:ds[j]? = some (.lst xs):=by
    split at h
    ·rename_i ys e;cases h;exact e
    ·cases h
   obtain⟨p,a1,ff⟩:=core r (fun a ha=>ha) nd (.inr hr.sq) rfl hj he;refine⟨p,a1,fun H' e hl=>?_⟩;obtain⟨ws,Gx,a2,a3,a4,a5,a6,a7,f⟩:=ff H' e hl;refine⟨ws,Gx,a2,a3,a4,a5,a6,a7,fun ys us Gy ry ny hy hs=>?_⟩;obtain⟨G1,b1,b2,b3⟩:=f ys us Gy ry ny hy hs;have es:D.set1 (.tup ds) (some i) ys = .tup (ds.set j (.lst ys)):=by simp[D.set1,hj]
   rw[es];exact⟨G1,.tup (ko a2 (aN.tqT e hr)) b1,b2,b3⟩
  |_=>simp[D.at1] at h
end
end Pc
end
section
namespace Pc
open PySem L2
structure kq (P:Addr→Prop) (H H':Hp):Prop where
 keep:∀ a,P a→H' a=H a
 tup:∀ b xs,H b=some (.tup xs)→H' b=some (.tup xs)
 fz:Ff H H'
theorem kq.refl {P:Addr→Prop}(H:Hp):kq P H H:=⟨fun _ _=>rfl,fun _ _ h=>h,fun _ _ _ h=>h⟩
theorem kq.trans {P:Addr→Prop}{H H1 H2:Hp}(a:kq P H H1) (b:kq P H1 H2):kq P H H2:=⟨fun x h=>(b.keep x h).trans (a.keep x h),fun x xs h=>b.tup x xs (a.tup x xs h),fun x o u h=>b.fz x o u (a.fz x o u h)⟩
theorem kq.of_same {P:Addr→Prop}{H H':Hp}(pl:∀ a,P a→H a≠none) (e:aN H H'):kq P H H':=⟨fun a h=>by
 cases q:H a with
 |none=>exact absurd q (pl a h)
 |some o=>exact e _ _ q,fun _ _=>e _ _,fun _ _ _ h=>e _ _ h⟩
theorem kq.weak {P P':Addr→Prop}{H H':Hp}(h:∀ a,P a→P' a) (e:kq P' H H'):kq P H H':=⟨fun a x=>e.keep a (h a x),e.tup,e.fz⟩
theorem kq.tqT {K:Frag}{P:Addr→Prop}{H H':Hp}(e:kq P H H') {b:Addr}{vs:List V}(h:qb K H b vs):qb K H' b vs:=by
 rcases h with h | h
 ·exact .inl (e.tup b vs h)
 ·exact .inr h
theorem kq.reps {K:Frag}{P:Addr→Prop}{H H':Hp}(e:kq P H H') {ds:List D}{vs:List V}{G:List Addr}(h:aI K H ds vs G) (hp:∀ a∈G,P a):aI K H' ds vs G :=
 h.keep (fun _ _=>e.tqT) e.fz fun b hb _ r=>(e.keep b (hp b hb)).trans r
noncomputable def sW (env:En) (F:Nat→List Addr) (env':En) (F':Nat→List Addr):Prop:=∀(i:Nat) (d:D),env'[i]? = some (some (d,.lk))→env[i]? = some (some (d,.lk))∧F' i=F i
theorem sW.refl (env:En) (F:Nat→List Addr):sW env F env F:=fun _ _ h=>⟨h,rfl⟩
theorem sW.trans {e1 e2 e3:En}{F1 F2 F3:Nat→List Addr}(a:sW e1 F1 e2 F2) (b:sW e2 F2 e3 F3):sW e1 F1 e3 F3:=fun i d h=>by
 obtain⟨h1,h2⟩:=b i d h;obtain⟨h3,h4⟩:=a i d h1;exact⟨h3,h2.trans h4⟩
structure After (K:Frag) (P Z:Addr→Prop) (env:En) (F:Nat→List Addr) (H:Hp) (env':En) (σ':L2.St) (H':Hp) (F':Nat→List Addr):Prop where
 re:RE K P env' σ' H' F'
 z:∀ i,∀ a∈F' i,Z a
 ev:kq P H H'
 lk:sW env F env' F'
theorem After.trans {K:Frag}{P Z:Addr→Prop}{e1 e2 e3:En}{F1 F2 F3:Nat→List Addr}{H1 H2 H3:Hp}{σ2 σ3:L2.St}(a:After K P Z e1 F1 H1 e2 σ2 H2 F2) (b:After K P Z e2 F2 H2 e3 σ3 H3 F3):After K P Z e1 F1 H1 e3 σ3 H3 F3 :=
 ⟨b.re,b.z,a.ev.trans b.ev,a.lk.trans b.lk⟩
noncomputable def post (K:Frag) (P Z:Addr→Prop) (env:En) (F:Nat→List Addr) (H:Hp) (D:Ends):Fl→Prop
 |.nx env'=>∀ σ' H' F',After K P Z env F H env' σ' H' F'→D.nx σ' H'
 |.bk env'=>∀ σ' H' F',After K P Z env F H env' σ' H' F'→D.bk σ' H'
 |.ct env'=>∀ σ' H' F',After K P Z env F H env' σ' H' F'→D.ct σ' H'
 |.rt d fr=>∀ v H' G,Rep K H' d v G→kq P H H'→(∀ a∈G,Z a)→(fr=true→G.Nodup∧∀ a∈G,¬ P a∧∃ vs:ML,H' a=some vs.o)→D.rt v H'
 |.xc _ _=>False
 |.bad=>False
theorem post.trans {K:Frag}{P Z:Addr→Prop}{e1 e2:En}{F1 F2:Nat→List Addr}{H1 H2:Hp}{σ2:L2.St}{D:Ends}(a:After K P Z e1 F1 H1 e2 σ2 H2 F2):∀{f:Fl},post K P Z e1 F1 H1 D f→post K P Z e2 F2 H2 D f
 |.nx _,h=>fun σ' H' F' b=>h σ' H' F' (a.trans b)
 |.bk _,h=>fun σ' H' F' b=>h σ' H' F' (a.trans b)
 |.ct _,h=>fun σ' H' F' b=>h σ' H' F' (a.trans b)
 |.rt _ _,h=>fun v H' G r e z f=>h v H' G r (a.ev.trans e) z f
 |.xc _ _,h=>h
 |.bad,h=>h
section
variable {K:Frag}{P Z:Addr→Prop}{env:En}{σ:L2.St}{H:Hp}{F:Nat→List Addr}
theorem mM {i:Nat}{d:D}{t:Tg}{G:List Addr}(hi:i<env.length) (ht:t≠.lk):sW env F (put env i d t) (qH F i G):=fun j d' e=>by
 by_cases h:j=i
 ·subst h;rw[eB hi] at e;cases e;exact absurd rfl ht
 ·obtain⟨t0,e0,q⟩:=iP h e;cases t0 with
  |lk=>exact⟨e0,eD h⟩
  |own=>cases q
  |sh R=>cases q
theorem nW {i:Nat}{G:List Addr}(hz:∀ i,∀ a∈F i,Z a) (hg:∀ a∈G,Z a):∀ j,∀ a∈qH F i G j,Z a:=fun j a ha=>by
 by_cases h:j=i
 ·subst h;rw[eP] at ha;exact hg a ha
 ·rw[eD h] at ha;exact hz j a ha
theorem zx {H':Hp}{D:Ends}{i:Nat}{mv:Bool}{p:Pc.D×Rt}{v:V}{G:List Addr}(re:RE K P env σ H F) (hz:∀ i,∀ a∈F i,Z a) (zp:∀ a,¬ P a→Z a) (e:aN H H') (rp:Rep K H' p.1 v G) (rt:bY env F H p.2 H' G)
  (h:post K P Z env F H D (kO (.nm i) mv env p)):D.nx (σ.set i (some v)) H':=by
 have re':=re.same e;have ez:∀ a∈G,Z a:=fun a ha=>by
  rcases rt.cont a ha with q | ⟨j,_,_,f,_⟩
  ·exact zp a fun z=>re.pl a z q
  ·exact hz j a f
 have mH:=kq.of_same (P:=P) re.pl e;unfold kO at h;by_cases hi:i<env.length
 ·simp only[hi,if_true] at h;have shared:∀ R,p.2.roots=R→post K P Z env F H D (.nx (put env i p.1 (.sh (R.filter (· != i)))))→D.nx (σ.set i (some v)) H':=fun R hR h=>by
   refine h _ H' (qH F i G) ⟨re'.put hi rp (fun o=>by cases o) (fun o=>by cases o) fun a ha j d' t' hj ej o m=>?_,nW hz ez,mH,mM hi (by intro z;cases z)⟩;rcases rt.cont a ha with q | ⟨k,d2,t2,f,e2,s⟩
   ·exact absurd q (re.nn ej m)
   ·have:=s j ((re.one j d' t' ej o).2.2 a m k d2 t2 e2 f);rw[hR] at this;simp only[bG,List.mem_filter];exact⟨this,by simpa using hj⟩
  cases hr:p.2 with
  |sh R=>rw[hr] at h;exact shared R (by rw[hr];rfl) h
  |mv R =>
   rw[hr] at h;obtain⟨m1,m2,m3⟩:=rt.mv R hr;cases R with
   |nil =>
    have fresh:∀ a∈G,H a=none:=fun a ha=>by
     rcases m3 a ha with q | ⟨_,_,_,q,_⟩
     ·exact q
     ·cases q
    refine h _ H' (qH F i G) ⟨re'.put hi rp (fun _=>⟨m1,m2,fun a ha j _ m=>?_⟩) (fun _ a ha z=>re.pl a z (fresh a ha)) fun a ha j d' t' hj ej o m=>?_,nW hz ez,mH,mM hi (by intro z;cases z)⟩
    ·obtain⟨d2,t2,e2⟩:=re.at' m;exact re.nn e2 m (fresh a ha)
    ·exact absurd (fresh a ha) (re.nn ej m)
   |cons r0 R0 =>
    cases mv with
    |false=>exact shared _ (by rw[hr];rfl) h
    |true =>
     simp only[if_true] at h;by_cases ho:bW env (r0::R0)=true
     ·rw[if_pos ho] at h;have fg:=re'.forget (env':=kill (r0::R0) env) (dU _ _) fun j d' t' ej=>(cL ej).1
      have ow:∀ k∈r0::R0,∃ d',env[k]? = some (some (d',.own)):=fun k hk=>by
       have:=bw.mp ho k hk;split at this
       ·rename_i d' q;exact⟨d',q⟩
       ·cases this
      have apart:∀ a∈G,∀ j,j≠i→a∉(match (kill (r0::R0) env)[j]? with | some (some _)=>F j | _=>[]):=fun a ha j hj m=>by
       split at m
       ·rename_i q ej;obtain⟨dj,tj⟩:=q;obtain⟨e0,h1,h2⟩:=cL ej;rcases m3 a ha with q | ⟨k,d2,t2,hk,f,e2,o2⟩
        ·exact re.nn e0 m q
        ·exact h2 k hk ((re.one k d2 t2 e2 o2).2.2 a f j dj tj e0 m)
       ·cases m
      refine h _ H' _ ⟨fg.put (by rw[dU];exact hi) rp (fun _=>⟨m1,m2,apart⟩) (fun _ a ha z=>?_) fun a ha j d' t' hj ej o m=>absurd m (apart a ha j hj),nW (fun j a ha=>?_) ez,mH,fun j d' ej=>?_⟩
      ·rcases m3 a ha with q | ⟨k,d2,t2,hk,f,e2,o2⟩
       ·exact re.pl a z q
       ·obtain⟨d3,e3⟩:=ow k hk;exact re.wr k d3 e3 a f z
      ·split at ha
       ·exact hz j a ha
       ·cases ha
      ·by_cases hj:j=i
       ·subst hj;rw[eB (by rw[dU];exact hi)] at ej;cases ej
       ·obtain⟨t0,e0,q⟩:=iP hj ej;cases t0 with
        |lk =>
         refine⟨(cL e0).1,?_⟩;rw[eD hj,e0]
        |own=>cases q
        |sh R=>cases q
     ·rw[if_neg ho] at h;exact h.elim
 ·simp only[hi,if_false] at h;exact h.elim
noncomputable def setM:List Nat→List V→L2.St→L2.St
 |i::is,v::vs,σ=>setM is vs (σ.set i (some v))
 |_,_,σ=>σ
theorem n9:∀{is:List Nat}{ds:List D}{vs:List V}{G:List Addr}{env env':En}{σ:L2.St}{F:Nat→List Addr},RE K P env σ H F→(∀ i,∀ a∈F i,Z a)→aI K H ds vs G→G.Nodup→(∀ a∈G,∃ vs:ML,H a=some vs.o)→(∀ a∈G,¬ P a)→(∀ a∈G,Z a) →
  (∀ a∈G,∀ j,a∉F j)→bindM (fun _=>.own) is ds env=some env'→∃ F',RE K P env' (setM is vs σ) H F'∧(∀ i,∀ a∈F' i,Z a)∧sW env F env' F'∧is.length=vs.length
 | [],_,_,_,env,env',σ,F,re,hz,.nil,_,_,_,_,_,h=>by
  simp only[bindM,Option.some.injEq] at h;subst h;exact⟨F,re,hz,sW.refl _ _,rfl⟩
 | i::is,_,_,_,env,env',σ,F,re,hz,.cons (G:=G1) (G':=G2) r rs,nd,ll,np,gz,ap,h=>by
  simp only[bindM] at h;by_cases hi:i<env.length
  ·rw[if_pos hi] at h;obtain⟨n1,n2,n12⟩:=eh.mp nd;have re1:=re.put (t:=.own) hi r (fun _=>⟨n1,fun a ha=>ll a (ay _ ha),fun a ha j _=>ap a (ay _ ha) j⟩) (fun _ a ha=>np a (ay _ ha)) fun a ha j _ _ _ _ _ m=>absurd m (ap a (ay _ ha) j)
   obtain⟨F',a1,a2,a3,a4⟩:=n9 re1 (nW hz fun a ha=>gz a (ay _ ha)) rs n2 (fun a ha=>ll a (ao _ ha)) (fun a ha=>np a (ao _ ha)) (fun a ha=>gz a (ao _ ha)) (fun a ha j m=>by
    by_cases hj:j=i
    ·subst hj;rw[eP] at m;exact n12 a m a ha rfl
    ·rw[eD hj] at m;exact ap a (ao _ ha) j m) h
   exact⟨F',a1,a2,(mM hi (by intro z;cases z)).trans a3,by simp[a4]⟩
  ·rw[if_neg hi] at h;cases h
 |[],_,_,_,_,_,_,_,_,_,.cons _ _,_,_,_,_,_,h=>by simp[bindM] at h
 |_::_,_,_,_,_,_,_,_,_,_,.nil,_,_,_,_,_,h=>by simp[bindM] at h
theorem rX {d:D}{R:List Nat}:cG d R≠.lk:=by unfold cG;split<;>intro z<;>cases z
theorem uf {i:Nat}{d:D}{v:V}{G:List Addr}{R:List Nat}(re:RE K P env σ H F) (hi:i<env.length) (rp:Rep K H d v G) (hs:∀ a∈G,∀(j:Nat) (d':D) (t':Tg),env[j]? = some (some (d',t'))→bJ t'=true→a∈F j→j∈R) :
  RE K P (put env i d (cG d R)) (σ.set i (some v)) H (qH F i G):=by
 unfold cG;cases hf:d.flat with
 |true =>
  have:G=[]:=rp.flat hf;subst this;simp only[if_true];exact re.put hi rp (fun _=>⟨bz,fun _ h=>(nomatch h),fun _ h=>(nomatch h)⟩) (fun _ _ h=>(nomatch h)) fun _ h=>(nomatch h)
 |false =>
  simp only[Bool.false_eq_true,if_false];exact re.put hi rp (fun o=>by cases o) (fun o=>by cases o) fun a ha j d' t' hj ej o m=>hs a ha j d' t' ej o m
theorem m9 {R:List Nat}:∀{is:List Nat}{ds:List D}{vs:List V}{G:List Addr}{env env':En}{σ:L2.St}{F:Nat→List Addr},RE K P env σ H F→(∀ i,∀ a∈F i,Z a)→aI K H ds vs G→(∀ a∈G,Z a) →
  (∀ a∈G,∀(j:Nat) (d':D) (t':Tg),env[j]? = some (some (d',t'))→bJ t'=true→a∈F j→j∈R)→bindM (fun d=>cG d R) is ds env=some env'→∃ F',RE K P env' (setM is vs σ) H F'∧(∀ i,∀ a∈F' i,Z a)∧sW env F env' F'∧is.length=vs.length
 | [],_,_,_,env,env',σ,F,re,hz,.nil,_,_,h=>by
  simp only[bindM,Option.some.injEq] at h;subst h;exact⟨F,re,hz,sW.refl _ _,rfl⟩
 | i::is,_,_,_,env,env',σ,F,re,hz,.cons (d:=d) (G:=G1) (G':=G2) r rs,gz,hs,h=>by
  simp only[bindM] at h;by_cases hi:i<env.length
  ·rw[if_pos hi] at h;have re1:=uf re hi r fun a ha=>hs a (ay _ ha)
   obtain⟨F',a1,a2,a3,a4⟩:=m9 re1 (nW hz fun a ha=>gz a (ay _ ha)) rs (fun a ha=>gz a (ao _ ha)) (fun a ha j d' t' ej o m=>by
    by_cases hj:j=i
    ·subst hj;rw[eB hi] at ej;simp only[Option.some.injEq,Prod.mk.injEq] at ej;obtain⟨rfl,rfl⟩:=ej;rw[eP] at m;cases hf:d.flat with
     |true=>rw[r.flat hf] at m;cases m
     |false=>simp[cG,hf,bJ] at o
    ·rw[eD hj] at m;obtain⟨t0,e0,rfl⟩:=iP hj ej;rw[lz] at o;exact hs a (ao _ ha) j d' t0 e0 o m) h
   exact⟨F',a1,a2,(mM hi rX).trans a3,by simp[a4]⟩
  ·rw[if_neg hi] at h;cases h
 |[],_,_,_,_,_,_,_,_,_,.cons _ _,_,_,h=>by simp[bindM] at h
 |_::_,_,_,_,_,_,_,_,_,_,.nil,_,_,h=>by simp[bindM] at h
theorem rR (R:List Nat) (env:En):(lock R env).length=env.length:=by simp[lock]
theorem my {R:List Nat}{env:En}{i:Nat}{d:D}{t:Tg}(e:(lock R env)[i]? = some (some (d,t))) :
  (env[i]? = some (some (d,t))∧(t = .own→i∉R))∨(t = .lk∧i∈R∧env[i]? = some (some (d,.own))):=by
 unfold lock at e;rw[List.getElem?_mapIdx] at e;cases q:env[i]? with
 |none=>rw[q] at e;cases e
 |some s =>
  rw[q] at e;cases s with
  |none=>cases e
  |some p =>
   obtain⟨a,b⟩:=p;simp only[Option.map_some,Option.some.injEq] at e;cases b with
   |own =>
    simp only at e;by_cases h:R.contains i=true
    ·rw[if_pos h] at e;cases e;exact .inr ⟨rfl,by simpa using h,rfl⟩
    ·rw[if_neg h] at e;cases e;exact .inl ⟨rfl,fun _ z=>h (by simpa using z)⟩
   |lk=>cases e;exact .inl ⟨rfl,fun z=>by cases z⟩
   |sh Q=>cases e;exact .inl ⟨rfl,fun z=>by cases z⟩
theorem xf {R:List Nat}{env:En}{i:Nat}{d:D}{t:Tg}(e:env[i]? = some (some (d,t))):∃ t',(lock R env)[i]? = some (some (d,t'))∧bJ t'=bJ t∧bG i t'=bG i t:=by
 unfold lock;rw[List.getElem?_mapIdx,e];cases t with
 |own =>
  simp only[Option.map_some];by_cases h:R.contains i=true
  ·exact⟨.lk,by rw[if_pos h],rfl,rfl⟩
  ·exact⟨.own,by rw[if_neg h],rfl,rfl⟩
 |lk=>exact⟨.lk,rfl,rfl,rfl⟩
 |sh Q=>exact⟨.sh Q,rfl,rfl,rfl⟩
theorem fY {R:List Nat}{env:En}{i:Nat}{d:D}{t:Tg}(e:(lock R env)[i]? = some (some (d,t))):∃ t0,env[i]? = some (some (d,t0))∧bJ t0=bJ t∧bG i t0=bG i t:=by
 rcases my e with ⟨h,_⟩ | ⟨rfl,_,h⟩
 ·exact⟨t,h,rfl,rfl⟩
 ·exact⟨.own,h,rfl,rfl⟩
theorem RE.locked (re:RE K P env σ H F) {R:List Nat}{G:List Addr}(hg:∀ a∈G,H a≠none) (hc:∀ a∈G,∀(i:Nat) (d:D) (t:Tg),env[i]? = some (some (d,t))→bJ t=true→a∈F i→i∈R) :
  RE K (fun a=>P a∨a∈G) (lock R env) σ H F where
 len:=(rR R env).trans re.len
 val:=fun i d t e=>let ⟨t0,e0,_⟩:=fY e;re.val i d t0 e0
 emp:=fun i h=>re.emp i fun d t e=>by
  obtain⟨t',e',_⟩:=xf (R:=R) e;exact h d t' e'
 one:=fun i d t e o=>by
  obtain⟨t0,e0,o0,_⟩:=fY e;obtain⟨a,b,c⟩:=re.one i d t0 e0 (o0.trans o);refine⟨a,b,fun x hx j d' t' ej m=>?_⟩;obtain⟨t1,e1,_,s1⟩:=fY ej;rw[←s1];exact c x hx j d' t1 e1 m
 wr:=fun i d e a ha z=>by
  rcases my e with ⟨h,hn⟩ | ⟨q,_⟩
  ·rcases z with z | z
   ·exact re.wr i d h a ha z
   ·exact hn rfl (hc a z i d .own h rfl ha)
  ·cases q
 pl:=fun a h=>h.elim (re.pl a) (hg a)
theorem nz (R:List Nat) (env0 env:En):(unlock R env0 env).length=env.length:=by simp[unlock]
theorem jE {R:List Nat}{env0 env:En}{i:Nat}{d:D}{t:Tg}(e:(unlock R env0 env)[i]? = some (some (d,t))) :
  (env[i]? = some (some (d,t))∧(t = .lk→¬ (i∈R∧∃ d0,env0[i]? = some (some (d0,.own)))))∨(t = .own∧i∈R∧env[i]? = some (some (d,.lk))∧∃ d0,env0[i]? = some (some (d0,.own))):=by
 unfold unlock at e;rw[List.getElem?_mapIdx] at e;cases q:env[i]? with
 |none=>rw[q] at e;cases e
 |some s =>
  rw[q] at e;cases s with
  |none=>cases e
  |some p =>
   obtain⟨a,b⟩:=p;simp only[Option.map_some,Option.some.injEq] at e;cases b with
   |own=>cases e;exact .inl ⟨rfl,fun z=>by cases z⟩
   |sh Q=>cases e;exact .inl ⟨rfl,fun z=>by cases z⟩
   |lk =>
    simp only at e;split at e
    ·rename_i d0 q0;by_cases h:R.contains i=true
     ·rw[if_pos h] at e;cases e;exact .inr ⟨rfl,by simpa using h,rfl,d0,q0⟩
     ·rw[if_neg h] at e;cases e;exact .inl ⟨rfl,fun _ z=>h (by simpa using z.1)⟩
    ·rename_i nq;cases e;exact .inl ⟨rfl,fun _ ⟨_,d0,q0⟩=>nq d0 q0⟩
theorem gK {R:List Nat}{env0 env:En}{i:Nat}{d:D}{t:Tg}(e:(unlock R env0 env)[i]? = some (some (d,t))):∃ t0,env[i]? = some (some (d,t0))∧bJ t0=bJ t∧bG i t0=bG i t:=by
 rcases jE e with ⟨h,_⟩ | ⟨rfl,_,h,_⟩
 ·exact⟨t,h,rfl,rfl⟩
 ·exact⟨.lk,h,rfl,rfl⟩
theorem rZ {R:List Nat}{env0 env:En}{i:Nat}{d:D}{t:Tg}(e:env[i]? = some (some (d,t))):∃ t',(unlock R env0 env)[i]? = some (some (d,t')):=by
 unfold unlock;rw[List.getElem?_mapIdx,e];cases t with
 |own=>exact⟨.own,rfl⟩
 |sh Q=>exact⟨.sh Q,rfl⟩
 |lk =>
  simp only[Option.map_some];split
  ·by_cases h:R.contains i=true
   ·exact⟨.own,by rw[if_pos h]⟩
   ·exact⟨.lk,by rw[if_neg h]⟩
  ·exact⟨.lk,rfl⟩
theorem After.unlocked {R:List Nat}{G:List Addr}{env':En}{σ':L2.St}{H':Hp}{F':Nat→List Addr}(re:RE K P env σ H F) (a:After K (fun a=>P a∨a∈G) Z (lock R env) F H env' σ' H' F'):After K P Z env F H (unlock R env env') σ' H' F' where
 re:={
  len:=(nz R env env').trans a.re.len
  val:=fun i d t e=>let ⟨t0,e0,_⟩:=gK e;a.re.val i d t0 e0
  emp:=fun i h=>a.re.emp i fun d t e=>by
   obtain⟨t',e'⟩:=rZ (R:=R) (env0:=env) e;exact h d t' e'
  one:=fun i d t e o=>by
   obtain⟨t0,e0,o0,_⟩:=gK e;obtain⟨x,y,c⟩:=a.re.one i d t0 e0 (o0.trans o);refine⟨x,y,fun z hz j d' t' ej m=>?_⟩;obtain⟨t1,e1,_,s1⟩:=gK ej;rw[←s1];exact c z hz j d' t1 e1 m
  wr:=fun i d e b hb z=>by
   rcases jE e with ⟨h,_⟩ | ⟨_,hR,h,d0,h0⟩
   ·exact a.re.wr i d h b hb (.inl z)
   ·obtain⟨h1,h2⟩:=a.lk i d h;rw[h2] at hb;exact re.wr i d0 h0 b hb z
  pl:=fun b h=>a.re.pl b (.inl h) }
 z:=a.z
 ev:=a.ev.weak fun _ h=>.inl h
 lk:=fun i d e=>by
  rcases jE e with ⟨h,hn⟩ | ⟨q,_⟩
  ·obtain⟨h1,h2⟩:=a.lk i d h;rcases my h1 with ⟨h3,_⟩ | ⟨_,hR,h3⟩
   ·exact⟨h3,h2⟩
   ·exact absurd ⟨hR,d,h3⟩ (hn rfl)
  ·cases q
end
end Pc
end
section
namespace Pc
open PySem L2
section
variable {K:Frag}{P Z:Addr→Prop}{env:En}{σ:L2.St}{H:Hp}{F:Nat→List Addr}
theorem dR {x:Nat}{d:D}(h:ownAt env x=some d):env[x]? = some (some (d,.own)):=by
 unfold ownAt at h;split at h
 ·rename_i d' q;cases h;exact q
 ·cases h
theorem hV (re:RE K P env σ H F) {x:Nat}{d:D}{path:Option Int}{xs:List D}{v:V}(hx:ownAt env x=some d) (hv:σ[x]? = some (some v)) (h:d.at1 path=some xs) :
  ∃ p,PV K H v path p∧∀ H',aN H H'→∃ ws Gx,H' p=some (.lst ws)∧aI K H' xs ws Gx∧p∈F x∧(∀ a∈Gx,a∈F x)∧Gx.Nodup∧p∉Gx ∧
   ∀ ys us Gy,aI K (upd H' p (.lst us)) ys us Gy→Gy.Nodup→p∉Gy→(∀ a∈Gy,a∈Gx∨a∉F x)→∃ G',Rep K (upd H' p (.lst us)) (d.set1 path ys) v G'∧G'.Nodup∧∀ a∈G',a∈F x∨a∈Gy:=by
 have hx':=dR hx;obtain⟨u,e,rp⟩:=re.val x d .own hx';rw[hv] at e;cases e;obtain⟨a,b,_⟩:=re.one x d .own hx' rfl;obtain⟨p,pv,f⟩:=vK rp a h;exact⟨p,pv,fun H' e=>f H' e fun y hy=>let ⟨ws,q⟩:=b y hy;⟨ws,e _ _ q⟩⟩
theorem oO {D:Ends}{x:Nat}{d:Pc.D}{path:Option Int}{ys:List Pc.D}{rs:List Rt}(h:post K P Z env F H D (dF x path env d ys rs)):ys.length≤lim:=by
 unfold dF at h;cases hR:eM rs with
 |none=>rw[hR] at h;exact h.elim
 |some R =>
  rw[hR] at h;simp only at h;by_cases hc:(decide R.Nodup&&bW env R && !R.contains x&&decide (ys.length≤lim))=true
  ·simp only[Bool.and_eq_true,decide_eq_true_eq] at hc;exact hc.2
  ·rw[if_neg hc] at h;exact h.elim
theorem kj {H1:Hp}{D:Ends}{x:Nat}{d:Pc.D}{path:Option Int}{ys:List Pc.D}{rs:List Rt}{v:V}{p:Addr}{us:List V}{N:List Addr}
  (re:RE K P env σ H F) (hz:∀ i,∀ a∈F i,Z a) (zp:∀ a,¬ P a→Z a) (e:aN H H1) (hx:ownAt env x=some d) (hv:σ[x]? = some (some v)) (hp:p∈F x)
  (hN:∀ R,eM rs=some R→R.Nodup→N.Nodup∧(∀ a∈N,∃ vs:ML,H1 a=some vs.o)∧∀ a∈N,H a=none∨∃ i d t,i∈R∧a∈F i∧env[i]? = some (some (d,t))∧bJ t=true)
  (hset:(∀ a∈N,a∉F x)→N.Nodup→∃ G',Rep K (upd H1 p (.lst us)) (d.set1 path ys) v G'∧G'.Nodup∧∀ a∈G',a∈F x∨a∈N)
  (h:post K P Z env F H D (dF x path env d ys rs)):D.nx σ (upd H1 p (.lst us)):=by
 unfold dF at h;cases hR:eM rs with
 |none=>rw[hR] at h;exact h.elim
 |some R =>
  rw[hR] at h;simp only at h;by_cases hc:(decide R.Nodup&&bW env R && !R.contains x&&decide (ys.length≤lim))=true
  ·rw[if_pos hc] at h;simp only[Bool.and_eq_true,decide_eq_true_eq,Bool.not_eq_true'] at hc;obtain⟨⟨⟨hc1,hc2⟩,hc3⟩,hc4⟩:=hc;have hxR:x∉R:=fun z=>by
    have:R.contains x=true:=by simpa using z
    rw[this] at hc3;cases hc3
   obtain⟨n1,n2,n3⟩:=hN R hR hc1;have hx':=dR hx;have ow:∀ k∈R,∃ d',env[k]? = some (some (d',.own)):=fun k hk=>by
    have:=bw.mp hc2 k hk;split at this
    ·rename_i d' q;exact⟨d',q⟩
    ·cases this
   have notx:∀ a∈N,a∉F x:=fun a ha m=>by
    rcases n3 a ha with q | ⟨i,d2,t2,hi,f,e2,o2⟩
    ·exact re.nn hx' m q
    ·have:=(re.one i d2 t2 e2 o2).2.2 a f x d .own hx' m;simp only[bG,List.mem_singleton] at this;subst this;exact hxR hi
   obtain⟨G',g1,g2,g3⟩:=hset notx n1;have re1:=re.same e;have pP:∀ a∈N,¬ P a:=fun a ha z=>by
    rcases n3 a ha with q | ⟨i,d2,t2,hi,f,e2,o2⟩
    ·exact re.pl a z q
    ·obtain⟨d3,e3⟩:=ow i hi;exact re.wr i d3 e3 a f z
   have re2:=re1.mutate (R:=R) (N:=N) hx' hv hp g1 g2 g3 fun a ha=>⟨n2 a ha,pP a ha,fun j dj tj ej m=>by
    rcases n3 a ha with q | ⟨i,d2,t2,hi,f,e2,o2⟩
    ·exact absurd q (re.nn ej m)
    ·exact⟨i,aa _ hi,(re.one i d2 t2 e2 o2).2.2 a f j dj tj ej m⟩⟩
   obtain⟨_,lsx,_⟩:=re1.one x d .own hx' rfl;obtain⟨ws,hpl⟩:=lsx p hp;have nPp:¬ P p:=re.wr x d hx' p hp;refine h σ _ _ ⟨re2,fun j a ha=>?_,(kq.of_same re.pl e).trans ⟨fun a z=>aS (fun q=>nPp (q ▸ z)),fun b xs r=>?_,kz hpl⟩,fun j dj ej=>?_⟩
   ·unfold rN at ha;split at ha
    ·rcases g3 a ha with q | q
     ·exact hz x a q
     ·exact zp a (pP a q)
    ·split at ha
     ·exact hz j a ha
     ·cases ha
   ·refine (aS (fun q=>?_)).trans r;subst q;rw[hpl] at r;cases ws<;>cases r
   ·by_cases hj:j=x
    ·subst hj;rw[List.getElem?_set_self (by rw[dU];exact (List.getElem?_eq_some_iff.mp hx').1)] at ej;cases ej
    ·rw[List.getElem?_set_ne (cj hj)] at ej;refine⟨(cL ej).1,?_⟩;unfold rN;rw[if_neg hj,ej]
  ·rw[if_neg hc] at h;exact h.elim
end
end Pc
end
section
namespace Pc
open PySem PySem.Spec PyProof.Rows L2
theorem Rs.bind_ok {α β:Type}{x:Rs α}{f:α→Rs β}{b:β}(h:x.bind f = .ok b):∃ a,x = .ok a∧f a = .ok b:=by
 cases x with
 |ok a=>exact⟨a,rfl,h⟩
 |exc e=>cases h
 |bad=>cases h
theorem dD {α:Type}{o:Option α}{a:α}(h:gO o = .ok a):o=some a:=by
 cases o with
 |none=>cases h
 |some b=>cases h;rfl
theorem aN.new {H:Hp}{p:Addr}{o:HO}(h:H p=none):aN H (upd H p o):=fun b u e=>by
 rw[aS];exact e;intro z;subst z;rw[h] at e;cases e
theorem sZ:lim≤sizeLine:=by decide
theorem mV {n:Nat}(h:n≤lim):n≤sizeLine:=bu h sZ
inductive Args (K:Frag) (env:En) (F:Nat→List Addr):Hp→Hp→List (D×Rt)→List V→List Addr→Prop where
 | nil {H H':Hp}(e:aN H H'):Args K env F H H' [] [] []
 | cons {H H1 H':Hp}{p:D×Rt}{v:V}{G G':List Addr}{l:List (D×Rt)}{vs:List V}(e:aN H H1) (r:Rep K H1 p.1 v G) (t:bY env F H p.2 H1 G) (s:Args K env F H1 H' l vs G'):Args K env F H H' (p::l) (v::vs) (G++G')
section
variable {K:Frag}{env:En}{F:Nat→List Addr}
theorem Args.same:∀{H H':Hp}{l:List (D×Rt)}{vs:List V}{G:List Addr},Args K env F H H' l vs G→aN H H'
 |_,_,_,_,_,.nil e=>e
 |_,_,_,_,_,.cons e _ _ s=>e.trans s.same
theorem Args.reps:∀{H H':Hp}{l:List (D×Rt)}{vs:List V}{G:List Addr},Args K env F H H' l vs G→aI K H' (l.map (·.1)) vs G
 |_,_,_,_,_,.nil _=>.nil
 |_,_,_,_,_,.cons _ r _ s=>.cons (r.same s.same) s.reps
theorem Args.cont:∀{H H':Hp}{l:List (D×Rt)}{vs:List V}{G:List Addr},Args K env F H H' l vs G→∀ a∈G,H a=none∨∃ i d t,a∈F i∧env[i]? = some (some (d,t))∧∀ q∈bG i t,q∈aZ (l.map (·.2))
 |_,_,_,_,_,.nil _,a,h=>by cases h
 | _,_,_,_,_,.cons (p:=p) (l:=l) e r t s,a,h=>by
  have e1:aZ ((p::l).map (·.2))=p.2.roots++aZ (l.map (·.2)):=by simp[aZ]
  rw[e1];rcases iy.mp h with h | h
  ·exact (t.cont a h).imp id fun ⟨i,d,t,x,y,z⟩=>⟨i,d,t,x,y,fun q hq=>ay _ (z q hq)⟩
  ·exact (s.cont a h).imp (aN.no e) fun ⟨i,d,t,x,y,z⟩=>⟨i,d,t,x,y,fun q hq=>ao _ (z q hq)⟩
theorem Args.two {H H':Hp}{p q:D×Rt}{x y:V}{G:List Addr}(ar:Args K env F H H' [p,q] [x,y] G) :
  ∃ H1 G1 G2,G=G1++G2∧aN H H1∧Rep K H1 p.1 x G1∧bY env F H p.2 H1 G1∧aN H1 H'∧Rep K H' q.1 y G2:=by
 cases ar with
 |cons e r t s =>
  cases s with
  |cons e' r' t' s' =>
   cases s' with
   |nil e''=>exact⟨_,_,_,by rw[bo],e,r,t,e'.trans e'',r'.same e''⟩
theorem Args.mv {P:Addr→Prop}{σ:L2.St}:∀{H H':Hp}{l:List (D×Rt)}{vs:List V}{G:List Addr}{R:List Nat},RE K P env σ H F→Args K env F H H' l vs G→eM (l.map (·.2))=some R→R.Nodup →
  G.Nodup∧(∀ a∈G,∃ vs:ML,H' a=some vs.o)∧∀ a∈G,H a=none∨∃ i d t,i∈R∧a∈F i∧env[i]? = some (some (d,t))∧bJ t=true
 |_,_,_,_,_,_,_,.nil _,_,_=>⟨bz,fun _ h=>(nomatch h),fun _ h=>(nomatch h)⟩
 | H,_,_,_,_,_,re,.cons (p:=p) (l:=l) (G:=G) (G':=G') e r t s,hm,nd=>by
  obtain⟨d,rt⟩:=p;cases rt with
  |sh Q=>simp[eM] at hm
  |mv R1 =>
   simp only[List.map_cons,eM,Option.map_eq_some_iff] at hm;obtain⟨R2,h2,rfl⟩:=hm;obtain⟨n1,n2,n12⟩:=eh.mp nd;obtain⟨a1,b1,c1⟩:=t.mv R1 rfl;obtain⟨a2,b2,c2⟩:=Args.mv (re.same e) s h2 n2;refine⟨eh.mpr ⟨a1,a2,fun x hx y hy z=>?_⟩,fun x hx=>?_,fun x hx=>?_⟩
   ·subst z;rcases c2 x hy with q | ⟨i2,d2,t2,m2,f2,e2,o2⟩
    ·exact r.nn hx q
    ·rcases c1 x hx with q | ⟨i1,d1,t1,m1,f1,e1,o1⟩
     ·obtain⟨v,_,rp⟩:=re.val i2 d2 t2 e2;exact rp.nn f2 q
     ·have q:=(re.one i1 d1 t1 e1 o1).2.2 x f1 i2 d2 t2 e2 f2;have q':i1=i2:=by cases t2<;>simp_all [bG,bJ]
      exact n12 i1 m1 i2 m2 q'
   ·rcases iy.mp hx with hx | hx
    ·obtain⟨vs,q⟩:=b1 x hx;exact⟨vs,s.same _ _ q⟩
    ·exact b2 x hx
   ·rcases iy.mp hx with hx | hx
    ·exact (c1 x hx).imp id fun ⟨i,d,t,m,z⟩=>⟨i,d,t,ay _ m,z⟩
    ·exact (c2 x hx).imp (aN.no e) fun ⟨i,d,t,m,z⟩=>⟨i,d,t,ao _ m,z⟩
theorem Args.comb {P:Addr→Prop}{σ:L2.St}{H H':Hp}{l:List (D×Rt)}{vs:List V}{G:List Addr}(re:RE K P env σ H F) (ar:Args K env F H H' l vs G):bY env F H (pI (l.map (·.2))) H' G:=by
 unfold pI;cases hm:eM (l.map (·.2)) with
 |none=>exact⟨ar.cont,fun R e=>by cases e⟩
 |some R =>
  have er:∀(l:List Rt) (R:List Nat),eM l=some R→aZ l=R:=by
   intro l
   induction l with
   |nil=>intro R h;simp[eM] at h;subst h;rfl
   |cons x r ih =>
    intro R h;cases x with
    |sh Q=>simp[eM] at h
    |mv Q =>
     simp only[eM,Option.map_eq_some_iff] at h;obtain⟨R2,h2,rfl⟩:=h;have:=ih R2 h2;simp only[aZ,List.map_cons,List.flatten_cons,Rt.roots] at this ⊢;rw[this]
  have er:=er _ R hm;by_cases nd:R.Nodup
  ·simp only[nd,if_true];obtain⟨a,b,c⟩:=ar.mv re hm nd;refine⟨fun x hx=>?_,fun R' e=>by cases e;exact⟨a,b,c⟩⟩;rcases c x hx with q | ⟨i,d,t,m,f,e,o⟩
   ·exact .inl q
   ·exact .inr ⟨i,d,t,f,e,fun q hq=>by cases t<;>simp_all [bG,bJ,Rt.roots]⟩
  ·simp only[nd,if_false];exact⟨fun x hx=>by have:=ar.cont x hx;rw[er] at this;exact this,fun R' e=>by cases e⟩
end
structure kD (H H':Hp) (G0:List Addr) (d:D) (G:List Addr):Prop where
 same:aN H H'
 sub:∀ a∈G,H a=none∨a∈G0
 new:d.inner=true→G.Nodup∧∀ a∈G,H a=none∧∃ vs:ML,H' a=some vs.o
section
variable {K:Frag}{H:Hp}{G0:List Addr}
theorem kD.nil {d:D}:kD H H G0 d []:=⟨aN.refl _,fun _ h=>(nomatch h),fun _=>⟨bz,fun _ h=>(nomatch h)⟩⟩
theorem jj {ds:List D}{vs:List V}{G:List Addr}{p:Addr}(r:aI K H ds vs G) (hs:∀ a∈G,a∈G0) (hp:H p=none) :
  Rep K (upd H p (.lst vs)) (.lst ds) (.ref p) (p::G)∧kD H (upd H p (.lst vs)) G0 (.lst ds) (p::G):=by
 have e:=aN.new (o:=.lst vs) hp;refine⟨.lst (.inl bN) (r.same e),e,fun a ha=>?_,fun f=>?_⟩
 ·rcases et.mp ha with rfl | ha
  ·exact .inl hp
  ·exact .inr (hs a ha)
 ·have:G=[]:=r.flat f;subst this;exact⟨by simp,fun a ha=>by
   have:a=p:=by simpa using ha
   subst this;exact⟨hp,.l _,bN⟩⟩
theorem bY.new {env:En}{F:Nat→List Addr}{H1 H':Hp}{l:List (D×Rt)}{vs:List V}{G:List Addr}{d:D}{R:List Nat}(ar:Args K env F H H1 l vs G0) (nv:kD H1 H' G0 d G) (hR:∀ q∈aZ (l.map (·.2)),q∈R):bY env F H (ji d R) H' G:=by
 unfold ji;cases hi:d.inner with
 |true =>
  obtain⟨a,b⟩:=nv.new hi;have c:∀ x∈G,H x=none:=fun x hx=>aN.no ar.same (b x hx).1
  exact⟨fun x hx=>.inl (c x hx),fun R' e=>⟨a,fun x hx=>(b x hx).2,fun x hx=>.inl (c x hx)⟩⟩
 |false =>
  refine⟨fun x hx=>?_,fun R' e=>by cases e⟩;rcases nv.sub x hx with q | q
  ·exact .inl (aN.no ar.same q)
  ·exact (ar.cont x q).imp id fun ⟨i,d,t,f,e,z⟩=>⟨i,d,t,f,e,fun q hq=>hR q (z q hq)⟩
end
section
variable {X:Cx}
theorem bT {e:Expr}{t t':TE}(h:PE X e t) (k:∀ σ H Q,t' σ H Q→t σ H Q):PE X e t':=fun pins s σ H Q I q=>h pins s σ H Q I (k σ H Q q)
theorem sE {e:Expr}{t t':TT}(h:PT X e t) (k:∀ σ H Q,t' σ H Q→t σ H Q):PT X e t':=fun pins s σ H Q I q=>h pins s σ H Q I (k σ H Q q)
theorem yR {e:List Expr}{t t':TA}(h:PA X e t) (k:∀ σ H Q,t' σ H Q→t σ H Q):PA X e t':=fun pos pins s σ H Q I q=>h pos pins s σ H Q I (k σ H Q q)
theorem cJ {e:Stmt}{t t':TS}(h:PS X e t) (k:∀ D σ H,t' D σ H→t D σ H):PS X e t':=fun pins s σ H D I q=>h pins s σ H D I (k D σ H q)
theorem lU {e:List Stmt}{t t':TS}(h:jJ X e t) (k:∀ D σ H,t' D σ H→t D σ H):jJ X e t':=fun pins s σ H D I q=>h pins s σ H D I (k D σ H q)
end
noncomputable def tE (K:Frag) (T:Tb) (c:Ex):TE:=fun σ H Q=>∃ P env F,RE K P env σ H F∧∃ p,ev T c env = .ok p∧∀ v H' G,aN H H'→Rep K H' p.1 v G→bY env F H p.2 H' G→Q v H'
noncomputable def uU (K:Frag) (T:Tb) (cs:lT):TA:=fun σ H Q=>∃ P env F,RE K P env σ H F∧∃ l,bK T cs env = .ok l∧∀ vs H' G,Args K env F H H' l vs G→Q vs H'
noncomputable def pe (K:Frag) (T:Tb) (c:Ex):TT:=fun σ H Q=>∃ P env F,RE K P env σ H F∧∃ p b,ev T c env = .ok p∧truth p.1=some b∧∀ H',aN H H'→Q b H'
section
variable {K:Frag}{T:Tb}{P:Addr→Prop}{env:En}{F:Nat→List Addr}{σ:L2.St}{H:Hp}
theorem two {ca cb:Ex}{r:R2}{Q:VK}{p q:D×Rt}(re:RE K P env σ H F) (h1:ev T ca env = .ok p) (h2:ev T cb env = .ok q) (k:∀ x y H2 G,Args K env F H H2 [p,q] [x,y] G→r x y H2 Q):FG r (tE K T ca) (tE K T cb) σ H Q :=
 ⟨P,env,F,re,p,h1,fun v1 H1 G1 s1 rp1 rt1=>⟨P,env,F,re.same s1,q,h2,fun v2 H2 G2 s2 rp2 rt2=>k v1 v2 H2 _ (.cons s1 rp1 rt1 (.cons s2 rp2 rt2 (.nil (aN.refl _))))⟩⟩
end
noncomputable def Aj (K:Frag) (f:D→D→Option D):R2:=fun x y H Q=>∃ d1 d2 d G,aI K H [d1,d2] [x,y] G∧f d1 d2=some d∧∀ v H' G',Rep K H' d v G'→kD H H' G d G'→Q v H'
noncomputable def G8 (K:Frag):R2:=fun x y H Q=>∃ d1 d2 d G,aI K H [d1,d2] [x,y] G∧EU d1 d2=some d∧∀ v G',Rep K H d v G'→G'.Sublist G→Q v H
section
variable {X:Cx}{T:Tb}{a b c:Expr}{ca cb cc:Ex}{pos:Pos}
theorem D8 {op:Operator}(ho:jw X (binaryOp op) (Aj X.K (nF op))) (ha:PE X a (tE X.K T ca)) (hb:PE X b (tE X.K T cb)):PE X (.BinOp a op b pos) (tE X.K T (.bin op ca cb)):=by
 refine bT (GP ho ha hb) fun σ H Q ⟨P,env,F,re,p0,hev,k⟩=>?_
 unfold ev at hev;obtain⟨p,h1,hev⟩:=Rs.bind_ok hev;obtain⟨q,h2,hev⟩:=Rs.bind_ok hev;obtain⟨d,h3,hev⟩:=Rs.bind_ok hev;have h3:=dD h3;cases hev;refine two re h1 h2 fun x y H2 G ar=>⟨p.1,q.1,d,G,ar.reps,h3,fun v H' G' rp nv=>k v H' G' (ar.same.trans nv.same) rp (bY.new ar nv fun z hz=>by simpa[aZ] using hz)⟩
theorem DY {op:CmpOp}(ho:jw X (compareOp op) (Aj X.K fun x y=>(iU op x y).map .bl)) (ha:PE X a (tE X.K T ca)) (hb:PE X b (tE X.K T cb)) (hm:behindInMarks op b=false):PE X (.Compare a [op] [b] pos) (tE X.K T (.cmp op ca cb)):=by
 refine bT (BJ ho ha hb hm) fun σ H Q ⟨P,env,F,re,p0,hev,k⟩=>?_
 unfold ev at hev;obtain⟨p,h1,hev⟩:=Rs.bind_ok hev;obtain⟨q,h2,hev⟩:=Rs.bind_ok hev;obtain⟨d,h3,hev⟩:=Rs.bind_ok hev;have h3:=dD h3;cases hev;refine two re h1 h2 fun x y H2 G ar=>⟨p.1,q.1,.bl d,G,ar.reps,by simp[h3],fun v H' G' rp nv=>k v H' G' (ar.same.trans nv.same) rp ?_⟩
 have:G'=[]:=rp.flat rfl;subst this;exact bY.nil
theorem FL (ho:zY X (G8 X.K)) (ha:PE X a (tE X.K T ca)) (hb:PE X b (tE X.K T cb)) (hs:lN b):PE X (.Subscript a b pos) (tE X.K T (.ix ca cb)):=by
 refine bT (Cn ho ha hb hs) fun σ H Q ⟨P,env,F,re,p0,hev,k⟩=>?_
 unfold ev at hev;obtain⟨p,h1,hev⟩:=Rs.bind_ok hev;obtain⟨q,h2,hev⟩:=Rs.bind_ok hev;obtain⟨d,h3,hev⟩:=Rs.bind_ok hev;have h3:=dD h3;cases hev;refine two re h1 h2 fun x y H2 G ar=>⟨p.1,q.1,d,G,ar.reps,h3,fun v G' rp sl=>k v H2 G' ar.same rp ?_⟩
 unfold r8;cases hf:d.flat with
 |true =>
  have:G'=[]:=rp.flat hf;subst this;exact bY.nil
 |false =>
  obtain⟨H1,g1,g2,e1,s1,_,rt1,s2,rp2⟩:=ar.two;have hq:q.1.flat=true:=by
   revert h3;cases p.1<;>cases q.1<;>simp[EU,D.flat]
  have rp2:=rp2.flat hq;have rp1:=rt1.later s2;subst rp2;rw[bo] at e1;subst e1;refine⟨fun z hz=>?_,fun R e=>by cases e⟩;exact rp1.cont z (sl.subset hz)
end
end Pc
end
section
namespace Pc
open PySem PySem.Spec PyProof.Rows L2
section
variable {K:Frag}{H:Hp}
theorem aI.inv2 {d e:D}{x y:V}{G:List Addr}(h:aI K H [d,e] [x,y] G):∃ G1 G2,Rep K H d x G1∧Rep K H e y G2∧G=G1++G2:=by
 cases h with
 |cons r s =>
  cases s with
  |cons r' s'=>cases s';exact⟨_,_,r,r',by rw[bo]⟩
theorem Rep.int_inv {i:Int}{v:V}{G:List Addr}(h:Rep K H (.int i) v G):v = .int i∧G=[]:=by cases h;exact⟨rfl,rfl⟩
theorem Rep.bl_inv {i:Bool}{v:V}{G:List Addr}(h:Rep K H (.bl i) v G):v = .bl i∧G=[]:=by cases h;exact⟨rfl,rfl⟩
theorem Rep.non_inv {v:V}{G:List Addr}(h:Rep K H .non v G):v = .non∧G=[]:=by cases h;exact⟨rfl,rfl⟩
theorem Rep.tup_inv {ds:List D}{v:V}{G:List Addr}(h:Rep K H (.tup ds) v G):∃ p vs,v = .ref p∧nK K H p vs∧aI K H ds vs G:=by
 cases h with
 |tup a b=>exact⟨_,_,rfl,a.sq,b⟩
theorem Rep.tup_invT {ds:List D}{v:V}{G:List Addr}(h:Rep K H (.tup ds) v G):∃ p vs,v = .ref p∧qb K H p vs∧aI K H ds vs G:=by
 cases h with
 |tup a b=>exact⟨_,_,rfl,a,b⟩
end
section
variable {X:Cx}
theorem Inv.lstR {pins:List (Addr×Obj)}{σ:L2.St}{H:Hp}{s:Shared}{l:Addr}{xs:List V}(I:Inv X pins σ H s) (hH:Rd H l (.lst xs)):xs.length≤sizeLine∧∃(its:List Value) (n:Nat),aQ xs its∧xs.length=its.length∧s.heap.get? l=some { cls:=.type "list",data:=.seq its.toArray n }:=by
 obtain⟨z,its,n,r,e⟩:=hH.ok I.hok;exact⟨z,its,n,r,r.length,e⟩
noncomputable def F5:R2:=fun x y H Q=>∃ l b xs zs,x = .ref l∧y = .ref b∧Rd H l (.lst xs)∧Rd H b (.lst zs)∧xs.length+zs.length≤sizeLine∧∀ p,H p=none→Q (.ref p) (upd H p (.lst (xs++zs)))
theorem A0:jw X (binaryOp .Add) F5:=by
 intro pins s σ H x y v u Q I rx ry h;obtain⟨l,b,xs,zs,rfl,rfl,hH,hB,hz,q⟩:=h;cases rx;cases ry;obtain⟨z,its,n,r,hl,e⟩:=Inv.lstR I hH;obtain⟨z2,its2,n2,r2,hl2,e2⟩:=Inv.lstR I hB;refine PySem.P.add_list e e2 ?_ (by rw[ak,ak];omega);have ea:its.toArray++its2.toArray=(its++its2).toArray:=by simp
 rw[ea];exact⟨.ref _,_,I.lnew (t':=s.toks) (r.append r2) (by rw[cz];omega),rfl,q _ I.fresh⟩
noncomputable def GU:R2:=fun x y H Q=>∃ l k xs,x = .ref l∧y = .int k∧Rd H l (.lst xs)∧-(2 ^ 63)≤k∧k<2 ^ 63∧xs.length*k.toNat≤sizeLine ∧
 ∀ p,H p=none→Q (.ref p) (upd H p (.lst (List.replicate k.toNat xs).flatten))
theorem BF:jw X (binaryOp .Mult) GU:=by
 intro pins s σ H x y v u Q I rx ry h;obtain⟨l,k,xs,rfl,rfl,hH,h1,h2,hz,q⟩:=h;cases rx;obtain⟨t,rfl⟩:=ry;obtain⟨z,its,n,r,hl,e⟩:=Inv.lstR I hH;have hlen:its.toArray.size*k.toNat≤sizeLine:=by rw[ak,←hl];exact hz
 have hcap:¬ its.toArray.size*k.toNat > (2 ^ 63 - 1) / 8:=by
  have:(sizeLine:Nat)≤(2 ^ 63 - 1) / 8:=by decide
  omega
 have hfit:¬ (!Builtin.List.listFitsIndex k)=true:=by
  rw[fitsIndex_both h1 h2];exact ba
 have hlong:¬ Builtin.List.listTooLong (its.toArray.size*k.toNat)=true:=by
  rw[xp hlen];exact ba
 have hnew:List.foldl (fun x1 x2=>x1++x2) #[] (List.replicate (if its.toArray.isEmpty=true then 0 else k.toNat) its.toArray)=(List.replicate k.toNat its).flatten.toArray:=by
  have f0:∀ m:Nat,List.foldl (fun x1 x2=>x1++x2) #[] (List.replicate m its.toArray)=(List.replicate m its).flatten.toArray:=fun m=>by
   have:=foldl_rep its m [];rw[List.nil_append] at this;exact this
  rw[f0];cases its with
  |nil=>simp
  |cons a r'=>rw[if_neg (by simp)]
 refine wpAny_binaryOp_repeat_ref (T:="list") (U:="int") (by decide) ⟨_,e,rfl⟩ (fun s'=>typeIs_int s' k t) noFill_list_mul F.fills_int_mul F.slot_int_rmul repeat_list F.slot_int_index.lookup
  (call_meets F.slot_int_rmul (typeIs_int s k t) F.entry_int_rmul (F.args_int_rmul_2 _ _) (int___rmul___int_list k t l its.toArray n)
   ⟨e,rfl,⟨_,e,rfl⟩,call_meets F.slot_list_mul ⟨_,e,rfl⟩ F.entry_list_mul (F.args_list_mul_2 _ _) (AutoListH.list___mul___list_int_3 l its.toArray n k t hfit hcap hlong) ⟨e,?_⟩⟩)
 rw[hnew];exact⟨.ref _,_,I.lnew (t':=s.toks) (r.rep k.toNat) (by rw[len_rep,Nat.mul_comm];exact hz),rfl,q _ I.fresh⟩
theorem aI.rep {K:Frag}{H:Hp}{ds:List D}{vs:List V}(h:aI K H ds vs []):∀ n:Nat,aI K H (List.replicate n ds).flatten (List.replicate n vs).flatten []
 |0=>.nil
 | n+1=>by
  rw[dk,dk,dn,dn];exact h.append (h.rep n)
theorem ug {n:Nat}{d e:D}(h:ck n d=some e):n≤lim∧e=d:=by
 unfold ck at h;split at h
 ·cases h;exact⟨‹_›,rfl⟩
 ·cases h
theorem oa {i:Int}:small i=true↔(-(2 ^ 64)<i∧i<2 ^ 64):=by unfold small;exact decide_eq_true_iff
theorem BI {op:Operator}{i j k:Int}(h:binI op i j=some k):jw X (binaryOp op) (fun x y H Q=>x = .int i∧y = .int j∧Q (.int k) H):=by
 intro pins s σ H x y v u Q I rx ry q;obtain⟨rfl,rfl,q⟩:=q;cases op with
 |Add=>cases h;exact Es pins s σ H _ _ v u Q I rx ry ⟨i,j,rfl,rfl,q⟩
 |Sub=>cases h;exact Cz pins s σ H _ _ v u Q I rx ry ⟨i,j,rfl,rfl,q⟩
 |Mult =>
  simp only[binI] at h;by_cases hc:(small i || small j)=true
  ·rw[if_pos hc] at h;cases h;refine D5 pins s σ H _ _ v u Q I rx ry ⟨i,j,rfl,rfl,?_,q⟩;rw[f7,oa,oa] at hc;exact hc
  ·rw[if_neg hc] at h;cases h
 |FloorDiv =>
  simp only[binI] at h;by_cases hc:0<j∧j<1073741824
  ·rw[if_pos hc] at h;cases h;exact BB pins s σ H _ _ v u Q I rx ry ⟨i,j,rfl,rfl,hc,q⟩
  ·rw[if_neg hc] at h;cases h
 |Mod =>
  simp only[binI] at h;by_cases hc:0<j
  ·rw[if_pos hc] at h;cases h;exact CT pins s σ H _ _ v u Q I rx ry ⟨i,j,rfl,rfl,hc,q⟩
  ·rw[if_neg hc] at h;cases h
 |Pow =>
  simp only[binI] at h;by_cases hc:0≤j∧j≤1000000∧i.natAbs<2 ^ 64
  ·rw[if_pos hc] at h;cases h;exact EF pins s σ H _ _ v u Q I rx ry ⟨i,j,rfl,rfl,hc,q⟩
  ·rw[if_neg hc] at h;cases h
 |LShift =>
  simp only[binI] at h;by_cases hc:0≤j∧j≤1000000∧i.natAbs<2 ^ 64
  ·rw[if_pos hc] at h;cases h;exact DH pins s σ H _ _ v u Q I rx ry ⟨i,j,rfl,rfl,hc,q⟩
  ·rw[if_neg hc] at h;cases h
 |RShift =>
  simp only[binI] at h;by_cases hc:0≤j
  ·rw[if_pos hc] at h;cases h;exact Dj pins s σ H _ _ v u Q I rx ry ⟨i,j,rfl,rfl,hc,q⟩
  ·rw[if_neg hc] at h;cases h
 |BitAnd=>cases h;exact Cv pins s σ H _ _ v u Q I rx ry ⟨i,j,rfl,rfl,q⟩
 |BitOr=>cases h;exact Fv pins s σ H _ _ v u Q I rx ry ⟨i,j,rfl,rfl,q⟩
 |BitXor=>cases h;exact DF pins s σ H _ _ v u Q I rx ry ⟨i,j,rfl,rfl,q⟩
 |_=>cases h
theorem Bp (op:Operator):jw X (binaryOp op) (Aj X.K (nF op)):=by
 intro pins s σ H x y v u Q I rx ry h;obtain⟨d1,d2,d,G,rs,hd,k⟩:=h;obtain⟨G1,G2,r1,r2,rfl⟩:=rs.inv2;cases d1 with
 |int i =>
  cases d2 with
  |int j =>
   obtain⟨rfl,rfl⟩:=r1.int_inv;obtain⟨rfl,rfl⟩:=r2.int_inv;have:nF op (.int i) (.int j)=(binI op i j).map .int:=rfl;rw[this,ae] at hd;obtain⟨z,hz,rfl⟩:=hd;exact BI hz pins s σ H _ _ v u Q I rx ry ⟨rfl,rfl,k _ H [] (.int z) kD.nil⟩
  |_=>cases hd
 |lst a =>
  obtain⟨p,vs,G',rfl,rfl,h1,h2⟩:=r1.lst_inv;cases d2 with
  |lst b =>
   cases op with
   |Add =>
    obtain⟨hl,rfl⟩:=ug hd;obtain⟨p',vs',G'',rfl,rfl,h1',h2'⟩:=r2.lst_inv;refine A0 pins s σ H _ _ v u Q I rx ry ⟨p,p',vs,vs',rfl,rfl,h1,h1',by rw[←h2.len,←h2'.len];exact mV hl,fun q hq=>?_⟩;obtain⟨n1,n2⟩:=jj (G0:=p::G'++p'::G'') (h2.append h2') (fun a ha=>by simp at ha ⊢;rcases ha with ha | ha<;>simp[ha]) hq;exact k _ _ _ n1 n2
   |_=>cases hd
  |int n =>
   cases op with
   |Mult =>
    have hd:(if -(2 ^ 63)≤n∧n<2 ^ 63 then (if D.flats a then ck (a.length*n.toNat) (.lst (List.replicate n.toNat a).flatten) else none) else none)=some d:=hd;by_cases hc : -(2 ^ 63)≤n∧n<2 ^ 63
    ·rw[if_pos hc] at hd;by_cases hf:D.flats a=true
     ·rw[if_pos hf] at hd;obtain⟨hl,rfl⟩:=ug hd;obtain⟨rfl,rfl⟩:=r2.int_inv;have eG:G'=[]:=h2.flat hf;subst eG;refine BF pins s σ H _ _ v u Q I rx ry ⟨p,n,vs,rfl,rfl,h1,hc.1,hc.2,by rw[←h2.len];exact mV hl,fun q hq=>?_⟩;obtain⟨n1,n2⟩:=jj (G0:=[p] ++ []) (h2.rep n.toNat) (fun a ha=>(nomatch ha)) hq;exact k _ _ _ n1 n2
     ·rw[if_neg hf] at hd;cases hd
    ·rw[if_neg hc] at hd;cases hd
   |_=>cases hd
  |_=>cases hd
 |_=>cases hd
open SeqAt in
theorem i4 {f:D→D→Option Bool}:∀{xs ys:List D}{b:Bool},qz f xs ys=some b→xs.length=ys.length∧∃ e:Nat→Bool,(∀ j x y,xs[j]? = some x→ys[j]? = some y→f x y=some (e j))∧b=(List.range xs.length).all e
 |[],[],b,h=>by cases h;exact⟨rfl,fun _=>true,fun j x y hx=>by simp at hx,rfl⟩
 | x::xs,y::ys,b,h=>by
  simp only[qz,Option.bind_eq_some_iff,Option.map_eq_some_iff] at h;obtain⟨a,h1,c,h2,rfl⟩:=h;obtain⟨hl,e,he,rfl⟩:=i4 h2;refine⟨by simp[hl],fun j=>match j with | 0=>a | j+1=>e j,fun j x' y' hx hy=>?_,?_⟩
  ·cases j with
   |zero=>simp at hx hy;subst hx;subst hy;exact h1
   |succ j=>exact he j x' y' (by simpa using hx) (by simpa using hy)
  ·rw[c9,List.range_succ_eq_map,dh,List.all_map];rfl
 |[],_::_,b,h=>by cases h
 |_::_,[],b,h=>by cases h
theorem ku:∀(n:Nat) (d:D) (b:Bool),D.eqf n d d=some b→b=true
 |0,_,_,h=>by cases h
 |n+1,.non,b,h=>by cases h;rfl
 |n+1,.bl x,b,h=>by simp[D.eqf] at h;exact h
 |n+1,.int x,b,h=>by simp[D.eqf] at h;exact h
 | n+1,.lst xs,b,h=>by
  simp only[D.eqf,if_true] at h;obtain⟨_,e,he,rfl⟩:=i4 h;rw[bw];intro j hj;have hj:j<xs.length:=by simpa using hj
  exact ku n xs[j] _ (he j _ _ (by simp[hj]) (by simp[hj]))
 | n+1,.tup xs,b,h=>by
  simp only[D.eqf,if_true] at h;obtain⟨_,e,he,rfl⟩:=i4 h;rw[bw];intro j hj;have hj:j<xs.length:=by simpa using hj
  exact ku n xs[j] _ (he j _ _ (by simp[hj]) (by simp[hj]))
section
variable {pins:List (Addr×Obj)}{σ:L2.St}{H:Hp}{s:Shared}
noncomputable def nf:HO→Bool
 |.frz _ _=>false
 |_=>true
theorem Rep.inj (I:Inv X pins σ H s) {d:D}{v:V}{G:List Addr}(h:Rep X.K H d v G):∀{e:D}{G':List Addr},Rep X.K H e v G'→d=e:=by
 refine Rep.rec (motive_1:=fun d v G _=>∀{e:D}{G':List Addr},Rep X.K H e v G'→d=e) (motive_2:=fun ds vs G _=>∀{es:List D}{G':List Addr},aI X.K H es vs G'→ds=es) ?non ?bl ?int ?lst ?tup ?nil ?cons h
 case non =>
  intro e' G' h;cases h;rfl
 case bl =>
  intro _ e' G' h;cases h;rfl
 case int =>
  intro _ e' G' h;cases h;rfl
 case lst =>
  intro p0 vs0 ds0 G0 h r ih e' G' q;cases q with
  |lst h' r' =>
   have e:=I.list_inj (.inl h) (.inl h');subst e;rw[ih r']
  |tup h' r' =>
   obtain⟨its,_,pl,_⟩:=I.list (.inl h);obtain⟨its',_,pt,_⟩:=I.tuple h'.sq;obtain⟨o,ho,hc,_⟩:=pl.isList;obtain⟨o',ho',hc',_⟩:=pt;rw[ho] at ho';cases ho';rw[hc] at hc';injection hc' with z;exact absurd z (by decide)
 case tup =>
  intro p0 vs0 ds0 G0 h r ih e' G' q;cases q with
  |tup h' r' =>
   have e:=I.tuple_inj h.sq h'.sq;subst e;rw[ih r']
  |lst h' r' =>
   obtain⟨its,_,pl,_⟩:=I.list (.inl h');obtain⟨its',_,pt,_⟩:=I.tuple h.sq;obtain⟨o,ho,hc,_⟩:=pl.isList;obtain⟨o',ho',hc',_⟩:=pt;rw[ho] at ho';cases ho';rw[hc] at hc';injection hc' with z;exact absurd z (by decide)
 case nil=>intro e' G' h;cases h;rfl
 case cons =>
  intro d0 v0 ds0 vs0 G0 G1 h r i1 i2 e' G' q;cases q with
  |cons h' r'=>rw[i1 h',i2 r']
open SeqAt in
theorem yG (I:Inv X pins σ H s):∀(n:Nat) (A:Around) (d e:D) (v w:V) (G G':List Addr) (u u':Value) (b:Bool),A.units+n<cLine→Rep X.K H d v G→Rep X.K H e w G'→RelV v u→RelV w u'→D.eqf n d e=some b→RcAt A s u u' b∧EqAt A s u u' b
 |0,_,_,_,_,_,_,_,_,_,_,_,_,_,_,_,h=>by cases h
 | n+1,A,d,e,v,w,G,G',u,u',b,hu,r1,r2,q1,q2,h=>by
  have hu1:A.in1.units+n<cLine:=by show A.units+1+n<cLine;omega
  have hu0:A.units<cLine:=by omega
  have items:∀{xs ys:List D}{vs ws:List V}{G1 G2:List Addr}{its its':List Value}{c:Bool},aI X.K H xs vs G1→aI X.K H ys ws G2→aQ vs its→aQ ws its'→qz (D.eqf n) xs ys=some c →
    its.toArray.size=its'.toArray.size∧∃ ee:Nat→Bool,c=(List.range its.toArray.size).all ee∧∀ j (h1:j<its.toArray.size) (h2:j<its'.toArray.size),EqAt A.in1 s its.toArray[j] its'.toArray[j] (ee j):=by
   intro xs ys vs ws G1 G2 its its' c a1 a2 b1 b2 hc;obtain⟨hl,ee,he,rfl⟩:=i4 hc;have l1:=a1.len;have l2:=a2.len;have l3:=b1.length;have l4:=b2.length;have sz:its.toArray.size=xs.length:=by rw[ak];omega
   refine⟨by rw[ak,ak];omega,ee,by rw[sz],fun j h1 h2=>?_⟩;have j1:j<xs.length:=by rw[←sz];exact h1
   have j2:j<ys.length:=by omega
   obtain⟨v1,g1,e1,p1,_⟩:=a1.get (i:=j) (d:=xs[j]) (by simp[j1]);obtain⟨v2,g2,e2,p2,_⟩:=a2.get (i:=j) (d:=ys[j]) (by simp[j2]);obtain⟨u1,f1,t1⟩:=b1.get e1;obtain⟨u2,f2,t2⟩:=b2.get e2;have x1:its.toArray[j]=u1:=by
    have:=List.getElem?_eq_some_iff.mp f1;simpa using this.2
   have x2:its'.toArray[j]=u2:=by
    have:=List.getElem?_eq_some_iff.mp f2;simpa using this.2
   rw[x1,x2];exact (yG I n A.in1 _ _ _ _ _ _ _ _ _ hu1 p1 p2 t1 t2 (he j _ _ (by simp[j1]) (by simp[j2]))).2
  have refs:∀{l m:Addr}{c:Bool},(l=m→c=true)→RcAt A s (.ref l) (.ref m) c→RcAt A s (.ref l) (.ref m) c∧EqAt A s (.ref l) (.ref m) c:=fun {l m c} hs hr=>⟨hr,by
   by_cases z:l=m
   ·subst z;rw[hs rfl];exact EqAt.same _
   ·exact EqAt.of_refs z hr⟩
  cases d with
  |non =>
   obtain⟨rfl,rfl⟩:=r1.non_inv;cases q1;cases e with
   |non=>obtain⟨rfl,rfl⟩:=r2.non_inv;cases q2;cases h;exact⟨RcAt.none_none,EqAt.same _⟩
   |bl c=>obtain⟨rfl,rfl⟩:=r2.bl_inv;cases q2;cases h;exact⟨RcAt.none_bool c,EqAt.none_bool c⟩
   |int i=>obtain⟨rfl,rfl⟩:=r2.int_inv;obtain⟨t,rfl⟩:=q2;cases h;exact⟨RcAt.none_int i t,EqAt.none_int i t⟩
   |lst ys =>
    obtain⟨m,ws,g,rfl,rfl,a1,a2⟩:=r2.lst_inv;cases q2;obtain⟨its,_,pl,_⟩:=I.list (.inl a1);cases h;exact⟨RcAt.none_list pl.isList hu0,EqAt.none_list pl.isList hu0⟩
   |tup ys =>
    obtain⟨m,ws,rfl,a1,a2⟩:=r2.tup_inv;cases q2;obtain⟨its,_,pl,_⟩:=I.tuple a1;cases h;exact⟨RcAt.none_tuple pl hu0,EqAt.none_tuple pl hu0⟩
  |bl a =>
   obtain⟨rfl,rfl⟩:=r1.bl_inv;cases q1;cases e with
   |non=>obtain⟨rfl,rfl⟩:=r2.non_inv;cases q2;cases h;exact⟨RcAt.bool_none a,EqAt.bool_none a⟩
   |bl c=>obtain⟨rfl,rfl⟩:=r2.bl_inv;cases q2;cases h;exact⟨RcAt.bool_bool a c,EqAt.bool_bool a c⟩
   |int i=>obtain⟨rfl,rfl⟩:=r2.int_inv;obtain⟨t,rfl⟩:=q2;cases h;exact⟨RcAt.bool_int a i t,EqAt.bool_int a i t⟩
   |lst ys =>
    obtain⟨m,ws,g,rfl,rfl,a1,a2⟩:=r2.lst_inv;cases q2;obtain⟨its,_,pl,_⟩:=I.list (.inl a1);cases h;exact⟨RcAt.bool_list a pl.isList hu0,EqAt.bool_list a pl.isList hu0⟩
   |tup ys =>
    obtain⟨m,ws,rfl,a1,a2⟩:=r2.tup_inv;cases q2;obtain⟨its,_,pl,_⟩:=I.tuple a1;cases h;exact⟨RcAt.bool_tuple a pl hu0,EqAt.bool_tuple a pl hu0⟩
  |int a =>
   obtain⟨rfl,rfl⟩:=r1.int_inv;obtain⟨t0,rfl⟩:=q1;cases e with
   |non=>obtain⟨rfl,rfl⟩:=r2.non_inv;cases q2;cases h;exact⟨RcAt.int_none a t0,EqAt.int_none a t0⟩
   |bl c=>obtain⟨rfl,rfl⟩:=r2.bl_inv;cases q2;cases h;exact⟨RcAt.int_bool a t0 c,EqAt.int_bool a t0 c⟩
   |int i=>obtain⟨rfl,rfl⟩:=r2.int_inv;obtain⟨t,rfl⟩:=q2;cases h;exact⟨RcAt.int_int a t0 i t,EqAt.int_int a t0 i t⟩
   |lst ys =>
    obtain⟨m,ws,g,rfl,rfl,a1,a2⟩:=r2.lst_inv;cases q2;obtain⟨its,_,pl,_⟩:=I.list (.inl a1);cases h;exact⟨RcAt.int_list a t0 pl.isList hu0,EqAt.int_list a t0 pl.isList hu0⟩
   |tup ys =>
    obtain⟨m,ws,rfl,a1,a2⟩:=r2.tup_inv;cases q2;obtain⟨its,_,pl,_⟩:=I.tuple a1;cases h;exact⟨RcAt.int_tuple a t0 pl hu0,EqAt.int_tuple a t0 pl hu0⟩
  |lst xs =>
   obtain⟨l,vs,g,rfl,rfl,a1,a2⟩:=r1.lst_inv;cases q1;obtain⟨its,rv,pl,_⟩:=I.list (.inl a1);cases e with
   |non=>obtain⟨rfl,rfl⟩:=r2.non_inv;cases q2;cases h;exact⟨RcAt.list_none pl.isList hu0,EqAt.list_none pl.isList hu0⟩
   |lst ys =>
    obtain⟨m,ws,g',rfl,rfl,b1,b2⟩:=r2.lst_inv;cases q2;obtain⟨its',rv',pl',_⟩:=I.list (.inl b1);have same:l=m→b=true:=fun z=>by
     subst z;have e0:=Rep.inj I r1 r2;rw[e0] at h;exact ku _ _ _ h
    simp only[D.eqf] at h;by_cases hl:xs.length=ys.length
    ·rw[if_pos hl] at h;obtain⟨hz,ee,rfl,he⟩:=items a2 b2 rv rv' h;exact refs same (RcAt.lists pl.isList pl'.isList hz hu0 he)
    ·rw[if_neg hl] at h;cases h;have hz:(its.toArray.size != its'.toArray.size)=true:=by
      have l1:=a2.len;have l2:=b2.len;have l3:=rv.length;have l4:=rv'.length;simp only[bne_iff_ne,ne_eq,List.size_toArray];omega
     exact refs same (RcAt.lists_lengths pl.isList pl'.isList hz hu0)
   |bl c=>obtain⟨rfl,rfl⟩:=r2.bl_inv;cases q2;cases h;exact⟨RcAt.list_bool c pl.isList hu0,EqAt.list_bool c pl.isList hu0⟩
   |int c=>obtain⟨rfl,rfl⟩:=r2.int_inv;obtain⟨t,rfl⟩:=q2;cases h;exact⟨RcAt.list_int c t pl.isList hu0,EqAt.list_int c t pl.isList hu0⟩
   |tup ys =>
    obtain⟨m,ws,rfl,b1,b2⟩:=r2.tup_inv;cases q2;obtain⟨its',rv',pl',_⟩:=I.tuple b1;cases h;exact⟨RcAt.list_tuple pl.isList pl' hu0,EqAt.list_tuple pl.isList pl' hu0⟩
  |tup xs =>
   obtain⟨l,vs,rfl,a1,a2⟩:=r1.tup_inv;cases q1;obtain⟨its,rv,pl,_⟩:=I.tuple a1;cases e with
   |tup ys =>
    obtain⟨m,ws,rfl,b1,b2⟩:=r2.tup_inv;cases q2;obtain⟨its',rv',pl',_⟩:=I.tuple b1;have same:l=m→b=true:=fun z=>by
     subst z;have e0:=Rep.inj I r1 r2;rw[e0] at h;exact ku _ _ _ h
    simp only[D.eqf] at h;by_cases hl:xs.length=ys.length
    ·rw[if_pos hl] at h;obtain⟨hz,ee,rfl,he⟩:=items a2 b2 rv rv' h;have q:=RcAt.tuples (e:=ee) pl pl' hu0 he;rw[←hz,Nat.min_self,beq_self_eq_true,Bool.and_true] at q;exact refs same q
    ·rw[if_neg hl] at h;cases h
   |non=>obtain⟨rfl,rfl⟩:=r2.non_inv;cases q2;cases h;exact⟨RcAt.tuple_none pl hu0,EqAt.tuple_none pl hu0⟩
   |bl c=>obtain⟨rfl,rfl⟩:=r2.bl_inv;cases q2;cases h;exact⟨RcAt.tuple_bool c pl hu0,EqAt.tuple_bool c pl hu0⟩
   |int c=>obtain⟨rfl,rfl⟩:=r2.int_inv;obtain⟨t,rfl⟩:=q2;cases h;exact⟨RcAt.tuple_int c t pl hu0,EqAt.tuple_int c t pl hu0⟩
   |lst ys =>
    obtain⟨m,ws,g',rfl,rfl,b1,b2⟩:=r2.lst_inv;cases q2;obtain⟨its',rv',pl',_⟩:=I.list (.inl b1);cases h;exact⟨RcAt.tuple_list pl pl'.isList hu0,EqAt.tuple_list pl pl'.isList hu0⟩
end
end
end Pc
end
section
namespace Pc
open PySem PySem.Spec PyProof.Rows L2
section
variable {X:Cx}{pins:List (Addr×Obj)}{σ:L2.St}{H:Hp}{s:Shared}
open SeqAt in
theorem Gu (I:Inv X pins σ H s) (n:Nat) (A:Around) (d e:D) (v w:V) (G G':List Addr) (u u':Value) (b:Bool) (hu:A.units+n<cLine) (r1:Rep X.K H d v G) (r2:Rep X.K H e w G') (q1:RelV v u) (q2:RelV w u') (h:D.eqf n d e=some b):RcNeAt A s u u' (!b):=by
 cases n with
 |zero=>cases h
 |succ n =>
  have hu1:A.in1.units+n<cLine:=by show A.units+1+n<cLine;omega
  have hu0:A.units<cLine:=by omega
  have items:∀{xs ys:List D}{vs ws:List V}{G1 G2:List Addr}{its its':List Value}{c:Bool},aI X.K H xs vs G1→aI X.K H ys ws G2→aQ vs its→aQ ws its'→qz (D.eqf n) xs ys=some c →
    its.toArray.size=its'.toArray.size∧∃ ee:Nat→Bool,c=(List.range its.toArray.size).all ee∧∀ j (h1:j<its.toArray.size) (h2:j<its'.toArray.size),EqAt A.in1 s its.toArray[j] its'.toArray[j] (ee j):=by
   intro xs ys vs ws G1 G2 its its' c a1 a2 b1 b2 hc;obtain⟨hl,ee,he,rfl⟩:=i4 hc;have l1:=a1.len;have l2:=a2.len;have l3:=b1.length;have l4:=b2.length;have sz:its.toArray.size=xs.length:=by rw[ak];omega
   refine⟨by rw[ak,ak];omega,ee,by rw[sz],fun j h1 h2=>?_⟩;have j1:j<xs.length:=by rw[←sz];exact h1
   have j2:j<ys.length:=by omega
   obtain⟨v1,g1,e1,p1,_⟩:=a1.get (i:=j) (d:=xs[j]) (by simp[j1]);obtain⟨v2,g2,e2,p2,_⟩:=a2.get (i:=j) (d:=ys[j]) (by simp[j2]);obtain⟨u1,f1,t1⟩:=b1.get e1;obtain⟨u2,f2,t2⟩:=b2.get e2;have x1:its.toArray[j]=u1:=by
    have:=List.getElem?_eq_some_iff.mp f1;simpa using this.2
   have x2:its'.toArray[j]=u2:=by
    have:=List.getElem?_eq_some_iff.mp f2;simpa using this.2
   rw[x1,x2];exact (yG I n A.in1 _ _ _ _ _ _ _ _ _ hu1 p1 p2 t1 t2 (he j _ _ (by simp[j1]) (by simp[j2]))).2
  have lsti:∀{ys:List D}{w:V}{g:List Addr}{u:Value},Rep X.K H (.lst ys) w g→RelV w u→∃ m its vs g',u = .ref m∧s.heap.IsList m its.toArray∧aQ vs its∧aI X.K H ys vs g':=fun {ys w g u} r q=>by
   obtain⟨m,ws,g',rfl,rfl,a1,a2⟩:=r.lst_inv;cases q;obtain⟨its,rv,pl,_⟩:=I.list (.inl a1);exact⟨m,its,ws,g',rfl,pl.isList,rv,a2⟩
  have tupi:∀{ys:List D}{w:V}{g:List Addr}{u:Value},Rep X.K H (.tup ys) w g→RelV w u→∃ m its vs,u = .ref m∧s.heap.IsTuple m its.toArray∧aQ vs its∧aI X.K H ys vs g:=fun {ys w g u} r q=>by
   obtain⟨m,ws,rfl,a1,a2⟩:=r.tup_inv;cases q;obtain⟨its,rv,pl,_⟩:=I.tuple a1;exact⟨m,its,ws,rfl,pl,rv,a2⟩
  cases d with
  |non =>
   obtain⟨rfl,rfl⟩:=r1.non_inv;cases q1;cases e with
   |non=>obtain⟨rfl,rfl⟩:=r2.non_inv;cases q2;cases h;exact RcNeAt.none_none
   |bl c=>obtain⟨rfl,rfl⟩:=r2.bl_inv;cases q2;cases h;exact RcNeAt.none_bool c
   |int i=>obtain⟨rfl,rfl⟩:=r2.int_inv;obtain⟨t,rfl⟩:=q2;cases h;exact RcNeAt.none_int i t
   |lst ys=>obtain⟨m,its,vs,g',rfl,pl,_,_⟩:=lsti r2 q2;cases h;exact RcNeAt.none_list pl hu0
   |tup ys=>obtain⟨m,its,vs,rfl,pl,_,_⟩:=tupi r2 q2;cases h;exact RcNeAt.none_tuple pl hu0
  |bl a =>
   obtain⟨rfl,rfl⟩:=r1.bl_inv;cases q1;cases e with
   |non=>obtain⟨rfl,rfl⟩:=r2.non_inv;cases q2;cases h;exact RcNeAt.bool_none a
   |bl c=>obtain⟨rfl,rfl⟩:=r2.bl_inv;cases q2;cases h;exact RcNeAt.bool_bool a c
   |int i=>obtain⟨rfl,rfl⟩:=r2.int_inv;obtain⟨t,rfl⟩:=q2;cases h;exact RcNeAt.bool_int a i t
   |lst ys=>obtain⟨m,its,vs,g',rfl,pl,_,_⟩:=lsti r2 q2;cases h;exact RcNeAt.bool_list a pl hu0
   |tup ys=>obtain⟨m,its,vs,rfl,pl,_,_⟩:=tupi r2 q2;cases h;exact RcNeAt.bool_tuple a pl hu0
  |int a =>
   obtain⟨rfl,rfl⟩:=r1.int_inv;obtain⟨t0,rfl⟩:=q1;cases e with
   |non=>obtain⟨rfl,rfl⟩:=r2.non_inv;cases q2;cases h;exact RcNeAt.int_none a t0
   |bl c=>obtain⟨rfl,rfl⟩:=r2.bl_inv;cases q2;cases h;exact RcNeAt.int_bool a t0 c
   |int i=>obtain⟨rfl,rfl⟩:=r2.int_inv;obtain⟨t,rfl⟩:=q2;cases h;exact RcNeAt.int_int a t0 i t
   |lst ys=>obtain⟨m,its,vs,g',rfl,pl,_,_⟩:=lsti r2 q2;cases h;exact RcNeAt.int_list a t0 pl hu0
   |tup ys=>obtain⟨m,its,vs,rfl,pl,_,_⟩:=tupi r2 q2;cases h;exact RcNeAt.int_tuple a t0 pl hu0
  |lst xs =>
   obtain⟨l,its,vs,g1,rfl,pl,rv,a2⟩:=lsti r1 q1;cases e with
   |non=>obtain⟨rfl,rfl⟩:=r2.non_inv;cases q2;cases h;exact RcNeAt.list_none pl hu0
   |bl c=>obtain⟨rfl,rfl⟩:=r2.bl_inv;cases q2;cases h;exact RcNeAt.list_bool c pl hu0
   |int c=>obtain⟨rfl,rfl⟩:=r2.int_inv;obtain⟨t,rfl⟩:=q2;cases h;exact RcNeAt.list_int c t pl hu0
   |lst ys =>
    obtain⟨m,its',ws,g2,rfl,pl',rv',b2⟩:=lsti r2 q2;simp only[D.eqf] at h;by_cases hl:xs.length=ys.length
    ·rw[if_pos hl] at h;obtain⟨hz,ee,rfl,he⟩:=items a2 b2 rv rv' h;exact RcNeAt.lists pl pl' hz hu0 he
    ·rw[if_neg hl] at h;cases h;have hz:(its.toArray.size != its'.toArray.size)=true:=by
      have l1:=a2.len;have l2:=b2.len;have l3:=rv.length;have l4:=rv'.length;simp only[bne_iff_ne,ne_eq,List.size_toArray];omega
     exact RcNeAt.lists_lengths pl pl' hz hu0
   |tup ys=>obtain⟨m,its',ws,rfl,pl',_,_⟩:=tupi r2 q2;cases h;exact RcNeAt.list_tuple pl pl' hu0
  |tup xs =>
   obtain⟨l,its,vs,rfl,pl,rv,a2⟩:=tupi r1 q1;cases e with
   |non=>obtain⟨rfl,rfl⟩:=r2.non_inv;cases q2;cases h;exact RcNeAt.tuple_none pl hu0
   |bl c=>obtain⟨rfl,rfl⟩:=r2.bl_inv;cases q2;cases h;exact RcNeAt.tuple_bool c pl hu0
   |int c=>obtain⟨rfl,rfl⟩:=r2.int_inv;obtain⟨t,rfl⟩:=q2;cases h;exact RcNeAt.tuple_int c t pl hu0
   |lst ys=>obtain⟨m,its',ws,g2,rfl,pl',_,_⟩:=lsti r2 q2;cases h;exact RcNeAt.tuple_list pl pl' hu0
   |tup ys =>
    obtain⟨m,its',ws,rfl,pl',rv',b2⟩:=tupi r2 q2;simp only[D.eqf] at h;by_cases hl:xs.length=ys.length
    ·rw[if_pos hl] at h;obtain⟨hz,ee,rfl,he⟩:=items a2 b2 rv rv' h;have q:=RcNeAt.tuples (e:=ee) pl pl' hu0 he;rw[←hz,Nat.min_self,beq_self_eq_true,Bool.and_true] at q;exact q
    ·rw[if_neg hl] at h;cases h
end
section
variable {X:Cx}
theorem nj {K:Frag}{H:Hp}{d:D}{v:V}{G:List Addr}(h:Rep K H d v G) (s:d.ja=true):i7 v=true:=by
 cases h<;>simp_all [D.ja,i7]
theorem kQ {K:Frag}{H:Hp}:∀{ds:List D}{vs:List V}{G:List Addr},aI K H ds vs G→ds.all D.ja=true→vs.all i7=true
 |_,_,_,.nil,_=>rfl
 | _,_,_,.cons h r,s=>by
  simp only[List.all_cons,Bool.and_eq_true] at s ⊢;exact⟨nj h s.1,kQ r s.2⟩
theorem AD {K:Frag}{H:Hp}{d e:D}{v w:V}{G G':List Addr}(h:Rep K H d v G) (h':Rep K H e w G') (s:d.ja=true) (s':e.ja=true):zX v w=D.eqs d e:=by
 cases h<;>cases h'<;>simp_all [D.ja,zX,D.eqs]
theorem sF {K:Frag}{H:Hp}{x:D}{w:V}{G0:List Addr}(hx:Rep K H x w G0) (sx:x.ja=true):∀{ds:List D}{vs:List V}{G:List Addr},aI K H ds vs G→ds.all D.ja=true→inV w vs=ds.any fun y=>D.eqs y x
 |_,_,_,.nil,_=>rfl
 | _,_,_,.cons h r,s=>by
  simp only[List.all_cons,Bool.and_eq_true] at s;have ih:=sF hx sx r s.2;unfold inV at ih ⊢;rw[ie,ie,ih,AD h hx s.1 sx]
theorem oj {K:Frag}{H:Hp}:∀ ks:List Int,aI K H (ks.map D.int) (ks.map V.int) []
 |[]=>.nil
 |k::ks=>.cons (G:=[]) (G':=[]) (.int k) (oj ks)
theorem zh {f:Int→Int→Bool}{x y:D}{b:Bool}(h:lI f x y=some b):∃ i j,x = .int i∧y = .int j∧f i j=b:=by
 cases x with
 |int i=>cases y with
  |int j=>exact⟨i,j,rfl,rfl,df h⟩
  |_=>cases h
 |_=>cases h
theorem uK (op:CmpOp) (hx:X.A.units+40<cLine∧wO X.w X.K):jw X (compareOp op) (Aj X.K fun x y=>(iU op x y).map .bl):=by
 have hu:=hx.1;intro pins s σ H x y v u Q I rx ry h;obtain⟨d1,d2,d,G,rs,hd,k⟩:=h;obtain⟨G1,G2,r1,r2,rfl⟩:=rs.inv2;rw[ae] at hd;obtain⟨b,hb,rfl⟩:=hd;have fin:Q (.bl b) H:=k _ H [] (.bl b) kD.nil;have ep:∀ c,c=b→EP X pins σ Q (.bool c) s:=fun c e=>⟨.bl b,H,I,by rw[e];rfl,fin⟩
 have onInts:∀{f:Int→Int→Bool},lI f d1 d2=some b→jw X (compareOp op) (wU fun i j=>.bl (f i j))→wpAny (model X.prog X.w) X.A (compareOp op v u) (EP X pins σ Q) X.xe s:=by
  intro f h1 ho;obtain⟨i,j,rfl,rfl,e⟩:=zh h1;obtain⟨rfl,rfl⟩:=r1.int_inv;obtain⟨rfl,rfl⟩:=r2.int_inv;exact ho pins s σ H _ _ v u Q I rx ry ⟨i,j,rfl,rfl,by show Q (.bl (f i j)) H;rw[e];exact fin⟩
 have isn:decide (x=V.non)=B0 d1:=by cases r1<;>rfl
 cases op with
 |Lt=>exact onInts hb Fq
 |LtE=>exact onInts hb F9
 |Gt=>exact onInts hb E9
 |GtE=>exact onInts hb GD
 |Eq=>exact (yG I 40 X.A d1 d2 x y G1 G2 v u b hu r1 r2 rx ry hb).1 _ _ _ _ (ep b rfl)
 |NotEq =>
  have hb:(D.eqf 40 d1 d2).map (!·)=some b:=hb;rw[ae] at hb;obtain⟨c,hc,rfl⟩:=hb;exact Gu I 40 X.A d1 d2 x y G1 G2 v u c hu r1 r2 rx ry hc _ _ _ _ (ep _ rfl)
 |Is =>
  have hb:isD d1 d2=some b:=hb;cases d2 with
  |non =>
   cases hb;obtain⟨rfl,rfl⟩:=r2.non_inv;exact CV pins s σ H _ _ v u Q I rx ry ⟨rfl,by rw[isn];exact fin⟩
  |_=>cases hb
 |IsNot =>
  have hb:(isD d1 d2).map (!·)=some b:=hb;cases d2 with
  |non =>
   cases hb;obtain⟨rfl,rfl⟩:=r2.non_inv;exact Am pins s σ H _ _ v u Q I rx ry ⟨rfl,by rw[isn];exact fin⟩
  |_=>cases hb
 |In =>
  have hb:inD d1 d2=some b:=hb;cases d2 with
  |lst ys =>
   simp only[inD] at hb;by_cases hc:(d1.ja&&ys.all D.ja)=true
   ·rw[if_pos hc] at hb;cases hb;rw[ai] at hc;obtain⟨p,vs,g,rfl,rfl,a1,a2⟩:=r2.lst_inv;refine vE pins s σ H _ _ v u Q I rx ry ⟨p,vs,rfl,.inl (.inl a1),nj r1 hc.1,kQ a2 hc.2,?_⟩;rw[sF r1 hc.1 a2 hc.2];exact fin
   ·rw[if_neg hc] at hb;cases hb
  |_=>cases hb
 |NotIn =>
  have hb:(inD d1 d2).map (!·)=some b:=hb;rw[ae] at hb;obtain⟨c,hi,rfl⟩:=hb;clear hb;cases d2 with
  |lst ys =>
   simp only[inD] at hi;by_cases hc:(d1.ja&&ys.all D.ja)=true
   ·rw[if_pos hc] at hi;cases hi;rw[ai] at hc;obtain⟨p,vs,g,rfl,rfl,a1,a2⟩:=r2.lst_inv;refine qf pins s σ H _ _ v u Q I rx ry ⟨p,vs,rfl,.inl (.inl a1),nj r1 hc.1,kQ a2 hc.2,?_⟩;rw[sF r1 hc.1 a2 hc.2];exact fin
   ·rw[if_neg hc] at hi;cases hi
  |_=>cases hi
theorem wV (n:Nat) (i:Int):Pc.jy n i=L2.jy n i:=rfl
theorem A2 (hx:wO X.w X.K):zY X (G8 X.K):=by
 intro value slice pins s σ H x y v u Q I rx ry h hs;obtain⟨d1,d2,d,G,rs,hd,k⟩:=h;obtain⟨G1,G2,r1,r2,rfl⟩:=rs.inv2;cases d2 with
 |int i =>
  obtain⟨rfl,rfl⟩:=r2.int_inv;rw[bo] at k;have seq:∀{xs:List D}{vs:List V}{g:List Addr},aI X.K H xs vs g→((jy xs.length i).bind fun j=>xs[j]?)=some d→∃ w g',Cr vs i=some w∧Rep X.K H d w g'∧g'.Sublist g:=fun {xs vs g} r e=>by
   rw[ah] at e;obtain⟨j,e1,e2⟩:=e;obtain⟨w,g',a,b,c⟩:=r.get e2;refine⟨w,g',?_,b,c⟩;unfold Cr;rw[←r.len,←wV,e1];exact a
  cases d1 with
  |lst xs =>
   obtain⟨p,vs,g,rfl,rfl,a1,a2⟩:=r1.lst_inv;obtain⟨w,g',e1,e2,e3⟩:=seq a2 hd;exact vg value slice pins s σ H _ _ v u Q I rx ry ⟨p,vs,i,w,rfl,rfl,.inl a1,e1,k w g' e2 (e3.trans (List.sublist_cons_self _ _))⟩ hs
  |tup xs =>
   obtain⟨p,vs,rfl,a1,a2⟩:=r1.tup_inv;obtain⟨w,g',e1,e2,e3⟩:=seq a2 hd;exact yZ value slice pins s σ H _ _ v u Q I rx ry ⟨p,vs,i,w,rfl,rfl,a1,e1,k w g' e2 e3⟩ hs
  |_=>cases hd
 |_=>cases d1<;>cases hd
end
end Pc
end
section
namespace Pc
open PySem PySem.Spec PyProof.Rows L2
section
variable {X:Cx}{T:Tb}{a b c:Expr}{ca cb cc:Ex}{pos:Pos}
theorem El {i:Nat}{x:Str}(hN:X.N[i]? = some x) (hv:B8 X.env.scope x) (hd:(x==("__debug__" : Str))=false) (hcd:(x==("__classdict__" : Str))=false):PE X (.Name x pos) (tE X.K T (.var i)):=by
 refine bT (jL hN hv hd hcd) fun σ H Q ⟨P,env,F,re,p,hev,k⟩=>?_
 unfold ev at hev;cases hs:env[i]? with
 |none=>rw[hs] at hev;cases hev
 |some o =>
  cases o with
  |none=>rw[hs] at hev;cases hev
  |some q =>
   obtain⟨d,t⟩:=q;rw[hs] at hev;simp only[Rs.ok.injEq] at hev;subst hev;obtain⟨v,e1,rp⟩:=re.val i d t hs;refine⟨v,e1,k v H (F i) (aN.refl _) rp ?_⟩;cases hf:d.flat with
   |true =>
    rw[rp.flat hf];exact bY.nil
   |false =>
    simp only[Bool.false_eq_true,if_false];have ow:bJ t=true→bY env F H (.mv [i]) H (F i):=fun o=>by
     obtain⟨n1,n2,n3⟩:=re.one i d t hs o;refine⟨fun a ha=>.inr ⟨i,d,t,ha,hs,fun q hq=>by cases t<;>simp_all [bG,bJ,Rt.roots]⟩,fun R e=>?_⟩;cases e;exact⟨n1,n2,fun a ha=>.inr ⟨i,d,t,by simp,ha,hs,o⟩⟩
    cases t with
    |own=>exact ow rfl
    |lk=>exact ow rfl
    |sh R=>exact⟨fun a ha=>.inr ⟨i,d,.sh R,ha,hs,fun q hq=>hq⟩,fun R' e=>by cases e⟩
theorem kF {e:Expr}{d:D}{v:V}(h:PE X e (tC v)) (hr:∀ H,Rep X.K H d v []):PE X e (tE X.K T (.cst d)):=by
 refine bT h fun σ H Q ⟨P,env,F,re,p,hev,k⟩=>?_
 unfold ev at hev;cases hev;exact k v H [] (aN.refl _) (hr H) bY.nil
theorem Ea {e:Expr}{i:Nat}{v:V}(h:PE X e (tC v)) (hr:∀ H,Rep X.K H (T.gl i) v []):PE X e (tE X.K T (.glb i)):=by
 refine bT h fun σ H Q ⟨P,env,F,re,p,hev,k⟩=>?_
 unfold ev at hev;cases hev;exact k v H [] (aN.refl _) (hr H) bY.nil
theorem DM (ha:PE X a (tE X.K T ca)):PE X (.UnaryOp .USub a pos) (tE X.K T (.neg ca)):=by
 refine bT (FP Em ha) fun σ H Q ⟨P,env,F,re,p,hev,k⟩=>?_
 unfold ev at hev;obtain⟨q,h1,hev⟩:=Rs.bind_ok hev;refine⟨P,env,F,re,q,h1,fun v H1 G s rp rt=>?_⟩;cases hq:q.1 with
 |int i =>
  rw[hq] at hev rp;cases hev;obtain⟨rfl,rfl⟩:=rp.int_inv;exact⟨i,rfl,k _ H1 [] s (.int _) bY.nil⟩
 |_=>rw[hq] at hev;cases hev
theorem EJ {op:CmpOp}(hu:X.A.units+40<cLine∧wO X.w X.K) (ha:PE X a (tE X.K T ca)) (hb:PE X b (tE X.K T cb)) (hm:behindInMarks op b=false):PT X (.Compare a [op] [b] pos) (pe X.K T (.cmp op ca cb)):=by
 refine sE (AX (uK op hu) ha hb hm) fun σ H Q ⟨P,env,F,re,p0,bb,hev,ht,k⟩=>?_
 unfold ev at hev;obtain⟨p,h1,hev⟩:=Rs.bind_ok hev;obtain⟨q,h2,hev⟩:=Rs.bind_ok hev;obtain⟨d,h3,hev⟩:=Rs.bind_ok hev;have h3:=dD h3;cases hev;obtain rfl:d=bb:=df ht;refine two re h1 h2 fun x y H2 G ar=>⟨p.1,q.1,.bl d,G,ar.reps,by simp[h3],fun v H' G' rp nv=>?_⟩
 obtain⟨rfl,_⟩:=rp.bl_inv;exact⟨d,rfl,k H' (ar.same.trans nv.same)⟩
variable {rest:List Expr}
theorem CH (ha:PE X a (tE X.K T ca)) (hb:PE X (.BoolOp .And (b::rest) pos) (tE X.K T cb)):PE X (.BoolOp .And (a::b::rest) pos) (tE X.K T (.and ca cb)):=by
 refine bT (Eo ha hb) fun σ H Q ⟨P,env,F,re,p,hev,k⟩=>?_
 unfold ev at hev;obtain⟨q,h1,hev⟩:=Rs.bind_ok hev;refine⟨P,env,F,re,q,h1,fun v H1 G s rp rt=>?_⟩;cases hq:q.1 with
 |bl kb =>
  rw[hq] at hev rp;obtain⟨rfl,rfl⟩:=rp.bl_inv;cases kb with
  |true=>exact⟨true,rfl,by rw[if_pos rfl];exact⟨P,env,F,re.same s,p,hev,fun v H' G s' rp' rt'=>k v H' G (s.trans s') rp' (rt'.back s)⟩⟩
  |false =>
   cases hev;exact⟨false,rfl,by rw[if_neg ba];exact k _ H1 [] s (.bl _) bY.nil⟩
 |_=>rw[hq] at hev;cases hev
theorem FH (ha:PE X a (tE X.K T ca)) (hb:PE X (.BoolOp .Or (b::rest) pos) (tE X.K T cb)):PE X (.BoolOp .Or (a::b::rest) pos) (tE X.K T (.or ca cb)):=by
 refine bT (Fd ha hb) fun σ H Q ⟨P,env,F,re,p,hev,k⟩=>?_
 unfold ev at hev;obtain⟨q,h1,hev⟩:=Rs.bind_ok hev;refine⟨P,env,F,re,q,h1,fun v H1 G s rp rt=>?_⟩;cases hq:q.1 with
 |bl kb =>
  rw[hq] at hev rp;obtain⟨rfl,rfl⟩:=rp.bl_inv;cases kb with
  |false=>exact⟨false,rfl,by rw[if_neg ba];exact⟨P,env,F,re.same s,p,hev,fun v H' G s' rp' rt'=>k v H' G (s.trans s') rp' (rt'.back s)⟩⟩
  |true =>
   cases hev;exact⟨true,rfl,by rw[if_pos rfl];exact k _ H1 [] s (.bl _) bY.nil⟩
 |_=>rw[hq] at hev;cases hev
theorem DO (ha:PE X a (tE X.K T ca)):PE X (.UnaryOp .Not a pos) (tE X.K T (.not ca)):=by
 refine bT (Ej ha) fun σ H Q ⟨P,env,F,re,p,hev,k⟩=>?_
 unfold ev at hev;obtain⟨q,h1,hev⟩:=Rs.bind_ok hev;refine⟨P,env,F,re,q,h1,fun v H1 G s rp rt=>?_⟩;cases hq:q.1 with
 |bl kb =>
  rw[hq] at hev rp;obtain⟨rfl,rfl⟩:=rp.bl_inv;cases hev;exact⟨kb,rfl,k _ H1 [] s (.bl _) bY.nil⟩
 |_=>rw[hq] at hev;cases hev
theorem CN (ha:PT X a (pe X.K T ca)) (hb:PW X (.BoolOp .And (b::rest) pos) (pe X.K T cb)):PW X (.BoolOp .And (a::b::rest) pos) (pe X.K T (.and ca cb)):=by
 intro wh pins s σ H Q I h;refine CK ha hb wh pins s σ H Q I ?_;obtain⟨P,env,F,re,p,bb,hev,ht,k⟩:=h;unfold ev at hev;obtain⟨q,h1,hev⟩:=Rs.bind_ok hev;cases hq:q.1 with
 |bl kb =>
  rw[hq] at hev;cases kb with
  |true=>exact⟨P,env,F,re,q,true,h1,by rw[hq];rfl,fun H' s=>by show if true=true then _ else _;rw[if_pos rfl];exact⟨P,env,F,re.same s,p,bb,hev,ht,fun H2 s2=>k H2 (s.trans s2)⟩⟩
  |false =>
   cases hev;cases ht;exact⟨P,env,F,re,q,false,h1,by rw[hq];rfl,fun H' s=>by show if false=true then _ else _;rw[if_neg ba];exact k H' s⟩
 |_=>rw[hq] at hev;cases hev
theorem GL (ha:PT X a (pe X.K T ca)) (hb:PW X (.BoolOp .Or (b::rest) pos) (pe X.K T cb)):PW X (.BoolOp .Or (a::b::rest) pos) (pe X.K T (.or ca cb)):=by
 intro wh pins s σ H Q I h;refine GY ha hb wh pins s σ H Q I ?_;obtain⟨P,env,F,re,p,bb,hev,ht,k⟩:=h;unfold ev at hev;obtain⟨q,h1,hev⟩:=Rs.bind_ok hev;cases hq:q.1 with
 |bl kb =>
  rw[hq] at hev;cases kb with
  |false=>exact⟨P,env,F,re,q,false,h1,by rw[hq];rfl,fun H' s=>by show if false=true then _ else _;rw[if_neg ba];exact⟨P,env,F,re.same s,p,bb,hev,ht,fun H2 s2=>k H2 (s.trans s2)⟩⟩
  |true =>
   cases hev;cases ht;exact⟨P,env,F,re,q,true,h1,by rw[hq];rfl,fun H' s=>by show if true=true then _ else _;rw[if_pos rfl];exact k H' s⟩
 |_=>rw[hq] at hev;cases hev
theorem Ey (ha:PT X a (pe X.K T ca)):PT X (.UnaryOp .Not a pos) (pe X.K T (.not ca)):=by
 refine sE (D4 ha) fun σ H Q ⟨P,env,F,re,p,bb,hev,ht,k⟩=>?_
 unfold ev at hev;obtain⟨q,h1,hev⟩:=Rs.bind_ok hev;cases hq:q.1 with
 |bl kb =>
  rw[hq] at hev;cases hev;cases ht;exact⟨P,env,F,re,q,kb,h1,by rw[hq];rfl,fun H' s=>k H' s⟩
 |_=>rw[hq] at hev;cases hev
theorem Aq {K:Frag}{H:Hp}{d:D}{v:V}{G:List Addr}{b:Bool}(rp:Rep K H d v G) (h:truth d=some b):EI K v H b:=by
 cases rp with
 |non=>cases h;rfl
 |bl c=>cases h;rfl
 |int i=>cases h;rfl
 |lst a r =>
  rename_i vs ds g;cases h;refine .inl ⟨vs,.inl a,?_⟩;have:=r.len;cases ds<;>cases vs<;>simp_all
 |tup a r =>
  rename_i vs ds;cases h;refine .inr (.inl ⟨vs,a.sq,?_⟩);have:=r.len;cases ds<;>cases vs<;>simp_all
theorem dQ {e:Expr}(h:PE X e (tE X.K T ca)) (he:∀ whole,isTrue e X.env whole=(do let v ← whole;standAt e.pos;holding [v] (truthy v))):PT X e (pe X.K T ca):=by
 refine sE (zR h he) fun σ H Q ⟨P,env,F,re,p,bb,hev,ht,k⟩=>?_
 exact⟨P,env,F,re,p,hev,fun v H' G s rp rt=>⟨bb,Aq rp ht,k H' s⟩⟩
theorem DG (hc:PT X c (pe X.K T cc)) (ha:PE X a (tE X.K T ca)) (hb:PE X b (tE X.K T cb)):PE X (.IfExp c a b pos) (tE X.K T (.ite cc ca cb)):=by
 refine bT (yk hc ha hb) fun σ H Q ⟨P,env,F,re,p,hev,k⟩=>?_
 unfold ev at hev;obtain⟨q,h1,hev⟩:=Rs.bind_ok hev;obtain⟨kb,h2,hev⟩:=Rs.bind_ok hev;refine⟨P,env,F,re,q,kb,h1,dD h2,fun H' s=>?_⟩;cases kb with
 |true=>rw[if_pos rfl];exact⟨P,env,F,re.same s,p,hev,fun v H2 G s' rp' rt'=>k v H2 G (s.trans s') rp' (rt'.back s)⟩
 |false=>rw[if_neg ba];exact⟨P,env,F,re.same s,p,hev,fun v H2 G s' rp' rt'=>k v H2 G (s.trans s') rp' (rt'.back s)⟩
variable {es:List Expr}{cs:lT}
theorem tX:PA X [] (uU X.K T .nil):=by
 refine yR mJ fun σ H Q ⟨P,env,F,re,l,hev,k⟩=>?_
 unfold bK at hev;cases hev;exact k [] H [] (.nil (aN.refl _))
theorem lQ (ha:PE X a (tE X.K T ca)) (hr:PA X es (uU X.K T cs)) (hs:starEach (a::es) X.env=(false,eval a X.env)::starEach es X.env):PA X (a::es) (uU X.K T (.cons ca cs)):=by
 refine yR (fZ ha hr hs) fun σ H Q ⟨P,env,F,re,l,hev,k⟩=>?_
 unfold bK at hev;obtain⟨p,h1,hev⟩:=Rs.bind_ok hev;obtain⟨q,h2,hev⟩:=Rs.bind_ok hev;cases hev;exact⟨P,env,F,re,p,h1,fun v H1 G s rp rt=>⟨P,env,F,re.same s,q,h2,fun vs H2 G' ar=>k (v::vs) H2 _ (.cons s rp rt ar)⟩⟩
theorem bY.addNew {env:En}{F:Nat→List Addr}{H H1:Hp}{r:Rt}{G:List Addr}{p:Addr}{vs:List V}(h:bY env F H r H1 G) (e:aN H H1) (hp:H1 p=none) (hl:∀ a∈G,H1 a≠none):bY env F H r (upd H1 p (.lst vs)) (p::G) where
 cont:=fun a ha=>by
  rcases et.mp ha with rfl | ha
  ·exact .inl (aN.no e hp)
  ·exact h.cont a ha
 mv:=fun R hr=>by
  obtain⟨a,b,c⟩:=h.mv R hr;refine⟨iw.mpr ⟨fun z=>hl p z hp,a⟩,fun x hx=>?_,fun x hx=>?_⟩
  ·rcases et.mp hx with rfl | hx
   ·exact⟨.l _,bN⟩
   ·obtain⟨ws,q⟩:=b x hx;exact⟨ws,aN.new hp _ _ q⟩
  ·rcases et.mp hx with rfl | hx
   ·exact .inl (aN.no e hp)
   ·exact c x hx
theorem Dk (h:PA X es (uU X.K T cs)):PE X (.List es pos) (tE X.K T (.lst cs)):=by
 refine bT (C3 h) fun σ H Q ⟨P,env,F,re,p,hev,k⟩=>?_
 unfold ev at hev;obtain⟨l,h1,hev⟩:=Rs.bind_ok hev;by_cases hl:l.length≤lim
 ·rw[if_pos hl] at hev;cases hev;refine⟨P,env,F,re,l,h1,fun vs H1 G ar=>?_⟩;have rs:=ar.reps;have hlen:=rs.len;rw[aj] at hlen;refine⟨by rw[←hlen];exact mV hl,fun q hq=>?_⟩;have e:=aN.new (o:=.lst vs) hq;exact k _ _ (q::G) (ar.same.trans e) (.lst (.inl bN) (rs.same e)) ((ar.comb re).addNew ar.same hq fun a ha=>rs.nn ha)
 ·rw[if_neg hl] at hev;cases hev
theorem DE {x1:Nat}(h:PA X es (uU X.K T cs)):PE X (.Tuple es x1 pos) (tE X.K T (.tup cs)):=by
 refine bT (Dd h) fun σ H Q ⟨P,env,F,re,p,hev,k⟩=>?_
 unfold ev at hev;obtain⟨l,h1,hev⟩:=Rs.bind_ok hev;by_cases hl:l.length≤lim
 ·rw[if_pos hl] at hev;cases hev;refine⟨P,env,F,re,l,h1,fun vs H1 G ar=>?_⟩;have rs:=ar.reps;have hlen:=rs.len;rw[aj] at hlen;refine⟨by rw[←hlen];exact mV hl,fun q hq=>?_⟩;have e:=aN.new (o:=.tup vs) hq;exact k _ _ G (ar.same.trans e) (.tup (.inl bN) (rs.same e)) ((ar.comb re).later e)
 ·rw[if_neg hl] at hev;cases hev
noncomputable def Bq (K:Frag) (n:Nat) (f:List D→Rs (D×Bool)):Sp:=fun vs H Q E=>∃ ds G,ds.length=n∧aI K H ds vs G∧∃ r,f ds = .ok r∧∀ v H' G',aN H H'→Rep K H' r.1 v G'→(∀ a∈G',H a=none∨a∈G)→(r.2=true→G'.Nodup∧∀ a∈G',H a=none∧∃ vs:ML,H' a=some vs.o)→Q v H'
theorem uW {K:Frag}{n:Nat}{f:List D→Rs (D×Bool)}{vs:List V}{H:Hp}{Q:VK}{E:XK}(h:Bq K n f vs H Q E):vs.length=n:=by
 obtain⟨ds,G,h1,h2,_⟩:=h;rw[←h1,h2.len]
theorem oJ {f:Nat}{n:Nat}{σ:L2.St}{H:Hp}{Q:VK}(hn:∀ ds r,T.cl f ds = .ok r→ds.length=n) (h:tE X.K T (.call f cs) σ H Q):zr (Bq X.K n (T.cl f)) [] E0 (uU X.K T cs) σ H Q:=by
 obtain⟨P,env,F,re,p,hev,k⟩:=h;unfold ev at hev;obtain⟨l,h1,hev⟩:=Rs.bind_ok hev;obtain⟨r,h2,hev⟩:=Rs.bind_ok hev;cases hev;refine⟨P,env,F,re,l,h1,fun vs H1 G ar=>?_⟩;show Bq X.K n (T.cl f) (vs ++ []) H1 Q E0;rw[bo];refine⟨l.map (·.1),G,hn _ _ h2,ar.reps,r,h2,fun v H' G' s rp sub fr=>k v H' G' (ar.same.trans s) rp ?_⟩;cases hr:r.2 with
 |true =>
  obtain⟨a,b⟩:=fr hr;have c:∀ x∈G',H x=none:=fun x hx=>aN.no ar.same (b x hx).1
  exact⟨fun x hx=>.inl (c x hx),fun R e=>⟨a,fun x hx=>(b x hx).2,fun x hx=>.inl (c x hx)⟩⟩
 |false =>
  refine⟨fun x hx=>?_,fun R e=>by cases e⟩;rcases sub x hx with q | q
  ·exact .inl (aN.no ar.same q)
  ·exact ar.cont x q
end
noncomputable def qY (K:Frag) (b:AZ):List V→Hp→VK→Prop:=fun xs H Q=>∃ ds d G,aI K H ds xs G∧lF b ds=some d∧∀ v H' G',Rep K H' d v G'→kD H H' G d G'→Q v H'
section
variable {X:Cx}{T:Tb}
theorem rO {b:AZ}{cs:lT}{σ:L2.St}{H:Hp}{Q:VK}(h:tE X.K T (.blt b cs) σ H Q):tCB (qY X.K b) (uU X.K T cs) σ H Q:=by
 obtain⟨P,env,F,re,p,hev,k⟩:=h;unfold ev at hev;obtain⟨l,h1,hev⟩:=Rs.bind_ok hev;obtain⟨d,h2,hev⟩:=Rs.bind_ok hev;cases hev;exact⟨P,env,F,re,l,h1,fun vs H1 G ar=>⟨l.map (·.1),d,G,ar.reps,dD h2,fun v H' G' rp nv=>k v H' G' (ar.same.trans nv.same) rp (bY.new ar nv fun _ z=>z)⟩⟩
theorem aI.of1 {K:Frag}{H:Hp}{d:D}{xs:List V}{G:List Addr}(h:aI K H [d] xs G):∃ x,xs=[x]∧Rep K H d x G:=by
 cases h with
 |cons r s=>cases s;exact⟨_,rfl,by rw[bo];exact r⟩
theorem aI.of2 {K:Frag}{H:Hp}{d e:D}{xs:List V}{G:List Addr}(h:aI K H [d,e] xs G):∃ x y G1 G2,xs=[x,y]∧Rep K H d x G1∧Rep K H e y G2:=by
 cases h with
 |cons r s =>
  cases s with
  |cons r' s'=>cases s';exact⟨_,_,_,_,rfl,r,r'⟩
theorem vY:gQ X (.builtin "len") (qY X.K .len):=by
 intro pins s σ H xs us Q I r h;obtain⟨ds,d,G,rs,hd,k⟩:=h
 match ds,hd with
 |[.lst ys],hd =>
  cases hd;obtain⟨x,rfl,rp⟩:=rs.of1;obtain⟨p,vs,g,rfl,rfl,a1,a2⟩:=rp.lst_inv;exact j8 pins s σ H _ us Q I r ⟨p,vs,rfl,.inl (.inl a1),by rw[←a2.len];exact k _ H [] (.int _) kD.nil⟩
 |[.tup ys],hd =>
  cases hd;obtain⟨x,rfl,rp⟩:=rs.of1;obtain⟨p,vs,rfl,a1,a2⟩:=rp.tup_inv;exact j8 pins s σ H _ us Q I r ⟨p,vs,rfl,.inr a1,by rw[←a2.len];exact k _ H [] (.int _) kD.nil⟩
theorem qU {pins:List (Addr×Obj)}{s:Shared}{σ:L2.St}{H:Hp}{xs:List V}{us:List Value}{Q:VK}(I:Inv X pins σ H s) (r:aQ xs us) {ds:List D}{d:D}{G:List Addr}(rs:aI X.K H ds xs G) (hd:lF .list ds=some d) (k:∀ v H' G',Rep X.K H' d v G'→kD H H' G d G'→Q v H'):wpAny (model X.prog X.w) X.A (call (.type "list") us) (EP X pins σ Q) X.xe s:=by
 match ds,hd with
 |[.lst ys],hd =>
  cases hd;obtain⟨x,rfl,rp⟩:=rs.of1;obtain⟨p,vs,g,rfl,rfl,a1,a2⟩:=rp.lst_inv;refine jX pins s σ H _ us Q I r ⟨p,vs,rfl,.inl (.inl a1),fun l hl=>?_⟩;obtain⟨n1,n2⟩:=jj (G0:=p::g) a2 (fun a ha=>aa _ ha) hl;exact k _ _ _ n1 n2
 |[.tup ys],hd =>
  cases hd;obtain⟨x,rfl,rp⟩:=rs.of1;obtain⟨p,vs,rfl,a1,a2⟩:=rp.tup_inv;refine jX pins s σ H _ us Q I r ⟨p,vs,rfl,.inr a1,fun l hl=>?_⟩;obtain⟨n1,n2⟩:=jj (G0:=G) a2 (fun a ha=>ha) hl;exact k _ _ _ n1 n2
end
end Pc
end
section
namespace Pc
open PySem PySem.Spec PyProof.Rows L2
noncomputable def kC (K:Frag) (P:Addr→Prop) (H0:Hp) (J:It) (ds:List D) (G:List Addr):Prop:=∀ H,kq P H0 H→(∀(i:Nat) (d:D),ds[i]? = some d→J.go i H∧∀ x H',J.yld i H x H'→aN H H'∧∃ G',Rep K H' d x G'∧∀ a∈G',a∈G)∧J.stop ds.length H
noncomputable def tI (K:Frag) (T:Tb) (it:rT):TI:=fun σ H R=>∃ P env F,RE K P env σ H F∧∃ p,fQ T it env = .ok p∧∀ J H' G,aN H H'→bY env F H (.sh p.2) H' G→(∀ a∈G,H' a≠none)→(∀ P',(∀ a∈G,P' a)→kC K P' H' J p.1 G)→R J H'
theorem vI {K:Frag}{P:Addr→Prop}{H0:Hp}{p:Addr}{vs:List V}{ds:List D}{G:List Addr}(h1:Rd H0 p (.lst vs)) (h2:aI K H0 ds vs G) (hp:∀ a∈p::G,P a):kC K P H0 (Itl K p) ds (p::G):=fun H e=>by
 have ep:=e.keep p (hp p ag);have h1':Rd H p (.lst vs):=by
  rcases h1 with q | ⟨o,q⟩
  ·exact .inl (ep.trans q)
  ·exact .inr ⟨o,ep.trans q⟩
 have h2':=e.reps h2 fun a ha=>hp a (aa _ ha)
 refine⟨fun i d hd=>?_,⟨vs,.inl h1',by rw[h2.len];exact au _⟩⟩;obtain⟨v,G',a,b,c⟩:=h2'.get hd;refine⟨⟨vs,v,.inl h1',a⟩,fun x H' ⟨e1,e2⟩=>?_⟩;subst e1;have:=e2 vs (.inl h1');rw[a] at this;cases this;exact⟨aN.refl _,G',b,fun z hz=>aa _ (c.subset hz)⟩
theorem zL {K:Frag}{P:Addr→Prop}{H0:Hp}{p:Addr}{vs:List V}{ds:List D}{G:List Addr}(h1:qb K H0 p vs) (h2:aI K H0 ds vs G) (hp:∀ a∈G,P a):kC K P H0 (Itt K p) ds G:=fun H e=>by
 have h1':=e.tqT h1;have h2':=e.reps h2 hp;refine⟨fun i d hd=>?_,⟨vs,h1'.sq,by rw[h2.len];exact au _⟩⟩;obtain⟨v,G',a,b,c⟩:=h2'.get hd;refine⟨⟨vs,v,h1'.sq,a⟩,fun x H' ⟨e1,e2⟩=>?_⟩;subst e1;have:=e2 vs h1'.sq;rw[a] at this;cases this;exact⟨aN.refl _,G',b,fun z hz=>c.subset hz⟩
noncomputable def ItV (xs:List V):It:=⟨fun i _=>i<xs.length,fun i H x H'=>H'=H∧xs[i]? = some x,fun i _=>xs.length≤i⟩
theorem wj {K:Frag}{P:Addr→Prop}{H0:Hp}{vs:List V}{ds:List D}(hr:∀ H,aI K H ds vs []):kC K P H0 (ItV vs) ds []:=fun H e=>by
 have hl:=(hr H).len;refine⟨fun i d hd=>?_,by show vs.length≤ds.length;omega⟩;obtain⟨v,G',a,b,c⟩:=(hr H).get hd;refine⟨by show i<vs.length;rw[←hl];exact (List.getElem?_eq_some_iff.mp hd).1,fun x H' ⟨e1,e2⟩=>?_⟩;subst e1;rw[a] at e2;cases e2;exact⟨aN.refl _,G',b,fun z hz=>c.subset hz⟩
theorem wL {P:Program}{w:World}{K:Frag}{tg:Expr}{it:Addr}{xs:List V}{Pv:Nat→Value→Prop}{St:Nat→Heap→Prop}(W:∀ A:Around,A.handled=none→Walks P w A it [it] [it] xs.length Pv St) (hP:∀ i v,Pv i v→∃ x,xs[i]? = some x∧RelV x v)
  (ob:∀ i h,St i h→∃ o n vs,h.get? it=some o∧o.cls = .type n∧o.data = .fields vs∧["enumerate","zip","dict_itemiterator","dict_reverseitemiterator","odict_iterator","itertools.zip_longest","itertools.pairwise"].contains n=false)
  (fr:∀ i h h',St i h→(∀ o,h.get? it=some o→h'.get? it=some o)→St i h') (le:∀ i h,St i h→i≤xs.length) (slf:∀(A:Around) (i:Nat) (s:Shared) (Q E:Value→Shared→Prop),St i s.heap→Q (.ref it) s→wpAny (model P w) A (pyIter (.ref it)) Q E s):Turn P w K tg (ItV xs) [it] it St where
 mem:=by simp
 obj:=fun i h st b hb=>by
  have e:b=it:=by simpa using hb
  subst e;obtain⟨o,n,vs,h1,h2,h3,_⟩:=ob i h st;exact⟨o,h1,fun v z=>by rw[h3] at z;cases z⟩
 keep:=fun i h h' st k=>fr i h h' st fun o e=>k it (by simp) o e
 item:=by
  intro X hp hw hK hc i pins s σ H E I hf st hg;subst hp hw hK;obtain⟨f0,f1,f2,f3,f4,f5⟩:=hf it (by simp);refine (W X.A (I.ok.hd hc)).item i s _ _ hg st fun v h' tk hv st' kk=>?_
  obtain⟨x,ex,rx⟩:=hP i v hv;have I1:Inv X pins σ H { s with heap:=h',toks:=tk }:=I.turned (fun b o hb e=>kk b o (by simpa using hb) e) f0 f1 f3 f4 f5;obtain⟨o,n,vs,h1,h2,h3,h4⟩:=ob (i+1) h' st';exact⟨v,rfl,xq (s:={ s with heap:=h',toks:=tk }) (n:=n) h1 h2 h3 h4 ⟨x,H,I1,rx,⟨rfl,ex⟩,st',fun b hb=>(hf b hb).1⟩⟩
 done:=by
  intro X hp hw hK hc i pins s σ H E I hf st hg;subst hp hw hK;obtain⟨f0,f1,f2,f3,f4,f5⟩:=hf it (by simp);have hi:i=xs.length:=Nat.le_antisymm (le i _ st) hg;subst hi;exact (W X.A (I.ok.hd hc)).done s _ _ st fun h' tk kk=>⟨rfl,I.turned (fun b o hb e=>kk b o (by simpa using hb) e) f0 f1 f3 f4 f5⟩
 self:=fun A i s Q E st h=>slf A i s Q E st h
noncomputable def eI (a c:Int) (n:Nat):List V:=(List.range n).map fun (i:Nat)=>.int (a+(i:Int)*c)
theorem jF (a c:Int) (n:Nat):(eI a c n).length=n:=by simp[eI]
theorem iH {K:Frag}{H:Hp}(c:Int):∀(n:Nat) (a:Int),aI K H (bC a c n) (eI a c n) []
 |0,a=>.nil
 | n+1,a=>by
  have e:eI a c (n+1) = .int a::eI (a+c) c n:=by
   unfold eI;rw[List.range_succ_eq_map,ax,bg];congr 1
   ·simp
   ·refine en fun i _=>?_
    simp only[Function.comp_apply,V.int.injEq,Nat.succ_eq_add_one]
    push_cast
    rw[Int.add_mul];omega
  rw[e];show aI K H (.int a::bC (a+c) c n) _ ([] ++ []);exact .cons (.int a) (iH c n (a+c))
theorem j9 (a b c:Int) (hc:c≠0):0≤Builtin.Range.rangeSize a b c:=by
 unfold Builtin.Range.rangeSize;split
 ·rename_i h;split
  ·have:0≤(b - a - 1) / c:=Int.ediv_nonneg (by omega) (by omega);omega
  ·omega
 ·split
  ·have:0≤(a - b - 1) / (-c):=Int.ediv_nonneg (by omega) (by omega);omega
  ·omega
theorem rQ {a b c:Int}(ha:fJ a=true) (hb:fJ b=true) (hc:c≠0) (hs:c.natAbs<1073741824):Builtin.Range.small a b c=true:=by
 unfold fJ at ha hb;have ha:=du ha;have hb:=du hb;have hn:=j9 a b c hc;have hu:Builtin.Range.rangeSize a b c<2 ^ 63:=by
  unfold Builtin.Range.rangeSize;split
  ·split
   ·have:=Int.ediv_le_self (b:=c) (a:=b - a - 1) (by omega);omega
   ·decide
  ·split
   ·have:=Int.ediv_le_self (b:=-c) (a:=a - b - 1) (by omega);omega
   ·decide
 unfold Builtin.Range.small;simp only[Builtin.Range.rangeFitsLong,Bool.and_eq_true,Bool.or_eq_true,decide_eq_true_eq,beq_iff_eq];refine⟨⟨⟨⟨⟨by omega,by omega⟩,by omega,by omega⟩,by omega,by omega⟩,by omega,hu⟩,.inr ?_⟩;split<;>simp only[Bool.and_eq_true,decide_eq_true_eq]<;>omega
section
variable {X:Cx}{tg:Expr}
theorem kS {pins:List (Addr×Obj)}{σ:L2.St}{H:Hp}{s:Shared}{R:It→Hp→Prop}{E:Value→Shared→Prop}{lo hi c:Int}{t u v:Tok}{tk:Nat}(I:Inv X pins σ H s) (h1:fJ lo=true) (h2:fJ hi=true) (h3:c≠0) (h4:c.natAbs<1073741824)
  (q:R (ItV (eI lo c (Builtin.Range.rangeSize lo hi c).toNat)) H):wpAny (model X.prog X.w) X.A (pyIter (.ref s.heap.objs.size)) (PIE X pins σ tg R) E { s with heap:=s.heap.push { cls:=.type "range",data:=.fields #[.int lo t,.int hi u,.int c v] },toks:=tk }:=by
 refine wpAny_pyIter_range (IsRange.new ..) (rQ h1 h2 h3 h4) ?_;have I1:Inv X pins σ H { s with heap:=s.heap.push { cls:=.type "range",data:=.fields #[.int lo t,.int hi u,.int c v] },toks:=tk }:=I.kept fun b o e=>Heap.get?_push_of_some _ e
 have hn:=j9 lo hi c h3;let n:=(Builtin.Range.rangeSize lo hi c).toNat;refine⟨(s.heap.push { cls:=.type "range",data:=.fields #[.int lo t,.int hi u,.int c v] }).objs.size,[(s.heap.push { cls:=.type "range",data:=.fields #[.int lo t,.int hi u,.int c v] }).objs.size],
  (fun i h=>i≤n∧IsRangeIter h (s.heap.push { cls:=.type "range",data:=.fields #[.int lo t,.int hi u,.int c v] }).objs.size (lo+(i:Nat)*c) ((n:Int) - (i:Nat)) c),_,H,rfl,
  I1.kept (t':=tk) fun b o e=>Heap.get?_push_of_some _ e,wL (Pv:=fun i v=>i<n∧∃ t,v = .int (lo+i*c) t) (fun A hA=>?_) (fun i v hv=>?_) (fun i h st=>?_) (fun i h h' st k=>⟨st.1,k _ st.2⟩) (fun i h st=>by rw[jF];exact st.1) (fun A i s Q E st h=>wpAny_pyIter_rangeiter st.2 h),?_,fun b hb=>?_,q⟩
 ·rw[jF];have W:=Walks.range (prog:=X.prog) (w:=X.w) hA (s.heap.push { cls:=.type "range",data:=.fields #[.int lo t,.int hi u,.int c v] }).objs.size lo c n;exact⟨W.sub,fun i h h' st k=>⟨st.1,W.frame i h h' st.2 k⟩,fun i s Q E hi st hQ=>W.item i s Q E hi st.2 fun v h' tk hv st' kk=>hQ v h' tk ⟨hi,hv⟩ ⟨hi,st'⟩ kk,fun s Q E st hQ=>W.done s Q E st.2 hQ,fun i s Q E st h=>W.self i s Q E st.2 h⟩
 ·obtain⟨hi',t',rfl⟩:=hv;exact⟨.int (lo+i*c),by unfold eI;rw[List.getElem?_map,List.getElem?_range hi'];rfl,t',rfl⟩
 ·exact⟨_,_,_,st.2,rfl,rfl,by decide⟩
 ·refine⟨dm _,?_⟩;have e1:lo+((0:Nat):Int)*c=lo:=by simp
  have e2:((n:Nat):Int) - ((0:Nat):Int)=Builtin.Range.rangeSize lo hi c:=by omega
  rw[e1,e2];exact Heap.get?_push_size _ rfl
 ·have e:b=(s.heap.push { cls:=.type "range",data:=.fields #[.int lo t,.int hi u,.int c v] }).objs.size:=by simpa using hb
  subst e;exact I1.fpOk (au _) (I1.hok.fresh (au _))
end
end Pc
end
section
namespace Pc
open PySem PySem.Spec PyProof.Rows L2
section
variable {X:Cx}{tg:Expr}{T:Tb}{pins:List (Addr×Obj)}{σ:L2.St}{H:Hp}{s:Shared}{R:It→Hp→Prop}{E:Value→Shared→Prop}
theorem Ba {a:Addr}{xs:List V}(I:Inv X pins σ H s) (hq:ky X.K H a xs) (q:R (Itl X.K a) H):wpAny (model X.prog X.w) X.A (pyIter (.ref a)) (PIE X pins σ tg R) E s:=by
 obtain⟨its,rv,p,hz⟩:=I.list hq;refine wpAny_pyIter_list p.isList ?_;refine⟨s.heap.objs.size,[s.heap.objs.size],_,_,H,rfl,I.kept (t':=s.toks) fun b o e=>Heap.get?_push_of_some _ e,wF a _,⟨_,Heap.get?_push_size _ rfl,rfl,rfl⟩,fun b hb=>?_,q⟩;have e:b=s.heap.objs.size:=by simpa using hb
 subst e;exact I.fpOk (au _) (I.hok.fresh (au _))
theorem xg {a:Addr}{xs:List V}(I:Inv X pins σ H s) (hq:nK X.K H a xs) (q:R (Itt X.K a) H):wpAny (model X.prog X.w) X.A (pyIter (.ref a)) (PIE X pins σ tg R) E s:=by
 obtain⟨its,rv,p,hz⟩:=I.tuple hq;refine wpAny_pyIter_tuple (show s.heap.IsTuple a its.toArray from p) ?_;refine⟨s.heap.objs.size,[s.heap.objs.size],_,_,H,rfl,I.kept (t':=s.toks) fun b o e=>Heap.get?_push_of_some _ e,sO a _,⟨_,Heap.get?_push_size _ rfl,rfl,rfl⟩,fun b hb=>?_,q⟩;have e:b=s.heap.objs.size:=by simpa using hb
 subst e;exact I.fpOk (au _) (I.hok.fresh (au _))
theorem xu {e:Expr}{c:Ex}(h:PE X e (tE X.K T c)):PI X tg e (tI X.K T (.seq c)):=by
 intro pins s σ H R I hq;obtain⟨P,env,F,re,p,hev,k⟩:=hq;unfold fQ at hev;obtain⟨q,h1,hev⟩:=Rs.bind_ok hev;obtain⟨l,h2,hev⟩:=Rs.bind_ok hev;have h2:=dD h2;cases hev;refine dB (h pins s σ H (fun v H'=>∃ G,aN H H'∧Rep X.K H' q.1 v G∧bY env F H q.2 H' G) I ⟨P,env,F,re,q,h1,fun v H' G s rp rt=>⟨G,s,rp,rt⟩⟩) fun u s1 ⟨v,H1,I1,r1,G,e,rp,rt⟩=>?_
 have rt':bY env F H (.sh q.2.roots) H1 G:=rt.part (fun _ h=>h) (fun _ h=>h) fun R e=>by cases e
 cases hd:q.1 with
 |lst xs =>
  rw[hd] at rp h2;cases h2;obtain⟨a,vs,g,rfl,rfl,a1,a2⟩:=rp.lst_inv;cases r1;exact Ba I1 (.inl a1) (k _ H1 (a::g) e rt' (fun b hb=>rp.nn hb) fun P' hP=>vI a1 a2 hP)
 |tup xs =>
  rw[hd] at rp h2;cases h2;obtain⟨a,vs,rfl,a1,a2⟩:=rp.tup_invT;cases r1;exact xg I1 a1.sq (k _ H1 G e rt' (fun b hb=>rp.nn hb) fun P' hP=>zL a1 a2 hP)
 |_=>rw[hd] at h2;cases h2
theorem lu (a b:Int):(Builtin.Range.rangeSize a b 1).toNat=(b - a).toNat:=by
 rw[rangeSize_one];split<;>omega
theorem D9 {es:List Expr}{cs:lT}{it:rT}{p pos:Pos}{e0:Expr}{rest:List Expr}(hes:es=e0::rest) (hg:Gl X "range") (hm:X.mg "range" = none) (ha:PA X es (uU X.K T cs)) (hs:starEach es X.env=(false,eval e0 X.env)::starEach rest X.env) (hpl:(backTo pos (starEach rest X.env)).any (·.1)=false)
  (hit:∀ env p,fQ T it env = .ok p→p.2=[]∧∃ l,bK T cs env = .ok l∧((∃ j,l.map (·.1)=[.int j]∧fJ j=true∧p.1=bC 0 1 j.toNat)∨(∃ i j,l.map (·.1)=[.int i,.int j]∧fJ i=true∧fJ j=true∧p.1=bC i 1 (j - i).toNat) ∨
   ∃ i j k,l.map (·.1)=[.int i,.int j,.int k]∧fJ i=true∧fJ j=true∧k≠0∧k.natAbs<1073741824∧p.1=bC i k (Builtin.Range.rangeSize i j k).toNat)) :
  PI X tg (.Call (.Name "range" p) es [] pos) (tI X.K T it):=by
 subst hes;intro pins s σ H R I hq;obtain⟨P,env,F,re,q,hev,k⟩:=hq;obtain⟨hq2,l,hl,hc⟩:=hit env q hev;refine Call_ (iX I hg hm boot_range (dr (dB (ha pos pins s σ H (fun vs H'=>∃ G,Args X.K env F H H' l vs G) I ⟨P,env,F,re,l,hl,fun vs H' G ar=>⟨G,ar⟩⟩) fun us s1 ⟨vs,H1,I1,r1,G,ar⟩=>?_) hs hpl));have rs:=ar.reps;have fin:∀(a c:Int) (n:Nat),q.1=bC a c n→R (ItV (eI a c n)) H1:=fun a c n e=>by
  refine k _ H1 [] ar.same bY.nil (fun _ h=>(nomatch h)) fun P' _=>?_
  rw[e];exact wj fun H=>iH c n a
 have one:∀{d:D}{ds:List D}{vs:List V}{us:List Value}{G:List Addr},aI X.K H1 (d::ds) vs G→aQ vs us→∀ i,d = .int i→∃ t us' vs' G',us = .int i t::us'∧vs = .int i::vs'∧aI X.K H1 ds vs' G'∧aQ vs' us':=by
  intro d ds vs us G r rv i e;subst e;cases r with
  |cons r rr =>
   obtain⟨rfl,rfl⟩:=r.int_inv;cases rv with
   |cons x y =>
    obtain⟨t,rfl⟩:=x;exact⟨t,_,_,_,rfl,rfl,rr,y⟩
 have nil:∀{vs:List V}{us:List Value}{G:List Addr},aI X.K H1 [] vs G→aQ vs us→us=[]:=by
  intro vs us G r rv;cases r;cases rv;rfl
 rcases hc with ⟨j,e1,e2,e3⟩ | ⟨i,j,e1,e2,e3,e4⟩ | ⟨i,j,c,e1,e2,e3,e4,e5,e6⟩
 ·rw[e1] at rs;obtain⟨t,us',vs',G',rfl,_,rs,r1⟩:=one rs r1 j rfl;obtain rfl:=nil rs r1;refine call_range_1 (kS (c:=1) I1 (by decide) e2 (by decide) (by decide) ?_);refine fin _ _ _ ?_;rw[e3,lu];simp
 ·rw[e1] at rs;obtain⟨t,us',vs',G',rfl,_,rs,r1⟩:=one rs r1 i rfl;obtain⟨t',us'',vs'',G'',rfl,_,rs,r1⟩:=one rs r1 j rfl;obtain rfl:=nil rs r1;refine call_range_2 (kS (c:=1) I1 e2 e3 (by decide) (by decide) ?_);refine fin _ _ _ ?_;rw[e4,lu]
 ·rw[e1] at rs;obtain⟨t,us',vs',G',rfl,_,rs,r1⟩:=one rs r1 i rfl;obtain⟨t',us'',vs'',G'',rfl,_,rs,r1⟩:=one rs r1 j rfl;obtain⟨t3,us3,vs3,G3,rfl,_,rs,r1⟩:=one rs r1 c rfl;obtain rfl:=nil rs r1;refine call_range_3 e4 (kS (c:=c) I1 e2 e3 e4 e5 ?_) (.inl (PyProof.noPylong_small e5));exact fin _ _ _ e6
end
end Pc
end
section
namespace Pc
open PySem PySem.Spec PyProof.Rows L2
theorem ym {h:Heap}{o o':Obj}{b:Addr}(e:(h.push o).get? b=some o'):(b=h.objs.size∧o'=o)∨h.get? b=some o':=by
 obtain⟨e1,e2⟩:=Heap.get?_some_iff.mp e;by_cases hb:b=h.objs.size
 ·left;subst hb;refine⟨rfl,?_⟩;have:(h.push o).objs[h.objs.size]? = some o:=by cases h;simp[Heap.push]
  rw[this] at e1;exact (df e1).symm
 ·right;refine Heap.get?_some_iff.mpr ⟨?_,e2⟩;cases h;simpa[Heap.push,Array.getElem?_push,hb] using e1
theorem iZ {h:Heap}{a b:Addr}{o o':Obj}(e:h.get? a=some o) (e':h.get? b=some o') (n:o.cls≠o'.cls):a≠b:=by
 rintro rfl;rw[e] at e';cases e';exact n rfl
theorem gM (b i j:Nat) (h:i≠j):(b+i:Nat)≠b+j:=by omega
theorem iB (b n i:Nat) (h:b+4<n) (hi:i≤4):b+i<n:=by omega
theorem Cw (n b:Nat) (h:b=n+1∨b=n):n≤b:=by omega
theorem AR (n b:Nat) (h:b=n+4∨b=n+2∨b=n+3∨b=n∨b=n+1):n≤b:=by omega
section
variable {X:Cx}{pins:List (Addr×Obj)}{σ:L2.St}{H:Hp}{s:Shared}
theorem j6 {h':Heap}{t':Nat}{ch:List Addr}(I:Inv X pins σ H s) (k:∀ b o,b∉ch→s.heap.get? b=some o→h'.get? b=some o) (hf:∀ b∈ch,jx X pins H b):Inv X pins σ H { s with heap:=h',toks:=t' }:=by
 have nit:∀ b u,H b=some u→b∉ch:=fun b u e z=>by
  have:=(hf b z).1;rw[this] at e;cases e
 refine I.step (g':=s.gens) (d':=s.drawn) (ch:=ch) (fun b hb=>?_) (fun b o _ _ hc e _=>k b o hc e) (fun b o _ _ hc e _=>⟨o.slots,k b o hc e⟩) (fun _ _ _ _ n=>n)
  (fun b o hc e=>⟨o,k b o hc e⟩) (fun _ _ e=>e) (fun _ _ _ e=>e) (fun b ps e=>⟨#[],by rw[e];simp⟩) (fun m hm=>?_) (fun b u e=>?_) I.bare
 ·obtain⟨f0,f1,f2,f3,f4,f5⟩:=hf b hb;exact⟨f3,f1,f4,f5⟩
 ·obtain⟨o,es,ep,ho,r⟩:=hm;exact⟨o,es,ep,k _ o (fun z=>(hf _ z).2.1 rfl) ho,r⟩
 ·refine (I.hok b u e).stay (fun c v hc q=>k c v ?_ q) (fun _ q=>q) fun _ _ q=>q
  rcases hc with z | z
  ·rw[z];exact nit b u e
  ·exact nit c _ z
theorem paired {h':Heap}{t':Nat}{ch:List Addr}{x y:V}{u v:Value}(I:Inv X pins σ H s) (hu:RelV x u) (hv:RelV y v) (hT:h'.get? s.heap.objs.size=some { cls:=.type "tuple",data:=.seq #[u,v] })
  (k:∀ b o,b∉ch→s.heap.get? b=some o→h'.get? b=some o) (hf:∀ b∈ch,jx X pins H b) (hl:∀ b∈ch,b<s.heap.objs.size):Inv X pins σ (upd H s.heap.objs.size (.tup [x,y])) { s with heap:=h',toks:=t' }:=by
 have I1:Inv X pins σ (upd H s.heap.objs.size (.tup [x,y])) { s with heap:=s.heap.push { cls:=.type "tuple",data:=.seq #[u,v] },toks:=t' } :=
  I.laid (fun _ _ q=>Heap.get?_push_of_some _ q) (au _) ⟨by show 2≤sizeLine;decide,[u,v],.cons hu (.cons hv .nil),⟨_,Heap.get?_push_size _ rfl,rfl,_,rfl⟩⟩
 refine j6 (s:={ s with heap:=s.heap.push { cls:=.type "tuple",data:=.seq #[u,v] },toks:=t' }) (ch:=ch) I1 (fun b o hb q=>?_) fun b hb=>?_
 ·rcases ym q with ⟨rfl,rfl⟩ | q
  ·exact hT
  ·exact k b o hb q
 ·obtain⟨f0,f⟩:=hf b hb;exact⟨by rw[aS (bt (hl b hb))];exact f0,f⟩
end
noncomputable def Ite (K:Frag) (l:Addr):It:=⟨fun i H=>∃ xs x,ky K H l xs∧xs[i]? = some x,fun i H v H'=>∃ T x,v = .ref T∧H T=none∧(∀ xs,ky K H l xs→xs[i]? = some x)∧H'=upd H T (.tup [.int i,x]),fun i H=>∃ xs,ky K H l xs∧xs.length≤i⟩
theorem wD {P:Program}{w:World}{K:Frag}{elts:List Expr}{x1:Nat}{pos:Pos}(l e it:Addr) (hne:e≠it):Turn P w K (.Tuple elts x1 pos) (Ite K l) [e,it] e (fun i h=>(∃ old,IsEnum h e it (i:Nat) old)∧h.IsListIter it l i) where
 mem:=by simp
 obj:=fun i h st b hb=>by
  obtain⟨⟨old,he⟩,hit⟩:=st;have hb:b=e∨b=it:=by simpa using hb
  rcases hb with rfl | rfl
  ·exact⟨_,he,fun v z=>by cases z⟩
  ·obtain⟨o,e,c,d⟩:=hit;exact⟨o,e,fun v z=>by rw[d] at z;cases z⟩
 keep:=fun i h h' st k=>⟨let ⟨old,he⟩:=st.1;⟨old,k e (by simp) _ he⟩,st.2.at fun o z=>k it (by simp) o z⟩
 item:=by
  intro X hP hw hK hc i pins s σ H E I hf st hg;subst hP hw hK;obtain⟨xs,x,hq,hx⟩:=hg;obtain⟨its,rv,p,hz⟩:=I.list hq;obtain⟨u,hu,ru⟩:=rv.get hx;obtain⟨⟨old,he⟩,hit⟩:=st;have lts:∀ b∈[e,it],b<s.heap.objs.size:=fun b hb=>by
   have hb:b=e∨b=it:=by simpa using hb
   rcases hb with rfl | rfl
   ·exact Heap.lt_size he
   ·obtain⟨o,e,_⟩:=hit;exact Heap.lt_size e
  refine wpAny_pyNext_enum_item he hit p.isList (x:=u) (by simpa using hu) hne fun h' ho hit' hT hsz hk=>?_
  have I2:Inv X pins σ (upd H s.heap.objs.size (.tup [.int i,x])) { s with heap:=h',toks:=s.toks+1 } :=
   paired (ch:=[e,it]) I ⟨s.toks,rfl⟩ ru hT (fun b o hb q=>hk b o (fun z=>hb (by simp[z])) (fun z=>hb (by simp[z])) q) hf lts
  have f2:∀ b∈[e,it],jx X pins (upd H s.heap.objs.size (.tup [.int i,x])) b:=fun b hb=>by
   obtain⟨f0,f⟩:=hf b hb;exact⟨by rw[aS (bt (lts b hb))];exact f0,f⟩
  refine⟨_,rfl,wpAny_letOwnedTupleGo_enum (s:={ s with heap:=h',toks:=s.toks+1 }) ho fun h2 he2 hs2=>?_⟩;refine⟨.ref s.heap.objs.size,_,j6 (ch:=[e]) I2 (fun b o hb q=>hs2.extBut b o (fun z=>hb (by simp[z])) q) (fun b hb=>f2 b (by simp at hb;simp[hb])),rfl,⟨_,x,rfl,I.fresh,fun ys hy=>by rw[I.list_inj hy hq];exact hx,rfl⟩,⟨⟨_,by simpa using he2⟩,hit'.at fun o z=>hs2.extBut it o (Ne.symm hne) z⟩,fun b hb=>(f2 b hb).1⟩
 done:=by
  intro X hP hw hK hc i pins s σ H E I hf st hg;subst hP hw hK;obtain⟨xs,hq,hx⟩:=hg;obtain⟨its,rv,p,hz⟩:=I.list hq;obtain⟨⟨old,he⟩,hit⟩:=st;have hl:=rv.length;exact wpAny_pyNext_enum_end (I.ok.hd hc) he hit p.isList (by simp;omega) fun h' eb=>⟨rfl,j6 (t':=s.toks) (ch:=[it]) I (fun b o hb q=>eb b o (fun z=>hb (by simp[z])) q) fun b hb=>hf b (by simp at hb;simp[hb])⟩
 self:=fun A i s Q E st h=>by
  obtain⟨⟨old,he⟩,_⟩:=st;exact wpAny_pyIter_enum he h
theorem vC {K:Frag}{P:Addr→Prop}{H0:Hp}{p:Addr}{vs:List V}{ds:List D}{G:List Addr}(h1:Rd H0 p (.lst vs)) (h2:aI K H0 ds vs G) (hp:∀ a∈p::G,P a):kC K P H0 (Ite K p) (ds.zipIdx.map fun q=>.tup [.int q.2,q.1]) (p::G):=fun H e=>by
 have ep:=e.keep p (hp p ag);have h1':Rd H p (.lst vs):=by
  rcases h1 with q | ⟨o,q⟩
  ·exact .inl (ep.trans q)
  ·exact .inr ⟨o,ep.trans q⟩
 have h2':=e.reps h2 fun a ha=>hp a (aa _ ha)
 refine⟨fun i d hd=>?_,⟨vs,.inl h1',by rw[aj,List.length_zipIdx,h2.len];exact au _⟩⟩;have hd:∃ d',ds[i]? = some d'∧d = .tup [.int i,d']:=by
  rw[List.getElem?_map,List.getElem?_zipIdx] at hd;cases q:ds[i]? with
  |none=>rw[q] at hd;cases hd
  |some d'=>rw[q] at hd;simp at hd;exact⟨d',rfl,hd.symm⟩
 obtain⟨d',hd',rfl⟩:=hd;obtain⟨v,G',a,b,c⟩:=h2'.get hd';refine⟨⟨vs,v,.inl h1',a⟩,fun x H' ⟨T,x',e1,e2,e3,e4⟩=>?_⟩;subst e1 e4;have:=e3 vs (.inl h1');rw[a] at this;cases this;have sm:aN H (upd H T (.tup [.int i,v])):=aN.new e2;refine⟨sm,G',.tup (.inl bN) ?_,fun z hz=>aa _ (c.subset hz)⟩;have r:=aI.cons (Rep.int (K:=K) (H:=upd H T (.tup [.int i,v])) (i:Int)) (aI.cons (b.same sm) .nil);rw[bo,List.nil_append] at r;exact r
noncomputable def Itz (K:Frag) (l m:Addr):It:=⟨fun i H=>∃ xs ys x y,ky K H l xs∧ky K H m ys∧xs[i]? = some x∧ys[i]? = some y,
 fun i H v H'=>∃ T x y,v = .ref T∧H T=none∧(∀ xs,ky K H l xs→xs[i]? = some x)∧(∀ ys,ky K H m ys→ys[i]? = some y)∧H'=upd H T (.tup [x,y]),fun i H=>∃ xs ys,ky K H l xs∧ky K H m ys∧(xs.length≤i∨ys.length≤i)⟩
theorem oz {h:Heap}{b l m:Addr}{i j:Nat}{xs ys:Array Value}{u v:Value}(hz:IsZip h (b+4) (b+2) (b+3) .none) (hTO:IsPair h (b+3) u v) (h1:h.IsListIter b l i) (h2:h.IsListIter (b+1) m j)
  (p:h.IsList l xs) (q:h.IsList m ys):ZipApart (b+4) (b+2) (b+3) b (b+1) l m:=by
 obtain⟨o1,e1,c1,_⟩:=h1;obtain⟨o2,e2,c2,_⟩:=h2;obtain⟨o3,e3,c3,_⟩:=p;obtain⟨o4,e4,c4,_⟩:=q;refine⟨gM b 2 4 (by decide),gM b 3 4 (by decide),gM b 0 4 (by decide),gM b 1 4 (by decide),gM b 2 3 (by decide),gM b 2 0 (by decide),gM b 2 1 (by decide),gM b 3 0 (by decide),gM b 3 1 (by decide),gM b 0 1 (by decide),?_,?_,?_,?_,?_,?_,?_,?_⟩
 ·exact iZ e3 hz (by rw[c3];simp)
 ·exact iZ e3 hTO (by rw[c3];simp)
 ·exact iZ e3 e1 (by rw[c3,c1];simp)
 ·exact iZ e3 e2 (by rw[c3,c2];simp)
 ·exact iZ e4 hz (by rw[c4];simp)
 ·exact iZ e4 hTO (by rw[c4];simp)
 ·exact iZ e4 e1 (by rw[c4,c1];simp)
 ·exact iZ e4 e2 (by rw[c4,c2];simp)
theorem xM {P:Program}{w:World}{K:Frag}{elts:List Expr}{x1:Nat}{pos:Pos}(l m b:Addr):Turn P w K (.Tuple elts x1 pos) (Itz K l m) [b+4,b+2,b+3,b,b+1] (b+4)
  (fun i h=>IsZip h (b+4) (b+2) (b+3) .none∧IsPair h (b+2) (.ref b) (.ref (b+1))∧(∃ u v,IsPair h (b+3) u v)∧h.IsListIter b l i∧h.IsListIter (b+1) m i) where
 mem:=by simp
 obj:=fun i h st c hc=>by
  obtain⟨hz,hTI,⟨u,v,hTO⟩,h1,h2⟩:=st;simp only[List.mem_cons,List.not_mem_nil,or_false] at hc;rcases hc with rfl | rfl | rfl | rfl | rfl
  ·exact⟨_,hz,fun v z=>by cases z⟩
  ·exact⟨_,hTI,fun v z=>by cases z⟩
  ·exact⟨_,hTO,fun v z=>by cases z⟩
  ·obtain⟨o,e,c,d⟩:=h1;exact⟨o,e,fun v z=>by rw[d] at z;cases z⟩
  ·obtain⟨o,e,c,d⟩:=h2;exact⟨o,e,fun v z=>by rw[d] at z;cases z⟩
 keep:=fun i h h' st k=>by
  obtain⟨hz,hTI,⟨u,v,hTO⟩,h1,h2⟩:=st;exact⟨k _ (by simp) _ hz,k _ (by simp) _ hTI,⟨u,v,k _ (by simp) _ hTO⟩,h1.at fun o z=>k _ (by simp) o z,h2.at fun o z=>k _ (by simp) o z⟩
 item:=by
  intro X hP hw hK hc i pins s σ H E I hf st hg;subst hP hw hK;obtain⟨xs,ys,x,y,hq,hq',hx,hy⟩:=hg;obtain⟨its,rv,p,_⟩:=I.list hq;obtain⟨its',rv',p',_⟩:=I.list hq';obtain⟨u,hu,ru⟩:=rv.get hx;obtain⟨v,hv,rv2⟩:=rv'.get hy;obtain⟨hz,hTI,⟨u0,v0,hTO⟩,h1,h2⟩:=st;have A:=oz hz hTO h1 h2 p.isList p'.isList;have lts:∀ c∈[b+4,b+3,b,b+1],c<s.heap.objs.size:=fun c hc=>by
   have:=Heap.lt_size hz;simp only[List.mem_cons,List.not_mem_nil,or_false] at hc;rcases hc with rfl | rfl | rfl | rfl
   ·exact iB _ _ 4 this (by decide)
   ·exact iB _ _ 3 this (by decide)
   ·exact iB _ _ 0 this (by decide)
   ·exact iB _ _ 1 this (by decide)
  have hf':∀ c∈[b+4,b+3,b,b+1],jx X pins H c:=fun c hc=>hf c (by
   simp only[List.mem_cons,List.not_mem_nil,or_false] at hc ⊢;rcases hc with rfl | rfl | rfl | rfl<;>simp)
  refine wpAny_pyNext_zip_item A hz hTI hTO h1 h2 p.isList p'.isList (x:=u) (y:=v) (by simpa using hu) (by simpa using hv) fun h' a1 a2 a3 a4 a5 a6 hk=>?_
  have I2:Inv X pins σ (upd H s.heap.objs.size (.tup [x,y])) { s with heap:=h' } :=
   paired (t':=s.toks) (ch:=[b+4,b+3,b,b+1]) I ru rv2 a5 (fun c o hc q=>hk c o (fun z=>hc (by simp[z])) (fun z=>hc (by simp[z])) (fun z=>hc (by simp[z])) (fun z=>hc (by simp[z])) q) hf' lts
  have f2:∀ c∈[b+4,b+2,b+3,b,b+1],jx X pins (upd H s.heap.objs.size (.tup [x,y])) c:=fun c hc=>by
   obtain⟨f0,f⟩:=hf c hc;have:=Heap.lt_size hz;have hlt:c<s.heap.objs.size:=by
    simp only[List.mem_cons,List.not_mem_nil,or_false] at hc;rcases hc with rfl | rfl | rfl | rfl | rfl
    ·exact iB _ _ 4 this (by decide)
    ·exact iB _ _ 2 this (by decide)
    ·exact iB _ _ 3 this (by decide)
    ·exact iB _ _ 0 this (by decide)
    ·exact iB _ _ 1 this (by decide)
   exact⟨by rw[aS (bt hlt)];exact f0,f⟩
  refine⟨_,rfl,wpAny_letOwnedTupleGo_zip (s:={ s with heap:=h' }) a1 fun h3 hz3 hs3=>?_⟩;refine⟨.ref s.heap.objs.size,_,j6 (t':=s.toks) (ch:=[b+4]) I2 (fun c o hc q=>hs3.extBut c o (fun z=>hc (by simp[z])) q) (fun c hc=>f2 c (by simp at hc;simp[hc])),rfl,
   ⟨_,x,y,rfl,I.fresh,fun zs hz=>by rw[I.list_inj hz hq];exact hx,fun zs hz=>by rw[I.list_inj hz hq'];exact hy,rfl⟩,
   ⟨hz3,hs3.extBut _ _ A.TIz (hk _ _ A.TIz A.TITO A.TIi1 A.TIi2 hTI),⟨_,_,hs3.extBut _ _ A.TOz a2⟩,a3.at fun o z=>hs3.extBut _ o A.i1z z,a4.at fun o z=>hs3.extBut _ o A.i2z z⟩,fun c hc=>(f2 c hc).1⟩
 done:=by
  intro X hP hw hK hc i pins s σ H E I hf st hg;subst hP hw hK;obtain⟨xs,ys,hq,hq',hx⟩:=hg;obtain⟨its,rv,p,_⟩:=I.list hq;obtain⟨its',rv',p',_⟩:=I.list hq';have hl:=rv.length;have hl':=rv'.length;obtain⟨hz,hTI,⟨u0,v0,hTO⟩,h1,h2⟩:=st;have A:=oz hz hTO h1 h2 p.isList p'.isList;refine wpAny_pyNext_zip_end (I.ok.hd hc) A hz hTI hTO h1 h2 p.isList p'.isList ?_ fun h' hk=>⟨rfl,j6 (t':=s.toks) (ch:=[b+4,b+3,b,b+1]) I (fun c o hc q=>hk c o (fun z=>hc (by simp[z])) (fun z=>hc (by simp[z])) (fun z=>hc (by simp[z])) (fun z=>hc (by simp[z])) q) fun c hc=>hf c ?_⟩
  ·rcases hx with hx | hx
   ·left;simp;omega
   ·right;simp;omega
  ·simp only[List.mem_cons,List.not_mem_nil,or_false] at hc ⊢;rcases hc with rfl | rfl | rfl | rfl<;>simp
 self:=fun A i s Q E st h=>wpAny_pyIter_zip st.1 h
theorem zo {K:Frag}{P:Addr→Prop}{H0:Hp}{p q:Addr}{vs us:List V}{ds es:List D}{G G':List Addr}(h1:Rd H0 p (.lst vs)) (h2:aI K H0 ds vs G) (h3:Rd H0 q (.lst us)) (h4:aI K H0 es us G') (hp:∀ a∈(p::G)++(q::G'),P a) :
  kC K P H0 (Itz K p q) ((ds.zip es).map fun z=>.tup [z.1,z.2]) ((p::G)++(q::G')):=fun H e=>by
 have ep:=e.keep p (hp p (by simp));have eq:=e.keep q (hp q (by simp));have h1':Rd H p (.lst vs):=by
  rcases h1 with q | ⟨o,q⟩
  ·exact .inl (ep.trans q)
  ·exact .inr ⟨o,ep.trans q⟩
 have h3':Rd H q (.lst us):=by
  rcases h3 with q | ⟨o,q⟩
  ·exact .inl (eq.trans q)
  ·exact .inr ⟨o,eq.trans q⟩
 have h2':=e.reps h2 fun a ha=>hp a (by simp[ha])
 have h4':=e.reps h4 fun a ha=>hp a (by simp[ha])
 refine⟨fun i d hd=>?_,⟨vs,us,.inl h1',.inl h3',?_⟩⟩
 ·have hd:∃ d1 d2,ds[i]? = some d1∧es[i]? = some d2∧d = .tup [d1,d2]:=by
   rw[List.getElem?_map] at hd;rw[ae] at hd;obtain⟨⟨d1,d2⟩,hd,rfl⟩:=hd;rw[List.getElem?_zip_eq_some] at hd;exact⟨d1,d2,hd.1,hd.2,rfl⟩
  obtain⟨d1,d2,hd1,hd2,rfl⟩:=hd;obtain⟨v1,g1,a1,b1,c1⟩:=h2'.get hd1;obtain⟨v2,g2,a2,b2,c2⟩:=h4'.get hd2;refine⟨⟨vs,us,v1,v2,.inl h1',.inl h3',a1,a2⟩,fun x H' ⟨T,x',y',e1,e2,e3,e4,e5⟩=>?_⟩;subst e1 e5;have t1:=e3 vs (.inl h1');rw[a1] at t1;cases t1;have t2:=e4 us (.inl h3');rw[a2] at t2;cases t2;have sm:aN H (upd H T (.tup [v1,v2])):=aN.new e2;refine⟨sm,g1++(g2 ++ []),.tup (.inl bN) (.cons (b1.same sm) (.cons (b2.same sm) .nil)),fun z hz=>?_⟩;simp only[List.append_nil,List.mem_append] at hz;rcases hz with hz | hz
  ·exact ay _ (aa _ (c1.subset hz))
  ·exact ao _ (aa _ (c2.subset hz))
 ·rw[aj,List.length_zip,h2.len,h4.len];omega
section
variable {X:Cx}{T:Tb}
theorem oW {env:En}{F:Nat→List Addr}{H H':Hp}{l:List (D×Rt)}{vs:List V}{G:List Addr}{R:List Nat}(ar:Args X.K env F H H' l vs G) (h:∀ q,q∈aZ (l.map (·.2))→q∈R):bY env F H (.sh R) H' G where
 cont:=fun a ha=>(ar.cont a ha).imp id fun ⟨i,d,t,x,y,z⟩=>⟨i,d,t,x,y,fun q hq=>h q (z q hq)⟩
 mv:=fun R e=>by cases e
theorem kU {d:D}{l:List D}(h:oQ d=some l):d = .lst l:=by
 cases d<;>simp[oQ] at h
 rw[h]
theorem Az {e:Expr}{c:Ex}{elts:List Expr}{x1:Nat}{p tp pos:Pos}(hg:Gl X "enumerate") (hm:X.mg "enumerate" = none) (ha:PA X [e] (uU X.K T (.cons c .nil))) (hs:starEach [e] X.env=(false,eval e X.env)::starEach [] X.env):PI X (.Tuple elts x1 tp) (.Call (.Name "enumerate" p) [e] [] pos) (tI X.K T (.enum c)):=by
 intro pins s σ H R I hq;obtain⟨P,env,F,re,q,hev,k⟩:=hq;unfold fQ at hev;obtain⟨r,h1,hev⟩:=Rs.bind_ok hev;obtain⟨l,h2,hev⟩:=Rs.bind_ok hev;have h2:=kU (dD h2);cases hev;have hl:bK T (.cons c .nil) env = .ok [r]:=by unfold bK;rw[h1];unfold bK;rfl
 refine Call_ (iX I hg hm boot_enumerate (dr (dB (ha pos pins s σ H (fun vs H'=>∃ G,Args X.K env F H H' [r] vs G) I ⟨P,env,F,re,[r],hl,fun vs H' G ar=>⟨G,ar⟩⟩) fun us s1 ⟨vs,H1,I1,r1,G,ar⟩=>?_) hs rfl));have rs:aI X.K H1 [r.1] vs G:=ar.reps;obtain⟨x,rfl,rp⟩:=rs.of1;rw[h2] at rp;obtain⟨a,vs,g,rfl,rfl,a1,a2⟩:=rp.lst_inv;obtain⟨u,rfl,ru⟩:=r1.one;cases ru;obtain⟨its,rv,pl,hz⟩:=I1.list (.inl a1);refine call_enumerate_list pl.isList fun h' he hit hsz hk=>wpAny_pyIter_enum he ⟨_,[s1.heap.objs.size+1,s1.heap.objs.size],_,_,H1,rfl,I1.kept (t':=s1.toks) hk,wD a _ _ (Nat.succ_ne_self _),⟨⟨_,he⟩,hit⟩,fun b hb=>?_,k _ H1 (a::g) ar.same (oW ar fun q hq=>by simpa[aZ] using hq) (fun b hb=>rp.nn hb) fun P' hP=>vC a1 a2 hP⟩
 simp only[List.mem_cons,List.not_mem_nil,or_false] at hb;have hb:s1.heap.objs.size≤b:=Cw _ _ hb;exact I1.fpOk hb (I1.hok.fresh hb)
theorem C4 {e f:Expr}{c d:Ex}{elts:List Expr}{x1:Nat}{p tp pos:Pos}(hg:Gl X "zip") (hm:X.mg "zip" = none) (ha:PA X [e,f] (uU X.K T (.cons c (.cons d .nil)))) (hs:starEach [e,f] X.env=(false,eval e X.env)::starEach [f] X.env) (hpl:(backTo pos (starEach [f] X.env)).any (·.1)=false):PI X (.Tuple elts x1 tp) (.Call (.Name "zip" p) [e,f] [] pos) (tI X.K T (.zip c d)):=by
 intro pins s σ H R I hq;obtain⟨P,env,F,re,q,hev,k⟩:=hq;unfold fQ at hev;obtain⟨r,h1,hev⟩:=Rs.bind_ok hev;obtain⟨t,h2,hev⟩:=Rs.bind_ok hev;obtain⟨l,h3,hev⟩:=Rs.bind_ok hev;obtain⟨m,h4,hev⟩:=Rs.bind_ok hev;have h3:=kU (dD h3);have h4:=kU (dD h4);cases hev;have hl:bK T (.cons c (.cons d .nil)) env = .ok [r,t]:=by unfold bK;rw[h1];unfold bK;rw[h2];unfold bK;rfl
 refine Call_ (iX I hg hm boot_zip (dr (dB (ha pos pins s σ H (fun vs H'=>∃ G,Args X.K env F H H' [r,t] vs G) I ⟨P,env,F,re,[r,t],hl,fun vs H' G ar=>⟨G,ar⟩⟩) fun us s1 ⟨vs,H1,I1,r1,G,ar⟩=>?_) hs hpl));have rs:aI X.K H1 [r.1,t.1] vs G:=ar.reps;rw[h3,h4] at rs;cases rs with
 |cons rp rs =>
  obtain⟨x',rfl,rp'⟩:=rs.of1;obtain⟨a,vs,g,rfl,rfl,a1,a2⟩:=rp.lst_inv;obtain⟨a',vs',g',rfl,rfl,a1',a2'⟩:=rp'.lst_inv;obtain⟨u,v,rfl,ru,rv⟩:=r1.two;cases ru;cases rv;obtain⟨its,_,pl,_⟩:=I1.list (.inl a1);obtain⟨its',_,pl',_⟩:=I1.list (.inl a1');refine call_zip_2 pl.isList pl'.isList fun h' q1 q2 q3 q4 q5 q6 hk=>wpAny_pyIter_zip q1 ⟨_,_,_,_,H1,rfl,I1.kept (t':=s1.toks) hk,xM a a' s1.heap.objs.size,⟨q1,q2,⟨_,_,q3⟩,q4,q5⟩,fun b hb=>?_,
   k _ H1 _ ar.same (oW ar fun q hq=>by simpa[aZ] using hq) (fun b hb=>?_) fun P' hP=>zo a1 a2 a1' a2' hP⟩
  ·simp only[List.mem_cons,List.not_mem_nil,or_false] at hb;have hb:s1.heap.objs.size≤b:=AR _ _ hb;exact I1.fpOk hb (I1.hok.fresh hb)
  ·rcases iy.mp hb with hb | hb
   ·exact rp.nn hb
   ·exact rp'.nn hb
end
end Pc
end
section
namespace Pc
open PySem PySem.Spec PyProof.Rows L2
noncomputable def tS (K:Frag) (T:Tb) (c:St):TS:=fun D σ H=>∃ P Z env F,RE K P env σ H F∧(∀ i,∀ a∈F i,Z a)∧(∀ a,¬ P a→Z a)∧post K P Z env F H D (bE T c env)
noncomputable def Ae (K:Frag) (T:Tb) (c:bF):TS:=fun D σ H=>∃ P Z env F,RE K P env σ H F∧(∀ i,∀ a∈F i,Z a)∧(∀ a,¬ P a→Z a)∧post K P Z env F H D (aC T c env)
section
variable {K:Frag}{P Z:Addr→Prop}{env:En}{σ:L2.St}{H:Hp}{F:Nat→List Addr}{D:Ends}
theorem cQ {α:Type}{x:Rs α}{k:α→Fl}(h:post K P Z env F H D (iI env x k)):∃ a,x = .ok a∧post K P Z env F H D (k a):=by
 cases x with
 |ok a=>exact⟨a,rfl,h⟩
 |exc e=>exact h.elim
 |bad=>exact h.elim
theorem After.same {H':Hp}(re:RE K P env σ H F) (hz:∀ i,∀ a∈F i,Z a) (e:aN H H'):After K P Z env F H env σ H' F:=⟨re.same e,hz,kq.of_same re.pl e,sW.refl _ _⟩
theorem C1 {H':Hp}{r:Rt}{G:List Addr}(re:RE K P env σ H F) (hz:∀ i,∀ a∈F i,Z a) (zp:∀ a,¬ P a→Z a) (rt:bY env F H r H' G):∀ a∈G,Z a:=fun a ha=>by
 rcases rt.cont a ha with q | ⟨j,_,_,f,_⟩
 ·exact zp a fun z=>re.pl a z q
 ·exact hz j a f
end
section
variable {X:Cx}{T:Tb}{pos:Pos}{e:Expr}{c:Ex}
theorem uQ:jJ X [] (Ae X.K T .nil):=by
 refine lU u7 fun D σ H ⟨P,Z,env,F,re,hz,zp,h⟩=>?_
 unfold aC at h;exact h σ H F (After.same re hz (aN.refl _))
theorem rK {st:Stmt}{rest:List Stmt}{cs:St}{cr:bF}(h1:PS X st (tS X.K T cs)) (h2:jJ X rest (Ae X.K T cr)):jJ X (st::rest) (Ae X.K T (.cons cs cr)):=by
 refine lU (jZ h1 h2) fun D σ H ⟨P,Z,env,F,re,hz,zp,h⟩=>⟨P,Z,env,F,re,hz,zp,?_⟩
 unfold aC at h;cases hs:bE T cs env with
 |nx env' =>
  rw[hs] at h;exact fun σ' H' F' af=>⟨P,Z,env',F',af.re,af.z,zp,post.trans af h⟩
 |bk env'=>rw[hs] at h;exact h
 |ct env'=>rw[hs] at h;exact h
 |rt d fr=>rw[hs] at h;exact h
 |xc e env'=>rw[hs] at h;exact h
 |bad=>rw[hs] at h;exact h
theorem AQ:PS X (.Pass pos) (tS X.K T .pass):=by
 refine cJ Ab fun D σ H ⟨P,Z,env,F,re,hz,zp,h⟩=>?_
 unfold bE at h;exact h σ H F (After.same re hz (aN.refl _))
theorem DT {x:Str}{j:Nat}{pos':Pos}:PS X (.Expr (.Constant (.str x) j pos) pos') (tS X.K T .pass):=by
 refine cJ CQ fun D σ H ⟨P,Z,env,F,re,hz,zp,h⟩=>?_
 unfold bE at h;exact h σ H F (After.same re hz (aN.refl _))
theorem Et:PS X (.Break pos) (tS X.K T .brk):=by
 refine cJ x5 fun D σ H ⟨P,Z,env,F,re,hz,zp,h⟩=>?_
 unfold bE at h;exact h σ H F (After.same re hz (aN.refl _))
theorem EC:PS X (.Continue pos) (tS X.K T .cnt):=by
 refine cJ rA fun D σ H ⟨P,Z,env,F,re,hz,zp,h⟩=>?_
 unfold bE at h;exact h σ H F (After.same re hz (aN.refl _))
theorem Ay:PS X (.Return none pos) (tS X.K T .retN):=by
 refine cJ z7 fun D σ H ⟨P,Z,env,F,re,hz,zp,h⟩=>?_
 unfold bE at h;exact h .non H [] .non (kq.refl _) (fun _ h=>(nomatch h)) fun _=>⟨bz,fun _ h=>(nomatch h)⟩
theorem Cu (he:PE X e (tE X.K T c)):PS X (.Return (some e) pos) (tS X.K T (.ret c)):=by
 refine cJ (zi he) fun D σ H ⟨P,Z,env,F,re,hz,zp,h⟩=>?_
 unfold bE at h;obtain⟨p,hp,h⟩:=cQ h;refine⟨P,env,F,re,p,hp,fun v H' G s rp rt=>h v H' G rp (kq.of_same re.pl s) (C1 re hz zp rt) fun fr=>?_⟩;cases hr:p.2 with
 |sh R=>rw[hr] at fr;cases fr
 |mv R =>
  rw[hr] at fr;obtain⟨a,b,d⟩:=rt.mv R hr;refine⟨a,fun x hx=>⟨fun z=>?_,b x hx⟩⟩;rcases d x hx with q | ⟨i,d2,t2,hi,f,e2,o2⟩
  ·exact re.pl x z q
  ·have:=bw.mp fr i hi;split at this
   ·rename_i d' q;exact re.wr i d' q x f z
   ·cases this
theorem Bx (he:PE X e (tE X.K T c)) (hs:swapsWith e none pos.line X.env=pure false):PS X (.Expr e pos) (tS X.K T (.expr c)):=by
 refine cJ (kf he hs) fun D σ H ⟨P,Z,env,F,re,hz,zp,h⟩=>?_
 unfold bE at h;obtain⟨p,hp,h⟩:=cQ h;exact⟨P,env,F,re,p,hp,fun v H' G s rp rt=>h σ H' F (After.same re hz s)⟩
theorem EG {a b:List Stmt}{ca cb:bF}(hc:PT X e (pe X.K T c)) (ha:jJ X a (Ae X.K T ca)) (hb:jJ X b (Ae X.K T cb)):PS X (.If e a b pos) (tS X.K T (.ite c ca cb)):=by
 refine cJ (Cc hc ha hb) fun D σ H ⟨P,Z,env,F,re,hz,zp,h⟩=>?_
 unfold bE at h;obtain⟨p,hp,h⟩:=cQ h;cases ht:truth p.1 with
 |none=>rw[ht] at h;exact h.elim
 |some k =>
  rw[ht] at h;refine⟨P,env,F,re,p,k,hp,ht,fun H' s=>?_⟩;have af:=After.same (Z:=Z) re hz s;cases k with
  |true=>show if true=true then _ else _;rw[if_pos rfl];exact⟨P,Z,env,F,af.re,hz,zp,post.trans af h⟩
  |false=>show if false=true then _ else _;rw[if_neg ba];exact⟨P,Z,env,F,af.re,hz,zp,post.trans af h⟩
theorem zl {i:Nat}{x:Str}{pos':Pos}{mv:Bool}(hN:X.N.Nodup) (hi:X.N[i]? = some x) (hx:Loc X.env.scope x) (he:PE X e (tE X.K T c)) (hs:swapsWith e (some (.Name x pos')) pos.line X.env=pure false) (hf:X.fn x=true∨X.env.scope.names.lookup x=some .local) :
  PS X (.Assign [.Name x pos'] e pos) (tS X.K T (.asg (.nm i) c mv)):=by
 refine cJ (sC hN hi hx he hs hf) fun D σ H ⟨P,Z,env,F,re,hz,zp,h⟩=>?_
 unfold bE at h;obtain⟨p,hp,h⟩:=cQ h;exact⟨P,env,F,re,p,hp,fun v H' G s rp rt=>zx re hz zp s rp rt h⟩
noncomputable def iO:List Nat→BY
 |[]=>E8
 |i::is=>B6 (mj i) (iO is)
theorem jN:∀{is:List Nat}{vs:List V}{σ:L2.St}{H:Hp}{Q:L2.St→Hp→Prop},is.length=vs.length→Q (setM is vs σ) H→iO is vs σ H Q
 |[],[],_,_,_,_,q=>⟨rfl,q⟩
 |i::is,v::vs,σ,H,Q,hl,q=>⟨v,vs,rfl,jN (is:=is) (vs:=vs) (by simpa using hl) q⟩
 |[],_::_,_,_,_,hl,_=>by simp at hl
 |_::_,[],_,_,_,hl,_=>by simp at hl
theorem z0 {tg:Expr}{is:List Nat}{mv:Bool}(hg:PG X tg (xY X.K is.length (iO is))) (he:PE X e (tE X.K T c)) (hs:swapsWithSole [tg] e pos.line X.env=pure false) (hw:swappedStores [tg] e X.env=pure none) (h1:(assignEach [tg] X.env).map (·.2)=[assign tg X.env]) :
  PS X (.Assign [tg] e pos) (tS X.K T (.asg (.tp is) c mv)):=by
 refine cJ (xU he hg hs hw h1) fun D σ H ⟨P,Z,env,F,re,hz,zp,h⟩=>?_
 unfold bE at h;obtain⟨p,hp,h⟩:=cQ h;refine⟨P,env,F,re,p,hp,fun v H' G s rp rt=>?_⟩;have re':=re.same s;have ez:=C1 re hz zp rt;have mH:=kq.of_same (P:=P) re.pl s;unfold kO at h;cases hd:p.1 with
 |tup ds =>
  rw[hd] at h rp;obtain⟨a,vs,rfl,a1,a2⟩:=rp.tup_inv;have fin:∀{o:Option En},post X.K P Z env F H D (Au o)→(∀ env',o=some env'→∃ F',RE X.K P env' (setM is vs σ) H' F'∧(∀ i,∀ a∈F' i,Z a)∧sW env F env' F'∧is.length=vs.length)→xY X.K is.length (iO is) (.ref a) σ H' D.nx:=fun {o} h q=>by
   cases o with
   |none=>exact h.elim
   |some env' =>
    obtain⟨F',b1,b2,b3,b4⟩:=q env' rfl;exact⟨a,vs,rfl,a1,b4.symm,jN b4 (h _ H' F' ⟨b1,b2,mH,b3⟩)⟩
  have shared:post X.K P Z env F H D (if is.all (fun i=>!p.2.roots.contains i) then Au (bindM (fun d=>cG d p.2.roots) is ds env) else .bad)→xY X.K is.length (iO is) (.ref a) σ H' D.nx:=fun h=>by
   by_cases hc:is.all (fun i=>!p.2.roots.contains i)=true
   ·rw[if_pos hc] at h;refine fin h fun env' he'=>m9 re' hz a2 ez (fun x hx j d' t' ej o m=>?_) he'
    rcases rt.cont x hx with q | ⟨k,d2,t2,f,e2,sr⟩
    ·exact absurd q (re.nn ej m)
    ·exact sr j ((re.one j d' t' ej o).2.2 x m k d2 t2 e2 f)
   ·rw[if_neg hc] at h;exact h.elim
  cases hr:p.2 with
  |sh R=>rw[hr] at h shared;exact shared h
  |mv R =>
   cases R with
   |cons r0 R0=>rw[hr] at h shared;exact shared h
   |nil =>
    rw[hr] at h;obtain⟨m1,m2,m3⟩:=rt.mv [] hr;have fresh:∀ a∈G,H a=none:=fun a ha=>by
     rcases m3 a ha with q | ⟨_,_,_,q,_⟩
     ·exact q
     ·cases q
    exact fin h fun env' he'=>n9 re' hz a2 m1 m2 (fun x hx z=>re.pl x z (fresh x hx)) ez (fun x hx j m=>by
     obtain⟨d2,t2,e2⟩:=re.at' m;exact re.nn e2 m (fresh x hx)) he'
 |_=>rw[hd] at h;exact h.elim
theorem CD {b:List Stmt}{cb:bF}(hp:PassesOwn (model X.prog X.w) X.A X.env X.xe) (hc:PT X e (pe X.K T c)) (hb:jJ X b (Ae X.K T cb)):PS X (.While e b [] pos) (tS X.K T (.whl c cb)):=by
 refine cJ (xr hp hc hb) fun D σ H ⟨P,Z,env,F,re,hz,zp,h⟩=>?_
 unfold bE at h;refine⟨fun m σ' H'=>∃ env' F',After X.K P Z env F H env' σ' H' F'∧post X.K P Z env' F' H' D (iT (fun env=>(ev T c env).bind fun p=>gO (truth p.1)) (aC T cb) m env'),⟨T.fuel,env,F,After.same re hz (aN.refl _),h⟩,fun m σ1 H1 ⟨env1,F1,af,h1⟩=>?_⟩;cases m with
 |zero=>exact h1.elim
 |succ m =>
  unfold iT at h1;obtain⟨k,hk,h1⟩:=cQ h1;obtain⟨p,hp1,hk⟩:=Rs.bind_ok hk;refine⟨P,env1,F1,af.re,p,k,hp1,dD hk,fun H2 s2=>?_⟩;have af2:=After.same (Z:=Z) af.re af.z s2;cases k with
  |false =>
   show if false=true then _ else _
   rw[if_neg ba];simp only[Bool.false_eq_true,if_false] at h1;exact h1 σ1 H2 F1 af2
  |true =>
   show if true=true then _ else _
   rw[if_pos rfl];simp only[if_true] at h1;refine⟨fun σ' H'=>∃ env' F',After X.K P Z env F H env' σ' H' F'∧post X.K P Z env' F' H' D (iT (fun env=>(ev T c env).bind fun p=>gO (truth p.1)) (aC T cb) m env'),fun σ' H' q=>⟨m,Nat.lt_succ_self _,q⟩,P,Z,env1,F1,af2.re,af.z,zp,?_⟩;have h1:=post.trans af2 h1;cases hs:aC T cb env1 with
   |nx e'=>rw[hs] at h1;exact fun σ' H' F' af3=>⟨e',F',af.trans (af2.trans af3),post.trans af3 h1⟩
   |ct e'=>rw[hs] at h1;exact fun σ' H' F' af3=>⟨e',F',af.trans (af2.trans af3),post.trans af3 h1⟩
   |bk e'=>rw[hs] at h1;exact h1
   |rt d fr=>rw[hs] at h1;exact h1
   |xc x e'=>rw[hs] at h1;exact h1
   |bad=>rw[hs] at h1;exact h1
noncomputable def tY (K:Frag):lG→TG
 |.nm i=>mj i
 |.tp is=>xY K is.length (iO is)
theorem qr {K:Frag}{P Z:Addr→Prop}{env env':En}{σ:L2.St}{H:Hp}{F:Nat→List Addr}{t:lG}{d:Pc.D}{v:V}{G:List Addr}{R:List Nat}{Q:L2.St→Hp→Prop}(re:RE K P env σ H F) (hz:∀ i,∀ a∈F i,Z a) (rp:Rep K H d v G) (gz:∀ a∈G,Z a)
  (hs:∀ a∈G,∀(j:Nat) (d':Pc.D) (t':Tg),env[j]? = some (some (d',t'))→bJ t'=true→a∈F j→j∈R) (hb:aW R t d env=some env') (hQ:∀ σ' F',RE K P env' σ' H F'→(∀ i,∀ a∈F' i,Z a)→sW env F env' F'→Q σ' H):tY K t v σ H Q:=by
 cases t with
 |nm i =>
  simp only[aW] at hb;by_cases hi:i<env.length
  ·rw[if_pos hi] at hb;cases hb;exact hQ _ _ (uf re hi rp hs) (nW hz gz) (mM hi rX)
  ·rw[if_neg hi] at hb;cases hb
 |tp is =>
  cases d with
  |tup ds =>
   simp only[aW] at hb;obtain⟨a,vs,rfl,a1,a2⟩:=rp.tup_inv;obtain⟨F',b1,b2,b3,b4⟩:=m9 re hz a2 gz hs hb;exact⟨a,vs,rfl,a1,b4.symm,jN b4 (hQ _ F' b1 b2 b3)⟩
  |_=>cases hb
theorem jT {t:lG}{R:List Nat}{b:En→Fl}:∀(ds:List Pc.D) (env:En),(∀ e,bD t R b ds env≠.bk e)∧∀ e,bD t R b ds env≠.ct e
 |[],env=>⟨fun e z=>(by cases z),fun e z=>(by cases z)⟩
 | d::ds,env=>by
  unfold bD;cases aW R t d env with
  |none=>exact⟨fun e z=>(by cases z),fun e z=>(by cases z)⟩
  |some env' =>
   simp only;cases b env' with
   |nx e'=>exact jT ds e'
   |ct e'=>exact jT ds e'
   |bk e'=>exact⟨fun e z=>(by cases z),fun e z=>(by cases z)⟩
   |rt d fr=>exact⟨fun e z=>(by cases z),fun e z=>(by cases z)⟩
   |xc x e'=>exact⟨fun e z=>(by cases z),fun e z=>(by cases z)⟩
   |bad=>exact⟨fun e z=>(by cases z),fun e z=>(by cases z)⟩
theorem Dn {tg iter:Expr}{t:lG}{it:rT}{b:List Stmt}{cb:bF}(hp:PassesOwn (model X.prog X.w) X.A X.env X.xe) (hc:X.calm=true) (hi:PI X tg iter (tI X.K T it)) (hg:PG X tg (tY X.K t)) (hb:jJ X b (Ae X.K T cb)) (hs:∀ x,foldedSetIterable iter X.env x=pure x) :
  PS X (.For tg iter b [] pos) (tS X.K T (.forr t it cb)):=by
 refine cJ (Ds hp hc hi hg hb hs) fun D σ H ⟨P,Z,env,F,re,hz,zp,h⟩=>?_
 unfold bE at h;obtain⟨p,hp,h⟩:=cQ h;refine⟨P,env,F,re,p,hp,fun J H1 G s1 rt nn wk=>?_⟩;have af1:=After.same (Z:=Z) re hz s1;have h:=post.trans af1 h;let P':Addr→Prop:=fun a=>P a∨a∈G
 have wk:=wk P' fun a ha=>.inr ha
 have seen:∀ a∈G,∀(i:Nat) (d:Pc.D) (t:Tg),env[i]? = some (some (d,t))→bJ t=true→a∈F i→i∈p.2:=fun a ha i d t e o m=>by
  rcases rt.cont a ha with q | ⟨k,d2,t2,f,e2,sr⟩
  ·exact absurd q (re.nn e m)
  ·exact sr i ((re.one i d t e o).2.2 a m k d2 t2 e2 f)
 have reL:RE X.K P' (lock p.2 env) σ H1 F:=af1.re.locked nn seen;have gz:∀ a∈G,Z a:=C1 re hz zp rt;let E':Ends:={ D with nx:=fun σ' H'=>∀ env' F',After X.K P' Z (lock p.2 env) F H1 env' σ' H' F'→D.nx σ' H' };have stepP:∀{f:Fl},(∀ e,f≠.bk e)→(∀ e,f≠.ct e)→post X.K P Z env F H1 D (match f with | .nx e=>.nx (unlock p.2 env e) | x=>x)→post X.K P' Z (lock p.2 env) F H1 D f:=fun {f} nb nc h=>by
  cases f with
  |nx e=>exact fun σ' H' F' af=>h σ' H' F' (af.unlocked af1.re)
  |bk e=>exact absurd rfl (nb e)
  |ct e=>exact absurd rfl (nc e)
  |rt d fr=>exact fun v H' G' rp ev z f=>h v H' G' rp (ev.weak fun _ q=>.inl q) z fun w=>⟨(f w).1,fun a ha=>⟨fun q=>((f w).2 a ha).1 (.inl q),((f w).2 a ha).2⟩⟩
  |xc x e=>exact h
  |bad=>exact h
 have h:=stepP (jT _ _).1 (jT _ _).2 h;have zpL:∀ a,¬ P' a→Z a:=fun a ha=>zp a fun q=>ha (.inl q)
 refine⟨fun i m σ' H'=>m=p.1.length - i∧i≤p.1.length∧∃ env' F',After X.K P' Z (lock p.2 env) F H1 env' σ' H' F'∧post X.K P' Z env' F' H' D (bD t p.2 (aC T cb) (p.1.drop i) env'),⟨p.1.length,by simp,Nat.zero_le _,lock p.2 env,F,After.same reL hz (aN.refl _),by simpa using h⟩,?_⟩;rintro i m σ2 H2 ⟨rfl,hi,env2,F2,af2,h2⟩;obtain⟨w1,w2⟩:=wk H2 af2.ev;by_cases hlt:i<p.1.length
 ·right;have hd:p.1[i]? = some p.1[i]:=by simp[hlt]
  obtain⟨g1,g2⟩:=w1 i _ hd;refine⟨g1,fun σ' H'=>∃ env' F',After X.K P' Z (lock p.2 env) F H1 env' σ' H' F'∧post X.K P' Z env' F' H' D (bD t p.2 (aC T cb) (p.1.drop (i+1)) env'),fun σ' H' q=>⟨p.1.length - (i+1),by omega,rfl,hlt,q⟩,fun x H3 y=>?_⟩;obtain⟨s3,G3,rp3,sub3⟩:=g2 x H3 y;have af3:=After.same (Z:=Z) af2.re af2.z s3;have h2:=post.trans af3 h2;rw[List.drop_eq_getElem_cons hlt] at h2;unfold bD at h2;cases hb:aW p.2 t p.1[i] env2 with
  |none=>rw[hb] at h2;exact h2.elim
  |some env4 =>
   rw[hb] at h2;refine qr af3.re af2.z rp3 (fun a ha=>gz a (sub3 a ha)) (fun a ha j d' t' ej o m=>?_) hb fun σ4 F4 re4 z4 lk4=>?_
   ·cases t' with
    |own=>exact absurd (.inr (sub3 a ha)) (af2.re.wr j d' ej a m)
    |lk =>
     obtain⟨e5,e6⟩:=af2.lk j d' ej;rw[e6] at m;obtain⟨t0,e0,o0,_⟩:=fY e5;exact seen a (sub3 a ha) j d' t0 e0 (o0.trans o) m
    |sh Q=>cases o
   ·have af4:After X.K P' Z env2 F2 H3 env4 σ4 H3 F4:=⟨re4,z4,kq.refl _,lk4⟩;refine⟨P',Z,env4,F4,re4,z4,zpL,?_⟩;have h2:=post.trans af4 h2;have all:=(af2.trans af3).trans af4;cases hs:aC T cb env4 with
    |nx e'=>simp only[hs] at h2;exact fun σ' H' F' af5=>⟨e',F',all.trans af5,post.trans af5 h2⟩
    |ct e'=>simp only[hs] at h2;exact fun σ' H' F' af5=>⟨e',F',all.trans af5,post.trans af5 h2⟩
    |bk e'=>simp only[hs] at h2;exact h2
    |rt d fr=>simp only[hs] at h2;exact h2
    |xc x e'=>simp only[hs] at h2;exact h2
    |bad=>simp only[hs] at h2;exact h2
 ·left;have e:i=p.1.length:=by omega
  subst e;rw[List.drop_length] at h2;exact⟨w2,h2 σ2 H2 F2 (After.same af2.re af2.z (aN.refl _))⟩
end
end Pc
end
section
namespace Pc
open PySem PySem.Spec PyProof.Rows L2
section
variable {X:Cx}{T:Tb}
end
end Pc
end
section
namespace Pc
open PySem PySem.Spec PyProof.Rows L2
noncomputable def gT (cells:List (Str×Addr)):List (Str×NameKind)→List (Str×Addr)→List (Str×Addr)
 |[],acc=>acc
 | (n,k)::r,acc=>gT cells r (if k == .free then (match cells.lookup n with | some c=>(n,c)::acc | none=>acc) else acc)
theorem sR {scope:Scope}{env:Env}(h:∀ x,(x,NameKind.free)∈scope.names→∃ c,env.cells.lookup x=some c):closureFor scope env=pure (gT env.cells scope.names []):=by
 unfold closureFor;have gen:∀(names:List (Str×NameKind)) (acc:List (Str×Addr)),(∀ x,(x,NameKind.free)∈names→∃ c,env.cells.lookup x=some c) →
   (forIn names acc fun (p:Str×NameKind) (cs:List (Str×Addr))=>(match p with
    | (name,kind)=>if (kind == .free)=true then (do let c ← cellOf env name;pure (ForInStep.yield ((name,c)::cs))) else pure (ForInStep.yield cs):Sem (ForInStep (List (Str×Addr)))))=(pure (gT env.cells names acc):Sem (List (Str×Addr))):=by
  intro names
  induction names with
  |nil=>intro acc _;rfl
  |cons x r ih =>
   intro acc hx;obtain⟨n,k⟩:=x;rw[List.forIn_cons];simp only[gT];have hr:∀ x,(x,NameKind.free)∈r→∃ c,env.cells.lookup x=some c:=fun x hm=>hx x (aa _ hm)
   by_cases hk:(k==NameKind.free)=true
   ·have e:k = .free:=by simpa using hk
    subst e;obtain⟨c,hc⟩:=hx n ag;simp only[hk,if_true,cellOf,hc];exact ih ((n,c)::acc) hr
   ·simp only[hk,if_false];exact ih acc hr
 have:=gen scope.names [] h;simpa using this
theorem oq {cells:List (Str×Addr)}{x:Str}{c:Addr}:∀{names:List (Str×NameKind)}{acc:List (Str×Addr)},(∀ y d,acc.lookup y=some d→cells.lookup y=some d)→(gT cells names acc).lookup x=some c→cells.lookup x=some c
 |[],acc,ha,h=>ha x c h
 | (n,k)::r,acc,ha,h=>by
  simp only[gT] at h;refine oq (names:=r) (fun y d q=>?_) h;by_cases hk:(k==NameKind.free)=true
  ·rw[if_pos hk] at q;cases hc:cells.lookup n with
   |none=>rw[hc] at q;exact ha y d q
   |some e =>
    rw[hc] at q;simp only[List.lookup_cons] at q;cases hy:y==n with
    |true =>
     rw[hy] at q;have:=eq_of_beq hy;subst this;rw[hc];exact q
    |false=>rw[hy] at q;exact ha y d q
  ·rw[if_neg hk] at q;exact ha y d q
theorem nU {cells:List (Str×Addr)}{x:Str}:∀{names:List (Str×NameKind)}{acc:List (Str×Addr)},(∃ c,acc.lookup x=some c)→∃ c,(gT cells names acc).lookup x=some c
 |[],acc,h=>h
 | (n,k)::r,acc,h=>by
  simp only[gT];refine nU (names:=r) ?_;by_cases hk:(k==NameKind.free)=true
  ·rw[if_pos hk];cases hc:cells.lookup n with
   |none=>exact h
   |some e =>
    simp only[List.lookup_cons];cases hy:x==n with
    |true=>exact⟨e,rfl⟩
    |false=>exact h
  ·rw[if_neg hk];exact h
theorem mF {cells:List (Str×Addr)}{x:Str}{c:Addr}(hc:cells.lookup x=some c):∀{names:List (Str×NameKind)}{acc:List (Str×Addr)},(x,NameKind.free)∈names→∃ c,(gT cells names acc).lookup x=some c
 |[],acc,h=>by cases h
 | (n,k)::r,acc,h=>by
  simp only[gT];rcases et.mp h with e | h
  ·cases e;refine nU (names:=r) ?_;simp only[beq_self_eq_true,if_true,hc,List.lookup_cons];exact⟨c,rfl⟩
  ·exact mF hc (names:=r) h
noncomputable def inner (X:Cx) (scope:Scope) (N':List Str) (C:Addr) (s0:Shared) (H0:Hp) (ex:List Addr):Cx :=
 { X with N:=N',s₀:=s0,H₀:=H0,env:=compEnvC scope (cellsFrom (C+1) scope.names (gT X.env.cells scope.names [])) C X.env,outer:=X.stack,stack:=X.stack,ex:=ex,fn:=fun x=>scope.names.lookup x==some .cell,pn:=[],xe:=fun _ _=>False }
structure eR (X:Cx) (scope:Scope) (N':List Str) (pick:List (Option Nat)):Prop where
 kind:scope.kind = .function
 cells:∀ y∈scope.names,y.2 = .cell→scope.names.lookup y.1=some .cell
 names:∀ y∈scope.names,y.2 = .local→scope.names.lookup y.1=some .local
 len:pick.length=N'.length
 outer:∀ x,scope.names.lookup x=some .free→(X.env.kindOf x=some .cell∨X.env.kindOf x=some .free)
 free:∀ x,(x,NameKind.free)∈scope.names→scope.names.lookup x=some .free
 pick:∀(i j:Nat) (x:Str),pick[i]? = some (some j)→N'[i]? = some x→scope.names.lookup x=some .free∧X.N[j]? = some x
noncomputable def fX (σ:L2.St) (pick:List (Option Nat)):L2.St:=pick.map fun o=>o.bind fun j=>(σ[j]?).join
theorem eZ {env:Env}:∀{names:List (Str×NameKind)}{x:Str}{k:NameKind},(names.map fun (n,k)=>if (k==NameKind.free&&env.scope.kind == .function&&env.kindOf n==some .cell) then (n,NameKind.cell) else (n,k)).lookup x=some k →
  ∃ k0,names.lookup x=some k0∧(k=k0∨(k0 = .free∧k = .cell))
 |[],_,_,h=>by simp at h
 | (n,k0)::r,x,k,h=>by
  rw[ax] at h;by_cases hc:(k0==NameKind.free&&env.scope.kind == .function&&env.kindOf n==some .cell)=true
  ·simp only[hc,if_true,List.lookup_cons] at h;simp only[List.lookup_cons];cases hx:x==n with
   |true =>
    rw[hx] at h;cases h;rw[ai,ai] at hc;exact⟨k0,rfl,.inr ⟨by simpa using hc.1.1,rfl⟩⟩
   |false=>rw[hx] at h;exact eZ h
  ·have hc:(k0==NameKind.free&&env.scope.kind == .function&&env.kindOf n==some .cell)=false:=by simpa using hc
   simp only[hc,Bool.false_eq_true,if_false,List.lookup_cons] at h;simp only[List.lookup_cons];cases hx:x==n with
   |true=>rw[hx] at h;cases h;exact⟨k0,rfl,.inl rfl⟩
   |false=>rw[hx] at h;exact eZ h
theorem fE {env:Env}:∀{names:List (Str×NameKind)}{x:Str},names.lookup x=some .free →
  (names.map fun (n,k)=>if (k==NameKind.free&&env.scope.kind == .function&&env.kindOf n==some .cell) then (n,NameKind.cell) else (n,k)).lookup x=some .cell ∨
  (names.map fun (n,k)=>if (k==NameKind.free&&env.scope.kind == .function&&env.kindOf n==some .cell) then (n,NameKind.cell) else (n,k)).lookup x=some .free
 |[],_,h=>by simp at h
 | (n,k0)::r,x,h=>by
  rw[ax];by_cases hc:(k0==NameKind.free&&env.scope.kind == .function&&env.kindOf n==some .cell)=true
  ·simp only[hc,if_true,List.lookup_cons] at h ⊢;cases hx:x==n with
   |true=>left;rfl
   |false=>rw[hx] at h;exact fE h
  ·have hc:(k0==NameKind.free&&env.scope.kind == .function&&env.kindOf n==some .cell)=false:=by simpa using hc
   simp only[hc,Bool.false_eq_true,if_false,List.lookup_cons] at h ⊢;cases hx:x==n with
   |true=>rw[hx] at h;cases h;right;rfl
   |false=>rw[hx] at h;exact fE h
theorem iJ:∀(names:List (Str×NameKind)) (n:Nat) (acc:List (Str×Addr)),cellsFrom n names acc=cellsFrom n names []++acc
 |[],_,_=>rfl
 | (nm,k)::r,n,acc=>by
  unfold cellsFrom;split
  ·rw[iJ r (n+1) ((nm,n)::acc),iJ r (n+1) [(nm,n)],ek];rfl
  ·exact iJ r n acc
theorem tq:∀(names:List (Str×NameKind)) (n:Nat) {x:Str}{c:Addr},(x,c)∈cellsFrom n names []→(x,NameKind.cell)∈names
 |[],_,_,_,h=>by cases h
 | (nm,k)::r,n,x,c,h=>by
  unfold cellsFrom at h;split at h
  ·rename_i hk;rw[iJ] at h;rcases iy.mp h with h | h
   ·exact aa _ (tq r _ h)
   ·have e:(x,c)=(nm,n):=by simpa using h
    cases e;rw[show k = .cell by simpa using hk];exact ag
  ·exact aa _ (tq r _ h)
theorem pZ:∀(names:List (Str×NameKind)) (n:Nat) {x:Str},(x,NameKind.cell)∈names→∃ c,(cellsFrom n names []).lookup x=some c
 | (nm,k)::r,n,x,h=>by
  unfold cellsFrom;rcases et.mp h with e | h
  ·cases e;rw[if_pos (by decide),iJ,f9];cases (cellsFrom (n+1) r []).lookup nm with
   |some c=>exact⟨c,rfl⟩
   |none=>exact⟨n,by simp⟩
  ·split
   ·obtain⟨c,hc⟩:=pZ r (n+1) h;rw[iJ,f9,hc];exact⟨c,rfl⟩
   ·exact pZ r n h
theorem nfe {M:Model}{A:Around}{E:Value→Shared→Prop}{s:Shared}{scope:Scope}{globals:Addr}{cl:List (Str×Addr)}{qual:Str}{env:Env}{Q:Env→Shared→Prop}
  (h:Q { scope:=scope,locals:=s.heap.objs.size,globals:=globals,cells:=cellsFrom (s.heap.objs.size+1) scope.names cl,qual:=qual,func:=none,code:=env.code,frame:=env.frame,builtins:=env.builtins } { s with heap:=pushCells (s.heap.push { cls:=.type "dict",data:=.dict #[] }) scope.names }) :
  wpAny M A (newFunctionEnv scope globals cl [] qual none .none (some env)) Q E s:=by
 simp only[newFunctionEnv,Option.isSome_some,if_true];refine wpAny_bind (wpAny_alloc (wpAny_bind (wpAny_layCells _ (fun name kind cells=>by cases hkc:kind==NameKind.cell<;>simp[hkc]) _ _ _ _ ?_)));rw[show ({ s with heap:=s.heap.push { cls:=.type "dict",data:=.dict #[] } }:Shared).heap.objs.size=s.heap.objs.size+1 from Heap.size_push ..];exact wpAny_pure h
section
variable {X:Cx}{scope:Scope}{N':List Str}{pick:List (Option Nat)}{pins:List (Addr×Obj)}{σ:L2.St}{H:Hp}{s:Shared}
theorem qQ (S:eR X scope N' pick) (I:Inv X pins σ H s) {fp:List Addr}(hf:∀ b∈fp,jx X pins H b) (hl:∀ b∈fp,b<s.heap.objs.size) :
  Inv (inner X scope N' s.heap.objs.size s H fp) [] (fX σ pick) H { s with heap:=pushCells (s.heap.push { cls:=.type "dict",data:=.dict #[] }) scope.names }:=by
 have old:∀ x c,(gT X.env.cells scope.names []).lookup x=some c→X.env.cells.lookup x=some c:=fun x c h=>oq (acc:=[]) (fun y d q=>by simp at q) h
 have hk:∀ b o,s.heap.get? b=some o→(pushCells (s.heap.push { cls:=.type "dict",data:=.dict #[] }) scope.names).get? b=some o:=fun b o e=>pushCells_keeps _ _ b o (Heap.get?_push_of_some _ e)
 have hn:(pushCells (s.heap.push { cls:=.type "dict",data:=.dict #[] }) scope.names).Ns s.heap.objs.size (fun _=>none):=(Heap.Ns.new s.heap (.type "dict")).keeps (pushCells_keeps _ _);have ok:=cellsFrom_ok scope.names (s.heap.push { cls:=.type "dict",data:=.dict #[] }) (s.heap.objs.size+1) [] ⟨fun _ _ hm=>(nomatch hm),List.Pairwise.nil⟩ (by rw[Heap.size_push];exact au _);rw[Heap.size_push] at ok;generalize hh:pushCells (s.heap.push { cls:=.type "dict",data:=.dict #[] }) scope.names=h' at *;have oldlt:∀ x c,X.env.cells.lookup x=some c→c<s.heap.objs.size:=fun x c h=>by
  obtain⟨v,hv⟩:=I.cell x c h;exact hv.lt
 have look:∀ x c,(cellsFrom (s.heap.objs.size+1) scope.names (gT X.env.cells scope.names [])).lookup x=some c→((x,c)∈cellsFrom (s.heap.objs.size+1) scope.names []∧s.heap.objs.size+1≤c)∨((x,NameKind.cell)∉scope.names∧X.env.cells.lookup x=some c):=fun x c h=>by
  rw[iJ,f9] at h;cases q:(cellsFrom (s.heap.objs.size+1) scope.names []).lookup x with
  |some c' =>
   rw[q] at h;cases h;have hm:=cm q;exact .inl ⟨hm,(ok.empty _ _ hm).2⟩
  |none =>
   rw[q] at h;refine .inr ⟨fun z=>?_,old x c h⟩;obtain⟨c',hc'⟩:=pZ scope.names (s.heap.objs.size+1) z;rw[q] at hc';cases hc'
 have sees:∀ x c,scope.names.lookup x=some .free→(gT X.env.cells scope.names []).lookup x=some c→(cellsFrom (s.heap.objs.size+1) scope.names (gT X.env.cells scope.names [])).lookup x=some c:=fun x c hx h=>by
  rw[iJ,f9];cases q:(cellsFrom (s.heap.objs.size+1) scope.names []).lookup x with
  |some c' =>
   have:=S.cells _ (tq _ _ (cm q)) rfl;rw[hx] at this;cases this
  |none=>rw[h];rfl
 refine⟨⟨I.ok.mod,S.kind,I.ok.glob,I.ok.blt,au _,fun x y c h1 h2=>?inj,fun x hx=>?_,fun x c hx h=>?cab,I.ok.hd,I.ok.frames,.inl rfl,fun b hb=>?_,I.bs,bu I.ok.bsz I.sz,fun b o e hb=>?_,fun b hb hb'=>?_,I.stack,I.stkFree⟩,
  rfl,I.bare,Un.kept hk,⟨_,hn,fun i x v h1 h2 h3=>?_⟩,fun x c h=>?_,I.hok.fresh (Nat.le_refl _),fun x c h=>?frc,fun p hp=>absurd (show p∈([]:List (Addr×Obj)) from hp) (by simp),I.hok.kept hk,?_⟩
 case inj =>
  rcases look x c h1 with ⟨m1,l1⟩ | ⟨_,o1⟩<;>rcases look y c h2 with ⟨m2,l2⟩ | ⟨_,o2⟩
  ·exact name_of_addr ok.apart m1 m2
  ·exact absurd (av (oldlt y c o2) (Nat.le_of_succ_le l1)) (fe _)
  ·exact absurd (av (oldlt x c o1) (Nat.le_of_succ_le l2)) (fe _)
  ·exact I.ok.inj x y c o1 o2
 case cab =>
  have hx:scope.names.lookup x=some .cell:=by simpa[inner] using hx
  rcases look x c h with ⟨_,l1⟩ | ⟨n1,_⟩
  ·exact bu (Nat.le_succ _) l1
  ·exact absurd (cm hx) n1
 case frc =>
  rcases look x c h with ⟨_,l1⟩ | ⟨_,o1⟩
  ·exact I.hok.fresh (bu (Nat.le_succ _) l1)
  ·exact I.freeC x c o1
 ·have hx:(relabel scope X.env).names.lookup x=some .cell∨(relabel scope X.env).names.lookup x=some .free:=hx;have hfree:scope.names.lookup x=some .free∨scope.names.lookup x=some .cell:=by
   rcases hx with hx | hx
   ·obtain⟨k0,h1,h2 | ⟨h2,_⟩⟩:=eZ hx
    ·subst h2;exact .inr h1
    ·rw[h2] at h1;exact .inl h1
   ·obtain⟨k0,h1,h2 | ⟨h2,h3⟩⟩:=eZ hx
    ·subst h2;exact .inl h1
    ·cases h3
  rcases hfree with hfree | hfree
  ·obtain⟨c,hc⟩:=I.ok.has x (S.outer x hfree);obtain⟨c',hc'⟩:=mF (acc:=[]) hc (cm hfree);exact⟨c',sees x c' hfree hc'⟩
  ·obtain⟨c,hc⟩:=pZ scope.names (s.heap.objs.size+1) (cm hfree);refine⟨c,?_⟩;show (cellsFrom (s.heap.objs.size+1) scope.names (gT X.env.cells scope.names [])).lookup x=some c;rw[iJ,f9,hc];rfl
 ·refine⟨bt (hl b hb),fun x c h=>?_⟩;rcases look x c h with ⟨_,l1⟩ | ⟨_,o1⟩
  ·exact fun e=>fe _ (av (hl b hb) (e ▸ Nat.le_of_succ_le l1))
  ·exact (hf b hb).2.2.2.2.1 x c o1
 ·obtain⟨f0,f1,f2,f3,f4,f5⟩:=hf b hb;rcases f3 with f3 | f3
  ·exact I.ok.noex b o e f3
  ·exact absurd (av (Heap.lt_size e) (bu I.ok.bsz f3)) (fe _)
 ·obtain⟨f0,f1,f2,f3,f4,f5⟩:=hf b hb;exact (et.mp (I.stkSub b hb')).elim f1 f2
 ·
  have h2':(pick.map fun o=>o.bind fun j=>(σ[j]?).join)[i]? = some (some v):=h2;rw[List.getElem?_map] at h2';cases hp:pick[i]? with
  |none=>rw[hp] at h2';cases h2'
  |some o =>
   rw[hp] at h2';cases o with
   |none=>simp at h2'
   |some j =>
    simp only[Option.map_some,Option.bind_some,Option.some.injEq] at h2';have hj:σ[j]? = some (some v):=by
     cases q:σ[j]? with
     |none=>rw[q] at h2';cases h2'
     |some o=>rw[q] at h2';cases o with
      |none=>cases h2'
      |some w=>simp at h2';rw[h2']
    obtain⟨k1,k2⟩:=S.pick i j x hp h1;obtain⟨m0,hn0,hl0⟩:=I.loc;have vis:B8 X.env.scope x:=by
     rcases S.outer x k1 with q | q
     ·exact .inr (.inl q)
     ·exact .inr (.inr q)
    obtain⟨u,r,lk⟩:=hl0 j x v k2 hj vis;refine⟨u,r,?_⟩;rcases lk with ⟨z,_⟩ | ⟨_,c,hc,hcell⟩
    ·rcases S.outer x k1 with q | q<;>· rw[z] at q;cases q
    ·obtain⟨c',hc'⟩:=mF (names:=scope.names) (acc:=[]) hc (cm k1);have:=old x c' hc';rw[hc] at this;cases this;refine .inr ⟨fE k1,c,sees x c k1 hc',?_⟩;obtain⟨o,ho,hd⟩:=hcell;exact⟨o,hk c o ho,hd⟩
 ·rcases look x c h with ⟨m1,_⟩ | ⟨_,o1⟩
  ·exact⟨none,(ok.empty _ _ m1).1⟩
  ·obtain⟨v,o,ho,hd⟩:=I.cell x c o1;exact⟨v,o,hk c o ho,hd⟩
 ·show (pick.map _).length=N'.length;rw[aj,S.len]
end
end Pc
end
section
namespace Pc
open PySem PySem.Spec PyProof.Rows L2
noncomputable abbrev u9 (ifs:List Expr) (env:Env):Sem Bool:=forIn ifs true fun c r=>if r=true then do let ok ← isTrue c env (eval c env);pure (ForInStep.yield ok) else pure (ForInStep.yield r)
noncomputable def EY (X:Cx) (ifs:List Expr) (t:TT):Prop :=
 ∀(pins:List (Addr×Obj)) (s:Shared) (σ:L2.St) (H:Hp) (Q:Bool→Hp→Prop),Inv X pins σ H s→t σ H Q→wpAny (model X.prog X.w) X.A (u9 ifs X.env) (TP X pins σ Q) X.xe s
theorem A8 {X:Cx}:EY X [] (fun _ H Q=>Q true H):=fun _ _ _ H Q I h=>wpAny_tests_nil ⟨H,I,h⟩
theorem Aa {X:Cx}{c:Expr}{t:TT}(h:PT X c t):EY X [c] t:=fun pins s σ H Q I q=>wpAny_tests_one (h pins s σ H Q I q)
section
variable {prog:Program}{w:World}{A:Around}{R:Result→Shared→Prop}{s:Shared}
theorem qu {elt target iter:Expr}{ifs:List Expr}{scope:Scope}{pos:Pos}{it acc:Value}{env:Env}(I:Nat→Shared→Prop)
  (turn:∀ n s,I n s→wpAny (model prog w) A (pyNext it) (fun r s₁=>match r with
   |none=>R (.ok .next) s₁
   |some v=>wpAny (model prog w) A (letOwnedTupleGo target it v) (fun _ s₀=>wpAny (model prog w) A (assign target env v) (fun _ s₂ =>
     wpAny (model prog w) A (u9 ifs env) (fun ok s₃ =>
      if ok=true then wpAny (model prog w) A (eval elt env) (fun x s₄ =>
       wpAny (model prog w) A (call (.builtin "list.append") [acc,x]) (fun _ s₅=>∃ m,m<n∧I m s₅) (fun _ _=>False) s₄) (fun _ _=>False) s₃
      else ∃ m,m<n∧I m s₃) (fun _ _=>False) s₂) (fun _ _=>False) s₀) (fun _ _=>False) s₁) (fun _ _=>False) s)
  (n:Nat) (h:I n s):codeAny (model prog w) A (.compLoop (.ListComp elt [⟨target,iter,ifs,0⟩] scope pos) 0 it acc env) R s:=by
 refine codeAny_loop rfl I (fun n s hI=>?_) n h;show wpAny _ A ((compTurn (.ListComp elt [⟨target,iter,ifs,0⟩] scope pos) 0 it acc env).onRaise (fun x=>do noteFrame x env;theTreesLotGoes x)) _ _ s;refine wpAny_noted ?_;rw[compTurn_list];refine wpAny_bind (wpAny_standAt (wpAny_bind (wpAny_mono (turn n s hI) (fun r s₁ h₁=>?_) fun _ _ h'=>h'.elim)));cases r with
 |none=>exact wpAny_pure h₁
 |some v =>
  refine wpAny_bind (wpAny_mono h₁ (fun _ s₀ h₀=>?_) fun _ _ h'=>h'.elim);refine wpAny_bind (wpAny_mono h₀ (fun _ s₂ h₂=>wpAny_bind (wpAny_mono h₂ (fun ok s₃ h₃=>?_) fun _ _ h'=>h'.elim)) fun _ _ h'=>h'.elim);cases ok with
  |false=>exact wpAny_pure ⟨rfl,h₃⟩
  |true =>
   exact wpAny_bind (wpAny_bind (wpAny_mono h₃ (fun x s₄ h₄=>wpAny_bind (wpAny_mono h₄ (fun _ s₅ h₅=>wpAny_pure (wpAny_pure ⟨rfl,h₅⟩)) fun _ _ h'=>h'.elim)) fun _ _ h'=>h'.elim))
end
noncomputable def yL (pick:List (Option Nat)) (wi:TI) (g:TG) (tt:TT) (te:TE):TE:=fun σ H Q=>wi σ H fun J H1=>∀ l,H1 l=none→∃ W:Nat→Nat→Hp→Prop,(∃ m,W 0 m (upd H1 l (.lst [])))∧∀ i m H,W i m H →
 (J.stop i H∧Q (.ref l) H)∨(J.go i H∧∃ N:Hp→Prop,(∀ H',N H'→∃ m',m'<m∧W (i+1) m' H')∧∀ x H',J.yld i H x H'→g x (fX σ pick) H' fun σ2 H2 =>
  tt σ2 H2 fun b H3=>if b=true then te σ2 H3 fun y H4=>∃ xs,H4 l=some (.lst xs)∧xs.length<sizeLine∧N (upd H4 l (.lst (xs ++ [y]))) else N H3)
section
variable {X:Cx}{scope:Scope}{N':List Str}{pick:List (Option Nat)}{tg iter elt:Expr}{ifs:List Expr}{pos:Pos}{wi:TI}{g:TG}{tt:TT}{te:TE}
theorem me (S:eR X scope N' pick) (hc:X.calm=true) (hin:∀ C s0 H0 ex,PG (inner X scope N' C s0 H0 ex) tg g∧EY (inner X scope N' C s0 H0 ex) ifs tt∧PE (inner X scope N' C s0 H0 ex) elt te)
  (gk:∀(v:V) (σ:L2.St) (H:Hp) (Q:L2.St→Hp→Prop),g v σ H Q→g v σ H fun σ' H'=>Q σ' H'∧σ'.length=σ.length∧∀(i:Nat) u,pick[i]?≠some none→σ[i]? = some u→σ'[i]? = some u)
  {pins:List (Addr×Obj)}{σ:L2.St}{H:Hp}{s:Shared}{it:Addr}{fp:List Addr}{tn:Nat→Heap→Prop}{J:It}{E:Value→Shared→Prop}{RR:Value→Addr→Result→Shared→Prop}(I:Inv X pins σ H s) (T:Turn X.prog X.w X.K tg J fp it tn) (st:tn 0 s.heap) (hf:∀ b∈fp,jx X pins H b)
  (Q:VK) (h:∀ l,H l=none→∃ W:Nat→Nat→Hp→Prop,(∃ m,W 0 m (upd H l (.lst [])))∧∀ i m H,W i m H →
   (J.stop i H∧Q (.ref l) H)∨(J.go i H∧∃ N:Hp→Prop,(∀ H',N H'→∃ m',m'<m∧W (i+1) m' H')∧∀ x H',J.yld i H x H'→g x (fX σ pick) H' fun σ2 H2 =>
    tt σ2 H2 fun b H3=>if b=true then te σ2 H3 fun y H4=>∃ xs,H4 l=some (.lst xs)∧xs.length<sizeLine∧N (upd H4 l (.lst (xs ++ [y]))) else N H3))
  (hR:∀(l C:Addr) (s':Shared) (H':Hp) (m:Str→Option Value),s'.heap.Ns C m→jx X pins H' C→Q (.ref l) H'→Inv X pins σ H' s'→RR (.ref l) C (.ok .next) s') :
  wpAny (model X.prog X.w) X.A (newList []) (fun acc s₃=>wpAny (model X.prog X.w) X.A (newFunctionEnv scope X.env.globals (gT X.env.cells scope.names []) [] X.env.qual none .none (some X.env)) (fun cenv s₄ =>
   codeAny (model X.prog X.w) X.A (.compStart (.ListComp elt [⟨tg,iter,ifs,0⟩] scope pos) 0 (.ref it) acc { cenv with scope:=relabel scope X.env }) (RR acc cenv.locals) s₄) E s₃) E s:=by
 have hltI:∀ b∈fp,b<s.heap.objs.size:=fun b hb=>let ⟨o,e,_⟩:=T.obj 0 _ st b hb;Heap.lt_size e
 refine wpAny_newObj_type (nfe ?_);dsimp only;have I3:Inv X pins σ (upd H s.heap.objs.size (.lst [])) { s with heap:=s.heap.push { cls:=.type "list",data:=.seq ([]:List Value).toArray } }:=I.lnew (ys:=[]) (its:=[]) (t':=s.toks) .nil (dm _);obtain⟨W,⟨m0,w0⟩,turn⟩:=h s.heap.objs.size I.fresh;have hC:(s.heap.push { cls:=.type "list",dict:=none,data:=.seq ([]:List Value).toArray }).objs.size=s.heap.objs.size+1:=Heap.size_push ..;have hf3:∀ b∈fp,jx X pins (upd H s.heap.objs.size (.lst [])) b:=fun b hb=>⟨by rw[aS (bt (hltI b hb))];exact (hf b hb).1,(hf b hb).2⟩
 have keep3:∀ b o,(s.heap.push { cls:=.type "list",dict:=none,data:=.seq ([]:List Value).toArray }).get? b=some o→(pushCells ((s.heap.push { cls:=.type "list",dict:=none,data:=.seq ([]:List Value).toArray }).push { cls:=.type "dict",data:=.dict #[] }) scope.names).get? b=some o:=fun b o e=>pushCells_keeps _ _ b o (Heap.get?_push_of_some _ e)
 have I4:=qQ (s:={ s with heap:=s.heap.push { cls:=.type "list",dict:=none,data:=.seq ([]:List Value).toArray } }) S I3 hf3 (fun b hb=>by show b<(s.heap.push _).objs.size;rw[hC];exact Nat.lt_succ_of_lt (hltI b hb));dsimp only at I4;generalize hh₁:pushCells ((s.heap.push { cls:=.type "list",dict:=none,data:=.seq ([]:List Value).toArray }).push { cls:=.type "dict",data:=.dict #[] }) scope.names=h₁ at *;have st4:tn 0 h₁:=T.keep 0 _ _ st fun b hb o e=>keep3 b o (Heap.get?_push_of_some _ e)
 generalize hY:inner X scope N' (s.heap.push { cls:=.type "list",dict:=none,data:=.seq ([]:List Value).toArray }).objs.size { s with heap:=s.heap.push { cls:=.type "list",dict:=none,data:=.seq ([]:List Value).toArray } } (upd H s.heap.objs.size (.lst [])) fp=Y at I4;have hYin:=hin (s.heap.push { cls:=.type "list",dict:=none,data:=.seq ([]:List Value).toArray }).objs.size { s with heap:=s.heap.push { cls:=.type "list",dict:=none,data:=.seq ([]:List Value).toArray } } (upd H s.heap.objs.size (.lst [])) fp;rw[hY] at hYin;obtain⟨yg,yt,ye⟩:=hYin;have yE:Y.env=compEnvC scope (cellsFrom ((s.heap.push { cls:=.type "list",dict:=none,data:=.seq ([]:List Value).toArray }).objs.size+1) scope.names (gT X.env.cells scope.names [])) (s.heap.push { cls:=.type "list",dict:=none,data:=.seq ([]:List Value).toArray }).objs.size X.env:=by rw[←hY];rfl
 have hCL:(s.heap.push { cls:=.type "list",dict:=none,data:=.seq ([]:List Value).toArray }).objs.size≠X.env.locals:=by
  rw[hC];exact Nat.ne_of_gt (Nat.lt_succ_of_lt I.lt)
 have back:∀{H5:Hp}{s5:Shared},Inv Y [] (fX σ pick) H5 s5→Q (.ref s.heap.objs.size) H5→RR (.ref s.heap.objs.size) (s.heap.push { cls:=.type "list",dict:=none,data:=.seq ([]:List Value).toArray }).objs.size (.ok .next) s5:=fun {H5 s5} I5 q=>by
  subst hY;obtain⟨m,hn,_⟩:=I5.loc;have J5:Inv X pins σ H5 s5:=Inv.call' I3 I5.os I5.base I5.hok I5.bare fun b hb=>by
   obtain⟨f0,f1,f2,f3,f4,f5⟩:=hf b hb;exact⟨f3,f1,f4,f5⟩
  have lt3:∀{b:Addr}{o:Obj},s.heap.get? b=some o→b≠(s.heap.push { cls:=.type "list",dict:=none,data:=.seq ([]:List Value).toArray }).objs.size:=fun e=>by rw[hC];exact bt (Nat.lt_succ_of_lt (Heap.lt_size e))
  refine hR _ _ s5 H5 m hn ⟨I5.free,hCL,I.nofs (by rw[hC];exact Nat.le_succ _),.inr (by rw[hC];exact Nat.le_succ_of_le I.sz),fun x c e z=>?_,fun p hp z=>?_⟩ q J5
  ·obtain⟨v,o,ho,_⟩:=I.cell x c e;exact lt3 ho z
  ·exact lt3 (I.pin p hp).1 z
 have yP:Y.prog=X.prog:=by rw[←hY];rfl
 have yw:Y.w=X.w:=by rw[←hY];rfl
 have yK:Y.K=X.K:=by rw[←hY];rfl
 have yA:Y.A=X.A:=by rw[←hY];rfl
 have yc:Y.calm=true:=by rw[←hY];exact hc
 have yx:Y.xe=fun _ _=>False:=by rw[←hY];rfl
 have yp:Y.pn=[]:=by rw[←hY];rfl
 have yex:Y.ex=fp:=by rw[←hY];rfl
 have stat:∀{H':Hp},(∀ b∈fp,H' b=none)→∀ b∈fp,jx Y [] H' b:=fun {H'} hn b hb=>by
  have hb':b∈Y.ex:=by rw[yex];exact hb
  obtain⟨x1,x2⟩:=I4.ok.exf b hb';exact⟨hn b hb,x1,I4.ok.exfs b hb',.inl hb',x2,fun p hp=>by rw[yp] at hp;cases hp⟩
 rw[←yP,←yw,←yA];have loop:codeAny (model Y.prog Y.w) Y.A (.compLoop (.ListComp elt [⟨tg,iter,ifs,0⟩] scope pos) 0 (.ref it) (.ref s.heap.objs.size) Y.env) (RR (.ref s.heap.objs.size) (s.heap.push { cls:=.type "list",dict:=none,data:=.seq ([]:List Value).toArray }).objs.size) { s with heap:=h₁ }:=by
  refine qu (fun n s5=>∃ i H5,Inv Y [] (fX σ pick) H5 s5∧tn i s5.heap∧(∀ b∈fp,H5 b=none)∧W i n H5) ?_ m0 ⟨0,_,I4,st4,fun b hb=>(hf3 b hb).1,w0⟩;rintro n s5 ⟨i,H5,I5,st5,fr5,w5⟩;rcases turn i n H5 w5 with ⟨stop,qn⟩ | ⟨go,N,hN,step⟩
  ·have d:=T.done Y yP yw yK yc i [] s5 (fX σ pick) H5 (fun _ _=>False) I5 (stat fr5) st5 stop;rw[←yP,←yw] at d;refine dB d fun r s6 ⟨hr,I6⟩=>?_
   subst hr;exact back I6 qn
  ·have d:=T.item Y yP yw yK yc i [] s5 (fX σ pick) H5 (fun _ _=>False) I5 (stat fr5) st5 go;rw[←yP,←yw] at d;refine dB d fun r s6 ⟨u,hr,h6⟩=>?_
   subst hr;refine dB h6 fun _ s7 ⟨x,H7,I7,r7,y7,st7,fr7⟩=>?_
   have I7':=I7.pinned (stat fr7) (T.obj _ _ st7);have yg':=yg _ s7 (fX σ pick) H7 x u _ I7' r7 (gk _ _ _ _ (step x H7 y7));rw[yx] at yg';refine dB yg' fun _ s8 ⟨σ8,H8,I8,q8,l8,k8⟩=>?_
   have yt':=yt _ s8 σ8 H8 _ I8 q8;rw[yx] at yt';refine dB yt' fun b s9 ⟨H9,I9,q9⟩=>?_
   have again:∀{σ':L2.St}{H':Hp}{s':Shared},Inv Y ([]++mZ fp s7.heap) σ' H' s'→σ'=σ8→N H'→∃ m,m<n∧∃ i H5,Inv Y [] (fX σ pick) H5 s'∧tn i s'.heap∧(∀ b∈fp,H5 b=none)∧W i m H5:=fun {σ' H' s'} J e nn=>by
    subst e;obtain⟨m',hm,w'⟩:=hN H' nn;refine⟨m',hm,i+1,H',(J.unpinned).weak (l8.symm) (fun j v e=>?_),T.keep _ _ _ st7 fun b hb o e=>(J.pin (b,o) (ao _ (ao _ (fK hb e)))).1,fun b hb=>?_,w'⟩
    ·refine k8 j _ (fun z=>?_) e;unfold fX at e;rw[List.getElem?_map,z] at e;simp at e
    ·obtain⟨o,e,_⟩:=T.obj _ _ st7 b hb;exact (J.pin (b,o) (ao _ (ao _ (fK hb e)))).2.1
   cases b with
   |false =>
    rw[if_neg ba];exact again I9 rfl q9
   |true =>
    rw[if_pos rfl];have q9:te σ8 H9 fun y H4=>∃ xs,H4 s.heap.objs.size=some (.lst xs)∧xs.length<sizeLine∧N (upd H4 s.heap.objs.size (.lst (xs ++ [y]))):=q9
    have ye':=ye _ s9 σ8 H9 _ I9 q9;rw[yx] at ye';refine dB ye' fun v s10 ⟨y,H10,I10,r10,xs,e10,z10,n10⟩=>?_
    have ap:=oS _ s10 σ8 H10 (.ref s.heap.objs.size) [y] (.ref s.heap.objs.size) [v] (fun _ H'=>N H') I10 rfl (.cons r10 .nil) ⟨s.heap.objs.size,xs,y,rfl,rfl,e10,z10,n10⟩;rw[yx] at ap;exact dB ap fun _ s11 ⟨_,H11,I11,_,n11⟩=>again I11 rfl n11
 show codeAny (model Y.prog Y.w) Y.A (.compStart (.ListComp elt [⟨tg,iter,ifs,0⟩] scope pos) 0 (.ref it) (.ref s.heap.objs.size) (compEnvC scope (cellsFrom ((s.heap.push { cls:=.type "list",dict:=none,data:=.seq ([]:List Value).toArray }).objs.size+1) scope.names (gT X.env.cells scope.names [])) (s.heap.push { cls:=.type "list",dict:=none,data:=.seq ([]:List Value).toArray }).objs.size X.env))
  (RR (.ref s.heap.objs.size) (s.heap.push { cls:=.type "list",dict:=none,data:=.seq ([]:List Value).toArray }).objs.size) { s with heap:=h₁ }
 rw[←yE];refine codeAny_compStart_list loop ?_;have l2:=loop;rw[yP,yw] at l2 ⊢;exact T.self Y.A 0 _ _ _ st4 l2
theorem fS (S:eR X scope N' pick) (hh:∀ x,(X.env.kindOf x=some .cell∨X.env.kindOf x=some .free)→∃ c,X.env.cells.lookup x=some c):closureFor scope X.env=pure (gT X.env.cells scope.names []) :=
 sR fun x hx=>hh x (S.outer x (S.free x hx))
theorem AL (S:eR X scope N' pick) (hc:X.calm=true) (hi:PI X tg iter wi) (hin:∀ C s0 H0 ex,PG (inner X scope N' C s0 H0 ex) tg g∧EY (inner X scope N' C s0 H0 ex) ifs tt∧PE (inner X scope N' C s0 H0 ex) elt te)
  (gk:∀(v:V) (σ:L2.St) (H:Hp) (Q:L2.St→Hp→Prop),g v σ H Q→g v σ H fun σ' H'=>Q σ' H'∧σ'.length=σ.length∧∀(i:Nat) u,pick[i]?≠some none→σ[i]? = some u→σ'[i]? = some u) (hs:∀ x,foldedSetIterable iter X.env x=pure x) :
  PE X (.ListComp elt [⟨tg,iter,ifs,0⟩] scope pos) (yL pick wi g tt te):=by
 intro pins s σ H Q I h;rw[eval_ListComp];refine wpAny_comprehension_free (use:=none) rfl hs (fS S I.ok.has) S.kind S.names (dB (hi pins s σ H _ I h) fun v s1 h1=>dB h1 fun itv s2 h2=>?_);obtain⟨it,fp,tn,J,H2,e,I2,T,st2,f2,q⟩:=h2;subst e;refine me (RR:=fun acc C=>compPost (model X.prog X.w) X.A X.xe none (EP X pins σ Q) acc C) S hc hin gk I2 T st2 f2 Q q fun l C s' H' m hn fc hq J0=>?_
 obtain⟨f0,f1,f2,f3,f4,f5⟩:=fc;exact⟨m,hn,fun h' sb=>⟨.ref l,H',J0.turned (t':=s'.toks) (fun b o hb e=>sb.extBut b o hb e) f0 f1 f3 f4 f5,rfl,hq⟩⟩
theorem sj {i:Nat}{x:Str}{pos' spos:Pos}(S:eR X scope N' pick) (hc:X.calm=true) (hi:PI X tg iter wi) (hin:∀ C s0 H0 ex,PG (inner X scope N' C s0 H0 ex) tg g∧EY (inner X scope N' C s0 H0 ex) ifs tt∧PE (inner X scope N' C s0 H0 ex) elt te)
  (gk:∀(v:V) (σ:L2.St) (H:Hp) (Q:L2.St→Hp→Prop),g v σ H Q→g v σ H fun σ' H'=>Q σ' H'∧σ'.length=σ.length∧∀(i:Nat) u,pick[i]?≠some none→σ[i]? = some u→σ'[i]? = some u) (hs:∀ x,foldedSetIterable iter X.env x=pure x)
  (hN:X.N.Nodup) (hx:X.N[i]? = some x) (hl:Loc X.env.scope x) (hf:X.fn x=true∨X.env.scope.names.lookup x=some .local) (hsw:swapsWith (.ListComp elt [⟨tg,iter,ifs,0⟩] scope pos) (some (.Name x pos')) spos.line X.env=pure true) :
  PS X (.Assign [.Name x pos'] (.ListComp elt [⟨tg,iter,ifs,0⟩] scope pos) spos) (xN (yL pick wi g tt te) (mj i)):=by
 intro pins s σ H D I h;rw[exec_Assign_Name_used _ _ _ _ hsw];refine wpAny_bind (wpAny_standAt (wpAny_bind ?_));show wpAny _ X.A (do let _ ← comprehension (.ListComp elt [⟨tg,iter,ifs,0⟩] scope pos) scope X.env _ (newList []) false (eval iter X.env) (some (assign (.Name x pos') X.env))) _ _ s;refine wpAny_bind (wpAny_mono (wpAny_comprehension_free (use:=some (assign (.Name x pos') X.env)) (Q:=fun _ s'=>SP X pins D .next s') rfl hs (fS S I.ok.has) S.kind S.names
  (dB (hi pins s σ H _ I h) fun v s1 h1=>dB h1 fun itv s2 h2=>?_)) (fun _ s' hq=>wpAny_pure (wpAny_pure hq)) fun _ _ e=>e)
 obtain⟨it,fp,tn,J,H2,e,I2,T,st2,f2,q⟩:=h2;subst e;refine me (RR:=fun acc C=>compPost (model X.prog X.w) X.A X.xe (some (assign (.Name x pos') X.env)) (fun _ s'=>SP X pins D .next s') acc C) S hc hin gk I2 T st2 f2 (fun x H1=>mj i x σ H1 D.nx) q fun l C s' H' m hn fc hq J0=>?_
 obtain⟨o,es,ep,ho,hd,hr⟩:=id hn;have J1:=J0.pinned (fp:=[C]) (fun b hb=>by rw[List.mem_singleton.mp hb];exact fc) fun b hb=>by rw[List.mem_singleton.mp hb];exact⟨o,ho,fun v z=>by rw[hd] at z;cases z⟩
 show wpAny (model X.prog X.w) X.A (assign (.Name x pos') X.env (.ref l)) _ _ s';refine wpAny_assign_Name (kr J1 hN hx hl (v:=.ref l) rfl (fun s2 I2=>?_) hf);have hC2:=(I2.pin (C,o) (List.mem_append_right _ (List.mem_append_right _ (fK (by simp) ho)))).1;obtain⟨f0,f1,f2,f3,f4,f5⟩:=fc;refine⟨m,⟨o,es,ep,hC2,hd,hr⟩,fun h' sb=>?_⟩;exact⟨_,H',I2.unpinned.turned (t':=s2.toks) (fun b o hb e=>sb.extBut b o hb e) f0 f1 f3 f4 f5,hq⟩
end
end Pc
end
section
namespace Pc
open PySem PySem.Spec PyProof.Rows L2
noncomputable def eS (own:Nat) (pick:List Nat):List (Option Nat):=List.replicate own none++pick.map some
theorem pT (σ:L2.St) (pk:List (Option Nat)):(fX σ pk).length=pk.length:=by simp[fX]
theorem nE (env:En) (own:Nat) (pick:List Nat):(aL env own pick).length=own+pick.length:=by simp[aL]
noncomputable def o9 (F:Nat→List Addr) (env:En) (own:Nat) (pick:List Nat):Nat→List Addr:=fun i=>match (aL env own pick)[i]? with
 | some (some _)=>match pick[i - own]? with
  |some j=>F j
  |none=>[]
 |_=>[]
theorem fN {env:En}{own:Nat}{pick:List Nat}{i:Nat}{d:D}{t:Tg}(h:(aL env own pick)[i]? = some (some (d,t))):t = .sh []∧own≤i∧∃ j t0,pick[i - own]? = some j∧env[j]? = some (some (d,t0)):=by
 unfold aL at h;by_cases hi:i<own
 ·rw[List.getElem?_append_left (by simpa using hi),List.getElem?_replicate] at h;split at h<;>cases h
 ·have hi:own≤i:=gm hi;rw[List.getElem?_append_right (by simpa using hi),List.length_replicate,List.getElem?_map] at h;cases hp:pick[i - own]? with
  |none=>rw[hp] at h;cases h
  |some j =>
   rw[hp] at h;simp only[Option.map_some,Option.some.injEq] at h;split at h
   ·rename_i d0 t0 q;cases h;exact⟨rfl,hi,j,t0,rfl,q⟩
   ·cases h
section
variable {K:Frag}{P:Addr→Prop}{env:En}{σ:L2.St}{H:Hp}{F:Nat→List Addr}
theorem RE.picked (re:RE K P env σ H F) (own:Nat) (pick:List Nat):RE K (fun _=>False) (aL env own pick) (fX σ (eS own pick)) H (o9 F env own pick) where
 len:=by rw[nE,pT];simp[eS]
 val:=fun i d t h=>by
  obtain⟨rfl,hi,j,t0,hp,he⟩:=fN h;obtain⟨v,e,r⟩:=re.val j d t0 he;refine⟨v,?_,?_⟩
  ·unfold fX eS;rw[List.getElem?_map,List.getElem?_append_right (by simpa using hi),List.length_replicate,List.getElem?_map,hp];simp[e]
  ·unfold o9;rw[h,hp];exact r
 emp:=fun i h=>by
  unfold o9;split
  ·rename_i p q;exact absurd q (h p.1 p.2)
  ·rfl
 one:=fun i d t h o=>by
  obtain⟨rfl,_⟩:=fN h;cases o
 wr:=fun i d h=>by
  obtain⟨q,_⟩:=fN h;cases q
 pl:=fun _ h=>h.elim
theorem wC {own:Nat}{pick:List Nat}{i:Nat}{a:Addr}(re:RE K P env σ H F) (h:a∈o9 F env own pick i):∃ j∈pick,∃ d t,a∈F j∧env[j]? = some (some (d,t)):=by
 unfold o9 at h;split at h
 ·rename_i p q;obtain⟨_,hi,j,t0,hp,he⟩:=fN (d:=p.1) (t:=p.2) q;rw[hp] at h;exact⟨j,List.mem_of_getElem? hp,p.1,t0,h,he⟩
 ·cases h
end
noncomputable def Dc (K:Frag) (T:Tb):nt→TT
 |.none=>fun _ H Q=>Q true H
 |.some c=>pe K T c
section
variable {X:Cx}{T:Tb}{scope:Scope}{N':List Str}{own:Nat}{pick:List Nat}{t:lG}{it:rT}{c:nt}{e:Ex}
theorem Er {σ:L2.St}{H:Hp}{Q:Bool→Hp→Prop}{P:Addr→Prop}{env:En}{F:Nat→List Addr}{k:Bool}(re:RE X.K P env σ H F) (hk:mQ T c env = .ok k) (q:∀ H',aN H H'→Q k H'):Dc X.K T c σ H Q:=by
 cases c with
 |none =>
  unfold mQ at hk;cases hk;exact q H (aN.refl _)
 |some c =>
  unfold mQ at hk;obtain⟨p,h1,h2⟩:=Rs.bind_ok hk;exact⟨P,env,F,re,p,k,h1,dD h2,q⟩
theorem oZ {σ:L2.St}{H:Hp}{Q:VK}(h:tE X.K T (.comp own pick t it c e) σ H Q):yL (eS own pick) (tI X.K T it) (tY X.K t) (Dc X.K T c) (tE X.K T e) σ H Q:=by
 obtain⟨P,env,F,re,p0,hev,k⟩:=h;unfold ev at hev;obtain⟨p,h1,hev⟩:=Rs.bind_ok hev;obtain⟨tot,h2,hev⟩:=Rs.bind_ok hev;have hlim:p.1.length≤lim:=eu fun hn=>by rw[if_neg hn] at hev;cases hev
 rw[if_pos hlim] at hev;cases hev;refine⟨P,env,F,re,p,h1,fun J H1 Gs s1 rt nn wk l hl=>?_⟩;have re1:=re.same s1;have wk:=wk (fun a=>a∈Gs) fun a ha=>ha
 let S0:Addr→Prop:=fun a=>a∈Gs∨∃ j∈pick,∃ d t,a∈F j∧env[j]? = some (some (d,t))
 have S0n:∀ a,S0 a→H1 a≠none:=fun a ha=>by
  rcases ha with ha | ⟨j,_,d,t,m,ej⟩
  ·exact nn a ha
  ·exact re1.nn ej m
 have lS:¬ S0 l:=fun z=>S0n l z hl
 refine⟨fun i m H2=>m=p.1.length - i∧i≤p.1.length∧∃(acc rest:List (D×Rt)) (vs:List V) (G:List Addr),dJ (fun d=>aX (aW [] t d (aL env own pick)) (mQ T c) (ev T e)) (p.1.drop i) = .ok rest∧tot=acc++rest∧acc.length≤i∧H2 l=some (.lst vs)∧aI X.K H2 (acc.map (·.1)) vs G∧aN H1 H2∧l∉G ∧
  (∀ a∈G,H1 a=none∨S0 a)∧(acc.all (fun q=>q.1.flat || eT q.2)=true→G.Nodup∧∀ a∈G,H1 a=none∧∃ ws:ML,H2 a=some ws.o),?_,?_⟩
 ·refine⟨p.1.length,by simp,Nat.zero_le _,[],tot,[],[],by simpa using h2,rfl,Nat.le_refl _,bN,.nil,aN.new hl,by simp,fun _ h=>(nomatch h),fun _=>⟨List.nodup_nil,fun _ h=>(nomatch h)⟩⟩
 ·rintro i m H2 ⟨rfl,hi,acc,rest,vs,G,hgo,htot,hacc,hl2,rs,s2,hlG,hG,hfr⟩;obtain⟨w1,w2⟩:=wk H2 (kq.of_same (fun a ha=>nn a ha) s2);by_cases hlt:i<p.1.length
  ·right;have hd:p.1[i]? = some p.1[i]:=by simp[hlt]
   obtain⟨g1,g2⟩:=w1 i _ hd;refine⟨g1,fun H3=>i+1≤p.1.length∧∃(acc rest:List (D×Rt)) (vs:List V) (G:List Addr),dJ (fun d=>aX (aW [] t d (aL env own pick)) (mQ T c) (ev T e)) (p.1.drop (i+1)) = .ok rest∧tot=acc++rest∧acc.length≤i+1∧H3 l=some (.lst vs)∧aI X.K H3 (acc.map (·.1)) vs G∧aN H1 H3∧l∉G ∧
    (∀ a∈G,H1 a=none∨S0 a)∧(acc.all (fun q=>q.1.flat || eT q.2)=true→G.Nodup∧∀ a∈G,H1 a=none∧∃ ws:ML,H3 a=some ws.o),fun H3 q=>⟨p.1.length - (i+1),by omega,rfl,q⟩,fun x H3 y=>?_⟩
   obtain⟨s3,G3,rp3,sub3⟩:=g2 x H3 y;rw[List.drop_eq_getElem_cons hlt] at hgo;unfold dJ at hgo;obtain⟨o,hstep,hgo⟩:=Rs.bind_ok hgo;obtain⟨rest',hrest,hgo⟩:=Rs.bind_ok hgo;cases hb:aW [] t p.1[i] (aL env own pick) with
   |none=>rw[hb] at hstep;cases hstep
   |some env4 =>
    rw[hb] at hstep;unfold aX at hstep;obtain⟨kc,hkc,hstep⟩:=Rs.bind_ok hstep;have rep:=(re1.same (s2.trans s3)).picked own pick;let Z:Addr→Prop:=fun a=>S0 a
    have zF:∀ i,∀ a∈o9 F env own pick i,Z a:=fun i a ha=>by
     obtain⟨j,hj,d,t,m,ej⟩:=wC (re1.same (s2.trans s3)) ha;exact .inr ⟨j,hj,d,t,m,ej⟩
    refine qr (Z:=Z) rep zF rp3 (fun a ha=>.inl (sub3 a ha)) (fun a ha j d' t' ej o m=>?_) hb fun σ4 F4 re4 z4 _=>?_
    ·obtain⟨rfl,_⟩:=fN ej;cases o
    ·refine Er re4 hkc fun H5 s5=>?_
     have base5:=s2.trans (s3.trans s5);have l5:H5 l=some (.lst vs):=s5 _ _ (s3 _ _ hl2);cases kc with
     |false =>
      show if false=true then _ else _
      rw[if_neg ba];simp only[Bool.false_eq_true,if_false] at hstep;cases hstep;cases hgo;refine⟨hlt,acc,rest',vs,G,hrest,htot,Nat.le_succ_of_le hacc,l5,rs.same (s3.trans s5),base5,hlG,hG,fun f=>?_⟩;obtain⟨n1,n2⟩:=hfr f;exact⟨n1,fun a ha=>⟨(n2 a ha).1,let ⟨ws,q⟩:=(n2 a ha).2;⟨ws,s5 _ _ (s3 _ _ q)⟩⟩⟩
     |true =>
      show if true=true then _ else _
      rw[if_pos rfl];simp only[if_true] at hstep;obtain⟨q,hq,hstep⟩:=Rs.bind_ok hstep;cases hstep;cases hgo;refine⟨_,env4,F4,re4.same s5,q,hq,fun yv H6 Gy s6 rpy rty=>?_⟩;have l6:H6 l=some (.lst vs):=s6 _ _ l5;have base6:=base5.trans s6;have old6:=s3.trans (s5.trans s6);have yS:∀ a∈Gy,H5 a=none∨S0 a:=fun a ha=>(rty.cont a ha).imp id fun ⟨i,d,t,m,_⟩=>z4 i a m
      have ly:l∉Gy:=fun z=>by
       rcases yS l z with q | q
       ·rw[l5] at q;cases q
       ·exact lS q
      have len6:vs.length=acc.length:=by have:=rs.len;rw[aj] at this;exact this.symm
      refine⟨vs,l6,Nat.lt_of_le_of_lt (Nat.le_trans (Nat.le_of_eq len6) (Nat.le_trans hacc (Nat.le_of_lt (Nat.lt_of_lt_of_le hlt hlim)))) (by decide),hlt,acc ++ [q],rest',vs ++ [yv],G++(Gy ++ []),hrest,by rw[htot];simp,by simp;exact hacc,bN,?_,?_,?_,?_,?_⟩
      ·rw[iz];exact (aI.append (rs.same old6) (.cons rpy .nil)).upd l6 (by simp;exact⟨hlG,ly⟩)
      ·intro b o e;rw[aS (fun z=>by subst z;rw[hl] at e;cases e)];exact base6 _ _ e
      ·simp;exact⟨hlG,ly⟩
      ·intro a ha;rw[bo] at ha;rcases iy.mp ha with ha | ha
       ·exact hG a ha
       ·exact (yS a ha).imp (aN.no base5) id
      ·intro f;rw[List.all_append,ai] at f;obtain⟨n1,n2⟩:=hfr f.1;have fy:Gy.Nodup∧∀ a∈Gy,H5 a=none∧∃ ws:ML,H6 a=some ws.o:=by
        have f2:q.1.flat=true∨eT q.2=true:=by simpa using f.2
        rcases f2 with f2 | f2
        ·rw[rpy.flat f2];exact⟨bz,fun _ h=>(nomatch h)⟩
        ·have:q.2 = .mv []:=by
          cases hr:q.2 with
          |sh R=>rw[hr] at f2;cases f2
          |mv R=>cases R with
           |nil=>rfl
           |cons a b=>rw[hr] at f2;cases f2
         obtain⟨m1,m2,m3⟩:=rty.mv [] this;refine⟨m1,fun a ha=>⟨?_,m2 a ha⟩⟩;rcases m3 a ha with z | ⟨_,_,_,z,_⟩
         ·exact z
         ·cases z
       rw[bo];refine⟨eh.mpr ⟨n1,fy.1,fun a ha b hb z=>?_⟩,fun a ha=>?_⟩
       ·subst z;obtain⟨_,ws,w⟩:=n2 a ha;have:=s5 _ _ (s3 _ _ w);rw[(fy.2 a hb).1] at this;cases this
       ·have ne:a≠l:=fun z=>by
         subst z;rcases iy.mp ha with ha | ha
         ·exact hlG ha
         ·exact ly ha
        rcases iy.mp ha with ha | ha
        ·obtain⟨u1,ws,w⟩:=n2 a ha;exact⟨u1,ws,by rw[aS ne];exact old6 _ _ w⟩
        ·obtain⟨u1,ws,w⟩:=fy.2 a ha;exact⟨aN.no base5 u1,ws,by rw[aS ne];exact w⟩
  ·left;have ei:i=p.1.length:=by omega
   subst ei;refine⟨w2,?_⟩;rw[List.drop_length] at hgo;unfold dJ at hgo;cases hgo;rw[bo] at htot;subst htot;refine k _ H2 (l::G) (s1.trans s2) (.lst (.inl hl2) rs) ?_;have hl0:=aN.no s1 hl;cases hf:tot.all (fun q=>q.1.flat || eT q.2) with
   |true =>
    obtain⟨n1,n2⟩:=hfr hf;have new:∀ a∈l::G,H a=none:=fun a ha=>by
     rcases et.mp ha with rfl | ha
     ·exact hl0
     ·exact aN.no s1 (n2 a ha).1
    refine⟨fun a ha=>.inl (new a ha),fun R e=>⟨iw.mpr ⟨hlG,n1⟩,fun a ha=>?_,fun a ha=>.inl (new a ha)⟩⟩;rcases et.mp ha with rfl | ha
    ·exact⟨.l _,hl2⟩
    ·exact (n2 a ha).2
   |false =>
    refine⟨fun a ha=>?_,fun R e=>by cases e⟩;rcases et.mp ha with rfl | ha
    ·exact .inl hl0
    ·rcases hG a ha with q | q | ⟨j,hj,d,t,m,ej⟩
     ·exact .inl (aN.no s1 q)
     ·exact (rt.cont a q).imp id fun ⟨i,d,t,x,y,z⟩=>⟨i,d,t,x,y,fun r hr=>ay _ (z r hr)⟩
     ·refine .inr ⟨j,d,t,m,ej,fun r hr=>ao _ ?_⟩;unfold n5;rw[List.mem_flatten];exact⟨bG j t,List.mem_map.mpr ⟨j,hj,by rw[ej]⟩,hr⟩
theorem oo {K:Frag}{t:lG}{pk:List (Option Nat)}(ht:∀ i,(t = .nm i∨∃ is,t = .tp is∧i∈is)→pk[i]? = some none) (v:V) (σ:L2.St) (H:Hp) (Q:L2.St→Hp→Prop) (h:tY K t v σ H Q) :
  tY K t v σ H fun σ' H'=>Q σ' H'∧σ'.length=σ.length∧∀(i:Nat) u,pk[i]?≠some none→σ[i]? = some u→σ'[i]? = some u:=by
 cases t with
 |nm i=>exact⟨h,by simp,fun j u hj e=>by rw[List.getElem?_set_ne];exact e;rintro rfl;exact hj (ht i (.inl rfl))⟩
 |tp is =>
  obtain⟨a,xs,e1,e2,e3,h⟩:=h;refine⟨a,xs,e1,e2,e3,?_⟩;have gen:∀(is:List Nat) (xs:List V) (σ1:L2.St),(∀ i∈is,pk[i]? = some none)→σ1.length=σ.length→(∀(i:Nat) u,pk[i]?≠some none→σ[i]? = some u→σ1[i]? = some u)→iO is xs σ1 H Q→iO is xs σ1 H fun σ' H'=>Q σ' H'∧σ'.length=σ.length∧∀(i:Nat) u,pk[i]?≠some none→σ[i]? = some u→σ'[i]? = some u:=by
   intro is
   induction is with
   |nil=>intro xs σ1 _ hl hk h;exact⟨h.1,h.2,hl,hk⟩
   |cons j js ih =>
    intro xs σ1 hi hl hk h;obtain⟨v,r,e,h⟩:=h;refine⟨v,r,e,ih r (σ1.set j (some v)) (fun i hm=>hi i (List.mem_cons_of_mem _ hm)) (by simp[hl]) (fun i u hi' e'=>?_) h⟩;rw[List.getElem?_set_ne];exact hk i u hi' e';rintro rfl;exact hi' (hi j ag)
  exact gen is xs σ (fun i hm=>ht i (.inr ⟨is,rfl,hm⟩)) rfl (fun _ _ _ e=>e) h
end
end Pc
end
section
namespace Pc
open PySem PySem.Spec PyProof.Rows L2
noncomputable def lB (K:Frag) (T:Tb) (x:Nat) (path:nt):TE:=fun σ H Q=>∃ P env F po v p,RE K P env σ H F∧mH T path env = .ok po∧σ[x]? = some (some v)∧PV K H v po p∧∀ H',aN H H'→Q (.ref p) H'
section
variable {X:Cx}{T:Tb}{pos:Pos}{i:Nat}{x:Str}
theorem DI (hN:X.N[i]? = some x) (hv:B8 X.env.scope x) (hd:(x==("__debug__" : Str))=false) (hcd:(x==("__classdict__" : Str))=false):PE X (.Name x pos) (lB X.K T i .none):=by
 refine bT (jL hN hv hd hcd) fun σ H Q ⟨P,env,F,po,v,p,re,hpo,hv,pv,k⟩=>?_
 unfold mH at hpo;cases hpo;cases pv;exact⟨_,hv,k H (aN.refl _)⟩
theorem Bu {e:Expr}{c:Ex}{pos':Pos}(hN:X.N[i]? = some x) (hv:B8 X.env.scope x) (hd:(x==("__debug__" : Str))=false) (hcd:(x==("__classdict__" : Str))=false) (he:PE X e (tE X.K T c)) (hs:lN e):PE X (.Subscript (.Name x pos') e pos) (lB X.K T i (.some c)):=by
 refine bT (Cn (vg.or yZ) (jL hN hv hd hcd) he hs) fun σ H Q ⟨P,env,F,po,v,p,re,hpo,hv,pv,k⟩=>?_
 unfold mH at hpo;obtain⟨q,h1,hpo⟩:=Rs.bind_ok hpo;cases hq:q.1 with
 |int j =>
  rw[hq] at hpo;cases hpo;refine⟨v,hv,P,env,F,re,q,h1,fun w H1 G s rpi rti=>?_⟩;rw[hq] at rpi;obtain⟨rfl,_⟩:=rpi.int_inv;cases pv with
  |item h hj e =>
   rename_i r ws n;have hat:Cr ws j=some (.ref p):=by
    unfold Cr;rw[←wV,hj];exact e
   rcases h with h | h
   ·exact .inl ⟨r,ws,j,.ref p,rfl,rfl,.inl (aN.rd s h),hat,k H1 s⟩
   ·exact .inr ⟨r,ws,j,.ref p,rfl,rfl,aN.sqT s h,hat,k H1 s⟩
 |_=>rw[hq] at hpo;cases hpo
end
noncomputable def vU (K:Frag) (m:rY):V→List V→Hp→VK→Prop:=fun x vs H Q=>∃ l ws xs ds Gx G ys,x = .ref l∧H l=some (.lst ws)∧aI K H xs ws Gx∧aI K H ds vs G∧yi m xs ds=some ys∧ys.length≤lim∧l∉Gx∧l∉G∧Gx.Nodup ∧
 ∀ us Gy v,aI K (upd H l (.lst us)) ys us Gy→(∀ a∈Gy,a∈Gx∨(m.copies=false∧a∈G))→((∀ a∈Gx,a∉G)→G.Nodup∨m.copies=true→Gy.Nodup)→Q v (upd H l (.lst us))
section
variable {X:Cx}
theorem l9:Fo X "list.append" (vU X.K .append):=by
 intro pins s σ H x vs v us Q I rx rv h;obtain⟨l,ws,xs,ds,Gx,G,ys,rfl,hl,r1,r2,hm,hlen,n1,n2,nd,k⟩:=h
 match ds,hm with
 |[d],hm =>
  cases hm;obtain⟨y,rfl,rp⟩:=r2.of1;refine oS pins s σ H _ _ v us Q I rx rv ⟨l,ws,y,rfl,rfl,hl,?_,k (ws ++ [y]) (Gx++(G ++ [])) _ ?_ (fun a ha=>?_) fun dj o=>?_⟩
  ·rw[←r1.len];simp only[List.length_append,List.length_singleton] at hlen;exact av (av (Nat.lt_succ_self _) hlen) sZ
  ·exact (r1.append (.cons rp .nil)).upd hl (by simp;exact⟨n1,n2⟩)
  ·simp at ha;exact ha.imp id fun z=>⟨rfl,z⟩
  ·rcases o with o | o
   ·rw[bo];exact eh.mpr ⟨nd,o,fun a ha b hb z=>by subst z;exact dj a ha hb⟩
   ·cases o
theorem aI.erase {K:Frag}{H:Hp}:∀{xs:List Pc.D}{ws:List V}{G:List Addr}{j:Nat}{r:Pc.D},aI K H xs ws G→xs[j]? = some r→∃ u B A,ws[j]? = some u∧Rep K H r u B∧aI K H (xs.eraseIdx j) (ws.eraseIdx j) A∧List.Perm G (B++A)
 |_,_,_,_,_,.nil,e=>by simp at e
 | _,_,_,0,_,.cons (G:=G) (G':=G') h r,e=>by
  simp at e;subst e;exact⟨_,G,G',rfl,h,r,.refl _⟩
 | _,_,_,j+1,d,.cons (G:=G) (G':=G') h r,e=>by
  obtain⟨u,B,A,e1,e2,e3,e4⟩:=aI.erase (j:=j) r (by simpa using e);refine⟨u,B,G++A,by simpa using e1,e2,.cons h e3,?_⟩;refine (List.Perm.append_left G e4).trans ?_;rw[←ek,←ek];exact List.Perm.append_right A List.perm_append_comm
noncomputable def Cj (K:Frag):V→List V→Hp→VK→Prop:=fun x vs H Q=>∃ l ws xs ds Gx G q,x = .ref l∧H l=some (.lst ws)∧aI K H xs ws Gx∧aI K H ds vs G∧pX xs ds=some q∧l∉Gx∧Gx.Nodup ∧
 ∀ w us Gy,Rep K (upd H l (.lst us)) q.1 w []→aI K (upd H l (.lst us)) q.2 us Gy→(∀ a∈Gy,a∈Gx)→Gy.Nodup→Q w (upd H l (.lst us))
theorem lY {K:Frag}{H:Hp}{xs:List Pc.D}{ws:List V}{Gx:List Addr}{j:Nat}{q:Pc.D×List Pc.D}{l:Addr}(hl:H l=some (.lst ws)) (r1:aI K H xs ws Gx) (n1:l∉Gx) (nd:Gx.Nodup) (hp:kY xs j=some q) :
  ∃ u Gy,ws[j]? = some u∧Rep K (upd H l (.lst (ws.eraseIdx j))) q.1 u []∧aI K (upd H l (.lst (ws.eraseIdx j))) q.2 (ws.eraseIdx j) Gy∧(∀ a∈Gy,a∈Gx)∧Gy.Nodup:=by
 unfold kY at hp;cases hj:xs[j]? with
 |none=>rw[hj] at hp;cases hp
 |some r =>
  rw[hj] at hp;by_cases hf:r.flat=true
  ·simp only[hf,if_true] at hp;cases hp;obtain⟨u,B,A,e1,e2,e3,e4⟩:=r1.erase hj;have eb:=e2.flat hf;subst eb;exact⟨u,A,e1,e2.upd hl (by simp),e3.upd hl (fun z=>n1 (e4.symm.subset z)),fun a ha=>e4.symm.subset ha,e4.nodup_iff.mp nd⟩
  ·simp only[hf,if_false] at hp;cases hp
theorem xW (n:Nat) (i:Int) {j:Nat}(h:Pc.jy n i=some j):seqIndex? i n=some j:=by
 unfold Pc.jy at h;unfold seqIndex?;by_cases h0:0≤i
 ·rw[if_pos h0] at h;by_cases h1:i<n
  ·rw[if_pos h1] at h;cases h;have:¬ i<0:=by omega
   simp[this];omega
  ·rw[if_neg h1] at h;cases h
 ·rw[if_neg h0] at h;by_cases h1 : -(n:Int)≤i
  ·rw[if_pos h1] at h;cases h;have:i<0:=by omega
   simp[this];omega
  ·rw[if_neg h1] at h;cases h
theorem Bk:Fo X "list.pop" (Cj X.K):=by
 intro pins s σ H x vs v us Q I rx rv h;obtain⟨l,ws,xs,ds,Gx,G,q,rfl,hl,r1,r2,hm,n1,nd,k⟩:=h
 match ds,hm with
 |[],hm =>
  cases r2;obtain⟨u,Gy,e1,e2,e3,e4,e5⟩:=lY hl r1 n1 nd hm;rw[r1.len] at e1 e2 e3;have kk:=k u _ Gy e2 e3 e4 e5;rw[mI] at kk;exact DR pins s σ H _ _ v us Q I rx rv ⟨l,ws,u,rfl,rfl,hl,e1,kk⟩
 |[.int i],hm =>
  simp only[pX] at hm;by_cases hi : -(2 ^ 63)≤i∧i<2 ^ 63
  ·rw[if_pos hi,ah] at hm;obtain⟨j,hj,hm⟩:=hm;obtain⟨y,rfl,rp⟩:=r2.of1;obtain⟨rfl,_⟩:=rp.int_inv;obtain⟨u,Gy,e1,e2,e3,e4,e5⟩:=lY hl r1 n1 nd hm;rw[r1.len] at hj;exact zC pins s σ H _ _ v us Q I rx rv ⟨l,ws,i,j,u,rfl,rfl,hl,hi.1,hi.2,xW _ _ hj,e1,k u _ Gy e2 e3 e4 e5⟩
  ·rw[if_neg hi] at hm;cases hm
theorem zH {x:Nat}{p:Option Int}{env:En}{d:D}{ys:List D}{rs:List Rt}:(∃ e,dF x p env d ys rs = .nx e)∨dF x p env d ys rs = .bad:=by
 unfold dF;split
 ·exact .inr rfl
 ·split
  ·exact .inl ⟨_,rfl⟩
  ·exact .inr rfl
theorem wK {T:Tb}{i y:Nat}{cs:lT}{D:Ends}{σ:L2.St}{H:Hp}(h:tS X.K T (.apop y i cs) D σ H):uu (tBM X.K "list" (vU X.K .append) (lB X.K T y .none) (mE (tBM X.K "list" (Cj X.K) (lB X.K T i .none) (uU X.K T cs)) xC)) D σ H:=by
 obtain⟨P,Z,env,F,re,hz,zp,h⟩:=h;unfold bE at h;by_cases hyi:y=i
 ·rw[if_pos hyi] at h;exact h.elim
 rw[if_neg hyi] at h;cases hx:ownAt env i with
 |none=>rw[hx] at h;exact h.elim
 |some d =>
  rw[hx] at h;simp only at h;cases hat:d.at1 none with
  |none=>rw[hat] at h;exact h.elim
  |some xs =>
   rw[hat] at h;obtain⟨l,hl,h⟩:=cQ h;cases hm:pX xs (l.map (·.1)) with
   |none=>rw[hm] at h;exact h.elim
   |some q =>
    rw[hm] at h;simp only at h;rcases zH (x:=i) (p:=none) (env:=env) (d:=d) (ys:=q.2) (rs:=[]) with ⟨env',hmt⟩ | hmt
    rotate_left
    ·rw[hmt] at h;exact h.elim
    rw[hmt] at h;have h:post X.K P Z env F H D (match ownAt env' y with
     |none=>.bad
     |some dy=>(match dy.at1 none with
      |none=>.bad
      |some ys=>dF y none env' dy (ys ++ [q.1]) [])):=h
    cases hy:ownAt env' y with
    |none=>rw[hy] at h;exact h.elim
    |some dy =>
     rw[hy] at h;simp only at h;cases haty:dy.at1 none with
     |none=>rw[haty] at h;exact h.elim
     |some ys =>
      rw[haty] at h;simp only at h;have hx':=dR hx;have hy':=dR hy;have hy0:ownAt env y=some dy:=by
       unfold dF at hmt;split at hmt
       ·cases hmt
       ·split at hmt
        ·cases hmt;rw[List.getElem?_set_ne (cj hyi)] at hy';unfold ownAt;rw[(cL hy').1]
        ·cases hmt
      have hy0':=dR hy0;obtain⟨vy,hvy,_⟩:=re.val y dy .own hy0';obtain⟨py,pvy,fy⟩:=hV re hy0 hvy haty;obtain⟨v,hv,_⟩:=re.val i d .own hx';obtain⟨p,pv,f⟩:=hV re hx hv hat;refine⟨P,env,F,none,vy,py,re,rfl,hvy,pvy,fun Ha sa=>?_⟩;obtain⟨wsa,ga,ea,_⟩:=fy Ha sa;refine⟨.inl ⟨rfl,wsa,.inl (.inl ea)⟩,?_⟩;refine⟨P,env,F,none,v,p,re.same sa,rfl,hv,by cases pv;exact .top _,fun H1 s1'=>?_⟩;have s1:=sa.trans s1';obtain⟨ws1,g1,e1,_⟩:=f H1 s1;refine⟨.inl ⟨rfl,ws1,.inl (.inl e1)⟩,P,env,F,re.same s1,l,hl,fun vs H2 G ar=>?_⟩;have s2:=s1.trans ar.same;obtain⟨ws,Gx,a1,a2,a3,a4,a5,a6,fs⟩:=f H2 s2;refine⟨p,ws,xs,l.map (·.1),Gx,G,q,rfl,a1,a2,ar.reps,hm,a6,a5,fun w us Gy eV rs sub nd=>?_⟩;have key:=kj (K:=X.K) (P:=P) (Z:=Z) (D:=⟨fun σ' H'=>∃ F',After X.K P Z env F H env' σ' H' F',fun _ _=>True,fun _ _=>True,fun _ _=>True⟩) (N:=[]) (us:=us) re hz zp s2 hx hv a3 (fun R hR ndR=>⟨bz,fun _ h=>(nomatch h),fun _ h=>(nomatch h)⟩) (fun hN hNd=>by
       obtain⟨G',b1,b2,b3⟩:=fs q.2 us Gy rs nd (fun z=>a6 (sub p z)) fun a ha=>.inl (sub a ha)
       exact⟨G',b1,b2,fun a ha=>.inl ((b3 a ha).elim id fun z=>a4 a (sub a z))⟩) (by rw[hmt];exact fun σ' H' F' af=>⟨F',af⟩)
      obtain⟨F',af⟩:=key;have hvy':=hvy;obtain⟨py',pvy',fy'⟩:=hV af.re hy hvy haty;obtain⟨ws',Gx',c1,c2,c3,c4,c5,c6,fs'⟩:=fy' _ (aN.refl _);have epy:py'=py:=by cases pvy;cases pvy';rfl
      subst epy;have h':=post.trans af h;refine⟨py',ws',ys,[q.1],Gx',[] ++ [],ys ++ [q.1],rfl,c1,c2,.cons eV .nil,rfl,oO h',c6,fun z=>(nomatch z),c5,fun us' Gy' w' rs' sub' nd'=>?_⟩;refine kj (N:=[]) af.re af.z zp (aN.refl _) hy hvy c3 (fun R hR ndR=>⟨bz,fun _ h=>(nomatch h),fun _ h=>(nomatch h)⟩) (fun hN hNd=>?_) h';have sub2:∀ a∈Gy',a∈Gx':=fun a ha=>(sub' a ha).elim id fun z=>(nomatch z.2)
      obtain⟨G',b1,b2,b3⟩:=fs' (ys ++ [q.1]) us' Gy' rs' (nd' (fun _ _ z=>nomatch z) (.inl bz)) (fun z=>c6 (sub2 _ z)) fun a ha=>.inl (sub2 a ha)
      exact⟨G',b1,b2,fun a ha=>.inl ((b3 a ha).elim id fun z=>c4 a (sub2 a z))⟩
theorem lX {T:Tb}{i:Nat}{path:nt}{m:rY}{cs:lT}{D:Ends}{σ:L2.St}{H:Hp}(h:tS X.K T (.mut i path m cs) D σ H):uu (tBM X.K "list" (vU X.K m) (lB X.K T i path) (uU X.K T cs)) D σ H:=by
 obtain⟨P,Z,env,F,re,hz,zp,h⟩:=h;unfold bE at h;cases hx:ownAt env i with
 |none=>rw[hx] at h;exact h.elim
 |some d =>
  rw[hx] at h;obtain⟨po,hpo,h⟩:=cQ h;cases hat:d.at1 po with
  |none=>rw[hat] at h;exact h.elim
  |some xs =>
   rw[hat] at h;obtain⟨l,hl,h⟩:=cQ h;cases hm:yi m xs (l.map (·.1)) with
   |none=>rw[hm] at h;exact h.elim
   |some ys =>
    rw[hm] at h;have hx':=dR hx;obtain⟨v,hv,_⟩:=re.val i d .own hx';obtain⟨p,pv,f⟩:=hV re hx hv hat;refine⟨P,env,F,po,v,p,re,hpo,hv,pv,fun H1 s1=>?_⟩;obtain⟨ws1,g1,e1,_⟩:=f H1 s1;refine⟨.inl ⟨rfl,ws1,.inl (.inl e1)⟩,P,env,F,re.same s1,l,hl,fun vs H2 G ar=>?_⟩;have s2:=s1.trans ar.same;obtain⟨ws,Gx,a1,a2,a3,a4,a5,a6,fs⟩:=f H2 s2;by_cases hroot:(aZ (l.map (·.2))).contains i=true
    ·simp only[hroot,if_true] at h;exact h.elim
    simp only[hroot,if_false] at h;have disj:∀ a∈F i,a∉G:=fun a ha hg=>by
     rcases ar.cont a hg with q | ⟨j,d2,t2,m2,e2,sr⟩
     ·exact (re.same s1).nn hx' ha q
     ·exact hroot (by simpa using sr i ((re.one i d .own hx' rfl).2.2 a ha j d2 t2 e2 m2))
    have nG:=disj p a3;refine⟨p,ws,xs,l.map (·.1),Gx,G,ys,rfl,a1,a2,ar.reps,hm,oO h,a6,nG,a5,fun us Gy w rs sub nd=>?_⟩;refine kj (N:=if m.copies then [] else G) re hz zp s2 hx hv a3 (fun R hR ndR=>?_) (fun hN hNd=>?_) h
    ·cases hc:m.copies with
     |true=>exact⟨bz,fun _ h=>(nomatch h),fun _ h=>(nomatch h)⟩
     |false =>
      rw[hc] at hR;obtain⟨n1,n2,n3⟩:=Args.mv (re.same s1) ar hR ndR;exact⟨n1,n2,fun a ha=>(n3 a ha).imp (aN.no s1) id⟩
    ·have ngy:Gy.Nodup:=nd (fun a ha=>disj a (a4 a ha)) (by
      cases hc:m.copies with
      |true=>exact .inr rfl
      |false=>rw[hc] at hNd;exact .inl hNd)
     obtain⟨G',b1,b2,b3⟩:=fs ys us Gy rs ngy (fun z=>(sub p z).elim a6 fun q=>nG q.2) fun a ha=>(sub a ha).imp id fun q z=>disj a z q.2
     refine⟨G',b1,b2,fun a ha=>?_⟩;rcases b3 a ha with q | q
     ·exact .inl q
     ·rcases sub a q with z | ⟨z1,z2⟩
      ·exact .inl (a4 a z)
      ·rw[z1];exact .inr z2
theorem vN {T:Tb}{i:Nat}{path:nt}{m:rY}{D:Ends}{σ:L2.St}{H:Hp}(h:tS X.K T (.mut i path m .nil) D σ H):uu (GB X.K "list" (vU X.K m) (lB X.K T i path)) D σ H:=by
 obtain⟨P,env,F,po,v,p,re,hpo,hv,pv,k⟩:=lX h;refine⟨P,env,F,po,v,p,re,hpo,hv,pv,fun H' s=>?_⟩;obtain⟨ty,P',env',F',re',l,hl,f⟩:=k H' s;unfold bK at hl;cases hl;exact⟨ty,f [] H' [] (.nil (aN.refl _))⟩
theorem xO {T:Tb}{i:Nat}{path:nt}{c e:Ex}{D:Ends}{σ:L2.St}{H:Hp}(h:tS X.K T (.setix i path c e) D σ H):xN (tE X.K T e) (GO (lB X.K T i path) (tE X.K T c) B4) D σ H:=by
 obtain⟨P,Z,env,F,re,hz,zp,h⟩:=h;unfold bE at h;cases hx:ownAt env i with
 |none=>rw[hx] at h;exact h.elim
 |some d =>
  rw[hx] at h;obtain⟨q,hq,h⟩:=cQ h;obtain⟨po,hpo,h⟩:=cQ h;cases hat:d.at1 po with
  |none=>rw[hat] at h;exact h.elim
  |some xs =>
   rw[hat] at h;obtain⟨qi,hqi,h⟩:=cQ h;cases hqq:qi.1 with
   |int n =>
    rw[hqq] at h;cases hj:jy xs.length n with
    |none=>simp only[hj] at h;exact h.elim
    |some j =>
     simp only[hj] at h;have hx':=dR hx;obtain⟨v,hv,_⟩:=re.val i d .own hx';refine⟨P,env,F,re,q,hq,fun w H1 G s1 rp rt=>?_⟩;have re1:=re.same s1;obtain⟨p,pv,f⟩:=hV re1 hx hv hat;refine⟨P,env,F,po,v,p,re1,hpo,hv,pv,fun H2 s2=>⟨P,env,F,re1.same s2,qi,hqi,fun wi H3 Gi s3 rpi rti=>?_⟩⟩;rw[hqq] at rpi;obtain⟨rfl,_⟩:=rpi.int_inv;obtain⟨ws,Gx,a1,a2,a3,a4,a5,a6,fs⟩:=f H3 (s2.trans s3);have jl:=EB hj;refine⟨p,ws,n,j,rfl,rfl,a1,by rw[←a2.len];exact hj,?_⟩;have hroots:∀ R,q.2 = .mv R→i∉R→∀ a∈F i,a∉G:=fun R hr hiR a ha hg=>by
      rcases rt.cont a hg with z | ⟨k,d2,t2,m2,e2,sr⟩
      ·exact re.nn hx' ha z
      ·have:=sr i ((re.one i d .own hx' rfl).2.2 a ha k d2 t2 e2 m2);rw[hr] at this;exact hiR this
     have s13:=s2.trans s3;refine kj (N:=G) re hz zp (s1.trans s13) hx hv a3 (fun R hR ndR=>?_) (fun hN hNd=>?_) h
     ·have hr:q.2 = .mv R:=by
       cases hr:q.2 with
       |sh Q=>rw[hr] at hR;cases hR
       |mv Q=>rw[hr] at hR;simp[eM] at hR;rw[hR]
      obtain⟨n1,n2,n3⟩:=rt.mv R hr;exact⟨n1,fun a ha=>let ⟨ws,z⟩:=n2 a ha;⟨ws,s13 _ _ z⟩,n3⟩
     ·obtain⟨u,A,B,C,e1,e2,r1,g⟩:=a2.split (i:=j) (d:=xs[j]) (List.getElem?_eq_getElem jl);subst e2;have hpG:p∉G:=fun z=>hN p z a3
      have pAC:∀ b∈A++C,b≠p:=fun b hb z=>by
       rw[z] at hb;refine a6 ?_;rcases iy.mp hb with hb | hb
       ·exact ay _ hb
       ·exact ao _ (ao _ hb)
      have rs:=g (upd H3 p (.lst (ws.set j w))) q.1 w G (fun _ _=>ko a1) (kz (ws:=.l _) a1) (fun b hb _ h=>(aS (pAC b hb)).trans h) ((rp.same s13).upd a1 hpG);have gsub:∀ a∈A++(G++C),a∈A++(B++C)∨a∈G:=fun a ha=>by
       simp only[List.mem_append] at ha ⊢;rcases ha with ha | ha | ha
       ·exact .inl (.inl ha)
       ·exact .inr ha
       ·exact .inl (.inr (.inr ha))
      have ng:(A++(G++C)).Nodup:=by
       rw[eh] at a5;obtain⟨nA,nB,nAB⟩:=a5;rw[eh] at nB;obtain⟨_,nC,_⟩:=nB;rw[eh];refine⟨nA,eh.mpr ⟨hNd,nC,fun a ha b hb z=>?_⟩,fun a ha b hb z=>?_⟩
       ·subst z;exact hN a ha (a4 a (by simp[hb]))
       ·subst z;rcases iy.mp hb with hb | hb
        ·exact hN a hb (a4 a (by simp[ha]))
        ·exact nAB a ha a (by simp[hb]) rfl
      obtain⟨G',b1,b2,b3⟩:=fs (xs.set j q.1) (ws.set j w) _ rs ng (fun z=>(gsub p z).elim a6 hpG) fun a ha=>(gsub a ha).imp id fun z y=>hN a z y
      refine⟨G',b1,b2,fun a ha=>?_⟩;rcases b3 a ha with z | z
      ·exact .inl z
      ·exact (gsub a z).imp (a4 a) id
   |_=>rw[hqq] at h;exact h.elim
end
end Pc
end
section
namespace Pc
open PySem PySem.Spec PyProof.Rows L2
section
variable {X:Cx}
noncomputable def jt:List String:=["int","bool","str","list","tuple"]
theorem ty_type {T:String}(h:T∈jt):typeOf (.type T)=pure (.type "type"):=by
 simp only[jt,List.mem_cons,List.not_mem_nil,or_false] at h;rcases h with rfl | rfl | rfl | rfl | rfl<;>kernel_rfl
noncomputable def Ge (K:Frag):List V→Hp→VK→Prop:=fun xs H Q=>∃ x T d G,xs=[x,.ty T]∧T∈jt∧Rep K H d x G∧Q (.bl (xZ T d)) H
theorem wu:gQ X (.builtin "isinstance") (Ge X.K):=by
 intro pins s σ H xs us Q I r h;obtain⟨x,T,d,G,rfl,hT,rp,q⟩:=h;obtain⟨u,w,rfl,rx,rt⟩:=r.two;obtain rfl:w=Value.type T:=rt;have hty:=ty_type hT;have yes:∀{Tx:String},s.TypeIs u Tx→isSubtype (.type Tx) (.type T)=pure true→xZ T d=true→wpAny (model X.prog X.w) X.A (call (.builtin "isinstance") [u,.type T]) (EP X pins σ Q) X.xe s:=fun h1 h2 h3 =>
  call_isinstance (isinstance_true hty h2) ⟨h1,⟨.bl true,H,I,rfl,by rw[h3] at q;exact q⟩⟩
 have no:xZ T d=false→EP X pins σ Q (.bool false) { s with toks:=s.toks+1 }:=fun h=>⟨.bl false,H,I.tok _,rfl,by rw[h] at q;exact q⟩
 simp only[jt,List.mem_cons,List.not_mem_nil,or_false] at hT;cases d with
 |non =>
  obtain⟨rfl,_⟩:=rp.non_inv;cases rx;rcases hT with rfl | rfl | rfl | rfl | rfl
  ·exact call_isinstance (isinstance_false_none (by decide) hty F.sub_NoneType_int) (no rfl)
  ·exact call_isinstance (isinstance_false_none (by decide) hty F.sub_NoneType_bool) (no rfl)
  ·exact call_isinstance (isinstance_false_none (by decide) hty F.sub_NoneType_str) (no rfl)
  ·exact call_isinstance (isinstance_false_none (by decide) hty F.sub_NoneType_list) (no rfl)
  ·exact call_isinstance (isinstance_false_none (by decide) hty F.sub_NoneType_tuple) (no rfl)
 |bl b =>
  obtain⟨rfl,_⟩:=rp.bl_inv;cases rx;rcases hT with rfl | rfl | rfl | rfl | rfl
  ·exact yes (PySem.typeIs_bool s b) F.sub_bool_int rfl
  ·exact yes (PySem.typeIs_bool s b) F.sub_bool_bool rfl
  ·exact call_isinstance (isinstance_false_bool (by decide) hty F.sub_bool_str) (no rfl)
  ·exact call_isinstance (isinstance_false_bool (by decide) hty F.sub_bool_list) (no rfl)
  ·exact call_isinstance (isinstance_false_bool (by decide) hty F.sub_bool_tuple) (no rfl)
 |int i =>
  obtain⟨rfl,_⟩:=rp.int_inv;obtain⟨t,rfl⟩:=rx;rcases hT with rfl | rfl | rfl | rfl | rfl
  ·exact yes (typeIs_int s i t) F.sub_int_int rfl
  ·exact call_isinstance (isinstance_false_int (by decide) hty F.sub_int_bool) (no rfl)
  ·exact call_isinstance (isinstance_false_int (by decide) hty F.sub_int_str) (no rfl)
  ·exact call_isinstance (isinstance_false_int (by decide) hty F.sub_int_list) (no rfl)
  ·exact call_isinstance (isinstance_false_int (by decide) hty F.sub_int_tuple) (no rfl)
 |lst ds =>
  obtain⟨p,vs,g,rfl,_,a1,_⟩:=rp.lst_inv;cases rx;obtain⟨its,_,pl,_⟩:=I.list (.inl a1);obtain⟨o,ho,hc,_⟩:=pl.isList;rcases hT with rfl | rfl | rfl | rfl | rfl
  ·exact call_isinstance (isinstance_false_list (by decide) hty F.sub_list_int) ⟨⟨o,ho,hc⟩,no rfl⟩
  ·exact call_isinstance (isinstance_false_list (by decide) hty F.sub_list_bool) ⟨⟨o,ho,hc⟩,no rfl⟩
  ·exact call_isinstance (isinstance_false_list (by decide) hty F.sub_list_str) ⟨⟨o,ho,hc⟩,no rfl⟩
  ·exact yes ⟨o,ho,hc⟩ F.sub_list_list rfl
  ·exact call_isinstance (isinstance_false_list (by decide) hty F.sub_list_tuple) ⟨⟨o,ho,hc⟩,no rfl⟩
 |tup ds =>
  obtain⟨p,vs,rfl,a1,_⟩:=rp.tup_inv;cases rx;obtain⟨its,_,pl,_⟩:=I.tuple a1;obtain⟨o,ho,hc,_⟩:=pl;rcases hT with rfl | rfl | rfl | rfl | rfl
  ·exact call_isinstance (isinstance_false_tuple (by decide) hty F.sub_tuple_int) ⟨⟨o,ho,hc⟩,no rfl⟩
  ·exact call_isinstance (isinstance_false_tuple (by decide) hty F.sub_tuple_bool) ⟨⟨o,ho,hc⟩,no rfl⟩
  ·exact call_isinstance (isinstance_false_tuple (by decide) hty F.sub_tuple_str) ⟨⟨o,ho,hc⟩,no rfl⟩
  ·exact call_isinstance (isinstance_false_tuple (by decide) hty F.sub_tuple_list) ⟨⟨o,ho,hc⟩,no rfl⟩
  ·exact yes ⟨o,ho,hc⟩ F.sub_tuple_tuple rfl
theorem yW {T:Tb}{b:String}{c:Ex}{σ:L2.St}{H:Hp}{Q:VK}(hb:b∈jt) (h:tE X.K T (.blt (.isi b) (.cons c .nil)) σ H Q):tCB (Ge X.K) (mE (tE X.K T c) (mE (tC (.ty b)) xC)) σ H Q:=by
 obtain⟨P,env,F,re,p,hev,k⟩:=h;unfold ev bK bK at hev;obtain⟨l,h1,hev⟩:=Rs.bind_ok hev;obtain⟨q,h2,h1⟩:=Rs.bind_ok h1;cases h1;obtain⟨d',h3,hev⟩:=Rs.bind_ok hev;have h3:lF (.isi b) [q.1]=some d':=dD h3;have hd:d' = .bl (xZ b q.1):=by
  cases h3;rfl
 subst hd;cases hev;exact⟨P,env,F,re,q,h2,fun v H1 G s rp rt=>⟨v,b,q.1,G,rfl,hb,rp,k _ H1 [] s (.bl _) bY.nil⟩⟩
theorem rm:∀{r:List D},r.all D.isBl=true→∃ bs:List Bool,r=bs.map D.bl
 |[],_=>⟨[],rfl⟩
 | x::r,ha=>by
  rw[dh,ai] at ha;obtain⟨bs,rfl⟩:=rm ha.2;cases x with
  |bl c=>exact⟨c::bs,rfl⟩
  |_=>cases ha.1
theorem all_range (bs:List Bool):(List.range bs.length).all (fun i=>bs[i]?.getD true)=bs.all id:=by
 rw[ey,bw,bw];constructor
 ·intro h x hx;obtain⟨i,hi,rfl⟩:=List.mem_iff_getElem.mp hx;have:=h i (by simpa using hi);simpa[hi] using this
 ·intro h i hi;have hi:i<bs.length:=by simpa using hi
  simpa[hi] using h bs[i] (List.getElem_mem hi)
theorem m6:∀{ds:List D}{b:Bool},allB ds=some b→ds.all D.isBl=true→∃ bs:List Bool,ds=bs.map D.bl∧b=bs.all id
 |[],b,h,_=>by cases h;exact⟨[],rfl,rfl⟩
 | .bl c::r,b,h,ha=>by
  have ha':r.all D.isBl=true:=by simpa[D.isBl] using ha
  cases c with
  |false =>
   cases h;have:=rm ha';obtain⟨bs,rfl⟩:=this;exact⟨false::bs,rfl,by simp⟩
  |true =>
   obtain⟨bs,rfl,rfl⟩:=m6 (ds:=r) h ha';exact⟨true::bs,rfl,by simp⟩
 |.non::r,b,h,_=>by cases h
 |.int _::r,b,h,_=>by cases h
 |.lst _::r,b,h,_=>by cases h
 |.tup _::r,b,h,_=>by cases h
theorem mX {K:Frag}{H:Hp}:∀{bs:List Bool}{vs:List V}{G:List Addr}{us:List Value},aI K H (bs.map D.bl) vs G→aQ vs us→us=bs.map Value.bool
 |[],_,_,_,.nil,.nil=>rfl
 | b::bs,_,_,_,.cons h r,.cons x y=>by
  obtain⟨rfl,_⟩:=h.bl_inv;cases x;rw[ax,←mX r y]
theorem vM (hc:X.calm=true):gQ X (.builtin "all") (qY X.K .all):=by
 intro pins s σ H xs us Q I r h;obtain⟨ds,d,G,rs,hd,k⟩:=h
 match ds,hd with
 |[.lst ys],hd =>
  simp only[lF,BQ] at hd;by_cases hb:ys.all D.isBl=true
  ·rw[if_pos hb,ae] at hd;obtain⟨b,hb',rfl⟩:=hd;obtain⟨bs,rfl,rfl⟩:=m6 hb' hb;obtain⟨x,rfl,rp⟩:=rs.of1;obtain⟨p,vs,g,rfl,rfl,a1,a2⟩:=rp.lst_inv;obtain⟨u,rfl,ru⟩:=r.one;cases ru;obtain⟨its,rv,pl,_⟩:=I.list (.inl a1);have ei:=mX a2 rv;subst ei;have hlt:p<s.heap.objs.size:=by
    obtain⟨o,ho,_⟩:=pl.isList;exact Heap.lt_size ho
   refine call_all_walk (wpAny_pyIter_list pl.isList ⟨s.heap.objs.size,[s.heap.objs.size,p],[s.heap.objs.size],(bs.map Value.bool).toArray.size,_,_,fun i=>bs[i]?.getD true,rfl,Walks.list (A:=X.A.in1) (show X.A.in1.handled=none from I.ok.hd hc) s.heap.objs.size p (bt hlt) (bs.map Value.bool).toArray,⟨⟨_,Heap.get?_push_size _ rfl,rfl,rfl⟩,pl.isList.at fun o e=>Heap.get?_push_of_some _ e⟩,fun i v s' Q' E' hP hQ=>?_,fun h' tk hk=>?_⟩)
   ·have hP:(bs.map Value.bool).toArray[i]? = some v:=hP;rw[List.getElem?_toArray,List.getElem?_map,ae] at hP;obtain⟨b,e1,rfl⟩:=hP;have hQ:Q' (bs[i]?.getD true) s':=hQ;rw[e1] at hQ;exact wpAny_truthy_bool hQ
   ·have e:(List.range (bs.map Value.bool).toArray.size).all (fun i=>bs[i]?.getD true)=bs.all id:=by
     simp only[List.size_toArray,List.length_map];exact all_range bs
    rw[e];refine⟨.bl (bs.all id),H,?_,rfl,k _ H [] (.bl _) kD.nil⟩;have I1:Inv X pins σ H { s with heap:=s.heap.push { cls:=.type "list_iterator",data:=.fields #[.ref p,.int 0 0] } }:=I.kept (t':=s.toks) fun b o e=>Heap.get?_push_of_some _ e
    obtain⟨f0,f1,f2,f3,f4,f5⟩:=I.fpOk (b:=s.heap.objs.size) (au _) (I.hok.fresh (au _));exact I1.turned (t':=tk) (fun b o hb e=>hk b o (by simpa using hb) e) f0 f1 f3 f4 f5
  ·rw[if_neg hb] at hd;cases hd
end
end Pc
end
section
namespace Pc
open PySem PySem.Spec PyProof.Rows L2
section
variable {prog:Program}{w:World}{A:Around}{E:Value→Shared→Prop}{s:Shared}
end
section
variable {X:Cx}{T:Tb}
end
end Pc
end
section
namespace Pc
open PySem PySem.Spec PyProof.Rows L2
theorem uc:∀(xs:List V) (us:List Value),xs.length=us.length→(∀(i:Nat) (x:V),xs[i]? = some x→∃ u,us[i]? = some u∧RelV x u)→aQ xs us
 |[],[],_,_=>.nil
 |[],_::_,h,_=>by simp at h
 |_::_,[],h,_=>by simp at h
 | x::xs,u::us,h,f=>by
  obtain⟨u',e,r⟩:=f 0 x rfl;cases e;exact .cons r (uc xs us (by simpa using h) fun i y hy=>by simpa using f (i+1) y (by simpa using hy))
theorem sX {a c:Int}{acc:Array Value}{n:Nat}(h:ItemsOf (fun i v=>∃ t,v = .int (a+i*c) t) acc n):aQ (eI a c n) acc.toList:=by
 obtain⟨h1,h2⟩:=h;refine uc _ _ (by simp[eI,h1]) fun i x hx=>?_
 unfold eI at hx;rw[List.getElem?_map,ae] at hx;obtain⟨k,hk,rfl⟩:=hx;obtain⟨hk1,hk2⟩:=List.getElem?_eq_some_iff.mp hk;have hk1':i<n:=by simpa using hk1
 have hik:k=i:=by rw[←hk2];simp
 subst hik;have hlt:k<acc.toList.length:=by simp[h1];exact hk1'
 refine⟨acc.toList[k],List.getElem?_eq_getElem hlt,?_⟩;obtain⟨t,ht⟩:=h2 k acc[k] (by simp[h1,hk1']);have:acc.toList[k]=acc[k]'(by simpa using hlt):=by simp
 rw[this,ht];exact⟨t,rfl⟩
section
variable {X:Cx}{T:Tb}
theorem nT {pins:List (Addr×Obj)}{σ:L2.St}{H:Hp}{s:Shared}{E:Value→Shared→Prop}{lo hi:Int}{t u v:Tok}{tk:Nat}{Q:VK}(hc:X.calm=true) (I:Inv X pins σ H s) (h1 : -(2 ^ 62)≤lo) (h2:lo<2 ^ 62) (h3 : -(2 ^ 62)≤hi) (h4:hi<2 ^ 62) (h5:hi - lo≤1000000)
  (q:∀ l,H l=none→Q (.ref l) (upd H l (.lst (eI lo 1 (hi - lo).toNat)))):wpAny (model X.prog X.w) X.A (call (.type "list") [.ref s.heap.objs.size]) (EP X pins σ Q) E { s with heap:=s.heap.push { cls:=.type "range",data:=.fields #[.int lo t,.int hi u,.int 1 v] },toks:=tk }:=by
 have I1:Inv X pins σ H { s with heap:=s.heap.push { cls:=.type "range",data:=.fields #[.int lo t,.int hi u,.int 1 v] },toks:=tk }:=I.kept fun b o e=>Heap.get?_push_of_some _ e
 refine call_list_range (n:=(hi - lo).toNat) (I1.ok.hd hc) (IsRange.new ..) (small_one h1 h2 h3 h4) (by rw[rangeSize_one];split<;>omega) (by omega) fun h' tk' acc' c' hk hS hacc=>?_
 have hv:=sX hacc;have h0:H (s.heap.push { cls:=.type "range",data:=.fields #[.int lo t,.int hi u,.int 1 v] }).objs.size=none:=I1.fresh;have I2:=I1.laid (a:=(s.heap.push { cls:=.type "range",data:=.fields #[.int lo t,.int hi u,.int 1 v] }).objs.size) (o:=.lst (eI lo 1 (hi - lo).toNat)) (t':=tk') (h':=h') hk (au _) ⟨by rw[jF];have:=sZ;have:lim=1000000:=rfl;omega,acc'.toList,c',hv,hS⟩;exact⟨.ref _,_,I2,rfl,q _ h0⟩
theorem t9 {es:List Expr}{cs:lT}{p q pos pos':Pos}(hc:X.calm=true) (hg:Gl X "list") (hm:X.mg "list" = none) (hg':Gl X "range") (hm':X.mg "range" = none) (ha:PA X es (uU X.K T cs)) (hs:∃ e r,es=e::r∧starEach es X.env=(false,eval e X.env)::starEach r X.env∧((backTo pos' (starEach r X.env)).any fun x=>x.1)=false) :
  PE X (.Call (.Name "list" p) [.Call (.Name "range" q) es [] pos'] [] pos) (tE X.K T (.blt .lrng cs)):=by
 intro pins s σ H Q I h;obtain⟨P,env,F,re,r,hev,k⟩:=h;unfold ev at hev;obtain⟨l,h1,hev⟩:=Rs.bind_ok hev;obtain⟨d,h2,hev⟩:=Rs.bind_ok hev;have h2:=dD h2;cases hev;obtain⟨e,rs,rfl,hs1,hs2⟩:=hs;refine Call_ (iX I hg hm boot_list (dr ?_ rfl rfl));show wpAny _ _ (spliced ((false,eval (.Call (.Name "range" q) (e::rs) [] pos') X.env) :: [])) _ _ s;refine Calls.spliced_cons ?_;refine Call_ (iX I hg' hm' boot_range (dr (dB (ha pos' pins s σ H (fun vs H'=>∃ G,Args X.K env F H H' l vs G) I ⟨P,env,F,re,l,h1,fun vs H' G ar=>⟨G,ar⟩⟩) fun us s1 ⟨vs,H1,I1,r1,G,ar⟩=>?_) hs1 hs2));have rps:aI X.K H1 (l.map (·.1)) vs G:=ar.reps;generalize hl:l.map (·.1)=ds at h2 rps
 match ds,h2 with
 |[.int n],h2 =>
  simp only[lF,tD] at h2;by_cases hk:fJ n=true∧n≤1000000
  ·rw[if_pos hk] at h2;cases h2;obtain⟨x,rfl,rp⟩:=rps.of1;obtain⟨rfl,rfl⟩:=rp.int_inv;obtain⟨u,rfl,t,rfl⟩:=r1.one;unfold fJ at hk;simp only[decide_eq_true_eq] at hk;refine call_range_1 (Calls.spliced_nil (nT hc I1 (by omega) (by omega) hk.1.1 hk.1.2 (by omega) fun a h0=>?_));obtain⟨n1,n2⟩:=jj (G0:=[]) (iH (K:=X.K) (H:=H1) 1 (n - 0).toNat 0) (fun z hz=>hz) h0;rw[Int.sub_zero] at n1 n2 ⊢;exact k _ _ _ (ar.same.trans n2.same) n1 (bY.new ar n2 fun _ z=>z)
  ·rw[if_neg hk] at h2;cases h2
 |[.int a,.int b],h2 =>
  simp only[lF,tD] at h2;by_cases hk:fJ a=true∧fJ b=true∧b - a≤1000000
  ·rw[if_pos hk] at h2;cases h2;cases rps with
   |cons ra rps =>
    obtain⟨rfl,rfl⟩:=ra.int_inv;obtain⟨x,rfl,rp⟩:=rps.of1;obtain⟨rfl,rfl⟩:=rp.int_inv;obtain⟨u,w,rfl,⟨t,rfl⟩,⟨t',rfl⟩⟩:=r1.two;unfold fJ at hk;simp only[decide_eq_true_eq] at hk;refine call_range_2 (Calls.spliced_nil (nT hc I1 hk.1.1 hk.1.2 hk.2.1.1 hk.2.1.2 hk.2.2 fun c h0=>?_));obtain⟨n1,n2⟩:=jj (G0:=[]) (iH (K:=X.K) (H:=H1) 1 (b - a).toNat a) (fun z hz=>hz) h0;exact k _ _ _ (ar.same.trans n2.same) n1 (bY.new ar n2 fun _ z=>z)
  ·rw[if_neg hk] at h2;cases h2
end
end Pc
end
section
namespace Pc
open PySem PySem.Spec PyProof.Rows L2
section
variable {prog:Program}{w:World}{A:Around}{R:Result→Shared→Prop}{it:Addr}{fp wr:List Addr}{n:Nat}{P:Nat→Value→Prop}{Sta:Nat→Heap→Prop}{dv:Value}{bx:Addr}
end
section
variable {X:Cx}{T:Tb}
end
end Pc
end
section
namespace Pc
open PySem PySem.Spec PyProof.Rows L2
section
variable {X:Cx}
theorem oN {K:Frag}{H:Hp}:∀{xs:List D}{k:List Int}{vs:List V}{G:List Addr},nJ xs=some k→aI K H xs vs G→vs=k.map V.int
 |[],k,vs,G,h,r=>by cases h;cases r;rfl
 | .int i::xs,k,vs,G,h,r=>by
  have h:(nJ xs).map (i :: ·)=some k:=h;rw[ae] at h;obtain⟨k',h1,rfl⟩:=h;cases r with
  |cons r1 r2 =>
   obtain⟨rfl,_⟩:=r1.int_inv;rw[oN h1 r2];rfl
 |.non::_,_,_,_,h,_=>by cases h
 |.bl _::_,_,_,_,h,_=>by cases h
 |.lst _::_,_,_,_,h,_=>by cases h
 |.tup _::_,_,_,_,h,_=>by cases h
theorem sJ (hc:X.calm=true):gQ X (.type "list") (qY X.K .list):=by
 intro pins s σ H xs us Q I r h;obtain⟨ds,d,G,rs,hd,k⟩:=h;exact qU I r rs hd k
end
end Pc
end
section
namespace Pc
open PySem PySem.Spec PyProof.Rows L2
theorem dX.live' {P:Program}{w:World}{H:Hp}{h:Heap}{a:Addr}{o:HO}(x:dX P w H h a o):∃ ob,h.get? a=some ob:=by
 cases o with
 |lst xs=>obtain⟨_,_,_,_,e⟩:=x;exact⟨_,e⟩
 |tup xs=>obtain⟨_,_,_,ob,e,_⟩:=x;exact⟨_,e⟩
 |dK kvs=>obtain⟨_,_,_,_,o,_,_,e,_⟩:=x;exact⟨_,e⟩
 |dT kvs=>obtain⟨_,_,_,_,o,_,_,e,_⟩:=x;exact⟨_,e⟩
 |set S n=>obtain⟨o,_,_,_,e,_⟩:=x;exact⟨_,e⟩
 |ins C dx fs=>obtain⟨_,_,_,e,_⟩:=x;exact⟨_,e⟩
 |own y=>obtain⟨_,e⟩:=x;exact⟨_,e⟩
 |xd fs=>obtain⟨_,⟨_,_,_,e,_⟩,_⟩:=x;exact⟨_,e⟩
 |rng lo hi=>obtain⟨_,_,_,e⟩:=x;exact⟨_,e⟩
 |frz ob u=>obtain⟨e,_⟩:=x;exact⟨_,e⟩
 |tbl ps=>exact⟨_,(show h.get? a=some _ from x)⟩
 |met f y=>exact⟨_,(show h.get? a=some _ from x)⟩
 |ext φ=>obtain⟨_,⟨_,e⟩,_⟩:=x;exact⟨_,e⟩
theorem yy {X:Cx}{pins:List (Addr×Obj)}{σ:L2.St}{H:Hp}{s:Shared}{h':Heap}{m:Str→Option Value}{B:Addr}{o:HO}{t':Nat}(I:Inv X pins σ H s) (hn:s.heap.Ns X.env.locals m) (hn':h'.Ns X.env.locals m)
  (k:∀ b o,b≠X.env.locals→s.heap.get? b=some o→h'.get? b=some o) (hB:∀ b o,s.heap.get? b=some o→b≠B) (new:dX X.prog X.w (upd H B o) h' B o):Inv X pins σ (upd H B o) { s with heap:=h',toks:=t' }:=by
 have hnB:H B=none:=by
  cases e:H B with
  |none=>rfl
  |some u =>
   obtain⟨ob,q⟩:=dX.live' (I.hok B u e);exact absurd rfl (hB B ob q)
 have nL:∀ b u,H b=some u→b≠X.env.locals:=fun b u e z=>by rw[z,I.free] at e;cases e
 refine I.step (g':=s.gens) (d':=s.drawn) (ch:=[]) (fun b hb=>nomatch hb) (fun b o' hL _ _ e _=>k b o' hL e) (fun b o' hL _ _ e _=>⟨o'.slots,k b o' hL e⟩) (fun b o' _ e n=>by rw[aS (hB b o' e)];exact n) (fun b o' _ e=>?_)
  (fun b xs e=>by rw[aS (bX e hnB)];exact e) (fun b ob u e=>by rw[aS (bX e hnB)];exact e) (fun b ps e=>⟨#[],by rw[aS (bX e hnB),e];simp⟩) (fun m' hm=>?_) (fun b u e=>?_) I.bare
 ·by_cases hL:b=X.env.locals
  ·subst hL;obtain⟨o2,_,_,q,_⟩:=hn';exact⟨o2,q⟩
  ·exact⟨o',k b o' hL e⟩
 ·obtain⟨o1,es,ep,e1,e2,e3,e4⟩:=hn;obtain⟨o2,es',ep',f1,f2,f3,f4⟩:=hm;rw[e1] at f1;cases f1;rw[e2] at f2;cases f2;have:m'=m:=funext fun x=>by rw[←f4 x,e4 x]
  rw[this];exact hn'
 ·by_cases hb:b=B
  ·subst hb;rw[bN] at e;cases e;exact new
  ·rw[aS hb] at e;refine (I.hok b u e).stay (fun c v hc q=>k c v ?_ q) (fun c q=>?_) fun c xs q=>?_
   ·rcases hc with z | z
    ·rw[z];exact nL b u e
    ·exact nL c _ z
   ·rw[aS (bX q hnB)];exact q
   ·rw[aS (bX q hnB)];exact q
section
variable {prog:Program}{w:World}{A:Around}
end
section
variable {X:Cx}{pins:List (Addr×Obj)}{σ:L2.St}{H:Hp}{s:Shared}
end
theorem insI_perm (a:Int):∀ l:List Int,(insI a l).Perm (a::l)
 |[]=>.refl _
 | b::l=>by
  unfold insI;split
  ·exact .refl _
  ·exact ((insI_perm a l).cons b).trans (.swap a b l)
theorem kX:∀ l:List Int,(eQ l).Perm l
 |[]=>.refl _
 |a::l=>(insI_perm a _).trans ((kX l).cons a)
theorem rg (a:Int):∀{l:List Int},l.Pairwise (·≤·)→(insI a l).Pairwise (·≤·)
 |[],_=>List.pairwise_singleton _ _
 | b::l,h=>by
  have h':=List.pairwise_cons.mp h;unfold insI;split
  ·rename_i e;refine List.pairwise_cons.mpr ⟨fun x hx=>?_,h⟩;rcases et.mp hx with rfl | hx
   ·exact e
   ·exact Int.le_trans e (h'.1 x hx)
  ·rename_i e;refine List.pairwise_cons.mpr ⟨fun x hx=>?_,rg a h'.2⟩;rcases et.mp ((insI_perm a l).mem_iff.mp hx) with rfl | hx
   ·omega
   ·exact h'.1 x hx
theorem mR:∀ l:List Int,(eQ l).Pairwise (·≤·)
 |[]=>.nil
 |a::l=>rg a (mR l)
theorem gZ:∀{ns:List Int}{us:List Value},aQ (ns.map V.int) us→IntsAre us ns
 |[],us,h=>by cases h;exact .nil
 | n::ns,us,h=>by
  cases h with
  |cons a b =>
   obtain⟨t,rfl⟩:=a;exact .cons _ t (gZ b)
theorem pd:∀{ns:List Int}{us:List Value},IntsAre us ns→aQ (ns.map V.int) us
 |[],us,h=>by cases h;exact .nil
 | n::ns,us,h=>by
  cases h with
  |cons _ t b=>exact .cons ⟨t,rfl⟩ (pd b)
section
variable {X:Cx}
theorem sf (hc:X.calm=true) (hu:X.A.units+40<cLine):gQ X (.builtin "min") (qY X.K .min2):=by
 intro pins s σ H xs us Q I r h;obtain⟨ds,d,G,rs,hd,k⟩:=h
 match ds,hd with
 |[.int i,.int j],hd =>
  cases hd;obtain⟨x,y,G1,G2,rfl,rp,rp'⟩:=rs.of2;obtain⟨rfl,rfl⟩:=rp.int_inv;obtain⟨rfl,rfl⟩:=rp'.int_inv;exact vH hc pins s σ H _ us Q I r ⟨i,j,rfl,k _ H [] (.int _) kD.nil⟩
theorem qe:gQ X (.builtin "sorted") (qY X.K .sorted):=by
 intro pins s σ H xs us Q I r h;obtain⟨ds,d,G,rs,hd,k⟩:=h
 match ds,hd with
 |[.lst ys],hd =>
  have hd:(match nJ ys with
   |some ns=>if ns.length<64 then some (D.lst ((eQ ns).map .int)) else none
   |none=>none)=some d:=hd
  cases hki:nJ ys with
  |some ns =>
   rw[hki] at hd;by_cases h64:ns.length<64
   ·simp only[if_pos h64] at hd;cases hd;obtain⟨x,rfl,rp⟩:=rs.of1;obtain⟨l,vs,g,rfl,rfl,a1,a2⟩:=rp.lst_inv;obtain⟨u,rfl,rx⟩:=r.one;obtain rfl:u = .ref l:=rx;obtain⟨its,rv,pl,_⟩:=I.list (.inl a1);obtain rfl:=oN hki a2;obtain⟨m,hn,_⟩:=id I.loc;have F:=zW.DV hn;have N:News (zW.pR s.heap) X.env.locals s.heap (zW.ledger s.heap X.env.locals X.env.locals):=fun ⟨a,o⟩ hp=>by
     obtain⟨n1,_,e⟩:=zW.jB.mp hp;exact⟨e,n1,zW.mK _ _⟩
    refine PySem.W.kso_sorted F N pl.isList (gZ rv) h64 fun B vs' ns' c h' F' N' l1 hi' len perm asc _=>?_
    obtain rfl:ns'=eQ ns:=PySem.W.lks_uniq (perm.trans (kX ns).symm) asc (mR ns);have hB:∀ b o,s.heap.get? b=some o→b≠B:=fun b o e z=>by
     by_cases hb:b=X.env.locals
     ·exact (N' _ (ag ..)).2.1 (z.symm.trans hb)
     ·exact absurd z (bt (l1 _ (zW.jB.mpr ⟨hb,hb,e⟩)))
    have hI:=yy (t':=s.toks) (o:=.lst ((eQ ns).map V.int)) I hn F'.ns (fun b o hb e=>N'.get (aa _ (zW.jB.mpr ⟨hb,hb,e⟩))) hB ⟨by rw[aj,len,sizeLine_eq];omega,_,c,pd hi',N'.get (ag ..)⟩;refine⟨.ref B,_,hI,rfl,?_⟩;have hnB:H B=none:=by
     cases e:H B with
     |none=>rfl
     |some u =>
      obtain⟨ob,q⟩:=dX.live' (I.hok B u e);exact absurd rfl (hB B ob q)
    obtain⟨n1,n2⟩:=jj (G0:=l::g) (oj (K:=X.K) (H:=H) (eQ ns)) (fun a ha=>nomatch ha) hnB;exact k _ _ _ n1 n2
   ·simp only[if_neg h64] at hd;cases hd
  |none=>rw[hki] at hd;cases hd
end
end Pc
end
section
namespace Pc
open PySem PySem.Spec PyProof.Rows L2
structure Sc where
 N:List Str
 sc:Scope
 fns:List Str
 wM:List Str
 eU:List Str
noncomputable def idxOf:List Str→Str→Option Nat
 |[],_=>none
 |y::r,x=>if y=x then some 0 else (idxOf r x).map (· + 1)
theorem bZ:∀{l:List Str}{x:Str}{i:Nat},idxOf l x=some i→l[i]? = some x
 | y::r,x,i,h=>by
  simp only[idxOf] at h;by_cases e:y=x
  ·rw[if_pos e] at h;cases h;rw[e];rfl
  ·rw[if_neg e,ae] at h;obtain⟨j,hj,rfl⟩:=h;simpa using bZ hj
noncomputable def dW (sc:Scope) (x:Str):Option NameKind:=sc.names.lookup x
noncomputable def nN (sc:Scope) (x:Str):Bool:=match dW sc x with
 |some .local=>true
 |some .cell=>true
 |some .free=>true
 |_=>false
noncomputable def kH (sc:Scope) (x:Str):Bool:=match dW sc x with
 |some .local=>true
 |some .cell=>true
 |_=>false
noncomputable def r6 (sc:Scope) (x:Str):Bool:=match dW sc x with
 |some .globalImplicit=>true
 |_=>false
noncomputable def dZ (x:Str):Bool:=!(x==("__debug__" : Str)) && !(x==("__classdict__" : Str)) && !(x==("__name__" : Str))
noncomputable def notStar:Expr→Bool
 |.Starred _ _=>false
 |_=>true
noncomputable def iL:Expr→Bool
 |.Set _ _ _=>false
 |_=>true
noncomputable def iY:Expr→Bool
 |.Slice _ _ _ _=>false
 |_=>true
noncomputable def gJ:Expr→Bool
 |.ListComp _ _ _ _=>true
 |.SetComp _ _ _ _=>true
 |.DictComp _ _ _ _ _=>true
 |_=>false
noncomputable def dG (f:Expr→Option Ex):List Expr→Option lT
 |[]=>some .nil
 |e::es=>if notStar e then (f e).bind fun c=>(dG f es).map fun cs=>.cons c cs else none
noncomputable def Fx (f:Expr→Option Ex) (op:BoolOp):List Expr→Option Ex
 |[]=>none
 |[a]=>f a
 |a::r=>(f a).bind fun c=>(Fx f op r).map fun d=>match op with
  |.And=>.and c d
  |.Or=>.or c d
noncomputable def l7 (S:Sc):List Expr→Option (List Nat)
 |[]=>some []
 |.Name x _::r=>if kH S.sc x then (idxOf S.N x).bind fun i=>(l7 S r).map fun is=>i::is else none
 |_::_=>none
noncomputable def wJ (S:Sc):Expr→Option lG
 |.Name x _=>if kH S.sc x then (idxOf S.N x).map .nm else none
 |.Tuple es _ _=>(l7 S es).map .tp
 |_=>none
noncomputable def xt (f:Expr→Option Ex):Option Expr→Option nt
 |none=>some .none
 |some e=>(f e).map .some
noncomputable def lJ (S:Sc) (x:Str):Bool:=r6 S.sc x&&S.eU.contains x
noncomputable def isTup:Expr→Bool
 |.Tuple _ _ _=>true
 |_=>false
noncomputable def EV (S:Sc) (f:Expr→Option Ex) (tp:Bool):Expr→Option rT
 | .Call (.Name x p) es [] pos=>if x = "range" then (if lJ S "range" then (match dG f es with
   | some (.cons a .nil)=>some (.rng1 a)
   | some (.cons a (.cons b .nil))=>some (.rng2 a b)
   | some (.cons a (.cons b (.cons c .nil)))=>some (.rng3 a b c)
   |_=>none) else none) else if x = "enumerate" then (if lJ S "enumerate" && tp then (match es with
   |[e]=>if notStar e then (f e).map .enum else none
   |_=>none) else none) else if x = "reversed" then none else if x = "zip" then (if lJ S "zip" && tp then (match es with
   |[e,g]=>if notStar e&&notStar g then (f e).bind fun c=>(f g).map fun d=>.zip c d else none
   |_=>none) else none) else (f (.Call (.Name x p) es [] pos)).map .seq
 |e=>if iL e then (f e).map .seq else none
noncomputable def bL (sc:Scope):List Str:=(sc.names.filter fun p=>(p.2 == .local || p.2 == .cell)&&p.1 != (".0" : Str)).map (·.1)
noncomputable def bO (sc:Scope):List Str:=(sc.names.filter fun p=>p.2 == .free).map (·.1)
noncomputable def km:List (Option Nat)→Option (List Nat)
 |[]=>some []
 |some i::r=>(km r).map (i :: ·)
 |none::_=>none
noncomputable def kP (S:Sc) (sc:Scope):Bool :=
 sc.kind == .function&&sc.names.all (fun p=>p.2 != .cell || dW sc p.1==some .cell)&&sc.names.all (fun p=>p.2 != .local || dW sc p.1==some .local)&&sc.names.all (fun p=>p.2 != .free || (dW sc p.1==some .free&&(dW S.sc p.1==some .cell || dW S.sc p.1==some .free))) &&
 decide (bL sc++bO sc).Nodup
noncomputable def wt (own:Nat):lG→Bool
 |.nm i=>decide (i<own)
 |.tp is=>is.all fun i=>decide (i<own)
noncomputable def E2 (x:Str):Option AZ:=if x = "len" then some .len else if x = "all" then some .all else if x = "list" then some .list else if x = "min" then some .min2 else if x = "sorted" then some .sorted else none
noncomputable def CW (t:Str):Option String:=if t = "int" then some "int" else if t = "bool" then some "bool" else if t = "str" then some "str" else if t = "list" then some "list" else if t = "tuple" then some "tuple" else none
noncomputable def Fu (S:Sc) (f:Expr→Option Ex):List Expr→Option Ex
 |[a,.Name t _]=>if r6 S.sc t&&S.eU.contains t&&dZ t&&notStar a then (CW t).bind fun u=>(f a).map fun ca=>.blt (.isi u) (.cons ca .nil) else none
 |_=>none
noncomputable def pb:List Expr→Bool
 | [.Call (.Name r _) [_] [] _]=>r==("reversed" : Str)
 |_=>false
noncomputable def Fb (S:Sc) (f:Expr→Option Ex):List Expr→Option Ex
 |_=>none
noncomputable def oF:List Expr→Bool
 | [.Call (.Name r _) _ [] _]=>r==("range" : Str)
 |_=>false
noncomputable def BP (S:Sc) (f:Expr→Option Ex):List Expr→Option Ex
 | [.Call (.Name r _) es [] _]=>if r = "range" then (if lJ S "range" then (match es with
  |[a]=>(dG f [a]).map fun cs=>.blt .lrng cs
  |[a,b]=>(dG f [a,b]).map fun cs=>.blt .lrng cs
  |_=>none) else none) else none
 |_=>none
noncomputable def ue (S:Sc) (f:Expr→Option Ex) (x:Str) (es:List Expr):Option Ex :=
 if dZ x&&r6 S.sc x then (match idxOf S.fns x with
  |some i=>(dG f es).map fun cs=>.call i cs
  |none=>if S.eU.contains x then (if x = "isinstance" then Fu S f es else if x = "list"∧pb es=true then Fb S f es else if x = "list"∧oF es=true then BP S f es else match es with
    |[]=>none
    |e::r=>(E2 x).bind fun b=>(dG f (e::r)).map fun cs=>.blt b cs) else none) else none
noncomputable def xj (S:Sc) (f:Expr→Option Ex) (x:Str) (a d:Expr) (k:Str):Option Ex :=
 none
noncomputable def D6 (f:Expr→Option Ex) (o:Expr) (name:Str) (es:List Expr) (apos cpos:Pos):Option Ex:=none
noncomputable def Fg (f:Expr→Option Ex):List Expr→Option nt
 |[]=>some .none
 |[c]=>(f c).map .some
 |_=>none
noncomputable def rJ (S:Sc) (f:Sc→Expr→Option Ex) (elt tg iter:Expr) (ifs:List Expr) (sc:Scope):Option Ex :=
 if kP S sc&&iL iter then
  (EV S (f S) (isTup tg) iter).bind fun it=>(km ((bO sc).map (idxOf S.N))).bind fun pick =>
   (wJ { S with N:=bL sc++bO sc,sc:=sc } tg).bind fun t=>if wt (bL sc).length t then
    (Fg (f { S with N:=bL sc++bO sc,sc:=sc }) ifs).bind fun c=>(f { S with N:=bL sc++bO sc,sc:=sc } elt).map fun ce=>.comp (bL sc).length pick t it c ce
   else none
 else none
noncomputable def xn (S:Sc) (x:Str):Option Ex:=if dZ x then (if nN S.sc x then (idxOf S.N x).map .var else if r6 S.sc x then (idxOf S.wM x).map .glb else none) else none
noncomputable def Gb:Const→Option Ex
 |.int i=>some (.cst (.int i))
 |.bool b=>some (.cst (.bl b))
 |.none=>some (.cst .non)
 |_=>none
noncomputable def cUn (op:UnaryOp) (o:Option Ex):Option Ex:=match op with
 |.USub=>o.map .neg
 |.Not=>o.map .not
 |_=>none
noncomputable def zc (f:Expr→Option Ex) (a:Expr) (op:CmpOp) (b:Expr):Option Ex:=if behindInMarks op b then none else (f a).bind fun ca=>(f b).map fun cb=>.cmp op ca cb
noncomputable def Cs (f:Expr→Option Ex) (a:Expr) (op op':CmpOp) (b c:Expr):Option Ex:=none
noncomputable def E7 (f:Expr→Option Ex) (a:Expr):List CmpOp→List Expr→Option Ex
 |[],_=>none
 |[op],bs=>(match bs with
  |[]=>none
  |[b]=>zc f a op b
  |_::_::_=>none)
 |op::op'::ops,bs=>(match ops with
  |[]=>(match bs with
   |[]=>none
   |[_]=>none
   |b::c::r=>(match r with
    |[]=>Cs f a op op' b c
    |_::_=>none))
  |_::_=>none)
noncomputable def Ce (f:Expr→Option Ex) (a b:Expr):Option Ex:=match b with
 |.Slice lo hi st _=>(match st with
  |none=>(f a).bind fun ca=>(xt f lo).bind fun l=>(xt f hi).map fun h=>.sl ca l h
  |some _=>none)
 |b=>if iY b then (f a).bind fun ca=>(f b).map fun cb=>.ix ca cb else none
noncomputable def y8 (S:Sc) (f:Expr→Option Ex) (x:Str) (es:List Expr):List Keyword→Option Ex
 |[]=>ue S f x es
 |[⟨k,d,_⟩]=>(match k with
  |none=>none
  |some k=>(match es with
   |[]=>none
   |[a]=>xj S f x a d k
   |_::_::_=>none))
 |_::_::_=>none
noncomputable def wY (S:Sc) (f:Expr→Option Ex) (g:Expr) (es:List Expr) (ks:List Keyword) (cpos:Pos):Option Ex:=match g with
 |.Name x _=>y8 S f x es ks
 |.Attribute o name apos=>(match ks with
  |[]=>D6 f o name es apos cpos
  |_::_=>none)
 |_=>none
noncomputable def cLC (S:Sc) (f:Sc→Expr→Option Ex) (elt:Expr) (sc:Scope):List Comprehension→Option Ex
 |[]=>none
 |[⟨tg,iter,ifs,as⟩]=>if as=0 then rJ S f elt tg iter ifs sc else none
 |_::_::_=>none
noncomputable def GF:List (Option Expr)→List Expr→Option Ex:=fun _ _=>none
noncomputable def cE:Nat→Sc→Expr→Option Ex
 |0,_,_=>none
 |n+1,S,e=>match e with
  |.Name x _=>xn S x
  |.Constant c _ _=>Gb c
  |.BinOp a op b _=>(cE n S a).bind fun ca=>(cE n S b).map fun cb=>.bin op ca cb
  |.UnaryOp op a _=>cUn op (cE n S a)
  |.BoolOp op es _=>Fx (cE n S) op es
  |.Compare a ops bs _=>E7 (cE n S) a ops bs
  |.IfExp c a b _=>(cE n S c).bind fun cc=>(cE n S a).bind fun ca=>(cE n S b).map fun cb=>.ite cc ca cb
  |.List es _=>(dG (cE n S) es).map .lst
  |.Tuple es _ _=>(dG (cE n S) es).map .tup
  |.Subscript a b _=>Ce (cE n S) a b
  |.Call g es ks pos=>wY S (cE n S) g es ks pos
  |.ListComp elt gens sc _=>cLC S (cE n) elt sc gens
  |.Dict ks vs _=>GF ks vs
  |_=>none
end Pc
end
section
namespace Pc
open PySem PySem.Spec PyProof.Rows L2
structure Ctx (X:Cx) (S:Sc) (T:Tb):Prop where
 N:X.N=S.N
 nd:S.N.Nodup
 vis:∀ x,nN S.sc x=true→B8 X.env.scope x
 loc:∀ x,kH S.sc x=true→Loc X.env.scope x∧(X.fn x=true∨X.env.scope.names.lookup x=some .local)
 gl:∀ x,r6 S.sc x=true→Gl X x
 cel:∀ x,(dW S.sc x=some .cell∨dW S.sc x=some .free)→(X.env.kindOf x=some .cell∨X.env.kindOf x=some .free)
 units:X.A.units+40<cLine∧wO X.w X.K
 calm:X.calm=true
 fns:∀ i x,idxOf S.fns x=some i→∃ f fd ps k,kT X.prog X.w X.K X.mg X.base wN k f fd ps (Bq X.K ps.length (T.cl i))∧fR k X.A∧X.mg x=some (.ref f)∧PySem.W.keepIn X.K (.ref f)=true∧Binds X.K fd ps []∧∀ ds r,T.cl i ds = .ok r→ds.length=ps.length
 wM:∀ i x,idxOf S.wM x=some i→∃ v u,X.mg x=some u∧RelV v u∧∀ H,Rep X.K H (T.gl i) v []
 eU:∀ x,S.eU.contains x=true→X.mg x=none
theorem be {e:Expr}{es:List Expr}{env:Env}(h:notStar e=true):starEach (e::es) env=(false,eval e env)::starEach es env:=by
 cases e<;>first | rfl | (cases h)
theorem r9 {e:Expr}{env:Env}(h:iL e=true) (x:Value):foldedSetIterable e env x=pure x:=by
 cases e<;>first | rfl | (cases h)
theorem qL {e:Expr}(h:iY e=true):lN e:=by
 intro o i;cases e<;>first | rfl | (cases h)
theorem bH {f:Expr→Option Ex}{e:Expr}{es:List Expr}{cs:lT}(h:dG f (e::es)=some cs):notStar e=true∧∃ c d,f e=some c∧dG f es=some d∧cs = .cons c d:=by
 unfold dG at h;by_cases hs:notStar e=true
 ·rw[if_pos hs] at h;rw[ah] at h;obtain⟨c,h1,h2⟩:=h;rw[ae] at h2;obtain⟨d,h2,rfl⟩:=h2;exact⟨hs,c,d,h1,h2,rfl⟩
 ·rw[if_neg hs] at h;cases h
theorem dY {f:Expr→Option Ex}{env:Env}{pos:Pos}:∀{es:List Expr}{cs:lT},dG f es=some cs→(backTo pos (starEach es env)).any (·.1)=false
 |[],cs,_=>rfl
 | e::es,cs,h=>by
  obtain⟨hs,c,d,_,h2,_⟩:=bH h;rw[be hs];show (false || (backTo pos (starEach es env)).any (·.1))=false;rw[dY h2];rfl
theorem dO {x:Str}(h:dZ x=true):(x==("__debug__" : Str))=false∧(x==("__classdict__" : Str))=false∧x≠"__name__":=by
 unfold dZ at h;rw[ai,ai] at h;obtain⟨⟨h1,h2⟩,h3⟩:=h;refine⟨by simpa using h1,by simpa using h2,fun e=>?_⟩;subst e;simp at h3
theorem Dr {X:Cx}{T:Tb}{c a b:Expr}{cc ca cb:Ex}{pos:Pos}(hc:PT X c (pe X.K T cc)) (ha:PT X a (pe X.K T ca)) (hb:PT X b (pe X.K T cb)):PT X (.IfExp c a b pos) (pe X.K T (.ite cc ca cb)):=by
 intro pins s σ H Q I h;obtain⟨P,env,F,re,p,bb,hev,ht,k⟩:=h;unfold ev at hev;obtain⟨q,h1,hev⟩:=Rs.bind_ok hev;obtain⟨kb,h2,hev⟩:=Rs.bind_ok hev;refine isTrue_IfExp (dB (hc pins s σ H (fun d H'=>d=kb∧aN H H') I ⟨P,env,F,re,q,kb,h1,dD h2,fun H' s=>⟨rfl,s⟩⟩) fun d s1 ⟨H1,I1,e,s⟩=>?_);subst e;cases d with
 |true=>exact ha pins s1 σ H1 Q I1 ⟨P,env,F,re.same s,p,bb,hev,ht,fun H' s'=>k H' (s.trans s')⟩
 |false=>exact hb pins s1 σ H1 Q I1 ⟨P,env,F,re.same s,p,bb,hev,ht,fun H' s'=>k H' (s.trans s')⟩
theorem xE {T:Tb}{a:Ex}{env:En}{p} (hev:fQ T (.rng1 a) env = .ok p):p.2=[]∧∃ l,bK T (.cons a .nil) env = .ok l∧((∃ j,l.map (·.1)=[.int j]∧fJ j=true∧p.1=bC 0 1 j.toNat)∨(∃ i j,l.map (·.1)=[.int i,.int j]∧fJ i=true∧fJ j=true∧p.1=bC i 1 (j - i).toNat) ∨
   ∃ i j k,l.map (·.1)=[.int i,.int j,.int k]∧fJ i=true∧fJ j=true∧k≠0∧k.natAbs<1073741824∧p.1=bC i k (Builtin.Range.rangeSize i j k).toNat):=by
 unfold fQ at hev;obtain⟨q,h1,hev⟩:=Rs.bind_ok hev;split at hev
 ·rename_i j hj;split at hev
  ·rename_i ho;cases hev;exact⟨rfl,[q],by unfold bK;rw[h1];unfold bK;rfl,.inl ⟨j,by simp[hj],ho,rfl⟩⟩
  ·cases hev
 ·cases hev
theorem yn {T:Tb}{a b:Ex}{env:En}{p} (hev:fQ T (.rng2 a b) env = .ok p):p.2=[]∧∃ l,bK T (.cons a (.cons b .nil)) env = .ok l∧((∃ j,l.map (·.1)=[.int j]∧fJ j=true∧p.1=bC 0 1 j.toNat)∨(∃ i j,l.map (·.1)=[.int i,.int j]∧fJ i=true∧fJ j=true∧p.1=bC i 1 (j - i).toNat) ∨
   ∃ i j k,l.map (·.1)=[.int i,.int j,.int k]∧fJ i=true∧fJ j=true∧k≠0∧k.natAbs<1073741824∧p.1=bC i k (Builtin.Range.rangeSize i j k).toNat):=by
 unfold fQ at hev;obtain⟨q,h1,hev⟩:=Rs.bind_ok hev;obtain⟨r,h2,hev⟩:=Rs.bind_ok hev;split at hev
 ·rename_i i j hi hj;split at hev
  ·rename_i ho;cases hev;rw[ai] at ho;exact⟨rfl,[q,r],by unfold bK;rw[h1];unfold bK;rw[h2];unfold bK;rfl,.inr (.inl ⟨i,j,by simp[hi,hj],ho.1,ho.2,rfl⟩)⟩
  ·cases hev
 ·cases hev
theorem zJ {T:Tb}{a b c:Ex}{env:En}{p} (hev:fQ T (.rng3 a b c) env = .ok p):p.2=[]∧∃ l,bK T (.cons a (.cons b (.cons c .nil))) env = .ok l∧((∃ j,l.map (·.1)=[.int j]∧fJ j=true∧p.1=bC 0 1 j.toNat)∨(∃ i j,l.map (·.1)=[.int i,.int j]∧fJ i=true∧fJ j=true∧p.1=bC i 1 (j - i).toNat) ∨
   ∃ i j k,l.map (·.1)=[.int i,.int j,.int k]∧fJ i=true∧fJ j=true∧k≠0∧k.natAbs<1073741824∧p.1=bC i k (Builtin.Range.rangeSize i j k).toNat):=by
 unfold fQ at hev;obtain⟨q,h1,hev⟩:=Rs.bind_ok hev;obtain⟨r,h2,hev⟩:=Rs.bind_ok hev;obtain⟨t,h3,hev⟩:=Rs.bind_ok hev;split at hev
 ·rename_i i j k hi hj hk;split at hev
  ·rename_i ho;cases hev;simp only[Bool.and_eq_true,bne_iff_ne,decide_eq_true_eq] at ho;exact⟨rfl,[q,r,t],by unfold bK;rw[h1];unfold bK;rw[h2];unfold bK;rw[h3];unfold bK;rfl,.inr (.inr ⟨i,j,k,by simp[hi,hj,hk],ho.1.1.1,ho.1.1.2,ho.1.2,ho.2,rfl⟩)⟩
  ·cases hev
 ·cases hev
noncomputable def SE (X:Cx) (T:Tb) (e:Expr) (c:Ex):Prop:=PE X e (tE X.K T c)∧PT X e (pe X.K T c)
section
variable {X:Cx}{S:Sc}{T:Tb}
theorem dH {f:Expr→Option Ex}(hf:∀ e c,f e=some c→SE X T e c):∀{es:List Expr}{cs:lT},dG f es=some cs→PA X es (uU X.K T cs)
 |[],cs,h=>by cases h;exact tX
 | e::es,cs,h=>by
  obtain⟨hs,c,d,h1,h2,rfl⟩:=bH h;exact lQ (hf e c h1).1 (dH hf h2) (be hs)
theorem Cm {f:Expr→Option Ex}{op:BoolOp}{pos:Pos}(hf:∀ e c,f e=some c→SE X T e c):∀{es:List Expr}{c:Ex},Fx f op es=some c→PE X (.BoolOp op es pos) (tE X.K T c)∧PW X (.BoolOp op es pos) (pe X.K T c)
 |[],c,h=>by cases h
 | [a],c,h=>by
  have h:f a=some c:=h;have ⟨h1,h2⟩:=hf a c h;refine⟨C6 h1,?_⟩;cases op with
  |And=>exact BO h2
  |Or=>exact C5 h2
 | a::b::r,c,h=>by
  unfold Fx at h;rw[ah] at h;obtain⟨ca,h1,h2⟩:=h;rw[ae] at h2;obtain⟨cb,h2,h3⟩:=h2;subst h3;have ⟨ia,ta⟩:=hf a ca h1;have ⟨ib,tb⟩:=Cm (pos:=pos) hf h2;cases op with
  |And=>exact⟨CH ia ib,CN ta tb⟩
  |Or=>exact⟨FH ia ib,GL ta tb⟩
theorem qZ (C:Ctx X S T):∀{es:List Expr}{is:List Nat},l7 S es=some is→Fc X es (iO is)∧(assignEach es X.env).length=is.length∧(assignEach es X.env).findIdx? (·.1)=none:=by
 intro es
 induction es with
 |nil=>intro is h;cases h;exact⟨AV,rfl,rfl⟩
 |cons e es ih =>
  intro is h;cases e with
  |Name x p =>
   unfold l7 at h;by_cases hl:kH S.sc x=true
   ·rw[if_pos hl,ah] at h;obtain⟨i,h1,h2⟩:=h;rw[ae] at h2;obtain⟨js,h2,rfl⟩:=h2;obtain⟨a,b,c⟩:=ih h2;have hN:=C.nd;rw[←C.N] at hN;have hi:=bZ h1;rw[←C.N] at hi;refine⟨yF (uq hN hi (C.loc x hl).1 (C.loc x hl).2) a,?_,?_⟩
    ·show (assignEach es X.env).length+1=js.length+1;rw[b]
    ·show List.findIdx? (·.1) ((false,_)::assignEach es X.env)=none;rw[List.findIdx?_cons];simp[c]
   ·rw[if_neg hl] at h;cases h
  |_=>cases h
theorem xH (C:Ctx X S T) {e:Expr}{t:lG}(h:wJ S e=some t):PG X e (tY X.K t):=by
 cases e with
 |Name x p =>
  unfold wJ at h;dsimp only at h;by_cases hl:kH S.sc x=true
  ·rw[if_pos hl,ae] at h;obtain⟨i,h1,rfl⟩:=h;have hN:=C.nd;rw[←C.N] at hN;have hi:=bZ h1;rw[←C.N] at hi;exact uq hN hi (C.loc x hl).1 (C.loc x hl).2
  ·rw[if_neg hl] at h;cases h
 |Tuple es a b =>
  unfold wJ at h;rw[ae] at h;obtain⟨is,h1,rfl⟩:=h;obtain⟨a,b,c⟩:=qZ C h1;exact zw C.calm a b c
 |_=>cases h
theorem B1 (C:Ctx X S T) {f:Expr→Option Ex}(hf:∀ e c,f e=some c→SE X T e c) {tg e:Expr}{it:rT}(h:EV S f (isTup tg) e=some it):PI X tg e (tI X.K T it):=by
 unfold EV at h;split at h
 ·rename_i x p es pos;by_cases hx:x = "range"
  ·subst hx;rw[if_pos rfl] at h;by_cases hg:lJ S "range" = true
   ·rw[if_pos hg] at h;have hg2:r6 S.sc "range" = true∧S.eU.contains "range" = true:=by
     unfold lJ at hg
     rwa [ai] at hg
    cases hc:dG f es with
    |none=>rw[hc] at h;cases h
    |some cs =>
     rw[hc] at h;cases es with
     |nil=>cases hc;cases h
     |cons e0 rest =>
      obtain⟨hs,c0,d0,_,hd,rfl⟩:=bH hc;refine D9 rfl (C.gl _ hg2.1) (C.eU _ hg2.2) (dH hf hc) (be hs) (dY hd) ?_;intro env p hev;cases d0 with
      |nil =>
       cases h;exact xE hev
      |cons c1 d1 =>
       cases d1 with
       |nil =>
        cases h;exact yn hev
       |cons c2 d2 =>
        cases d2 with
        |nil =>
         cases h;exact zJ hev
        |cons c3 d3=>cases h
   ·rw[if_neg hg] at h;cases h
  rw[if_neg hx] at h;by_cases hx:x = "enumerate"
  ·subst hx;rw[if_pos rfl] at h;by_cases hg:(lJ S "enumerate" && isTup tg)=true
   ·rw[if_pos hg] at h;rw[ai] at hg;have hg2:r6 S.sc "enumerate" = true∧S.eU.contains "enumerate" = true:=by
     have:=hg.1;unfold lJ at this
     rwa [ai] at this
    cases tg with
    |Tuple elts x1 tp =>
     split at h
     ·rename_i e0;by_cases hs:notStar e0=true
      ·rw[if_pos hs,ae] at h;obtain⟨c,h1,rfl⟩:=h;exact Az (C.gl _ hg2.1) (C.eU _ hg2.2) (lQ (hf _ _ h1).1 tX (be hs)) (be hs)
      ·rw[if_neg hs] at h;cases h
     ·cases h
    |_=>cases hg.2
   ·rw[if_neg hg] at h;cases h
  rw[if_neg hx] at h;by_cases hx:x = "reversed"
  ·subst hx;rw[if_pos rfl] at h;cases h
  rw[if_neg hx] at h;by_cases hx:x = "zip"
  ·subst hx;rw[if_pos rfl] at h;by_cases hg:(lJ S "zip" && isTup tg)=true
   ·rw[if_pos hg] at h;rw[ai] at hg;have hg2:r6 S.sc "zip" = true∧S.eU.contains "zip" = true:=by
     have:=hg.1;unfold lJ at this
     rwa [ai] at this
    cases tg with
    |Tuple elts x1 tp =>
     split at h
     ·rename_i e0 e1;by_cases hs:(notStar e0&&notStar e1)=true
      ·rw[if_pos hs,ah] at h;obtain⟨c,h1,h⟩:=h;rw[ae] at h;obtain⟨d,h2,rfl⟩:=h;rw[ai] at hs;exact C4 (C.gl _ hg2.1) (C.eU _ hg2.2) (lQ (hf _ _ h1).1 (lQ (hf _ _ h2).1 tX (be hs.2)) (be hs.1)) (be hs.1) (by rw[be hs.2];rfl)
      ·rw[if_neg hs] at h;cases h
     ·cases h
    |_=>cases hg.2
   ·rw[if_neg hg] at h;cases h
  ·rw[if_neg hx,ae] at h;obtain⟨c,h1,rfl⟩:=h;exact xu (hf _ _ h1).1
 ·by_cases hn:iL e=true
  ·rw[if_pos hn,ae] at h;obtain⟨c,h1,rfl⟩:=h;exact xu (hf _ _ h1).1
  ·rw[if_neg hn] at h;cases h
end
end Pc
end
section
namespace Pc
open PySem PySem.Spec PyProof.Rows L2
theorem iN {env:Env}:∀{names:List (Str×NameKind)}{x:Str}{k:NameKind},names.lookup x=some k→k≠.free →
  (names.map fun (n,k)=>if (k==NameKind.free&&env.scope.kind == .function&&env.kindOf n==some .cell) then (n,NameKind.cell) else (n,k)).lookup x=some k
 |[],_,_,h,_=>by simp at h
 | (n,k0)::r,x,k,h,hk=>by
  rw[ax];by_cases hc:(k0==NameKind.free&&env.scope.kind == .function&&env.kindOf n==some .cell)=true
  ·simp only[hc,if_true,List.lookup_cons] at h ⊢;cases hx:x==n with
   |true =>
    rw[hx] at h;cases h;rw[ai,ai] at hc;exact absurd (by simpa using hc.1.1) hk
   |false=>rw[hx] at h;exact iN h hk
  ·have hc:(k0==NameKind.free&&env.scope.kind == .function&&env.kindOf n==some .cell)=false:=by simpa using hc
   simp only[hc,Bool.false_eq_true,if_false,List.lookup_cons] at h ⊢;cases hx:x==n with
   |true=>rw[hx] at h;exact h
   |false=>rw[hx] at h;exact iN h hk
theorem k6:∀{l:List (Option Nat)}{p:List Nat},km l=some p→l=p.map some
 |[],p,h=>by cases h;rfl
 | some i::r,p,h=>by
  simp only[km,Option.map_eq_some_iff] at h;obtain⟨q,h1,rfl⟩:=h;rw[k6 h1];rfl
 |none::r,p,h=>by cases h
theorem m7 {S:Sc}{sc:Scope}(h:kP S sc=true):sc.kind = .function∧(∀ y∈sc.names,y.2 = .cell→sc.names.lookup y.1=some .cell)∧(∀ y∈sc.names,y.2 = .local→sc.names.lookup y.1=some .local) ∧
  (∀ y∈sc.names,y.2 = .free→sc.names.lookup y.1=some .free∧(dW S.sc y.1=some .cell∨dW S.sc y.1=some .free))∧(bL sc++bO sc).Nodup:=by
 unfold kP at h;simp only[Bool.and_eq_true,List.all_eq_true,Bool.or_eq_true,beq_iff_eq,bne_iff_ne,decide_eq_true_eq,dW] at h;obtain⟨⟨⟨⟨h1,h2⟩,h3⟩,h4⟩,h5⟩:=h;refine⟨h1,fun y hy e=>?_,fun y hy e=>?_,fun y hy e=>?_,h5⟩
 ·rcases h2 y hy with h | h
  ·exact absurd e h
  ·exact h
 ·rcases h3 y hy with h | h
  ·exact absurd e h
  ·exact h
 ·rcases h4 y hy with h | h
  ·exact absurd e h
  ·exact h
section
variable {X:Cx}{S:Sc}{T:Tb}{sc:Scope}{pick:List Nat}
theorem sU (C:Ctx X S T) (h:kP S sc=true) (hp:km ((bO sc).map (idxOf S.N))=some pick):eR X sc (bL sc++bO sc) (eS (bL sc).length pick):=by
 obtain⟨h1,h2,h3,h4,h5⟩:=m7 h;have hp:=k6 hp;have hlen:(bO sc).length=pick.length:=by simpa using congrArg List.length hp
 refine⟨h1,h2,h3,by simp[eS,hlen],fun x hx=>C.cel x (h4 _ (PySem.mem_of_lookup hx) rfl).2,fun x hx=>(h4 _ hx rfl).1,fun i j x hi hx=>?_⟩;unfold eS at hi;by_cases hlt:i<(bL sc).length
 ·rw[List.getElem?_append_left (by simpa using hlt),List.getElem?_replicate] at hi;split at hi<;>cases hi
 ·have hle:=gm hlt;rw[List.getElem?_append_right (by simpa using hle),List.length_replicate,←hp,List.getElem?_map] at hi;rw[List.getElem?_append_right hle] at hx;rw[hx] at hi;simp only[Option.map_some,Option.some.injEq] at hi;have hm:=List.mem_of_getElem? hx;unfold bO at hm;rw[List.mem_map] at hm;obtain⟨p,hp1,rfl⟩:=hm;rw[gu] at hp1;have hf:p.2 = .free:=by simpa using hp1.2
  refine⟨(h4 p hp1.1 hf).1,?_⟩;rw[C.N];exact bZ hi
theorem wB (C:Ctx X S T) (h:kP S sc=true) (Ca:Addr) (s0:Shared) (H0:Hp) (ex:List Addr):Ctx (inner X sc (bL sc++bO sc) Ca s0 H0 ex) { S with N:=bL sc++bO sc,sc:=sc } T:=by
 obtain⟨h1,h2,h3,h4,h5⟩:=m7 h;have keep:∀ x k,sc.names.lookup x=some k→k≠.free→(relabel sc X.env).names.lookup x=some k:=fun x k e hk=>iN e hk
 refine⟨rfl,h5,fun x hx=>?_,fun x hx=>?_,fun x hx=>?_,fun x hx=>?_,C.units,C.calm,C.fns,C.wM,C.eU⟩
 ·unfold nN dW at hx;dsimp only at hx;split at hx
  ·rename_i e;exact .inl (keep _ _ e (by simp))
  ·rename_i e;exact .inr (.inl (keep _ _ e (by simp)))
  ·rename_i e;exact .inr (fE e)
  ·cases hx
 ·unfold kH dW at hx;dsimp only at hx;split at hx
  ·rename_i e;exact⟨.inl (keep _ _ e (by simp)),.inr (keep _ _ e (by simp))⟩
  ·rename_i e;exact⟨.inr (keep _ _ e (by simp)),.inl (by show (sc.names.lookup x==some NameKind.cell)=true;rw[e];rfl)⟩
  ·cases hx
 ·unfold r6 dW at hx;dsimp only at hx;split at hx
  ·rename_i e;exact keep _ _ e (by simp)
  ·cases hx
 ·unfold dW at hx;rcases hx with hx | hx
  ·exact .inl (keep _ _ hx (by simp))
  ·exact fE hx
end
end Pc
end
section
namespace Pc
open PySem PySem.Spec PyProof.Rows L2
theorem wW (n d:Nat) (o:Option Int):cF n d o=HT.cF n d o:=by cases o<;>rfl
theorem z9 (n d:Nat) (hd:d≤n) (o:Option Int):cF n d o≤n∨∃ i,o=some i∧i<0∧(n:Int)<i+n:=by
 cases o with
 |none=>exact .inl hd
 |some i =>
  left;simp only[cF];split<;>omega
theorem pW {n d:Nat}(hd:d≤n) (o:Option Int):cF n d o≤n:=by
 rcases z9 n d hd o with h | ⟨i,_,h1,h2⟩
 ·exact h
 ·omega
theorem EK (lo hi:Option Int) (n:Nat):Builtin.Str.strSliceIndices lo hi 1 n=(List.range (cF n n hi - cF n 0 lo)).map (cF n 0 lo + ·):=by
 unfold Builtin.Str.strSliceIndices;have h1:∀(o:Option Int) (d:Nat),d≤n→(match o with | none=>(d:Int) | some i=>if (1:Int) > 0 then max 0 (min (if i<0 then i+(n:Int) else i) n) else max (-1) (min (if i<0 then i+(n:Int) else i) (n - 1)))=((cF n d o:Nat):Int):=by
  intro o d hd;cases o with
  |none=>rfl
  |some i =>
   simp only[cF];rw[if_pos (by decide)];by_cases hi:i<0
   ·rw[if_pos hi,if_pos hi];omega
   ·rw[if_neg hi,if_neg hi];omega
 have e1:=h1 lo 0 (dm _);have e2:=h1 hi n (au _);dsimp only;rw[if_pos (by decide),if_pos (by decide)];refine Eq.trans ?_ (sliceRange_one (cF n 0 lo) (cF n n hi));have gen:∀ a b a' b':Int,a=a'→b=b'→sliceRange a b 1=sliceRange a' b' 1:=fun a b a' b' h h'=>by rw[h,h']
 exact gen _ _ _ _ e1 e2
theorem Ep {X:Cx}:Ck X (fun x lo hi H Q=>∃ z,x = .str z∧z.length≤lim∧Q (.str ⟨(cut z.cps.toList lo hi).toArray⟩) H):=by
 intro pins s σ H x v vl vu lo hi sl Q I rx hs pl pu h;obtain⟨z,rfl,hzl,q⟩:=h;obtain⟨t,rfl⟩:=rx;have part:∀{v:Value}{o:Option Int},IsPart v o→∃ l:Option (Int×Tok),partValue l=v∧l.map (·.1)=o:=fun h=>by
  cases h with
  |none=>exact⟨none,rfl,rfl⟩
  |int i t=>exact⟨some (i,t),rfl,rfl⟩
 obtain⟨l,rfl,rfl⟩:=part pl;obtain⟨u,rfl,rfl⟩:=part pu;refine⟨"str",_,PySem.F.slot_str_getitem.lookup,typeIs_str s z t,wpAny_getItem_str_slice (l:=l) (u:=u) (st:=none) hs rfl ?_⟩;have hp:slicePicked z l u none=(List.range (cF z.length z.length (u.map (·.1)) - cF z.length 0 (l.map (·.1)))).map (cF z.length 0 (l.map (·.1)) + ·):=EK _ _ _;have hc:(slicePicked z l u none).filterMap (z.cps[·]?)=cut z.cps.toList (l.map (·.1)) (u.map (·.1)):=by
  rw[hp,pick_run];rfl
 unfold sliceMade;split
 ·rename_i hw;have hl:(slicePicked z l u none).length=z.length:=by
   have:=(ai _ _ ▸ hw).2;simpa using this
  rw[hp,aj,cg] at hl;have hz:(⟨(cut z.cps.toList (l.map (·.1)) (u.map (·.1))).toArray⟩:Str)=z:=by
   have a1:=pW (n:=z.length) (dm _) (l.map (·.1));have a2:=pW (n:=z.length) (au _) (u.map (·.1));have:cut z.cps.toList (l.map (·.1)) (u.map (·.1))=z.cps.toList:=by
    have hlen:z.cps.toList.length=z.length:=rfl;unfold cut;rw[hlen];dsimp only;by_cases h0:z.length=0
    ·have:z.cps.toList=[]:=List.eq_nil_of_length_eq_zero (hlen.trans h0);rw[this];simp
    ·rw[show cF z.length 0 (l.map (·.1))=0 by omega,show cF z.length z.length (u.map (·.1))=z.length by omega,List.drop_zero,Nat.sub_zero];exact iu (Nat.le_of_eq hlen)
   rw[this]
  rw[hz] at q;exact⟨.str z,H,I,⟨t,rfl⟩,q⟩
 ·rw[hc];refine⟨?_,.str _,H,I.tok _,⟨_,rfl⟩,q⟩;show (cut z.cps.toList (l.map (·.1)) (u.map (·.1))).toArray.size≤sizeLine;rw[ak];refine bu ?_ (mV hzl);unfold cut;rw[eg,fq];exact bu (ik _ _) (Nat.sub_le _ _)
section
variable {X:Cx}{T:Tb}{a:Expr}{ca:Ex}{lo hi:Option Expr}{cl ch:nt}{pos p2:Pos}
noncomputable def tO (K:Frag) (T:Tb) (c:nt):TO:=fun σ H Q=>∃ P env F,RE K P env σ H F∧∃ o,mH T c env = .ok o∧∀ H',aN H H'→Q o H'
theorem xh {X:Cx}{e:Option Expr}{t t':TO}(h:PO X e t) (k:∀ σ H Q,t' σ H Q→t σ H Q):PO X e t':=fun pins s σ H Q I q=>h pins s σ H Q I (k σ H Q q)
theorem BD:PO X none (tO X.K T .none):=xh Ax fun σ H Q ⟨P,env,F,re,o,h,k⟩=>by
 unfold mH at h;cases h;exact k H (aN.refl _)
theorem BE (h:PE X a (tE X.K T ca)):PO X (some a) (tO X.K T (.some ca)):=xh (Af h) fun σ H Q ⟨P,env,F,re,o,h,k⟩=>by
 unfold mH at h;obtain⟨p,h1,h2⟩:=Rs.bind_ok h;refine⟨P,env,F,re,p,h1,fun v H' G s rp rt=>?_⟩;split at h2
 ·rename_i i hi;cases h2;rw[hi] at rp;obtain⟨rfl,rfl⟩:=rp.int_inv;exact⟨i,rfl,k H' s⟩
 ·cases h2
theorem Fz (ha:PE X a (tE X.K T ca)) (hl:PO X lo (tO X.K T cl)) (hh:PO X hi (tO X.K T ch)):PE X (.Subscript a (.Slice lo hi none p2) pos) (tE X.K T (.sl ca cl ch)):=by
 refine bT (xw (Br.or (Ep.or Ei)) ha hl hh) fun σ H Q ⟨P,env,F,re,p,hev,k⟩=>?_
 unfold ev at hev;obtain⟨q,h1,hev⟩:=Rs.bind_ok hev;obtain⟨ol,h2,hev⟩:=Rs.bind_ok hev;obtain⟨oh,h3,hev⟩:=Rs.bind_ok hev;obtain⟨d,h4,hev⟩:=Rs.bind_ok hev;have h4:=dD h4;cases hev;refine⟨P,env,F,re,q,h1,fun v H1 G s rp rt=>⟨P,env,F,re.same s,ol,h2,fun H2 s2=>⟨P,env,F,re.same (s.trans s2),oh,h3,fun H3 s3=>?_⟩⟩⟩;have s23:=s2.trans s3;cases hq:q.1 with
 |lst xs =>
  rw[hq] at rp h4;cases h4;obtain⟨pa,vs,G',rfl,rfl,hr,rs⟩:=Rep.lst_inv (rp.same s23);refine .inl ⟨pa,vs,rfl,.inl hr,fun pn hn=>?_⟩;obtain⟨G1,r1,u1⟩:=rs.drop (cF xs.length 0 ol);obtain⟨G2,r2,u2⟩:=r1.take (cF xs.length xs.length oh - cF xs.length 0 ol);have hc:qF vs ol oh=(vs.drop (cF xs.length 0 ol)).take (cF xs.length xs.length oh - cF xs.length 0 ol):=by
   unfold qF;rw[rs.len,wW,wW]
  rw[hc];have sub:∀ a∈G2,a∈pa::G':=fun a ha=>aa _ (u1.mem (u2.mem ha))
  obtain⟨rp',nv⟩:=jj (G0:=pa::G') r2 sub hn;have ar:Args X.K env F H H3 [q] [.ref pa] ((pa::G') ++ []):=.cons s (by rw[hq];exact rp) rt (.nil s23);rw[bo] at ar;exact k _ _ _ ((s.trans s23).trans nv.same) rp' (bY.new ar nv (by simp[aZ]))
 |_=>rw[hq] at h4;cases h4
end
end Pc
end
section
namespace Pc
open PySem PySem.Spec PyProof.Rows L2
section
variable {X:Cx}{S:Sc}{T:Tb}
theorem zN {f:Expr→Option Ex}(hf:∀ e c,f e=some c→SE X T e c) {o:Option Expr}{c:nt}(h:xt f o=some c):PO X o (tO X.K T c):=by
 cases o with
 |none=>cases h;exact BD
 |some e =>
  have h:(f e).map nt.some=some c:=h;rw[ae] at h;obtain⟨d,h1,rfl⟩:=h;exact BE (hf e d h1).1
theorem Bz {x id:String}{b:AZ}{f:Expr→Option Ex}(hf:∀ e c,f e=some c→SE X T e c) {e:Expr}{r:List Expr}{cs:lT}{p pos:Pos}(hr:gQ X (.builtin id) (qY X.K b)) (hv:bootBuiltins x=some (.builtin id)) (hg:Gl X x) (hm:X.mg x=none) (hn:dZ x=true) (ha:dG f (e::r)=some cs) :
  PE X (.Call (.Name x p) (e::r) [] pos) (tE X.K T (.blt b cs)):=by
 obtain⟨hs,_,_,_,h2,_⟩:=bH ha;obtain⟨n1,n2,n3⟩:=dO hn;exact bT (qj hr hg hm hv (dH hf ha) n3 n1 (be hs) (dY h2)) fun σ H Q h=>rO h
theorem bltT {x id:String}{b:AZ}{f:Expr→Option Ex}(hf:∀ e c,f e=some c→SE X T e c) {e:Expr}{r:List Expr}{cs:lT}{p pos:Pos}(hr:gQ X (.type id) (qY X.K b)) (hv:bootBuiltins x=some (.type id)) (hg:Gl X x) (hm:X.mg x=none) (hn:dZ x=true) (ha:dG f (e::r)=some cs) :
  PE X (.Call (.Name x p) (e::r) [] pos) (tE X.K T (.blt b cs)):=by
 obtain⟨hs,_,_,_,h2,_⟩:=bH ha;obtain⟨n1,n2,n3⟩:=dO hn;exact bT (wd hr hg hm hv (dH hf ha) n3 n1 (be hs) (dY h2)) fun σ H Q h=>rO h
theorem zb {t:Str}{u:String}(h:CW t=some u):u∈jt∧bootBuiltins t=some (.type u):=by
 unfold CW at h;split at h
 ·rename_i e;cases h;subst e;exact⟨by decide,boot_int⟩
 split at h
 ·rename_i e;cases h;subst e;exact⟨by decide,boot_bool⟩
 split at h
 ·rename_i e;cases h;subst e;exact⟨by decide,boot_str⟩
 split at h
 ·rename_i e;cases h;subst e;exact⟨by decide,boot_list⟩
 split at h
 ·rename_i e;cases h;subst e;exact⟨by decide,boot_tuple⟩
 cases h
theorem Ad (C:Ctx X S T) {f:Expr→Option Ex}(hf:∀ e c,f e=some c→SE X T e c) {x:Str}{es:List Expr}{c:Ex}{p pos:Pos}(h:ue S f x es=some c):PE X (.Call (.Name x p) es [] pos) (tE X.K T c):=by
 unfold ue at h;by_cases hk:(dZ x&&r6 S.sc x)=true
 ·rw[if_pos hk] at h;rw[ai] at hk;obtain⟨hn,hg⟩:=hk;have hg:=C.gl x hg;obtain⟨n1,n2,n3⟩:=dO hn;cases hi:idxOf S.fns x with
  |some i =>
   rw[hi] at h;dsimp only at h;rw[ae] at h;obtain⟨cs,h1,rfl⟩:=h;obtain⟨fa,fd,ps,k,FO,hr,hm,hkp,hb,hl⟩:=C.fns i x hi;cases es with
   |nil =>
    cases h1;refine bT (yU FO hr hg hm hkp hb .nil BU n1) fun σ H Q h=>?_
    have:=oJ hl h;obtain⟨P,env,F,re,l,hev,k⟩:=this;unfold bK at hev;cases hev;exact k [] H [] (.nil (aN.refl _))
   |cons e r =>
    obtain⟨hs,_,_,_,h2,_⟩:=bH h1;exact bT (Bj FO hr hg hm hkp hb .nil BU (dH hf h1) n1 (be hs) (dY h2)) fun σ H Q h=>oJ hl h
  |none =>
   rw[hi] at h;dsimp only at h;by_cases hb:S.eU.contains x=true
   ·rw[if_pos hb] at h;have hm:=C.eU x hb;by_cases hx:x = "isinstance"
    ·rw[if_pos hx] at h;subst hx;unfold Fu at h;split at h
     ·rename_i a t pt;by_cases hc:(r6 S.sc t&&S.eU.contains t&&dZ t&&notStar a)=true
      ·rw[if_pos hc] at h;simp only[Bool.and_eq_true] at hc;obtain⟨⟨⟨c1,c2⟩,c3⟩,c4⟩:=hc;rw[ah] at h;obtain⟨u,h1,h2⟩:=h;rw[ae] at h2;obtain⟨ca,h2,rfl⟩:=h2;obtain⟨hu,hbt⟩:=zb h1;obtain⟨m1,m2,m3⟩:=dO c3;refine bT (qj wu hg hm boot_isinstance (fZ (hf a ca h2).1 (fZ (Bc (v:=.ty u) (C.gl t c1) (C.eU t c2) hbt rfl m3 m1) mJ rfl) (be c4)) n3 n1 (be c4) rfl) fun σ H Q h=>yW hu h
      ·rw[if_neg hc] at h;cases h
     ·cases h
    ·rw[if_neg hx] at h;by_cases hlr:x = "list"∧pb es=true
     ·rw[if_pos hlr] at h;obtain⟨rfl,_⟩:=hlr;cases h
     rw[if_neg hlr] at h;by_cases hlg:x = "list"∧oF es=true
     ·rw[if_pos hlg] at h;obtain⟨rfl,_⟩:=hlg;unfold BP at h;split at h
      ·rename_i r pr es' pp zz;by_cases hrr:r = "range"
       ·rw[if_pos hrr] at h;subst hrr;by_cases hgr:lJ S "range" = true
        ·rw[if_pos hgr] at h;have hg2:r6 S.sc "range" = true∧S.eU.contains "range" = true:=by
          have:=hgr;unfold lJ at this
          rwa [ai] at this
         split at h
         ·rename_i a;rw[ae] at h;obtain⟨cs,ha,rfl⟩:=h;obtain⟨n1,c1,d1,_,hd,_⟩:=bH ha;exact t9 C.calm hg hm (C.gl _ hg2.1) (C.eU _ hg2.2) (dH hf ha) ⟨_,_,rfl,be n1,rfl⟩
         ·rename_i a b;rw[ae] at h;obtain⟨cs,ha,rfl⟩:=h;obtain⟨n1,c1,d1,_,hd,_⟩:=bH ha;obtain⟨n2,_,_,_,_,_⟩:=bH hd;exact t9 C.calm hg hm (C.gl _ hg2.1) (C.eU _ hg2.2) (dH hf ha) ⟨_,_,rfl,be n1,by rw[be n2];rfl⟩
         ·cases h
        ·rw[if_neg hgr] at h;cases h
       ·rw[if_neg hrr] at h;cases h
      ·cases h
     rw[if_neg hlg] at h;cases es with
     |nil=>cases h
     |cons e r =>
      dsimp only at h;rw[ah] at h;obtain⟨b,h1,h2⟩:=h;rw[ae] at h2;obtain⟨cs,h2,rfl⟩:=h2;unfold E2 at h1;split at h1
      ·rename_i e;cases h1;subst e;exact Bz hf vY boot_len hg hm hn h2
      split at h1
      ·rename_i e;cases h1;subst e;exact Bz hf (vM C.calm) boot_all hg hm hn h2
      split at h1
      ·rename_i e;cases h1;subst e;exact bltT hf (sJ C.calm) boot_list hg hm hn h2
      split at h1
      ·rename_i e;cases h1;subst e;exact Bz hf (sf C.calm C.units.1) boot_min hg hm hn h2
      split at h1
      ·rename_i e;cases h1;subst e;exact Bz hf qe boot_sorted hg hm hn h2
      cases h1
   ·rw[if_neg hb] at h;cases h
 ·rw[if_neg hk] at h;cases h
theorem Dm {f:Expr→Option Ex}(hf:∀ e c,f e=some c→SE X T e c) {o:Expr}{name:Str}{es:List Expr}{c:Ex}{apos cpos:Pos}(h:D6 f o name es apos cpos=some c):PE X (.Call (.Attribute o name apos) es [] cpos) (tE X.K T c):=by
 cases h
theorem uS {own:Nat}{pick:List Nat}{t:lG}(h:wt own t=true) (i:Nat) (hi:t = .nm i∨∃ is,t = .tp is∧i∈is):(eS own pick)[i]? = some none:=by
 have:i<own:=by
  rcases hi with rfl | ⟨is,rfl,hm⟩
  ·simpa[wt] using h
  ·simp only[wt,List.all_eq_true,decide_eq_true_eq] at h;exact h i hm
 unfold eS;rw[List.getElem?_append_left (by simpa using this),List.getElem?_replicate,if_pos this]
structure nY (X:Cx) (S:Sc) (T:Tb) (elt tg iter:Expr) (ifs:List Expr) (sc:Scope) (c:Ex):Prop where
 ex:∃ pick t it ci ce,c = .comp (bL sc).length pick t it ci ce∧eR X sc (bL sc++bO sc) (eS (bL sc).length pick)∧PI X tg iter (tI X.K T it) ∧
  (∀ C s0 H0 ex,PG (inner X sc (bL sc++bO sc) C s0 H0 ex) tg (tY X.K t)∧EY (inner X sc (bL sc++bO sc) C s0 H0 ex) ifs (Dc X.K T ci)∧PE (inner X sc (bL sc++bO sc) C s0 H0 ex) elt (tE X.K T ce)) ∧
  wt (bL sc).length t=true∧iL iter=true
theorem mC (C:Ctx X S T) {f:Sc→Expr→Option Ex}(hf:∀{X:Cx}{S:Sc},Ctx X S T→∀ e c,f S e=some c→SE X T e c) {elt tg iter:Expr}{ifs:List Expr}{sc:Scope}{c:Ex}(h:rJ S f elt tg iter ifs sc=some c):nY X S T elt tg iter ifs sc c:=by
 unfold rJ at h;by_cases hk:(kP S sc&&iL iter)=true
 ·rw[if_pos hk] at h;rw[ai] at hk;rw[ah] at h;obtain⟨it,h1,h⟩:=h;rw[ah] at h;obtain⟨pick,h2,h⟩:=h;rw[ah] at h;obtain⟨t,h3,h⟩:=h;by_cases ho:wt (bL sc).length t=true
  ·rw[if_pos ho] at h;rw[ah] at h;obtain⟨ci,h4,h⟩:=h;rw[ae] at h;obtain⟨ce,h5,rfl⟩:=h;refine⟨pick,t,it,ci,ce,rfl,sU C hk.1 h2,B1 C (hf C) h1,fun Ca s0 H0 ex=>?_,ho,hk.2⟩;have C':=wB C hk.1 Ca s0 H0 ex;refine⟨xH C' h3,?_,(hf C' elt ce h5).1⟩;unfold Fg at h4;split at h4
   ·cases h4;exact A8
   ·rw[ae] at h4;obtain⟨cc,h4,rfl⟩:=h4;exact Aa (hf C' _ cc h4).2
   ·cases h4
  ·rw[if_neg ho] at h;cases h
 ·rw[if_neg hk] at h;cases h
theorem Ah (C:Ctx X S T) {elt tg iter:Expr}{ifs:List Expr}{sc:Scope}{c:Ex}{pos:Pos}(h:nY X S T elt tg iter ifs sc c):PE X (.ListComp elt [⟨tg,iter,ifs,0⟩] sc pos) (tE X.K T c):=by
 obtain⟨pick,t,it,ci,ce,rfl,h1,h2,h3,h4,h5⟩:=h;exact bT (AL h1 C.calm h2 h3 (oo (uS h4)) (r9 h5)) fun σ H Q h=>oZ h
theorem Ap (C:Ctx X S T) {f:Expr→Option Ex}(hf:∀ e c,f e=some c→SE X T e c) {x kn:Str}{a d:Expr}{c:Ex}{p kp pos:Pos}(h:xj S f x a d kn=some c):PE X (.Call (.Name x p) [a] [⟨some kn,d,kp⟩] pos) (tE X.K T c):=by
 cases h
theorem eX:∀(n:Nat) {X:Cx}{S:Sc}{T:Tb}(C:Ctx X S T) (e:Expr) (c:Ex),cE n S e=some c→SE X T e c:=by
 intro n
 induction n with
 |zero=>intro X S T C e c h;cases h
 |succ n ih =>
  intro X S T C e c h;have ihX:=ih C;cases e with
  |Name x p =>
   have h:xn S x=some c:=h;unfold xn at h;by_cases hn:dZ x=true
   ·rw[if_pos hn] at h;obtain⟨n1,n2,n3⟩:=dO hn;by_cases hv:nN S.sc x=true
    ·rw[if_pos hv,ae] at h;obtain⟨i,h1,rfl⟩:=h;have hi:=bZ h1;rw[←C.N] at hi;have:=El (T:=T) (pos:=p) hi (C.vis x hv) n1 n2;exact⟨this,dQ this fun _=>rfl⟩
    ·rw[if_neg hv] at h;by_cases hg:r6 S.sc x=true
     ·rw[if_pos hg,ae] at h;obtain⟨i,h1,rfl⟩:=h;obtain⟨v,u,g1,g2,g3⟩:=C.wM i x h1;have:=Ea (AU (pos:=p) (C.gl x hg) g1 g2 n1) g3;exact⟨this,dQ this fun _=>rfl⟩
     ·rw[if_neg hg] at h;cases h
   ·rw[if_neg hn] at h;cases h
  |Constant k x1 p =>
   have h:Gb k=some c:=h;cases k with
   |int i=>cases h;exact⟨kF (T:=T) tP fun H=>Rep.int _,dQ (kF (T:=T) tP fun H=>Rep.int _) fun _=>rfl⟩
   |bool b=>cases h;exact⟨kF (T:=T) B9 fun H=>Rep.bl _,dQ (kF (T:=T) B9 fun H=>Rep.bl _) fun _=>rfl⟩
   |none=>cases h;exact⟨kF (T:=T) pz fun H=>Rep.non,dQ (kF (T:=T) pz fun H=>Rep.non) fun _=>rfl⟩
   |_=>cases h
  |BinOp a op b p =>
   have h:((cE n S a).bind fun ca=>(cE n S b).map fun cb=>.bin op ca cb)=some c:=h;rw[ah] at h;obtain⟨ca,h1,h⟩:=h;rw[ae] at h;obtain⟨cb,h2,rfl⟩:=h;have:=D8 (pos:=p) (Bp op) (ihX a ca h1).1 (ihX b cb h2).1;exact⟨this,dQ this fun _=>rfl⟩
  |UnaryOp op a p =>
   have h:cUn op (cE n S a)=some c:=h;cases op with
   |USub =>
    have h:(cE n S a).map .neg=some c:=h;rw[ae] at h;obtain⟨ca,h1,rfl⟩:=h;have:=DM (pos:=p) (ihX a ca h1).1;exact⟨this,dQ this fun _=>rfl⟩
   |Not =>
    have h:(cE n S a).map .not=some c:=h;rw[ae] at h;obtain⟨ca,h1,rfl⟩:=h;exact⟨DO (ihX a ca h1).1,Ey (ihX a ca h1).2⟩
   |_=>cases h
  |BoolOp op es p =>
   have h:Fx (cE n S) op es=some c:=h;have ⟨h1,h2⟩:=Cm (pos:=p) ihX h;exact⟨h1,h2.pt⟩
  |Compare a ops bs p =>
   have h:E7 (cE n S) a ops bs=some c:=h;cases ops with
   |nil=>cases h
   |cons op r=>cases r with
    |nil=>cases bs with
     |nil=>cases h
     |cons b r2=>cases r2 with
      |cons _ _=>cases h
      |nil =>
       have h:zc (cE n S) a op b=some c:=h;unfold zc at h;by_cases hb:behindInMarks op b=true
       ·rw[if_pos hb] at h;cases h
       ·rw[if_neg hb] at h;have hb:behindInMarks op b=false:=by simpa using hb
        rw[ah] at h;obtain⟨ca,h1,h⟩:=h;rw[ae] at h;obtain⟨cb,h2,rfl⟩:=h;exact⟨DY (uK op C.units) (ihX a ca h1).1 (ihX b cb h2).1 hb,EJ C.units (ihX a ca h1).1 (ihX b cb h2).1 hb⟩
    |cons op' r2=>cases r2 with
     |cons _ _=>cases bs<;>cases h
     |nil=>cases bs with
      |nil=>cases h
      |cons b r3=>cases r3 with
       |nil=>cases h
       |cons d r4=>cases r4 with
        |cons _ _=>cases h
        |nil =>
         have h:Cs (cE n S) a op op' b d=some c:=h;cases h
  |IfExp t a b p =>
   have h:((cE n S t).bind fun cc=>(cE n S a).bind fun ca=>(cE n S b).map fun cb=>.ite cc ca cb)=some c:=h;rw[ah] at h;obtain⟨cc,h1,h⟩:=h;rw[ah] at h;obtain⟨ca,h2,h⟩:=h;rw[ae] at h;obtain⟨cb,h3,rfl⟩:=h;exact⟨DG (ihX t cc h1).2 (ihX a ca h2).1 (ihX b cb h3).1,Dr (ihX t cc h1).2 (ihX a ca h2).2 (ihX b cb h3).2⟩
  |List es p =>
   have h:(dG (cE n S) es).map .lst=some c:=h;rw[ae] at h;obtain⟨cs,h1,rfl⟩:=h;have:=Dk (pos:=p) (dH ihX h1);exact⟨this,dQ this fun _=>rfl⟩
  |Dict ks vs p =>
   have h:GF ks vs=some c:=h;cases h
  |Tuple es x1 p =>
   have h:(dG (cE n S) es).map .tup=some c:=h;rw[ae] at h;obtain⟨cs,h1,rfl⟩:=h;have:=DE (pos:=p) (x1:=x1) (dH ihX h1);exact⟨this,dQ this fun _=>rfl⟩
  |Subscript a b p =>
   have h:Ce (cE n S) a b=some c:=h;by_cases hb:iY b=true
   ·have h:(if iY b then (cE n S a).bind fun ca=>(cE n S b).map fun cb=>.ix ca cb else none)=some c:=by
     cases b<;>first | exact h | cases hb
    rw[if_pos hb] at h;rw[ah] at h;obtain⟨ca,h1,h⟩:=h;rw[ae] at h;obtain⟨cb,h2,rfl⟩:=h;have:=FL (pos:=p) (A2 C.units.2) (ihX a ca h1).1 (ihX b cb h2).1 (qL hb);exact⟨this,dQ this fun _=>rfl⟩
   ·cases b with
    |Slice lo hi st p2 =>
     cases st with
     |none =>
      have h:((cE n S a).bind fun ca=>(xt (cE n S) lo).bind fun l=>(xt (cE n S) hi).map fun h=>.sl ca l h)=some c:=h;rw[ah] at h;obtain⟨ca,h1,h⟩:=h;rw[ah] at h;obtain⟨cl,h2,h⟩:=h;rw[ae] at h;obtain⟨ch,h3,rfl⟩:=h;have:=Fz (pos:=p) (p2:=p2) (ihX a ca h1).1 (zN ihX h2) (zN ihX h3);exact⟨this,dQ this fun _=>rfl⟩
     |some _=>cases h
    |_=>exact absurd rfl hb
  |Call g es ks pos =>
   have h:wY S (cE n S) g es ks pos=some c:=h;cases g with
   |Name x p =>
    have h:y8 S (cE n S) x es ks=some c:=h;cases ks with
    |nil =>
     have h:ue S (cE n S) x es=some c:=h;have:=Ad (p:=p) (pos:=pos) C ihX h;exact⟨this,dQ this fun _=>rfl⟩
    |cons k r=>cases r with
     |cons _ _=>obtain⟨_,_,_⟩:=k;cases h
     |nil =>
      obtain⟨k,d,kp⟩:=k;cases k with
      |none=>cases h
      |some kn=>cases es with
       |nil=>cases h
       |cons a r2=>cases r2 with
        |cons _ _=>cases h
        |nil =>
         have h:xj S (cE n S) x a d kn=some c:=h;have:=Ap (p:=p) (kp:=kp) (pos:=pos) C ihX h;exact⟨this,dQ this fun _=>rfl⟩
   |Attribute o name apos =>
    cases ks with
    |nil =>
     have h:D6 (cE n S) o name es apos pos=some c:=h;have:=Dm (apos:=apos) (cpos:=pos) ihX h;exact⟨this,dQ this fun _=>rfl⟩
    |cons _ _=>cases h
   |_=>cases h
  |ListComp elt gens sc pos =>
   have h:cLC S (cE n) elt sc gens=some c:=h;cases gens with
   |nil=>cases h
   |cons g r=>cases r with
    |cons _ _=>obtain⟨_,_,_,_⟩:=g;cases h
    |nil =>
     obtain⟨tg,iter,ifs,as⟩:=g;have h:(if as=0 then rJ S (cE n) elt tg iter ifs sc else none)=some c:=h;by_cases ha:as=0
     ·rw[if_pos ha] at h;subst ha;have:=Ah (pos:=pos) C (mC C (fun C'=>ih C') h);exact⟨this,dQ this fun _=>rfl⟩
     ·rw[if_neg ha] at h;cases h
  |_=>cases h
end
end Pc
end
section
namespace Pc
open PySem PySem.Spec PyProof.Rows L2
structure qk (X:Cx) (S:Sc) (T:Tb):Prop where
 c:Ctx X S T
 sc:X.env.scope=S.sc
 fn:S.sc.kind = .function
 own:PassesOwn (model X.prog X.w) X.A X.env X.xe
noncomputable def BS (m:Str):Option rY:=if m = "append" then some .append else none
noncomputable def yV (m:Str):Option rY:=none
noncomputable def ka (n:Nat) (S:Sc):Expr→Option (Nat×nt)
 |.Name x _=>if dZ x&&nN S.sc x then (idxOf S.N x).map fun i=>(i,.none) else none
 | .Subscript (.Name x _) e _=>if dZ x&&nN S.sc x&&iY e then (idxOf S.N x).bind fun i=>(cE n S e).map fun c=>(i,.some c) else none
 |_=>none
noncomputable def Ao (n:Nat) (S:Sc) (tg e:Expr):Option St:=match tg with
 |.Name x px=>match e with
  |.ListComp elt [⟨tg',iter,ifs,0⟩] sc p=>if kH S.sc x then (idxOf S.N x).bind fun i=>(cE n S (.ListComp elt [⟨tg',iter,ifs,0⟩] sc p)).map fun c=>.asg (.nm i) c false else none
  |e=>if gJ e then none else if kH S.sc x then (idxOf S.N x).bind fun i=>(cE n S e).map fun c=>.asg (.nm i) c false else none
 |.Tuple es k p=>if gJ e || isTup e then none else (l7 S es).bind fun is=>(cE n S e).map fun c=>.asg (.tp is) c false
 |.Subscript o ix p=>if gJ e || !iY ix then none else (ka n S o).bind fun q=>(cE n S ix).bind fun ci=>(cE n S e).map fun c=>.setix q.1 q.2 ci c
 |_=>none
noncomputable def Ai (n:Nat) (S:Sc) (o:Expr) (name:Str) (es:List Expr) (apos cpos:Pos):Option St :=
 if apos.endLine==cpos.line then (if es.isEmpty then (yV name).bind fun m=>(ka n S o).map fun q=>.mut q.1 q.2 m .nil else (BS name).bind fun m=>(ka n S o).bind fun q=>match es with
  |[a]=>(dG (cE n S) [a]).map fun cs=>.mut q.1 q.2 m cs
  |[a,b]=>(dG (cE n S) [a,b]).map fun cs=>.mut q.1 q.2 m cs
  |_=>none)
 else none
noncomputable def qy (n:Nat) (S:Sc) (o:Expr) (name:Str) (es:List Expr) (apos cpos:Pos):Option St:=match es with
 | [.Call (.Attribute o2 name2 apos2) [a] [] cpos2]=>if name = "append"∧name2 = "pop"∧(apos.endLine==cpos.line)=true∧(apos2.endLine==cpos2.line)=true then (match ka n S o,ka n S o2 with
  | some (y,.none),some (x,.none)=>(dG (cE n S) [a]).map fun cs=>.apop y x cs
  |_,_=>none) else none
 |_=>none
noncomputable def cAug (n:Nat) (S:Sc) (tg:Expr) (op:Operator) (e:Expr):Option St:=none
noncomputable def Bh (n:Nat) (S:Sc) (tg e:Expr):Option St:=none
noncomputable def ET (n:Nat) (S:Sc) (e:Expr):Option St:=if gJ e then none else (cE n S e).map .expr
noncomputable def Gq (n:Nat) (S:Sc):Expr→Option St
 |.Constant k x1 p=>(match k with
  |.str _=>some .pass
  |k=>ET n S (.Constant k x1 p))
 |.Call g es ks cpos=>(match g with
  |.Attribute o name apos=>(match ks with
   |[]=>(match qy n S o name es apos cpos with
    |some c=>some c
    |none=>Ai n S o name es apos cpos)
   |k::ks=>ET n S (.Call (.Attribute o name apos) es (k::ks) cpos))
  |g=>ET n S (.Call g es ks cpos))
 |e=>ET n S e
noncomputable def cAs (n:Nat) (S:Sc) (e:Expr):List Expr→Option St
 |[]=>none
 |[tg]=>(match Bh n S tg e with
  |some c=>some c
  |none=>Ao n S tg e)
 |_::_::_=>none
noncomputable def cRet (n:Nat) (S:Sc):Option Expr→Option St
 |none=>some .retN
 |some e=>(cE n S e).map .ret
noncomputable def ud:lG→bF→Option Nat
 |_,_=>none
theorem zk {t:lG}{cb:bF}{x:Nat}(h:ud t cb=some x):t = .nm x:=by
 cases h
noncomputable def Gv (n:Nat) (S:Sc) (tg iter:Expr) (ob:Option bF):List Stmt→Option St
 |[]=>if iL iter then (wJ S tg).bind fun t=>ob.bind fun cb=>(match ud t cb with
  |some x=>(cE n S iter).map fun c=>.forw x c cb
  |none=>(EV S (cE n S) (isTup tg) iter).map fun it=>.forr t it cb) else none
 |_::_=>none
noncomputable def cWhl (n:Nat) (S:Sc) (e:Expr) (ob:Option bF):List Stmt→Option St
 |[]=>(cE n S e).bind fun c=>ob.map fun cb=>.whl c cb
 |_::_=>none
mutual
noncomputable def cS:Nat→Sc→Stmt→Option St
 |0,_,_=>none
 |n+1,S,st=>match st with
  |.Assign tgs e _=>cAs n S e tgs
  |.AugAssign tg op e _=>cAug n S tg op e
  |.Expr e _=>Gq n S e
  |.Return o _=>cRet n S o
  |.If e a b _=>(cE n S e).bind fun c=>(tZ n S a).bind fun ca=>(tZ n S b).map fun cb=>.ite c ca cb
  |.For tg iter b oe _=>Gv n S tg iter (tZ n S b) oe
  |.While e b oe _=>cWhl n S e (tZ n S b) oe
  |.Pass _=>some .pass
  |.Raise _ _ _=>some (.expr (.neg (.cst .non)))
  |.Break _=>some .brk
  |.Continue _=>some .cnt
  |_=>none
noncomputable def tZ:Nat→Sc→List Stmt→Option bF
 |0,_,_=>none
 |_+1,_,[]=>some .nil
 |n+1,S,s::r=>(cS n S s).bind fun c=>(tZ n S r).map fun d=>.cons c d
end
theorem ph {e:Expr}{t:Option Expr}{l:Nat}{env:Env}(h:gJ e=false):swapsWith e t l env=pure false:=by
 cases e<;>first | rfl | (cases h)
theorem nR {e t:Expr}{l:Nat}{env:Env}(h:gJ e=false):swapsWithSole [t] e l env=pure false:=ph h
section
variable {X:Cx}{S:Sc}{T:Tb}
theorem Bb {st:Stmt}:PS X st (tS X.K T (.expr (.neg (.cst .non)))):=by
 intro pins s σ H D I h;obtain⟨P,Z,env,F,re,hz,zp,h⟩:=h;exact h.elim
theorem jv (C:Ctx X S T) {n:Nat}{o:Expr}{q:Nat×nt}(h:ka n S o=some q):PE X o (lB X.K T q.1 q.2):=by
 unfold ka at h;split at h
 ·rename_i x p;by_cases hk:(dZ x&&nN S.sc x)=true
  ·rw[if_pos hk,ae] at h;rw[ai] at hk;obtain⟨i,h1,rfl⟩:=h;obtain⟨n1,n2,n3⟩:=dO hk.1;have hi:=bZ h1;rw[←C.N] at hi;exact DI hi (C.vis x hk.2) n1 n2
  ·rw[if_neg hk] at h;cases h
 ·rename_i x p e pos;by_cases hk:(dZ x&&nN S.sc x&&iY e)=true
  ·rw[if_pos hk,ah] at h;rw[ai,ai] at hk;obtain⟨i,h1,h⟩:=h;rw[ae] at h;obtain⟨c,h2,rfl⟩:=h;obtain⟨n1,n2,n3⟩:=dO hk.1.1;have hi:=bZ h1;rw[←C.N] at hi;exact Bu hi (C.vis x hk.1.2) n1 n2 (eX n C e c h2).1 (qL hk.2)
  ·rw[if_neg hk] at h;cases h
 ·cases h
theorem gW {n:Nat}{o:Expr}{q:Nat×nt}{name:Str}{env:Env}(h:ka n S o=some q):attributeBase o name env (eval o env)=eval o env:=by
 unfold ka at h;split at h
 ·rfl
 ·rfl
 ·cases h
theorem DC (C:qk X S T) {n:Nat}{tg e:Expr}{c:St}{pos:Pos}(h:Ao n S tg e=some c):PS X (.Assign [tg] e pos) (tS X.K T c):=by
 have hN:=C.c.nd;rw[←C.c.N] at hN;unfold Ao at h;split at h
 ·rename_i x px;split at h
  ·rename_i elt tg' iter ifs sc p;by_cases hl:kH S.sc x=true
   ·rw[if_pos hl,ah] at h;obtain⟨i,h1,h⟩:=h;rw[ae] at h;obtain⟨ce,h2,rfl⟩:=h;have hi:=bZ h1;rw[←C.c.N] at hi;have hsw:swapsWith (.ListComp elt [⟨tg',iter,ifs,0⟩] sc p) (some (.Name x px)) pos.line X.env=pure (X.env.blockKind == .function&&X.env.kindOf x==some .local&&px.line==p.line && !(sc.names.any fun (n,k)=>n==x&&(k == .local || k == .cell))):=rfl;cases hb:(X.env.blockKind == .function&&X.env.kindOf x==some .local&&px.line==p.line && !(sc.names.any fun (n,k)=>n==x&&(k == .local || k == .cell))) with
    |false =>
     rw[hb] at hsw;exact zl hN hi (C.c.loc x hl).1 (eX n C.c _ _ h2).1 hsw (C.c.loc x hl).2
    |true =>
     rw[hb] at hsw;cases n with
     |zero=>cases h2
     |succ n =>
      have h2:rJ S (cE n) elt tg' iter ifs sc=some ce:=h2;obtain⟨pick,t,it,ci,ce',rfl,g1,g2,g3,g4,g5⟩:=mC C.c (fun C'=>eX n C') h2;refine cJ (sj g1 C.c.calm g2 g3 (oo (uS g4)) (r9 g5) hN hi (C.c.loc x hl).1 (C.c.loc x hl).2 hsw) fun D σ H h=>?_
      obtain⟨P,Z,env,F,re,hz,zp,h⟩:=h;unfold bE at h;obtain⟨p,hp,h⟩:=cQ h;exact oZ ⟨P,env,F,re,p,hp,fun v H' G s rp rt=>zx re hz zp s rp rt h⟩
   ·rw[if_neg hl] at h;cases h
  ·by_cases hc:gJ e=true
   ·rw[if_pos hc] at h;cases h
   ·rw[if_neg hc] at h;by_cases hl:kH S.sc x=true
    ·rw[if_pos hl,ah] at h;obtain⟨i,h1,h⟩:=h;rw[ae] at h;obtain⟨ce,h2,rfl⟩:=h;have hi:=bZ h1;rw[←C.c.N] at hi;exact zl hN hi (C.c.loc x hl).1 (eX n C.c _ _ h2).1 (ph (by simpa using hc)) (C.c.loc x hl).2
    ·rw[if_neg hl] at h;cases h
 ·rename_i es k p;by_cases hc:(gJ e || isTup e)=true
  ·rw[if_pos hc] at h;cases h
  ·rw[if_neg hc,ah] at h;simp only[Bool.or_eq_true,not_or,Bool.not_eq_true] at hc;obtain⟨is,h1,h⟩:=h;rw[ae] at h;obtain⟨ce,h2,rfl⟩:=h;obtain⟨a1,a2,a3⟩:=qZ C.c h1;refine z0 (zw C.c.calm a1 a2 a3) (eX n C.c _ _ h2).1 (nR hc.1) ?_ rfl;obtain⟨_,hc⟩:=hc;cases e<;>first | rfl | (cases hc)
 ·rename_i o ix p;by_cases hc:(gJ e || !iY ix)=true
  ·rw[if_pos hc] at h;cases h
  ·rw[if_neg hc,ah] at h;simp only[Bool.or_eq_true,not_or,Bool.not_eq_true,Bool.not_eq_false'] at hc;obtain⟨q,h1,h⟩:=h;rw[ah] at h;obtain⟨ci,h2,h⟩:=h;rw[ae] at h;obtain⟨ce,h3,rfl⟩:=h;refine cJ (xU (eX n C.c _ _ h3).1 (Eg (jv C.c h1) (eX n C.c _ _ h2).1 set_list ?_) (nR hc.1) ?_ rfl) fun D σ H h=>xO h
   ·intro v;obtain⟨_,hc⟩:=hc;cases ix<;>first | rfl | (cases hc)
   ·cases e<;>rfl
 ·cases h
theorem D0 (C:qk X S T) {n:Nat}{o:Expr}{name:Str}{es:List Expr}{c:St}{apos cpos pos:Pos}(h:Ai n S o name es apos cpos=some c):PS X (.Expr (.Call (.Attribute o name apos) es [] cpos) pos) (tS X.K T c):=by
 unfold Ai at h;by_cases hl:(apos.endLine==cpos.line)=true
 ·rw[if_pos hl] at h;by_cases he:es.isEmpty=true
  ·rw[if_pos he,ah] at h;have he:es=[]:=by simpa using he
   subst he;obtain⟨m,hm,h⟩:=h;rw[ae] at h;obtain⟨q,hq,rfl⟩:=h;have slot:∃ id,PySem.Slot "list" name id∧typeOf (.builtin id)=pure (.type "method_descriptor")∧MtR X id (vU X.K m):=by
    unfold yV at hm;cases hm
   obtain⟨id,s1,s2,s3⟩:=slot;exact cJ (kf (D2 fh s1 s2 s3 (jv C.c hq) (gW hq) hl) rfl) fun D σ H h=>vN h
  rw[if_neg he,ah] at h;obtain⟨m,hm,h⟩:=h;rw[ah] at h;obtain⟨q,hq,h⟩:=h;have slot:∃ id,PySem.Slot "list" name id∧typeOf (.builtin id)=pure (.type "method_descriptor")∧MtR X id (vU X.K m):=by
   unfold BS at hm;split at hm
   ·rename_i e;cases hm;subst e;exact⟨_,PySem.F.slot_list_append,by rfl,l9⟩
   cases hm
  obtain⟨id,s1,s2,s3⟩:=slot;split at h
  ·rename_i a;rw[ae] at h;obtain⟨cs,ha,rfl⟩:=h;obtain⟨n1,c1,d1,_,hd,_⟩:=bH ha;refine cJ (kf (uM fh s1 s2 s3 (jv C.c hq) (dH (eX n C.c) ha) (gW hq) ?_ hl (be n1) (dY hd)) rfl) fun D σ H h=>lX h
   rw[be n1];rfl
  ·rename_i a b;rw[ae] at h;obtain⟨cs,ha,rfl⟩:=h;obtain⟨n1,c1,d1,_,hd,_⟩:=bH ha;obtain⟨n2,_,_,_,_,_⟩:=bH hd;refine cJ (kf (uM fh s1 s2 s3 (jv C.c hq) (dH (eX n C.c) ha) (gW hq) ?_ hl (be n1) (dY hd)) rfl) fun D σ H h=>lX h
   rw[be n1,be n2];rfl
  ·cases h
 ·rw[if_neg hl] at h;cases h
theorem AK (C:qk X S T) {n:Nat}{o:Expr}{name:Str}{es:List Expr}{c:St}{apos cpos pos:Pos}(h:qy n S o name es apos cpos=some c):PS X (.Expr (.Call (.Attribute o name apos) es [] cpos) pos) (tS X.K T c):=by
 unfold qy at h;split at h
 ·rename_i o2 name2 apos2 a cpos2;by_cases hc:name = "append"∧name2 = "pop"∧(apos.endLine==cpos.line)=true∧(apos2.endLine==cpos2.line)=true
  ·rw[if_pos hc] at h;obtain⟨rfl,rfl,h1,h2⟩:=hc;split at h
   ·rename_i y x hy hx;rw[ae] at h;obtain⟨cs,ha,rfl⟩:=h;obtain⟨n1,c1,d1,_,hd,_⟩:=bH ha;refine cJ (kf (uM fh PySem.F.slot_list_append (by rfl) l9 (jv C.c hy) (fZ (uM fh PySem.F.slot_list_pop (by rfl) Bk (jv C.c hx) (dH (eX n C.c) ha) (gW hx) ?_ h2 (be n1) (dY hd)) mJ) (gW hy) rfl h1 rfl rfl) rfl) fun D σ H h=>wK h
    rw[be n1];rfl
   ·cases h
  ·rw[if_neg hc] at h;cases h
 ·cases h
theorem C9 (C:qk X S T) {n:Nat}{tg e:Expr}{c:St}{pos:Pos}(h:Bh n S tg e=some c):PS X (.Assign [tg] e pos) (tS X.K T c):=by
 cases h
theorem BV (C:qk X S T):∀(n:Nat),(∀(st:Stmt) (c:St),cS n S st=some c→PS X st (tS X.K T c))∧∀(l:List Stmt) (c:bF),tZ n S l=some c→jJ X l (Ae X.K T c):=by
 intro n
 induction n with
 |zero=>exact⟨fun st c h=>(by cases h),fun l c h=>(by cases h)⟩
 |succ n ih =>
  obtain⟨i1,i2⟩:=ih;refine⟨fun st c h=>?_,fun l c h=>?_⟩
  ·cases st with
   |Assign tgs e p =>
    have h:cAs n S e tgs=some c:=h;cases tgs with
    |nil=>cases h
    |cons tg r=>cases r with
     |cons _ _=>cases h
     |nil =>
      have h:(match Bh n S tg e with
       |some c=>some c
       |none=>Ao n S tg e)=some c:=h
      cases hp:Bh n S tg e with
      |some c'=>rw[hp] at h;cases h;exact C9 C hp
      |none=>rw[hp] at h;exact DC C h
   |AugAssign tg op e p=>cases h
   |Expr e p =>
    have h:Gq n S e=some c:=h;have plain:ET n S e=some c→PS X (.Expr e p) (tS X.K T c):=fun h=>by
     unfold ET at h;by_cases hc:gJ e=true
     ·rw[if_pos hc] at h;cases h
     ·rw[if_neg hc,ae] at h;obtain⟨ce,h1,rfl⟩:=h;exact Bx (eX n C.c _ _ h1).1 (ph (by simpa using hc))
    cases e with
    |Constant k x1 q=>cases k with
     |str s=>cases h;exact DT
     |_=>exact plain h
    |Call g es ks q=>cases g with
     |Attribute o name apos=>cases ks with
      |nil =>
       have h:(match qy n S o name es apos q with
        |some c=>some c
        |none=>Ai n S o name es apos q)=some c:=h
       cases ha:qy n S o name es apos q with
       |some c'=>rw[ha] at h;cases h;exact AK C ha
       |none=>rw[ha] at h;exact D0 C h
      |cons k ks=>exact plain h
     |_=>exact plain h
    |_=>exact plain h
   |Return o p=>cases o with
    |none=>cases h;exact Ay
    |some e =>
     have h:(cE n S e).map .ret=some c:=h;rw[ae] at h;obtain⟨ce,h1,rfl⟩:=h;exact Cu (eX n C.c _ _ h1).1
   |If e a b p =>
    have h:((cE n S e).bind fun c=>(tZ n S a).bind fun ca=>(tZ n S b).map fun cb=>St.ite c ca cb)=some c:=h;rw[ah] at h;obtain⟨cc,h1,h⟩:=h;rw[ah] at h;obtain⟨ca,h2,h⟩:=h;rw[ae] at h;obtain⟨cb,h3,rfl⟩:=h;exact EG (eX n C.c _ _ h1).2 (i2 _ _ h2) (i2 _ _ h3)
   |For tg iter b oe p =>
    have key:∀ c,Gv n S tg iter (tZ n S b) oe=some c→PS X (.For tg iter b oe p) (tS X.K T c):=by
     intro c h;cases oe with
      |cons _ _=>cases h
      |nil =>
       have h:(if iL iter then (wJ S tg).bind fun t=>(tZ n S b).bind fun cb=>(match ud t cb with
        |some x=>(cE n S iter).map fun c=>St.forw x c cb
        |none=>(EV S (cE n S) (isTup tg) iter).map fun it=>St.forr t it cb) else none)=some c:=h
       by_cases hs:iL iter=true
       ·rw[if_pos hs,ah] at h;obtain⟨t,h1,h⟩:=h;rw[ah] at h;obtain⟨cb,h3,h⟩:=h;cases hx:ud t cb with
        |some x =>
         rw[hx] at h;have h:(cE n S iter).map (fun c=>St.forw x c cb)=some c:=h;rw[ae] at h;obtain⟨ci,h2,rfl⟩:=h;have ht:=zk hx;subst ht;cases hx
        |none =>
         rw[hx] at h;have h:(EV S (cE n S) (isTup tg) iter).map (fun it=>St.forr t it cb)=some c:=h;rw[ae] at h;obtain⟨it,h2,rfl⟩:=h;exact Dn C.own C.c.calm (B1 C.c (eX n C.c) h2) (xH C.c h1) (i2 _ _ h3) (r9 hs)
       ·rw[if_neg hs] at h;cases h
    exact key c h
   |While e b oe p=>cases oe with
    |cons _ _=>cases h
    |nil =>
     have h:((cE n S e).bind fun c=>(tZ n S b).map fun cb=>St.whl c cb)=some c:=h;rw[ah] at h;obtain⟨cc,h1,h⟩:=h;rw[ae] at h;obtain⟨cb,h3,rfl⟩:=h;exact CD C.own (eX n C.c _ _ h1).2 (i2 _ _ h3)
   |Pass p=>cases h;exact AQ
   |Raise a b p=>cases h;exact Bb
   |Break p=>cases h;exact Et
   |Continue p=>cases h;exact EC
   |_=>cases h
  ·cases l with
   |nil=>cases h;exact uQ
   |cons st r =>
    unfold tZ at h;rw[ah] at h;obtain⟨cc,h1,h⟩:=h;rw[ae] at h;obtain⟨cb,h3,rfl⟩:=h;exact rK (i1 _ _ h1) (i2 _ _ h3)
end
end Pc
end
section
namespace Pc
open PySem PySem.Spec PyProof.Rows L2
structure Df where
 nm:Str
 st:Stmt
 ps:List Str
 N:List Str
 body:bF
structure Pg where
 dfs:List Df
 wM:List Str
 eU:List Str
 gl:Nat→D
 fuel:Nat
noncomputable def Pg.fns (p:Pg):List Fn:=p.dfs.map fun d=>⟨d.ps.length,d.N.length,d.body⟩
noncomputable def Pg.run (p:Pg):Nat→Nat→List D→Rs (D×Bool):=Pc.run p.fns p.gl p.fuel
noncomputable def Pg.sc (p:Pg) (d:Df):Sc:=⟨d.N,aE d.st,p.dfs.map (·.nm),p.wM,p.eU⟩
noncomputable def Df.okB (p:Pg) (n:Nat) (d:Df):Bool :=
 decide ((aE d.st).kind = .function) && !(aE d.st).isCoroutine && !(aE d.st).isGenerator&&decide d.N.Nodup&&decide (d.N.take d.ps.length=d.ps)&&d.ps.all (fun x=>kH (aE d.st) x)&&(aE d.st).names.all (fun y=>decide (y.2≠.free))
structure Df.Ok (p:Pg) (d:Df):Prop where
 b:∃ n,tZ n (p.sc d) (bM d.st)=some d.body
 S:eF d.N d.ps (aE d.st)
 bd:∀(kV doc pm:Value) (an:Option Addr) (cdv ct:Value) (us:List Value),us.length=d.ps.length→bindArgs (PySem.W.fnOf d.nm d.nm (eE d.st) (bM d.st) (aE d.st) .none kV doc pm an cdv ct) ⟨us,[]⟩=pure (d.ps.zip us)
theorem ki {sc:Scope}{x:Str}(h:kH sc x=true):Loc sc x:=by
 unfold kH dW at h;split at h
 ·rename_i e;exact .inl e
 ·rename_i e;exact .inr e
 ·cases h
theorem qx {sc:Scope}{x:Str}(h:nN sc x=true):B8 sc x:=by
 unfold nN dW at h;split at h
 ·rename_i e;exact .inl e
 ·rename_i e;exact .inr (.inl e)
 ·rename_i e;exact .inr (.inr e)
 ·cases h
theorem uY {sc:Scope}{x:Str}(h:r6 sc x=true):sc.names.lookup x=some .globalImplicit:=by
 unfold r6 dW at h;split at h
 ·rename_i e;exact e
 ·cases h
theorem len0 {P:List Value→Prop}{us:List Value}(h:us.length=0) (f:P []):P us:=by
 cases us with
 |nil=>exact f
 |cons a r=>cases h
theorem Gc {P:List Value→Prop}{us:List Value}(h:us.length=1) (f:∀ a,P [a]):P us:=by
 cases us with
 |nil=>cases h
 |cons a r=>exact len0 (P:=fun r=>P (a::r)) (Nat.succ.inj h) (f a)
theorem DJ {P:List Value→Prop}{us:List Value}(h:us.length=2) (f:∀ a b,P [a,b]):P us:=by
 cases us with
 |nil=>cases h
 |cons a r=>exact Gc (P:=fun r=>P (a::r)) (Nat.succ.inj h) (f a)
theorem Du {P:List Value→Prop}{us:List Value}(h:us.length=3) (f:∀ a b c,P [a,b,c]):P us:=by
 cases us with
 |nil=>cases h
 |cons a r=>exact DJ (P:=fun r=>P (a::r)) (Nat.succ.inj h) (f a)
theorem len4 {P:List Value→Prop}{us:List Value}(h:us.length=4) (f:∀ a b c d,P [a,b,c,d]):P us:=by
 cases us with
 |nil=>cases h
 |cons a r=>exact Du (P:=fun r=>P (a::r)) (Nat.succ.inj h) (f a)
theorem Df.ok_of {p:Pg}{d:Df}{n:Nat}(h:d.okB p n=true) (hb:tZ n (p.sc d) (bM d.st)=some d.body)
  (bd:∀(kV doc pm:Value) (an:Option Addr) (cdv ct:Value) (us:List Value),us.length=d.ps.length→bindArgs (PySem.W.fnOf d.nm d.nm (eE d.st) (bM d.st) (aE d.st) .none kV doc pm an cdv ct) ⟨us,[]⟩=pure (d.ps.zip us)):d.Ok p:=by
 unfold Df.okB at h;simp only[Bool.and_eq_true,decide_eq_true_eq,Bool.not_eq_true',List.all_eq_true] at h;obtain⟨⟨⟨⟨⟨⟨h1,h2⟩,h3⟩,h4⟩,h5⟩,h6⟩,h7⟩:=h;exact⟨⟨n,hb⟩,⟨h1,h2,h3,h4,h5,fun x hx=>ki (h6 x hx),h7⟩,bd⟩
structure Pg.In (p:Pg) (K:Frag) (mg:Str→Option Value):Prop where
 fn:∀(i:Nat) (d:Df),p.dfs[i]? = some d→∃ f fd,L2.vk K d.nm d.nm d.st f fd∧mg d.nm=some (.ref f)
 gl:∀ i x,idxOf p.wM x=some i→∃ v u,mg x=some u∧RelV v u∧∀ H,Rep K H (p.gl i) v []
 blt:∀ x,p.eU.contains x=true→mg x=none
theorem k7 {ds:List D}{n i:Nat}{d:D}{t:Tg}(h:(aF ds n)[i]? = some (some (d,t))):ds[i]? = some d∧t=cG d []:=by
 unfold aF at h;by_cases hi:i<ds.length
 ·rw[List.getElem?_append_left (by simpa using hi),List.getElem?_map] at h;rw[List.getElem?_eq_getElem hi] at h ⊢;simp only[Option.map_some,Option.some.injEq,Prod.mk.injEq] at h;obtain⟨h1,h2⟩:=h;subst h1;exact⟨rfl,h2.symm⟩
 ·rw[List.getElem?_append_right (by simpa using Nat.le_of_not_lt hi),List.getElem?_replicate] at h;split at h<;>cases h
theorem aI.parts {K:Frag}{H:Hp}:∀{ds:List D}{vs:List V}{G:List Addr},aI K H ds vs G→∃ F:Nat→List Addr,(∀ i d,ds[i]? = some d→∃ v,vs[i]? = some v∧Rep K H d v (F i))∧(∀ i,ds[i]? = none→F i=[])∧∀ i,∀ a∈F i,a∈G
 |_,_,_,.nil=>⟨fun _=>[],fun i d h=>(by simp at h),fun _ _=>rfl,fun _ _ h=>(nomatch h)⟩
 | _,_,_,.cons (d:=d) (v:=v) (ds:=ds) (vs:=vs) (G:=G1) (G':=G2) r s=>by
  obtain⟨F,h1,h2,h3⟩:=aI.parts s;refine⟨fun i=>match i with | 0=>G1 | j+1=>F j,fun i e h=>?_,fun i h=>?_,fun i a h=>?_⟩
  ·cases i with
   |zero=>cases h;exact⟨v,rfl,r⟩
   |succ j=>exact h1 j e (by simpa using h)
  ·cases i with
   |zero=>cases h
   |succ j=>exact h2 j (by simpa using h)
  ·cases i with
   |zero=>exact ay _ h
   |succ j=>exact ao _ (h3 j a h)
theorem entry {K:Frag}{H:Hp}{ds:List D}{vs:List V}{G:List Addr}{N:List Str}(hr:aI K H ds vs G) (hl:ds.length≤N.length):∃ F,RE K (fun a=>H a≠none) (aF ds N.length) (L2.start N vs) H F∧∀ i,∀ a∈F i,a∈G:=by
 obtain⟨F,h1,h2,h3⟩:=hr.parts;have flat:∀ i d t,(aF ds N.length)[i]? = some (some (d,t))→bJ t=true→F i=[]:=fun i d t h o=>by
  obtain⟨e1,e2⟩:=k7 h;obtain⟨v,_,rp⟩:=h1 i d e1;unfold cG at e2;by_cases hf:d.flat=true
  ·exact rp.flat hf
  ·rw[if_neg hf] at e2;subst e2;cases o
 refine⟨F,⟨?_,fun i d t h=>?_,fun i h=>?_,fun i d t h o=>?_,fun i d h a ha=>?_,fun a h=>h⟩,h3⟩
 ·simp only[aF,L2.start,List.length_append,List.length_map,List.length_replicate,hr.len]
 ·obtain⟨e1,e2⟩:=k7 h;obtain⟨v,e3,rp⟩:=h1 i d e1;refine⟨v,?_,rp⟩;unfold L2.start;have hi:i<vs.length:=(List.getElem?_eq_some_iff.mp e3).1;rw[List.getElem?_append_left (by simpa using hi),List.getElem?_map,e3];rfl
 ·cases e:ds[i]? with
  |none=>exact h2 i e
  |some d =>
   refine absurd ?_ (h d (cG d []));unfold aF;have hi:i<ds.length:=(List.getElem?_eq_some_iff.mp e).1;rw[List.getElem?_append_left (by simpa using hi),List.getElem?_map,e];rfl
 ·rw[flat i d t h o];exact⟨bz,fun _ h=>(nomatch h),fun _ h=>(nomatch h)⟩
 ·rw[flat i d _ h rfl] at ha;cases ha
theorem oE {α:Type}{g:α→Str}:∀{l:List α}{x:Str}{i:Nat},idxOf (l.map g) x=some i→∃ a,l[i]? = some a∧g a=x:=by
 intro l x i h;have:=bZ h;rw[List.getElem?_map,ae] at this;exact this
theorem kl {H H':Hp}(e:kq (fun a=>H a≠none) H H'):aN H H':=fun b u h=>(e.keep b (by rw[h];exact fun z=>(by cases z))).trans h
section
variable {p:Pg}{P:Program}{w:World}{K:Frag}{mg:Str→Option Value}{base:Heap}
end
end Pc
end
section
namespace Pc
open PySem PySem.Spec PyProof.Rows L2
noncomputable def noL (K:Frag):Bool:=K.all fun p=>match p.2.cls with
 |.type n=>!(n == "list")
 |_=>true
theorem lookup_mem:∀{K:Frag}{a:Addr}{o:Obj},K.lookup a=some o→(a,o)∈K
 |[],_,_,h=>by cases h
 | (b,x)::r,a,o,h=>by
  rw[c8] at h;cases e:a==b with
  |true =>
   rw[e] at h;cases h;rw[g6] at e;rw[e];exact ag
  |false=>rw[e] at h;exact aa _ (lookup_mem h)
theorem DP {K:Frag}{a:Addr}{o:Obj}(h:noL K=true) (l:K.lookup a=some o) (c:o.cls = .type "list"):False:=by
 unfold noL at h;rw[bw] at h;have:=h _ (lookup_mem l);rw[c] at this;simp at this
theorem oK {K:Frag}{H:Hp}:∀ ns:List Int,aI K H (ns.map D.int) (ns.map V.int) []
 |[]=>.nil
 |n::r=>.cons (.int n) (oK r)
theorem Ew {K:Frag}{H:Hp}{a:Addr}{ns:List Int}{f:List D→Rs (D×Bool)}{E:XK}{fr:Bool}(hL:noL K=true) (hS:ky K H a (ns.map V.int)) (hf:f [.lst (ns.map D.int)] = .ok (.bl true,fr)):Bq K 1 f [.ref a] H (fun v _=>v = .bl true) E:=by
 rcases hS with h | ⟨o,its,n,h1,h2,_⟩
 ·refine⟨[.lst (ns.map D.int)],[a] ++ [],rfl,.cons (.lst h (oK ns)) .nil,(.bl true,fr),hf,fun v H' G' _ rp _ _=>?_⟩;exact rp.bl_inv.1
 ·exact (DP hL h1 h2).elim
noncomputable def uj (es:List DictEntry):Bool:=es.all (fun e=>match e.val with
  |.int _ _=>true
  |.none=>true
  |_=>false)&&es.any (fun e=>match e.key with
  |.str _ _=>true
  |_=>false)
noncomputable def noS (as:List Addr) (K:Frag):Bool:=K.all fun p=>as.contains p.1 || match p.2.data with
 |.dict es _=>!uj es.toList
 |_=>true
theorem nH.vals {es:List DictEntry}{kvs:List (Key×Option Int)}(h:nH es kvs):es.all (fun e=>match e.val with
  |.int _ _=>true
  |.none=>true
  |_=>false)=true:=by
 induction h with
 |nil=>rfl
 |cons hh hk hv r ih=>rw[dh,hv,ih];rfl
 |si hk hv r ih=>rw[dh,hv,ih];rfl
 |sn hk hv r ih=>rw[dh,hv,ih];rfl
theorem FA {w:World}{K:Frag}(as:List Addr) (h:noS as K=true) (h0:∀ a∈as,∀ o es ep,K.lookup a=some o→o.data = .dict es ep→∀ e∈es.toList,∀ s t,e.key = .str s t→(a==sysModules)=false∧e.hash=hashStr w s):wO w K:=by
 intro a o es ep hl hd kvs he e hm s t hk;by_cases ha:a∈as
 ·exact h0 a ha o es ep hl hd e hm s t hk
 ·unfold noS at h;rw[bw] at h;have:=h _ (lookup_mem hl);dsimp only at this;rw[hd,show as.contains a=false by rw[Bool.eq_false_iff];intro z;exact ha (List.contains_iff_mem.mp z),Bool.false_or] at this;dsimp only at this;unfold uj at this;rw[he.vals,ig,fb] at this;have h2:es.toList.any (fun e=>match e.key with
   |.str _ _=>true
   |_=>false)=true:=by
   rw[List.any_eq_true];exact⟨e,hm,by rw[hk]⟩
  rw[h2] at this;cases this
noncomputable def hashes (w:World):List DictEntry→Prop
 |[]=>True
 |e::r=>(match e.key with
  |.str s _=>e.hash=hashStr w s
  |_=>True)∧hashes w r
theorem Cp {w:World}{K:Frag}(h:noS [] K=true):wO w K:=FA [] h fun a ha=>(nomatch ha)
noncomputable def Has (K:Frag) (d:Df):Prop:=∃(f:Addr) (oc:Value) (od:Option Addr) (kV dc pm:Value) (an:Option Addr) (cd ct:Value) (sl:Array (Option Value)),
 PySem.W.nsIn K mainGlobals d.nm=some (some (.ref f))∧K.lookup f=some ⟨oc,od,.func (PySem.W.fnOf d.nm d.nm (eE d.st) (bM d.st) (aE d.st) .none kV dc pm an cd ct),sl⟩∧PySem.W.codeIn K cd d.nm=true∧PySem.W.keepIn K (.ref f)=true
noncomputable def rF (K:Frag) (x:Str) (d:D):Prop:=∃ v u,PySem.W.nsIn K mainGlobals x=some (some u)∧RelV v u∧∀ H,Rep K H d v []
noncomputable def vD {α:Type}(P:α→Prop):List α→Prop
 |[]=>True
 |a::r=>P a∧vD P r
theorem gY {α:Type}{P:α→Prop}:∀{l:List α},vD P l→∀ a∈l,P a
 |[],_,a,h=>by cases h
 | b::r,⟨h1,h2⟩,a,h=>by
  rcases et.mp h with rfl | h
  ·exact h1
  ·exact gY h2 a h
structure se (p:Pg) (K:Frag):Prop where
 fn:vD (Has K) p.dfs
 gl:∀ i x,idxOf p.wM x=some i→rF K x (p.gl i)
 blt:vD (fun x=>PySem.W.nsIn K mainGlobals x=some none) p.eU
theorem se.isin {p:Pg}{K:Frag}{h:Heap}{mg:Str→Option Value}(s:se p K) (X:K.In h) (G:h.Ns mainGlobals mg):p.In K mg where
 fn:=fun i d hd=>by
  obtain⟨f,oc,od,kV,dc,pm,an,cd,ct,sl,a,l,c,k⟩:=gY s.fn d (List.mem_of_getElem? hd);exact⟨f,_,Dy (st:=d.st) l c k,PySem.W.mg_of X G a⟩
 gl:=fun i x hx=>by
  obtain⟨v,u,a,b,c⟩:=s.gl i x hx;exact⟨v,u,PySem.W.mg_of X G a,b,c⟩
 blt:=fun x hx=>PySem.W.mg_none_of X G (gY s.blt x (by simpa using hx))
end Pc
end
section
namespace Pc
open PySem PySem.Spec PyProof.Rows L2
end Pc
end
section
namespace Pc
open PySem
theorem aA {α β:Type}(a:α) (f:α→Rs β):(Rs.ok a).bind f=f a:=rfl
theorem aR {α:Type}(env:En) (a:α) (k:α→Fl):iI env (.ok a) k=k a:=rfl
theorem aD (e:En) (k:En→Fl):(Fl.nx e).andThen k=k e:=rfl
theorem lO (d:D) (b:Bool) (k:En→Fl):(Fl.rt d b).andThen k = .rt d b:=rfl
theorem aM {α:Type}(a:α):gO (some a) = .ok a:=rfl
theorem aO (op:Operator) (i j:Int):nF op (.int i) (.int j)=(Pc.binI op i j).map .int:=by cases op<;>rfl
theorem bR (i:Int) (R:List Nat):ji (.int i) R = .mv []:=rfl
theorem m8:∀ l:List Int,D.flats (l.map D.int)=true
 |[]=>rfl
 |_::r=>m8 r
theorem qV (n:Nat):∀ a b:List Int,a.length=b.length→qz (D.eqf (n+1)) (a.map D.int) (b.map D.int)=some (a==b)
 |[],[],_=>rfl
 | x::a,y::b,h=>by
  simp only[List.map_cons,qz,D.eqf,Option.bind_some];rw[qV n a b (by simpa using h)];simp
 |[],_::_,h=>by simp at h
 |_::_,[],h=>by simp at h
theorem vo (n:Nat) (a b:List Int):D.eqf (n+2) (.lst (a.map D.int)) (.lst (b.map D.int))=some (a==b):=by
 unfold D.eqf;by_cases h:a.length=b.length
 ·rw[if_pos (by simpa using h),qV n a b h]
 ·rw[if_neg (by simpa using h)];have:(a==b)=false:=by
   rw[gv];rintro rfl;exact h rfl
  rw[this]
theorem sD {x:Int}(h:0≤x):Builtin.bitAnd x 1=x%2:=by
 unfold Builtin.bitAnd;rw[dq h];show ((x.toNat &&& 1:Nat):Int)=_;rw[Nat.and_one_is_mod];omega
theorem rB {t:lG}{R:List Nat}{b:En→Fl}(J:Nat→En→Prop):∀(l:List D) (k:Nat) (env:En),J k env →
  (∀(i:Nat) (d:D) (e:En),l[i]? = some d→J (k+i) e→∃ e1 e2,aW R t d e=some e1∧b e1 = .nx e2∧J (k+i+1) e2)→∃ e,bD t R b l env = .nx e∧J (k+l.length) e
 |[],k,env,h,_=>⟨env,rfl,h⟩
 | d::r,k,env,h,st=>by
  obtain⟨e1,e2,h1,h2,h3⟩:=st 0 d env rfl h;obtain⟨e,q1,q2⟩:=rB J r (k+1) e2 h3 fun i d' e hi hj=>by
   have:=st (i+1) d' e (by simpa using hi) (by rw[show k+(i+1)=k+1+i by omega];exact hj);rw[show k+(i+1)+1=k+1+i+1 by omega] at this;exact this
  refine⟨e,?_,by rw[c9,show k+(r.length+1)=k+1+r.length by omega];exact q2⟩;unfold bD;rw[h1];dsimp only;rw[h2];exact q1
end Pc
end
section
namespace Pc
open PySem PySem.Spec PyProof.Rows L2
theorem C8 {K:Frag}{d:Df}{f:Addr}{oc:Value}{od:Option Addr}{kV dc pm:Value}{an:Option Addr}{cd ct:Value}{sl:Array (Option Value)}
 (a:PySem.W.nsIn K mainGlobals d.nm=some (some (.ref f))) (l:K.lookup f=some ⟨oc,od,.func (PySem.W.fnOf d.nm d.nm (eE d.st) (bM d.st) (aE d.st) .none kV dc pm an cd ct),sl⟩) (c:PySem.W.codeIn K cd d.nm=true) (k:PySem.W.keepIn K (.ref f)=true):Has K d :=
 ⟨f,oc,od,kV,dc,pm,an,cd,ct,sl,a,l,c,k⟩
theorem gl_int {K:Frag}{x:Str}{i:Int}{t:Tok}(h:PySem.W.nsIn K mainGlobals x=some (some (.int i t))):rF K x (.int i):=⟨.int i,_,h,⟨t,rfl⟩,fun _=>.int i⟩
noncomputable def pU (K:Frag) (g:Nat→D):Nat→List Str→Prop
 |_,[]=>True
 |i,x::r=>rF K x (g i)∧pU K g (i+1) r
theorem qP {K:Frag}{g:Nat→D}:∀{l:List Str}{k i:Nat}{x:Str},pU K g k l→idxOf l x=some i→rF K x (g (k+i))
 | y::r,k,i,x,⟨h1,h2⟩,e=>by
  unfold idxOf at e;by_cases hx:y=x
  ·rw[if_pos hx] at e;cases e;subst hx;exact h1
  ·rw[if_neg hx,ae] at e;obtain⟨j,hj,rfl⟩:=e;have:=qP h2 hj;rw[show k+1+j=k+(j+1) by omega] at this;exact this
theorem AB {K:Frag}{g:Nat→D}{l:List Str}(h:pU K g 0 l):∀ i x,idxOf l x=some i→rF K x (g i):=fun i x e=>by
 have:=qP h e
 rwa [eo] at this
end Pc
end
section
namespace Fl64
noncomputable def dbl (a:Nat):Nat:=if 64≤2*a then (2*a)^^^67 else 2*a
noncomputable def hX:Nat→Nat→Nat→Nat→Nat
 |0,p,_,_=>p
 |n+1,p,d,l=>if l=0 then p else hX n (if l%2=1 then p^^^d else p) (dbl d) (l / 2)
noncomputable def tm (a b:Nat):Nat:=hX 6 0 a b
noncomputable def allB (n:Nat) (f:Nat→Bool):Bool:=match n with
 |0=>true
 |k+1=>f k&&allB k f
theorem eO:∀{n:Nat}{f:Nat→Bool},allB n f=true→∀ i,i<n→f i=true
 |0,_,_,i,h=>absurd h (fv i)
 | k+1,f,h,i,hi=>by
  unfold allB at h;rw[ai] at h;rcases Nat.lt_succ_iff_lt_or_eq.mp hi with q | q
  ·exact eO h.2 i q
  ·subst q;exact h.1
theorem all2 {f:Nat→Nat→Bool}(h:allB 64 (fun a=>allB 64 (f a))=true) {a b:Nat}(ha:a<64) (hb:b<64):f a b=true:=eO (eO h a ha) b hb
theorem aY {a b:Nat}(ha:a<64) (hb:b<64):tm a b<64:=by
 have:=all2 (f:=fun a b=>decide (tm a b<64)) (by decide +kernel) ha hb;exact du this
theorem dI {a b:Nat}(ha:a<64) (hb:b<64):tm a b=tm b a:=by
 have:=all2 (f:=fun a b=>decide (tm a b=tm b a)) (by decide +kernel) ha hb;exact du this
theorem kB {a:Nat}(ha:a<64):tm a 1=a:=by
 have:=eO (n:=64) (f:=fun a=>decide (tm a 1=a)) (by decide +kernel) a ha;exact du this
theorem mz {a:Nat}(ha:a<64):tm 1 a=a:=by rw[dI (by decide) ha,kB ha]
theorem iE (a:Nat):tm a 0=0:=rfl
theorem cA {a:Nat}(ha:a<64):tm 0 a=0:=by rw[dI (by decide) ha,iE]
theorem aV {a b:Nat}(ha:a<64) (hb:b<64):a^^^b<64:=Nat.xor_lt_two_pow (n:=6) ha hb
theorem yY (b c:Nat):(b^^^c) / 2=(b / 2)^^^(c / 2):=by
 have:=@Nat.shiftRight_xor_distrib 1 b c;simpa[Nat.shiftRight_eq_div_pow] using this
theorem BN (b c:Nat):(b^^^c)%2=(b%2+c%2)%2:=by
 have:=@Nat.xor_mod_two_pow b c 1;rw[Nat.pow_one] at this;rw[this];rcases Nat.mod_two_eq_zero_or_one b with hb | hb<;>rcases Nat.mod_two_eq_zero_or_one c with hc | hc<;>simp[hb,hc]
theorem jI:∀(n p d l:Nat),hX n p d l=p^^^hX n 0 d l
 |0,p,_,_=>by simp[hX]
 | n+1,p,d,l=>by
  unfold hX;by_cases h:l=0
  ·simp[h]
  ·rw[if_neg h,if_neg h,jI n,jI n (if l%2=1 then 0^^^d else 0)];by_cases o:l%2=1
   ·rw[if_pos o,if_pos o,cu,bh]
   ·rw[if_neg o,if_neg o,cu]
theorem kK (n d l:Nat):hX (n+1) 0 d l=(if l%2=1 then d else 0)^^^hX n 0 (dbl d) (l / 2):=by
 have z:∀ n d,hX n 0 d 0=0:=fun n d=>by cases n<;>simp[hX]
 conv=>lhs;unfold hX
 by_cases h:l=0
 ·subst h;simp[z]
 ·rw[if_neg h,jI];by_cases o:l%2=1
  ·rw[if_pos o,if_pos o,cu]
  ·rw[if_neg o,if_neg o]
theorem rz:∀(n d b c:Nat),hX n 0 d (b^^^c)=hX n 0 d b^^^hX n 0 d c
 |0,_,_,_=>by simp[hX]
 | n+1,d,b,c=>by
  rw[kK,kK,kK,yY,rz n,BN];have e:(if (b%2+c%2)%2=1 then d else 0)=(if b%2=1 then d else 0)^^^(if c%2=1 then d else 0):=by
   rcases Nat.mod_two_eq_zero_or_one b with hb | hb<;>rcases Nat.mod_two_eq_zero_or_one c with hc | hc<;>simp[hb,hc]
  rw[e];generalize (if b%2=1 then d else 0)=x;generalize (if c%2=1 then d else 0)=y;generalize hX n 0 (dbl d) (b / 2)=u;generalize hX n 0 (dbl d) (c / 2)=v;rw[bh,bh,←bh y,Nat.xor_comm y u,bh u y v]
theorem jg (a b c:Nat):tm a (b^^^c)=tm a b^^^tm a c:=rz 6 a b c
theorem i0 {a b c:Nat}(ha:a<64) (hb:b<64) (hc:c<64):tm (a^^^b) c=tm a c^^^tm b c:=by
 rw[dI (aV ha hb) hc,jg,dI hc ha,dI hc hb]
noncomputable def fP (c k:Nat):Nat:=if c / 2 ^ k%2=1 then 2 ^ k else 0
theorem yf {c:Nat}(hc:c<64):c=fP c 0^^^(fP c 1^^^(fP c 2^^^(fP c 3^^^(fP c 4^^^fP c 5)))):=by
 have:=eO (n:=64) (f:=fun c=>decide (c=fP c 0^^^(fP c 1^^^(fP c 2^^^(fP c 3^^^(fP c 4^^^fP c 5)))))) (by decide +kernel) c hc;exact du this
noncomputable def asB (a b:Nat):Bool:=allB 6 fun k=>decide (tm (tm a b) (2 ^ k)=tm a (tm b (2 ^ k)))
theorem AO {a b k:Nat}(ha:a<64) (hb:b<64) (hk:k<6):tm (tm a b) (2 ^ k)=tm a (tm b (2 ^ k)):=by
 have:=all2 (f:=asB) (by decide +kernel) ha hb;exact du (eO this k hk)
theorem kG {a b c k:Nat}(ha:a<64) (hb:b<64) (hk:k<6):tm (tm a b) (fP c k)=tm a (tm b (fP c k)):=by
 unfold fP;by_cases h:c / 2 ^ k%2=1
 ·rw[if_pos h,AO ha hb hk]
 ·rw[if_neg h,iE,iE,iE]
theorem cU {a b c:Nat}(ha:a<64) (hb:b<64) (hc:c<64):tm (tm a b) c=tm a (tm b c):=by
 rw[yf hc];simp only[jg];rw[kG ha hb (by decide),kG ha hb (by decide),kG ha hb (by decide),kG ha hb (by decide),kG ha hb (by decide),kG ha hb (by decide)]
end Fl64
end
section
namespace Pc
open PySem
theorem qt:∀(n a b:Nat),a<2 ^ n→(a^^^b)+(a &&& b)=a ||| b
 | 0,a,b,h=>by
  have:a=0:=by simpa using h
  subst this;simp
 | n+1,a,b,h=>by
  have ih:=qt n (a / 2) (b / 2) (by rw[iq] at h;omega);have x1:(a^^^b) / 2=(a / 2)^^^(b / 2):=by have:=@Nat.shiftRight_xor_distrib 1 a b;simpa[Nat.shiftRight_eq_div_pow] using this
  have x2:(a &&& b) / 2=(a / 2) &&& (b / 2):=by have:=@Nat.shiftRight_and_distrib 1 a b;simpa[Nat.shiftRight_eq_div_pow] using this
  have x3:(a ||| b) / 2=(a / 2) ||| (b / 2):=by have:=@Nat.shiftRight_or_distrib 1 a b;simpa[Nat.shiftRight_eq_div_pow] using this
  have y1:=@Nat.xor_mod_two_pow a b 1;have y2:=@Nat.and_mod_two_pow a b 1;have y3:=@Nat.or_mod_two_pow a b 1;rw[Nat.pow_one] at y1 y2 y3;have z:(a%2^^^b%2)+(a%2 &&& b%2)=a%2 ||| b%2:=by
   rcases dw a with ha | ha<;>rcases dw b with hb | hb<;>rw[ha,hb]<;>rfl
  have d1:=Nat.div_add_mod (a^^^b) 2;have d2:=Nat.div_add_mod (a &&& b) 2;have d3:=Nat.div_add_mod (a ||| b) 2;rw[x1,y1] at d1;rw[x2,y2] at d2;rw[x3,y3] at d3;omega
theorem tH (a b:Nat):Builtin.bitAnd (a:Int) (b:Int)=((a &&& b:Nat):Int):=by
 unfold Builtin.bitAnd;rw[dq (fi a),dq (fi b)];rfl
theorem wg (a b:Nat):Builtin.bitOr (a:Int) (b:Int)=((a ||| b:Nat):Int):=by
 unfold Builtin.bitOr Builtin.bitAnd Builtin.bitNot;rw[de (by omega),de (by omega)];have e:∀ c:Nat,(-(-(c:Int) - 1) - 1).toNat=c:=fun c=>by omega
 show -(-((((-(-(a:Int) - 1) - 1).toNat ||| (-(-(b:Int) - 1) - 1).toNat:Nat):Int)) - 1) - 1=_;rw[e,e];omega
theorem cZ (a b:Nat):Builtin.bitXor (a:Int) (b:Int)=((a^^^b:Nat):Int):=by
 unfold Builtin.bitXor;rw[tH,wg,←qt a a b (Nat.lt_two_pow_self)];omega
noncomputable def j7 (g f:Nat):bF:=(.cons (.ite (.cmp .Eq (.bin .Mod (.var 4) (.cst (.int (2)))) (.cst (.int (1)))) (.cons (.asg (.nm 2) (.bin .BitXor (.var 2) (.var 3)) false)
  .nil) .nil)
  (.cons (.asg (.nm 3) (.bin .Mult (.cst (.int (2))) (.var 3)) false)
  (.cons (.ite (.cmp .GtE (.var 3) (.glb g)) (.cons (.asg (.nm 3) (.bin .BitXor (.var 3) (.glb f)) false)
  .nil) .nil)
  (.cons (.asg (.nm 4) (.bin .FloorDiv (.var 4) (.cst (.int (2)))) false)
  .nil))))
noncomputable def tF (g f:Nat):bF:=(.cons (.asg (.nm 2) (.cst (.int (0))) false)
  (.cons (.asg (.nm 3) (.var 0) false)
  (.cons (.asg (.nm 4) (.var 1) false)
  (.cons (.whl (.cmp .Gt (.var 4) (.cst (.int (0)))) (j7 g f))
  (.cons (.ret (.var 2))
  .nil)))))
noncomputable abbrev sI (i:Int):Slot:=some (.int i,.own)
noncomputable abbrev sN (i:Nat):Slot:=some (.int (i:Int),.own)
theorem DK:small 2=true:=by decide
theorem sd {T:Tb}{g f:Nat}(hg:T.gl g = .int 64) (hf:T.gl f = .int 67) (A B p d l:Int) :
  aC T (j7 g f) [sI A,sI B,sI p,sI d,sI l] = .nx [sI A,sI B,sI (if l%2=1 then Builtin.bitXor p d else p),sI (if 64≤2*d then Builtin.bitXor (2*d) 67 else 2*d),sI (l / 2)]:=by
 have e1:(l%2==1)=decide (l%2=1):=rfl;by_cases h1:l%2=1<;>by_cases h2:64≤2*d <;>
  simp[e1,j7,aC,bE,ev,aA,aR,aM,aO,Pc.binI,iU,lI,D.eqf,truth,D.flat,bR,kO,put,Tg.drop,aD,hg,hf,h1,h2,DK]
theorem iK (T:Tb) (A B p d l:Int):((ev T (.cmp .Gt (.var 4) (.cst (.int 0))) [sI A,sI B,sI p,sI d,sI l]).bind fun p=>gO (truth p.1)) = .ok (decide (0<l)):=by
 simp[ev,aA,aM,iU,lI,truth,D.flat]
theorem oB {T:Tb}{g f:Nat}(hg:T.gl g = .int 64) (hf:T.gl f = .int 67) (A B:Int):∀(n fuel p d l:Nat),l<2 ^ n→n<fuel →
  ∃ d' l':Int,iT (fun env=>(ev T (.cmp .Gt (.var 4) (.cst (.int 0))) env).bind fun p=>gO (truth p.1)) (aC T (j7 g f)) fuel [sI A,sI B,sN p,sN d,sN l] = .nx [sI A,sI B,sN (Fl64.hX n p d l),sI d',sI l']
 |n,0,p,d,l,_,hf'=>absurd hf' (fv _)
 | 0,fuel+1,p,d,l,hl,_=>by
  have:l=0:=by simpa using hl
  subst this;refine⟨d,0,?_⟩;rw[iT,iK];rfl
 | n+1,fuel+1,p,d,l,hl,hn=>by
  rw[iT,iK,aR];by_cases h0:l=0
  ·subst h0;refine⟨d,0,?_⟩;rfl
  ·have hp:decide ((0:Int)<(l:Int))=true:=by rw[br];omega
   rw[if_pos hp,sd hg hf];have e1:(if (l:Int)%2=1 then Builtin.bitXor (p:Int) (d:Int) else (p:Int))=((if l%2=1 then p^^^d else p:Nat):Int):=by
    rw[cZ];by_cases h:l%2=1
    ·rw[if_pos h,if_pos (by omega)]
    ·rw[if_neg h,if_neg (by omega)]
   have e2:(if 64≤2*(d:Int) then Builtin.bitXor (2*(d:Int)) 67 else 2*(d:Int))=((Fl64.dbl d:Nat):Int):=by
    unfold Fl64.dbl;by_cases h:64≤2*d
    ·rw[if_pos h,if_pos (by omega)];exact cZ (2*d) 67
    ·rw[if_neg h,if_neg (by omega)];simp
   have e3:(l:Int) / 2=((l / 2:Nat):Int):=by omega
   rw[e1,e2,e3];obtain⟨d',l',h⟩:=oB hg hf A B n fuel (if l%2=1 then p^^^d else p) (Fl64.dbl d) (l / 2) (by rw[iq] at hl;omega) (by omega);refine⟨d',l',?_⟩;dsimp only;rw[h]
   conv=>rhs;unfold Fl64.hX
   rw[if_neg h0]
noncomputable def ret (f:Fl):Rs (D×Bool):=match f with
 |.rt d fr=>.ok (d,fr)
 |.nx _=>.ok (.non,true)
 |.xc e _=>.exc e
 |_=>.bad
theorem bI {fns:List Fn}{gl:Nat→D}{fuel n i:Nat}{F:Fn}{ds:List D}(h:fns[i]? = some F) (hl:ds.length=F.ps):Pc.run fns gl fuel (n+1) i ds=ret (aC ⟨Pc.run fns gl fuel n,gl,fuel⟩ F.body (aF ds F.slots)):=by
 unfold Pc.run;rw[h];dsimp only;rw[if_pos hl];rfl
theorem ya {T:Tb}{g f:Nat}(hg:T.gl g = .int 64) (hf:T.gl f = .int 67) (hfu:7≤T.fuel) (a b:Nat) (hb:b<64):ret (aC T (tF g f) (aF [.int a,.int b] 5)) = .ok (.int (Fl64.tm a b:Nat),true):=by
 have hst:aF [.int a,.int b] 5=[sN a,sN b,none,none,none]:=rfl;rw[hst];unfold tF;have h1:bE T (.asg (.nm 2) (.cst (.int 0)) false) [sN a,sN b,none,none,none] = .nx [sN a,sN b,sI 0,none,none]:=rfl;have h2:bE T (.asg (.nm 3) (.var 0) false) [sN a,sN b,sI 0,none,none] = .nx [sN a,sN b,sI 0,sN a,none]:=rfl;have h3:bE T (.asg (.nm 4) (.var 1) false) [sN a,sN b,sI 0,sN a,none] = .nx [sN a,sN b,sI 0,sN a,sN b]:=rfl;rw[aC,h1,aD,aC,h2,aD,aC,h3,aD,aC];obtain⟨d',l',h⟩:=oB (T:=T) hg hf a b 6 T.fuel 0 a b hb (by omega);have h4:bE T (.whl (.cmp .Gt (.var 4) (.cst (.int 0))) (j7 g f)) [sN a,sN b,sI 0,sN a,sN b] = .nx [sN a,sN b,sN (Fl64.tm a b),sI d',sI l']:=by
  rw[bE];exact h
 rw[h4,aD];show ret (aC T (.cons (.ret (.var 2)) .nil) [sN a,sN b,sI ((Fl64.tm a b:Nat):Int),sI d',sI l'])=_;generalize ((Fl64.tm a b:Nat):Int)=x;rfl
theorem xX {a m:Int}(h0:0≤a) (h1:a<m):∃ n:Nat,a=(n:Int)∧(n:Int)<m:=⟨a.toNat,by omega,by omega⟩
noncomputable abbrev sS (S:List D):Slot:=some (.lst S,.sh [])
theorem xT {x:Int}(h0:0≤x) (h1:x<2147483648):small x=true:=dq ⟨by omega,by omega⟩
theorem gL {n k:Nat}(h:k<n):jy n (k:Int)=some k:=by
 unfold jy;rw[if_pos (by omega),if_pos (by omega),bj]
theorem ou:∀(n:Nat) (a:Int) (i:Nat) (d:D),(bC a 1 n)[i]? = some d→i<n∧d = .int (a+i)
 |0,a,i,d,h=>by simp[bC] at h
 |n+1,a,0,d,h=>by simp[bC] at h;exact⟨by omega,by rw[←h];simp⟩
 | n+1,a,i+1,d,h=>by
  rw[bC,List.getElem?_cons_succ] at h;obtain⟨h1,h2⟩:=ou n (a+1) i d h;refine⟨by omega,?_⟩;rw[h2];congr 1;omega
theorem zj (env:En):lock [] env=env:=by
 unfold lock;have:∀(l:En) (k:Nat),(l.mapIdx fun i (s:Slot)=>match s with
  | some (d,.own)=>if ([]:List Nat).contains i then some (d,.lk) else some (d,.own)
  |s=>s)=l:=fun l k=>by
  rw[List.mapIdx_eq_iff];intro i;cases h:l[i]? with
  |none=>rfl
  |some s =>
   cases s with
   |none=>rfl
   |some p=>obtain⟨d,t⟩:=p;cases t<;>rfl
 exact this env 0
theorem tL (e0 env:En):unlock [] e0 env=env:=by
 unfold unlock;rw[List.mapIdx_eq_iff];intro i;cases h:env[i]? with
 |none=>rfl
 |some s =>
  cases s with
  |none=>rfl
  |some p =>
   obtain⟨d,t⟩:=p;cases t with
   |lk =>
    simp only[Option.map_some];split<;>rfl
   |own=>rfl
   |sh R=>rfl
theorem cN {T:Tb}{t:lG}{it:rT}{b:bF}{env e:En}{l:List D}(hit:fQ T it env = .ok (l,[])) (h:bD t [] (aC T b) l env = .nx e):bE T (.forr t it b) env = .nx e:=by
 rw[bE,hit,aR];dsimp only;rw[zj,h];dsimp only;rw[tL]
end Pc
end
section
namespace Pc
open PySem PySem.Spec PyProof.Rows L2
section
variable {X:Cx}
end
noncomputable def Bf (B:Heap) (fr:List Addr) (H':Hp) (h h':Heap):Prop:=∀ b o,h'.get? b=some o→b∈fr∨B.get? b=some o∨(h.get? b=none∧H' b=none)
theorem rk {P:Program}{w:World}{H:Hp}{h h':Heap}(x:kx P w H h) (k:∀ b o,H b≠none→h.get? b=some o→h'.get? b=some o):kx P w H h':=fun a o e =>
 (x a o e).stay (fun b u hb q=>k b u (by rcases hb with rfl | hb<;>(intro z;simp_all)) q) (fun _ q=>q) fun _ _ q=>q
end Pc
end
section
namespace Pc
open PySem PySem.Spec PyProof.Rows L2
structure B5 (X:Cx) (H H':Hp) (s:Shared) (B h:Heap):Prop where
 un:Un (fW X.stack) [] H H' s.heap h
 hok:kx X.prog X.w H' h
 bf:Bf B (fW X.stack) H' s.heap h
section
variable {X:Cx}{pins:List (Addr×Obj)}{σ:L2.St}{H H':Hp}{s:Shared}{B h h':Heap}
theorem B5.frFree (F:B5 X H H' s B h) (I:Inv X pins σ H s):∀ b∈fW X.stack,H' b=none:=fun b hb=>by
 obtain⟨_,o,e,_⟩:=I.stack.mem hb;exact F.un.free b o e (I.stkFree b hb) (by simp)
theorem B5.next (F:B5 X H H' s B h) (I:Inv X pins σ H s) (st:B.StaysIn h') (fr:∀ b∈fW X.stack,∃ o,h.get? b=some o∧∀ vs,o.data≠.fields vs) (ut:h.UpToSlots h'):B5 X H H' s B h':=by
 have keep:∀ b o,h.get? b=some o→b∉fW X.stack→(s.heap.get? b≠none∨H' b≠none)→h'.get? b=some o:=fun b o e hf hn=>by
  rcases F.bf b o e with z | z | ⟨z1,z2⟩
  ·exact absurd z hf
  ·exact st b o z
  ·rcases hn with hn | hn
   ·exact absurd z1 hn
   ·exact absurd z2 hn
 have slot:∀ b o,h.get? b=some o→b∈fW X.stack→∃ sl,h'.get? b=some { o with slots:=sl }:=fun b o e hf=>by
  obtain⟨o',e',hd⟩:=fr b hf;rw[e] at e';cases e';exact ut b o e hd
 refine⟨⟨fun b o e n hf _=>?_,fun b o e n hf _=>?_,fun b o e n hx=>F.un.free b o e n hx,fun b o e hx=>?_,F.un.tups,F.un.frzs,F.un.tbls⟩,rk F.hok fun b o hb e=>?_,fun b o e=>?_⟩
 ·exact keep b o (F.un.keep b o e n hf (by simp)) hf (.inl (by rw[e];simp))
 ·obtain⟨sl,e1⟩:=F.un.slot b o e n hf (by simp);obtain⟨sl',e2⟩:=slot b _ e1 hf;exact⟨sl',e2⟩
 ·obtain⟨o1,e1⟩:=F.un.there b o e (by simp);by_cases hf:b∈fW X.stack
  ·obtain⟨sl',e2⟩:=slot b _ e1 hf;exact⟨_,e2⟩
  ·exact⟨o1,keep b o1 e1 hf (.inl (by rw[e];simp))⟩
 ·exact keep b o e (fun z=>hb (F.frFree I b z)) (.inr hb)
 ·by_cases hf:b∈fW X.stack
  ·exact .inl hf
  ·cases e1:h.get? b with
   |none =>
    refine .inr (.inr ⟨?_,?_⟩)
    ·cases e0:s.heap.get? b with
     |none=>rfl
     |some o0 =>
      obtain⟨o1,e2⟩:=F.un.there b o0 e0 (by simp);rw[e1] at e2;cases e2
    ·cases e0:H' b with
     |none=>rfl
     |some u =>
      obtain⟨ob,e2⟩:=dX.live' (F.hok b u e0);rw[e1] at e2;cases e2
   |some o1 =>
    rcases F.bf b o1 e1 with z | z | z
    ·exact absurd z hf
    ·have:=st b o1 z;rw[e] at this;cases this;exact .inr (.inl z)
    ·exact .inr (.inr z)
theorem B5.inv {g':Array GenState}{d':Drawn}{t':Nat}(F:B5 X H H' s B h) (I:Inv X pins σ H s) (hg:AllBare g'):Inv X pins σ H' { s with heap:=h,gens:=g',drawn:=d',toks:=t' } :=
 I.call (ch:=[]) F.un F.hok hg fun b z=>nomatch z
theorem nh {a:Addr}{C a0:Value}(f:Heap.FlyingW B X.stack a C a0 h):∀ b∈fW X.stack,∃ o,h.get? b=some o∧∀ vs,o.data≠.fields vs:=fun b hb=>(f.2.2.1.mem hb).2
theorem qT {a L:Addr}{C a0:Value}(f:Heap.HeldW B X.stack a C a0 L h):∀ b∈fW X.stack,∃ o,h.get? b=some o∧∀ vs,o.data≠.fields vs:=fun b hb=>(f.2.2.1.mem hb).2
noncomputable abbrev markX (X:Cx) (a:Addr):Cx:={ X with A:=X.A.mark (some (.ref a)),calm:=false,xe:=fun _ _=>False }
theorem qJ (I:Inv X pins σ H s) (a:Addr) (hf:(X.A.mark (some (.ref a))).frames=some X.stack):Inv (markX X a) pins σ H s :=
 ⟨⟨I.ok.mod,I.ok.kind,I.ok.glob,I.ok.blt,I.ok.above,I.ok.inj,I.ok.has,I.ok.cab,fun z=>(by cases z),hf,I.ok.stk,I.ok.exf,I.ok.bs,I.ok.bsz,I.ok.noex,I.ok.exfs,I.ok.funs,I.ok.frf⟩,I.os,I.bare,I.base,I.loc,I.cell,I.free,I.freeC,I.pin,I.hok,I.len⟩
theorem iD {a:Addr}(I:Inv (markX X a) pins σ H s) (ok:X.Ok):Inv X pins σ H s:=⟨ok,I.os,I.bare,I.base,I.loc,I.cell,I.free,I.freeC,I.pin,I.hok,I.len⟩
theorem wH {a:Addr}{D:Ends}{f:Flow}{s':Shared}(ok:X.Ok) (h:SP (markX X a) pins D f s'):SP X pins D f s':=by
 cases f with
 |next=>obtain⟨σ',H',I,q⟩:=h;exact⟨σ',H',iD I ok,q⟩
 |brk=>obtain⟨σ',H',I,q⟩:=h;exact⟨σ',H',iD I ok,q⟩
 |cont=>obtain⟨σ',H',I,q⟩:=h;exact⟨σ',H',iD I ok,q⟩
 |ret u=>obtain⟨v,σ',H',I,r,q⟩:=h;exact⟨v,σ',H',iD I ok,r,q⟩
end
section
variable {M:Model}{A:Around}{E:Value→Shared→Prop}{prog:Program}{w:World}
theorem qN {nm q:Str}{C N:Addr}{bs bm:List Value}{hdct:Bool}{sn:List Str}{sub:List Value}{ab:Bool}{col:Option Bool}{dd:Option Addr}{k0 k1 k2 k3 k5:Option Value}{newId:String}
  {nm' q':Str}{C' N':Addr}{bs' bm':List Value}{hdct':Bool}{sn':List Str}{sub':List Value}{ab':Bool}{col':Option Bool}{dd':Option Addr}{j0 j1 j2 j3 j5:Option Value}{newId':String}
  {h:Heap}{g:Array GenState}{d:Drawn}{t:Nat}{os:OsState}{e:Addr}{oe:Obj}{Q:Bool→Shared→Prop}
  (hC:h.get? C=some (excClassObj nm q C N bs bm hdct sn sub ab col dd k0 k1 k2 k3 k5 newId)) (hC':h.get? C'=some (excClassObj nm' q' C' N' bs' bm' hdct' sn' sub' ab' col' dd' j0 j1 j2 j3 j5 newId')) (he:h.get? e=some oe) (hcls:oe.cls = .ref C)
  (hbase:bm'.contains (.type "BaseException")=true) (hq:Q ((Value.ref C::bm).contains (.ref C')) ⟨h,g,d,t,os⟩):wpAny M A (excMatches (.ref e) (.ref C')) Q E ⟨h,g,d,t,os⟩:=by
 have hcB:(Value.ref C'::bm').contains (.type "BaseException")=true:=by rw[g8,hbase,Bool.or_true]
 have f:=tc_notTuple;unfold excMatches
 repeat (first | (with_reducible refine wpAny_loadPart_at he ?_;rw[hcls]) | with_reducible refine wpAny_loadPart_at hC' ?_ | (with_reducible refine wpAny_isSubtype_exc hC' ?_;rw[hcB]) | (with_reducible refine wpAny_isSubtype_exc hC ?_) | wp_step)
 cases hb:(Value.ref C::bm).contains (.ref C')<;>(rw[hb] at hq;first | exact hq | (wp_walk;exact hq))
end
end Pc
end
section
namespace Pc
open PySem PySem.Spec PyProof.Rows L2
section
variable {X:Cx}{pins:List (Addr×Obj)}{σ:L2.St}{H:Hp}{s:Shared}{D:Ends}
end
end Pc
end
section
namespace Pc
open PySem PySem.Spec PyProof.Rows L2
section
variable {X:Cx}{pins:List (Addr×Obj)}{σ:L2.St}{H:Hp}{s:Shared}{D:Ends}
end
end Pc
end
section
namespace Pc
open PySem PySem.Spec PyProof.Rows L2
inductive qd (h:Heap) (bmB:List Value) (ns:List Str):List Value→Prop
 | base:qd h bmB ns bmB
 | own {A:Addr}{c0:Value}{dd:Option Addr}{cd:ClassData}{sl:Array (Option Value)}{mA:Str→Option Value}{tl:List Value} :
   h.get? A=some { cls:=c0,dict:=dd,data:=.cls cd,slots:=sl }→h.Ns cd.ns mA→(∀ n∈ns,mA n=none)→qd h bmB ns tl→qd h bmB ns (.ref A::tl)
noncomputable def qns:List Str:=["__getattribute__","__getattr__","__class__"]
section
variable {M:Model}{A:Around}{E:Value→Shared→Prop}{h:Heap}{g:Array GenState}{d:Drawn}{t:Nat}{os:OsState}
theorem v8 {bmB tl:List Value}{ns:List Str}{n:Str}{y:Option Value}{Q:Option Value→Shared→Prop}(hn:n∈ns) (T:qd h bmB ns tl) (hrest:lookupAlong bmB n=pure y) (hq:Q y ⟨h,g,d,t,os⟩) :
  wpAny M A (lookupAlong tl n) Q E ⟨h,g,d,t,os⟩:=by
 induction T with
 |base=>rw[hrest];exact wpAny_pure hq
 |own hA hN hni _ ih =>
  rw[lookupAlong_cons];refine wpAny_bind (wpAny_classOwn_cls hA hN ?_);rw[hni n hn];exact ih
variable {nm q:Str}{C N:Addr}{bs bm bmB:List Value}{hdct:Bool}{sn:List Str}{sub:List Value}{ab:Bool}{col:Option Bool}{dd:Option Addr}{k0 k1 k2 k3 k5:Option Value}{B newId:String}
theorem rH {mN:Str→Option Value}{ns:List Str}{n:Str}{y:Option Value}{Q:Option Value→Shared→Prop}(hn:n∈ns)
  (hC:h.get? C=some (excClassObj nm q C N bs bm hdct sn sub ab col dd k0 k1 k2 k3 k5 newId)) (hN:h.Ns N mN) (hmN:∀ n∈ns,mN n=none) (T:qd h bmB ns bm) (hbm:mroOf (.type B)=pure bmB)
  (hB:typeLookup (.type B) n=pure y) (hq:Q y ⟨h,g,d,t,os⟩):wpAny M A (typeLookup (.ref C) n) Q E ⟨h,g,d,t,os⟩:=by
 have hrest:lookupAlong bmB n=pure y:=by rw[typeLookup_eq,hbm] at hB;exact hB
 rw[typeLookup_eq];refine wpAny_bind (wpAny_mroOf_exc hC ?_);rw[lookupAlong_cons];refine wpAny_bind (wpAny_classOwn_exc hC hN ?_);rw[hmN n hn];exact v8 hn T hrest hq
end
noncomputable abbrev nO:List Value:=[.type "ValueError",.type "Exception",.type "BaseException",.type "object"]
section
variable {prog:Program}{w:World}{A:Around}{E:Value→Shared→Prop}{h:Heap}{g:Array GenState}{d:Drawn}{t:Nat}{os:OsState}{a:Addr}{o:Obj}
 {nm q:Str}{C N:Addr}{bs bm:List Value}{hdct:Bool}{sn:List Str}{sub:List Value}{ab:Bool}{col:Option Bool}{dd:Option Addr}{k0 k1 k2 k3 k5:Option Value}{newId:String}{mN:Str→Option Value}
end
end Pc
end
section
namespace Pc
open PySem PySem.Spec PyProof.Rows L2
section
variable {prog:Program}{w:World}{A:Around}{E:Value→Shared→Prop}{h:Heap}{g:Array GenState}{d:Drawn}{t:Nat}{os:OsState}{a:Addr}{o:Obj}
 {nm q:Str}{C N:Addr}{bs bm:List Value}{hdct:Bool}{sn:List Str}{sub:List Value}{ab:Bool}{col:Option Bool}{dd:Option Addr}{k0 k1 k2 k3 k5:Option Value}{newId:String}{mN:Str→Option Value}
 {nm' q':Str}{C' N':Addr}{bs' bm':List Value}{hdct':Bool}{sn':List Str}{sub':List Value}{ab':Bool}{col':Option Bool}{dd':Option Addr}{j0 j1 j2 j3 j5:Option Value}{newId':String}
end
end Pc
end
section
namespace Pc
open PySem PySem.Spec PyProof.Rows L2
noncomputable def Ci (K:PySem.W.Frag):List Value→Bool
 |[]=>nO == []
 |v::r=>(v::r)==nO || match v with
  |.ref A=>(match K.lookup A with
   |some ⟨_,_,.cls cd,_⟩=>PySem.W.nsOkIn K cd.ns&&qns.all (fun n=>PySem.W.nsIn K cd.ns n==some none)&&Ci K r
   |_=>false)
  |_=>false
noncomputable def excQ (K:PySem.W.Frag) (C:Addr):Bool:=PySem.W.excIn K C nO "ValueError.__new__" && (match K.lookup C with
 |some ⟨_,_,.cls cd,_⟩=>PySem.W.nsOkIn K cd.ns&&qns.all (fun n=>PySem.W.nsIn K cd.ns n==some none)&&Ci K cd.mro.tail
 |_=>false)
noncomputable def mw (K:PySem.W.Frag) (C D:Addr):Bool:=match K.lookup C with
 |some ⟨_,_,.cls cd,_⟩=>cd.mro.contains (.ref D)
 |_=>false
structure ExcF (K:PySem.W.Frag) (h:Heap) (C:Addr) (bm:List Value):Prop where
 ex:∃ nm q N bs hdct sn sub ab col dd k0 k1 k2 k3 k5 mN,h.get? C=some (excClassObj nm q C N bs bm hdct sn sub ab col dd k0 k1 k2 k3 k5 "ValueError.__new__")∧h.Ns N mN∧∀ n∈qns,mN n=none
 tail:OwnTail h nO bm
 tn:qd h nO qns bm
 over:∀ D,mw K C D=(Value.ref C::bm).contains (.ref D)
noncomputable def x6 (K:PySem.W.Frag) (D:Addr):Bool:=match K.lookup D with
 |some ⟨.type "type",_,.cls cd,sl⟩=>(match cd.mro,sl.toList with
  | .ref C'::_,[_,_,_,_,some (.builtin _),_]=>C'==D && !cd.hasDel
  |_,_=>false)
 |_=>false
theorem rD {K:PySem.W.Frag}{h:Heap}{D:Addr}(kin:K.In h) (q:x6 K D=true) :
  ∃ bm N nm qn bs hdct sn sub ab col dd k0 k1 k2 k3 k5 newId,h.get? D=some (excClassObj nm qn D N bs bm hdct sn sub ab col dd k0 k1 k2 k3 k5 newId):=by
 unfold x6 at q;split at q
 ·rename_i dd cd sl ho;split at q
  ·rename_i C' bm k0 k1 k2 k3 n k5 hm hs;simp only[Bool.and_eq_true,beq_iff_eq,Bool.not_eq_true'] at q;obtain⟨rfl,hdel⟩:=q;obtain⟨nm,bs,mro,ns,qn,hd,sn,sub,ab,col,del⟩:=cd;dsimp only at hm hdel;subst hm hdel;have hsl:sl = #[k0,k1,k2,k3,some (.builtin n),k5]:=by
    obtain⟨l⟩:=sl;simp only at hs;rw[hs]
   subst hsl;exact⟨bm,ns,nm,qn,bs,hd,sn,sub,ab,col,dd,k0,k1,k2,k3,k5,n,kin _ _ ho⟩
  ·cases q
 ·cases q
section
variable {prog:Program}{w:World}{A:Around}{E:Value→Shared→Prop}{K:PySem.W.Frag}
end
end Pc
end
section
namespace Pc
open PySem PySem.Spec PyProof.Rows L2
section
variable {X:Cx}{pins:List (Addr×Obj)}{σ:L2.St}{H:Hp}{s:Shared}{D:Ends}{k:Nat}{f:Addr}{fd:FuncData}{ps:List Str}{sp:Sp}{dvs:List V}{ds:List Value}{W:Value→Hp→Prop}
end
section
variable {X:Cx}{a C:Addr}{o:Obj}
end
end Pc
end
section
namespace Pc
open PySem PySem.Spec PyProof.Rows L2
noncomputable def Df.Bd (d:Df):Prop:=∀(kV doc pm:Value) (an:Option Addr) (cdv ct:Value) (us:List Value),us.length=d.ps.length→bindArgs (PySem.W.fnOf d.nm d.nm (eE d.st) (bM d.st) (aE d.st) .none kV doc pm an cdv ct) ⟨us,[]⟩=pure (d.ps.zip us)
noncomputable def Df.OkX (p:Pg) (fo:List Str) (d:Df):Prop:=d.Ok p∨(d.Bd∧d.nm∈fo)
theorem Df.OkX.bd {p:Pg}{fo:List Str}{d:Df}(h:d.OkX p fo):d.Bd:=by
 rcases h with h | h
 ·exact h.bd
 ·exact h.1
theorem md {p:Pg}{d:Df}{n:Nat}(h:d.okB p n=true):eF d.N d.ps (aE d.st):=by
 unfold Df.okB at h;simp only[Bool.and_eq_true,decide_eq_true_eq,Bool.not_eq_true',List.all_eq_true] at h;obtain⟨⟨⟨⟨⟨⟨h1,h2⟩,h3⟩,h4⟩,h5⟩,h6⟩,h7⟩:=h;exact⟨h1,h2,h3,h4,h5,fun x hx=>ki (h6 x hx),h7⟩
section
variable {p:Pg}{P:Program}{w:World}{K:Frag}{mg:Str→Option Value}{base:Heap}
noncomputable def rW (p:Pg) (P:Program) (w:World) (K:Frag) (mg:Str→Option Value) (base:Heap) (n:Nat):Prop:=∀(i:Nat) (d:Df),p.dfs[i]? = some d→∀ f fd,L2.vk K d.nm d.nm d.st f fd→kT P w K mg base wN n f fd d.ps (Bq K d.ps.length (p.run n i))
noncomputable def pN (p:Pg) (fo:List Str) (P:Program) (w:World) (K:Frag) (mg:Str→Option Value) (base:Heap):Prop:=∀(n i:Nat) (d:Df),p.dfs[i]? = some d→d.nm∈fo→rW p P w K mg base n→∀ f fd,L2.vk K d.nm d.nm d.st f fd→kT P w K mg base wN (n+1) f fd d.ps (Bq K d.ps.length (p.run (n+1) i))
theorem AG {fo:List Str}(hp:∀ d∈p.dfs,d.OkX p fo) (hi:p.In K mg) (hh:wO w K) (hf:pN p fo P w K mg base):∀ n,rW p P w K mg base n:=by
 intro n
 induction n with
 |zero =>
  intro i d hd f fd F;refine⟨fun vs H Q E h=>uW h,fun A outer s H args us vs Q E hr he hb hv hs=>?_⟩;obtain⟨ds,G,_,_,r,h,_⟩:=hs;cases h
 |succ n ih =>
  intro i d hd f fd F;rcases hp d (List.mem_of_getElem? hd) with ⟨⟨m,hb⟩,S,_⟩ | ⟨_,hn⟩
  rotate_left
  ·exact hf n i d hd hn ih f fd F
  refine F.ok S (fun vs H Q E h=>uW h) fun cdv A outer s H vs Q E hr hs=>?_
  have C:qk (gF wN P w K mg base d.N d.nm (aE d.st) f cdv A outer s H E).nox (p.sc d) ⟨p.run n,p.gl,p.fuel⟩:=by
   refine⟨⟨rfl,S.nd,fun x h=>qx h,fun x h=>⟨ki h,.inl rfl⟩,fun x h=>uY h,fun x h=>h,?_,rfl,fun j x hj=>?_,fun j x hj=>hi.gl j x hj,fun x h=>hi.blt x h⟩,rfl,S.kind,PassesOwn.never⟩
   ·exact⟨g7 (Nat.add_le_add_left (by decide:40≤64) _) hr.units,hh⟩
   ·obtain⟨e,he,hx⟩:=oE hj;obtain⟨f',fd',F',M'⟩:=hi.fn j e he;have B':=F'.binds (hp e (List.mem_of_getElem? he)).bd;subst hx;refine⟨f',fd',e.ps,n,ih j e he f' fd' F',hr,M',F'.kp,B',fun ds r h=>?_⟩;have h:p.run n j ds = .ok r:=h;cases n with
    |zero=>cases h
    |succ n =>
     unfold Pg.run Pc.run at h;have:p.fns[j]? = some ⟨e.ps.length,e.N.length,e.body⟩:=by unfold Pg.fns;rw[List.getElem?_map,he];rfl
     rw[this] at h;dsimp only at h;by_cases hl:ds.length=e.ps.length
     ·exact hl
     ·rw[if_neg hl] at h;cases h
  refine⟨_,(BV C m).2 _ _ hb,?_⟩;obtain⟨ds,G,hl,rs,r,hrun,k⟩:=hs;unfold Pg.run Pc.run at hrun;have:p.fns[i]? = some ⟨d.ps.length,d.N.length,d.body⟩:=by unfold Pg.fns;rw[List.getElem?_map,hd];rfl
  rw[this] at hrun;dsimp only at hrun;rw[if_pos hl] at hrun;have hN:ds.length≤d.N.length:=by
   rw[hl,←S.pre,eg];exact ik _ _
  obtain⟨F0,re,hF⟩:=entry rs hN;refine⟨fun a=>H a≠none,fun a=>H a=none∨a∈G,aF ds d.N.length,F0,re,fun j a ha=>.inr (hF j a ha),fun a h=>.inl (Classical.not_not.mp h),?_⟩;show post K _ _ _ _ H _ (aC ⟨p.run n,p.gl,p.fuel⟩ d.body (aF ds d.N.length));have hrun:(match aC ⟨p.run n,p.gl,p.fuel⟩ d.body (aF ds d.N.length) with
   |.rt d fr=>Rs.ok (d,fr)
   |.nx _=>.ok (.non,true)
   |.xc e _=>.exc e
   |_=>.bad) = .ok r:=hrun
  cases hq:aC ⟨p.run n,p.gl,p.fuel⟩ d.body (aF ds d.N.length) with
  |rt dd fr =>
   rw[hq] at hrun;cases hrun;intro v H' G' rp ev z fz;exact k v H' G' (kl ev) rp z fun hf=>let ⟨a,b⟩:=fz hf;⟨a,fun x hx=>⟨Classical.not_not.mp (b x hx).1,(b x hx).2⟩⟩
  |nx e =>
   rw[hq] at hrun;cases hrun;intro σ' H' F' af;exact k .non H' [] (kl af.ev) .non (fun _ h=>(nomatch h)) fun _=>⟨bz,fun _ h=>(nomatch h)⟩
  |bk e=>rw[hq] at hrun;cases hrun
  |ct e=>rw[hq] at hrun;cases hrun
  |xc e e'=>rw[hq] at hrun;cases hrun
  |bad=>rw[hq] at hrun;cases hrun
end
theorem GS {l:PySem.W.OpenLaw}{q:Program}{loose:List Str}{XP:(Str→Option Value)→Heap→Prop}{YP:World→Heap→Prop}{d:DefRec}{K:Params→PySem.W.Frag}(p:Pg) (fo:List Str) (n i:Nat) (x:Str) (e:Df) (hn:l.most=some 63) (hdf:d.params.defaults=[])
  (hY:∀(w:World) (h:Heap),YP w h→(K w.params).In h) (hd:p.dfs[i]? = some e) (hps:e.ps=[x]) (hnm:d.name=e.nm) (hr:fR n callerA) (ok:vD (Df.OkX p fo) p.dfs) (st:∀ w:World,se p (K w.params)) (hL:∀ w:World,noL (K w.params)=true) (hH:∀ w:World,wO w (K w.params))
  (hf:∀(w:World) (mg:Str→Option Value) (h base:Heap),(K w.params).In h→h.Ns mainGlobals mg→p.In (K w.params) mg→pN p fo l.prog w (K w.params) mg base)
  (law:∀ ns:List Int,ns.length≤63→∃ fr,p.run n i [.lst (ns.map D.int)] = .ok (.bl true,fr)) :
  PySem.W.WalkO q loose XP YP l.row.toRowW d [] (fun f vs=>PySem.call f vs):=by
 refine L2.BH (n:=63) (k:=n) (x:=x) (CX:=fun _=>wN) (sp:=fun w=>Bq (K w.params) 1 (p.run n i)) hn (by decide) hdf hr hY (fun w mg fa h KX G hm=>?_) (fun w H a ns hl _ hS=>?_) fun _ _ _ _ _ z=>z
 ·have I:=(st w).isin KX G;obtain⟨f,fd,F,m⟩:=I.fn i e hd;rw[hnm,m] at hm;obtain rfl:f=fa:=by cases hm;rfl
  refine⟨fd,fun s u=>?_,fun base kb nb=>?_⟩
  ·obtain⟨oc,od,kV,doc,pm,an,cdv,ct,osl,rfl,lk,hcd⟩:=F.ex;have:=(gY ok e (List.mem_of_getElem? hd)).bd kV doc pm an cdv ct [u] (by rw[hps];rfl);rw[hps] at this;exact .of_eq this
  ·have:=AG (P:=l.prog) (w:=w) (base:=base) (gY ok) I (hH w) (hf w mg h base KX G I) n i e hd f fd F;rw[hps] at this;exact this
 ·obtain⟨fr,h⟩:=law ns hl;exact Ew (hL w) hS h
noncomputable def Cls (K:Frag) (x:Str) (C:Addr):Prop:=PySem.W.nsIn K mainGlobals x=some (some (.ref C))∧excQ K C=true
end Pc
end
section
namespace Pc
open PySem PySem.Spec PyProof.Rows L2
structure mT (k:Nat) (A:Around):Prop where
 hd:A.handled=none
 dp:A.depth+3*k+6<recursionLimit
 un:A.units+16*k+203<cLine
theorem mT.of {k:Nat}{A:Around}(r:fR (k+1) A) (env:Env):mT k (A.deeper env) :=
 ⟨r.hd,by have:=r.dp;show A.depth+1+3*k+6<_;omega,by have:=r.un;show A.units+3+16*k+203<_;omega⟩
theorem mT.deeper {k:Nat}{A:Around}(r:mT k A) (env:Env):fR k (A.deeper env) :=
 ⟨r.hd,by have:=r.dp;show A.depth+1+3*k+5<_;omega,by have:=r.un;show A.units+3+16*k+200<_;omega⟩
structure nS (P:Program) (w:World) (K:PySem.W.Frag) (mg:Str→Option Value) (base:Heap) (CX:rV) (RP:Around→Prop) (f:Addr) (fd:FuncData) (ps:List Str) (sp:Sp):Prop where
 len:∀ vs H Q E,sp vs H Q E→vs.length=ps.length
 run:∀(A:Around) (outer:List Env) (s:Shared) (H:Hp) (args:PySem.Args) (us:List Value) (vs:List V) (Q:VK) (E:XK),RP A→zQ P w K mg base A outer s H→BindsTo s fd args (ps.zip us)→aQ vs us→sp vs H Q E →
  codeAny (model P w) A (.call (.ref f) args) (CR CX outer P w H s Q E) s
section
variable {P:Program}{w:World}{K:PySem.W.Frag}{mg:Str→Option Value}{base:Heap}{f:Addr}{fd:FuncData}{ps N:List Str}{sp:Sp}
theorem nS.plain {CX:rV}{k:Nat}(F:nS P w K mg base CX (fR k) f fd ps sp):kT P w K mg base CX k f fd ps sp:=⟨F.len,F.run⟩
theorem zD {CX:rV}{RP:Around→Prop}{x qual:Str}{st:Stmt}(F:L2.vk K x qual st f fd) (S:eF N ps (aE st)) (hRP:∀ A,RP A→A.handled=none∧A.depth<recursionLimit) (len:∀ vs H Q E,sp vs H Q E→vs.length=ps.length)
  (hbody:∀(cdv:Value) (A:Around) (outer:List Env) (s:Shared) (H:Hp) (vs:List V) (Q:VK) (E:XK),RP A→sp vs H Q E →
   ∃ t,jJ (gF CX P w K mg base N qual (aE st) f cdv A outer s H E) (bM st) t∧t { nx:=fun _ H'=>Q .non H',rt:=Q } (L2.start N vs) H):nS P w K mg base CX RP f fd ps sp:=by
 obtain⟨oc,od,kV,doc,pm,an,cdv,ct,osl,rfl,lk,hcd⟩:=F.ex;refine⟨len,fun A outer s H args us vs Q E hr e0 hb r hsp=>?_⟩;have hl:=len _ _ _ _ hsp;have KX:K.In s.heap:=e0.mod.kin.keeps fun b o e=>(e0.bs b o e).1
 have lim:s.heap.NoLimit:=e0.mod.nolimit.keeps fun b o e=>(e0.bs b o e).1
 have hkind:∀ y∈ps.zip us,(aE st).names.lookup y.1=some .local∨((aE st).names.lookup y.1=some .cell∧((cellsFrom (s.heap.objs.size+1) (aE st).names []).lookup y.1).isSome=true):=fun ⟨n,v⟩ hy=>by
  rcases S.par n (fw hy).1 with q | q
  ·exact .inl q
  ·exact .inr ⟨q,il _ _ _ (.inl q)⟩
 refine codeAny_call_function (hRP A hr).2 (KX _ _ lk) rfl S.co S.gen rfl (PySem.W.codeRec_of KX hcd) (hb _ _ _ _ ?_);refine wpAny_newFunctionEnv_cells S.kind hkind fun env he s1 x=>?_
 subst he;refine⟨lim.keeps x.toInCall.keep,codeAny_func ?_⟩;obtain⟨t,ht,hq⟩:=hbody cdv A outer s H vs Q E hr hsp;have I:Inv (gF CX P w K mg base N qual (aE st) f cdv A outer s H E) [] (L2.start N vs) H s1:=nX S (hRP A hr).1 e0 hl r x;refine wpAny_mono (ht [] s1 (L2.start N vs) H _ I hq) (fun fl s' hs=>?_) fun e s' hs=>hs
 have fin:∀{σ':L2.St}{H':Hp}{v:V}{u:Value},Inv (gF CX P w K mg base N qual (aE st) f cdv A outer s H E) [] σ' H' s'→RelV v u→Q v H'→CE outer P w H s Q u s' :=
  fun {σ' H' v u} J rv q=>⟨v,H',J.os,J.bare,J.base,J.hok,rv,q⟩
 cases fl with
 |ret u =>
  obtain⟨v,σ',H',J,rv,q⟩:=hs;exact fin J rv q
 |next =>
  obtain⟨σ',H',J,q⟩:=hs;exact fin (v:=V.non) (u:=Value.none) J rfl q
 |brk =>
  obtain⟨_,_,_,q⟩:=hs;exact False.elim q
 |cont =>
  obtain⟨_,_,_,q⟩:=hs;exact False.elim q
end
section
variable {X:Cx}{pins:List (Addr×Obj)}{σ:L2.St}{H:Hp}{s:Shared}{D:Ends}{RP:Around→Prop}{f:Addr}{fd:FuncData}{ps:List Str}{sp:Sp}{dvs:List V}{ds:List Value}{W:Value→Hp→Prop}
end
section
variable {X:Cx}{S:Sc}{T:Tb}
theorem PS.nox {st:Stmt}{t:TS}(h:PS X.nox st t):PS X st t:=fun pins s σ H D I hw=>by
 have:=h pins s σ H D (I.wish _) hw;refine wpAny_mono this (fun f s1 q=>?_) fun _ _ z=>z.elim
 cases f with
 |next=>obtain⟨σ',H',J,q⟩:=q;exact⟨σ',H',J.unwish,q⟩
 |brk=>obtain⟨σ',H',J,q⟩:=q;exact⟨σ',H',J.unwish,q⟩
 |cont=>obtain⟨σ',H',J,q⟩:=q;exact⟨σ',H',J.unwish,q⟩
 |ret u=>obtain⟨v,σ',H',J,r,q⟩:=q;exact⟨v,σ',H',J.unwish,r,q⟩
noncomputable def GJ (K:Frag) (T:Tb) (cs:bF) (u:TS):TS:=fun D σ H=>∃ P Z env F,RE K P env σ H F∧(∀ i,∀ a∈F i,Z a)∧(∀ a,¬ P a→Z a)∧post K P Z env F H { D with nx:=u D } (aC T cs env)
end
end Pc
end
section
namespace Pc
open PySem PySem.Spec PyProof.Rows L2
section
variable {p:Pg}{P:Program}{w:World}{K:Frag}{mg:Str→Option Value}{base:Heap}
theorem EH {fo:List Str}{n:Nat}{CX:rV}{N:List Str}{nm:Str}{sc:Scope}{ps:List Str}{f:Addr}{cdv:Value}{A:Around}{outer:List Env}{s:Shared}{H:Hp}{E:XK}(hp:∀ d∈p.dfs,d.OkX p fo) (hi:p.In K mg) (hh:wO w K) (ih:rW p P w K mg base n) (S:eF N ps sc)
  (hr:fR n (A.deeper (envOfC nm sc s.heap.objs.size f cdv))):qk (gF CX P w K mg base N nm sc f cdv A outer s H E).nox ⟨N,sc,p.dfs.map (·.nm),p.wM,p.eU⟩ ⟨p.run n,p.gl,p.fuel⟩:=by
 refine⟨⟨rfl,S.nd,fun x h=>qx h,fun x h=>⟨ki h,.inl rfl⟩,fun x h=>uY h,fun x h=>h,?_,rfl,fun j x hj=>?_,fun j x hj=>hi.gl j x hj,fun x h=>hi.blt x h⟩,rfl,S.kind,PassesOwn.never⟩
 ·exact⟨g7 (Nat.add_le_add_left (by decide:40≤64) _) hr.units,hh⟩
 ·obtain⟨e,he,hx⟩:=oE hj;obtain⟨f',fd',F',M'⟩:=hi.fn j e he;have B':=F'.binds (hp e (List.mem_of_getElem? he)).bd;subst hx;refine⟨f',fd',e.ps,n,ih j e he f' fd' F',hr,M',F'.kp,B',fun ds r h=>?_⟩;have h:p.run n j ds = .ok r:=h;cases n with
  |zero=>cases h
  |succ n =>
   unfold Pg.run Pc.run at h;have:p.fns[j]? = some ⟨e.ps.length,e.N.length,e.body⟩:=by unfold Pg.fns;rw[List.getElem?_map,he];rfl
   rw[this] at h;dsimp only at h;by_cases hl:ds.length=e.ps.length
   ·exact hl
   ·rw[if_neg hl] at h;cases h
end
section
variable {X:Cx}{pins:List (Addr×Obj)}{σ:L2.St}{H:Hp}{s:Shared}{D:Ends}{W:Value→Hp→Prop}
end
end Pc
end
section
namespace Pc
open PySem PySem.Spec PyProof.Rows L2
noncomputable def oH (h:Heap) (e:Addr) (od:Option Addr):Prop:=∃ o,h.get? e=some o∧o.dict=od
theorem m5 (o:Obj) (f):(o.mapFields f).dict=o.dict:=by
 unfold Obj.mapFields;split<;>rfl
section
variable {M:Model}{A:Around}{E:Value→Shared→Prop}{s:Shared}{base:Heap}{env:Env}{outer l:List Env}{L e:Addr}{oe:Obj}{vs:Array Value}{head a0 cls fl:Value}{hadNext:Bool}{od:Option Addr}
theorem EM {Q:Unit→Shared→Prop}(fr:A.frames=some (env::outer)) (ff:s.heap.FunFrames base (env::outer)) (ef:env.frame=some L) (at_:s.heap.get? e=some oe) (st:base.StaysIn s.heap) (nw:base.get? e=none) (da:oe.data = .fields vs) (sz:1<vs.size)
  (v0:vs[0]? = some a0) (k:∀ h',Heap.NotedW base (env::outer) e oe.cls a0 (rawInt L) s.heap h'→oH h' e oe.dict→Q () { s with heap:=h' }) :
  wpAny M A (do let a ← frameOf env;let pl ← entryPlaceOf L hadNext;let b ← EntryCells.newEntry head a .none (rawInt L) .none pl;setField (.ref e) 1 b) Q E s:=by
 have nofr:e∉(env::outer).filterMap (·.frame):=fun z=>by
  obtain⟨_,o,ho,nf⟩:=ff.mem z;rw[at_] at ho;cases ho;exact nf vs da
 refine wpAny_bind (wpAny_frameOf_fun fr ff ef fun g so=>wpAny_bind (wpAny_entryPlaceOf fun pl hp=>?_));unfold EntryCells.newEntry newFields;refine wpAny_bind (wpAny_newObj_type ?_ (hp.sizeOk5 _ _ _ _ _));have at1:g.get? e=some oe:=(so.2.1 e nofr).trans at_;have st1:base.StaysIn g:=fun b o q=>(so.2.1 b fun z=>by rw[(ff.mem z).1] at q;cases q).trans (st b o q)
 generalize hT:({ cls:=.type "traceback",dict:=none,data:=.fields ([head,.ref L,.none,rawInt L,.none]++(if pl.isEmpty then List.replicate 6 Value.none else pl)).toArray }:Obj)=oT;have frT:oT.isFreed=false:=by subst hT;rfl
 have daT:oT.data = .fields ([head,.ref L,.none,rawInt L,.none]++(if pl.isEmpty then List.replicate 6 Value.none else pl)).toArray:=by subst hT;rfl
 have at2:=Heap.get?_push_of_some oT at1;refine wpAny_setField at2 da sz (k _ ?_ ?_)
 ·have ne:g.objs.size≠e:=Nat.ne_of_gt (Heap.lt_size at1);have da3:=Obj.data_mapFields da (·.setIfInBounds 1 (Value.ref g.objs.size));have at3:=Heap.get?_update_self (Obj.mapFields (·.setIfInBounds 1 (Value.ref g.objs.size))) at2 (Obj.isFreed_of_fields da3);have tb3:=(Heap.get?_update_other (g.push oT) (Obj.mapFields (·.setIfInBounds 1 (Value.ref g.objs.size))) (cj ne)).trans (Heap.get?_push_size g frT);have kp:∀ b o,b≠e→g.get? b=some o→((g.push oT).update e (Obj.mapFields (·.setIfInBounds 1 (Value.ref g.objs.size)))).get? b=some o:=fun b o hb q =>
   (Heap.get?_update_other _ _ (cj hb)).trans (Heap.get?_push_of_some _ q)
  have nrec:∀ b o,s.heap.get? b=some o→(∀ ws,o.data≠.fields ws)→b≠e:=fun b o q nf z=>by
   subst z;rw[at_] at q;cases q;exact nf vs da
  refine⟨fun b o q=>kp b o (fun z=>by rw[z,nw] at q;cases q) (st1 b o q),ff.of_keeps fun b o q nf=>?_,⟨_,_,g.objs.size,_,_,at3,⟨Obj.cls_mapFields _ _,by rw[Array.getElem?_setIfInBounds_ne (by decide)];exact v0⟩,da3,by simp[sz],st1.fresh,ne,tb3,daT,?_⟩,fun b o q nf=>?_⟩
  ·obtain⟨sl,q1⟩:=so.2.2 b o q;exact⟨_,kp b _ (nrec b o q nf) q1,rfl⟩
  ·rcases hp with rfl | ⟨_,_,_,_,_,_,_,rfl⟩<;>simp
  ·obtain⟨sl,q1⟩:=so.2.2 b o q;exact⟨sl,kp b _ (nrec b o q nf) q1⟩
 ·exact⟨_,Heap.get?_update_self _ at2 (Obj.isFreed_of_fields (Obj.data_mapFields da _)),m5 _ _⟩
theorem A5 {Q:Unit→Shared→Prop}(st:base.StaysIn s.heap) (ff:s.heap.FunFrames base l) (tr:s.heap.TracedAtW base e cls a0 fl) (dc:oH s.heap e od)
  (k:∀ h',base.StaysIn h'→h'.FunFrames base l→h'.TracedW base e cls a0→(∀ b o,s.heap.get? b=some o→(∀ ws,o.data≠.fields ws)→h'.get? b=some o)→oH h' e od→Q () { s with heap:=h' }) :
  wpAny M A (setFlight (.ref e) none) Q E s:=by
 obtain⟨ob,ws,T,oT,ts,e1,e2,e3,e4,e5,e6,e7,e8,e9⟩:=tr;have z3:3<ts.size:=(Array.getElem?_eq_some_iff.mp e9).1;have ot:∀ b,b≠T→(s.heap.update T (Obj.mapFields (·.setIfInBounds 3 ((none:Option Addr).elim Value.none fun f=>rawInt f)))).get? b=s.heap.get? b:=fun b hb=>Heap.get?_update_other _ _ (cj hb)
 have nrec:∀ b o,s.heap.get? b=some o→(∀ us,o.data≠.fields us)→b≠T:=fun b o q nf z=>by
  subst z;rw[e7] at q;cases q;exact nf ts e8
 unfold setFlight;refine wpAny_bind (wpAny_field e1 e3 e4 ?_);rw[if_pos (show (Value.ref T != Value.none)=true from by simp)];refine wpAny_setField e7 e8 z3 (k _ (fun b o q=>(ot b fun z=>by rw[z,e5] at q;cases q).trans (st b o q)) (ff.of_keeps fun b o q nf=>⟨o,(ot b (nrec b o q nf)).trans q,rfl⟩) ?_ (fun b o q nf=>(ot b (nrec b o q nf)).trans q) ?_)
 ·exact⟨ob,ws,T,_,_,(ot e (Ne.symm e6)).trans e1,e2,e3,e4,e5,e6,Heap.get?_update_self _ e7 (Obj.isFreed_of_fields (Obj.data_mapFields e8 _)),Obj.data_mapFields e8 _,by simp[z3]⟩
 ·obtain⟨o,q1,q2⟩:=dc;exact⟨o,(ot e (cj e6)).trans q1,q2⟩
theorem Dt {Q:Unit→Shared→Prop}(fr:A.frames=some (env::outer)) (ff:s.heap.FunFrames base (env::outer)) (ef:env.frame=some L) (at_:s.heap.get? e=some oe) (st:base.StaysIn s.heap) (nw:base.get? e=none) (da:oe.data = .fields vs) (v1:vs[1]? = some .none)
  (v0:vs[0]? = some a0) (k:∀ h',Heap.FlyingW base outer e oe.cls a0 h'→s.heap.UpToSlots h'→oH h' e oe.dict→Q () { s with heap:=h' }):wpAny M A (leaving env (.ref e)) Q E s:=by
 unfold leaving noteFrame;simp only[ef];refine wpAny_bind (wpAny_bind (wpAny_field at_ da v1 ?_));rw[if_neg (by decide)];refine EM fr ff ef at_ st nw da (Array.getElem?_eq_some_iff.mp v1).1 v0 fun g ⟨n1,n2,n3,n4⟩ dc=>?_
 refine A5 (s:={ s with heap:=g }) n1 n2 n3 dc fun h' k1 k2 k3 k4 k5=>k h' ⟨k1,nw,?_,k3⟩ (fun b o q nf=>?_) k5
 ·obtain⟨_,_,z⟩:=k2;exact z
 ·obtain⟨sl,q1⟩:=n4 b o q nf;exact⟨sl,k4 b _ q1 nf⟩
end
noncomputable def zW (x:Str) (h:Heap) (e:Addr) (n:Int):Prop:=∃ dx m u,oH h e (some dx)∧h.Ns dx m∧m x=some (.int n u)
end Pc
end
section
namespace Pc
open PySem PySem.Spec PyProof.Rows L2
noncomputable def uB (K:PySem.W.Frag) (ns:List Str):List Value→Bool
 |[]=>nO == []
 |v::r=>(v::r)==nO || match v with
  |.ref A=>(match K.lookup A with
   |some ⟨_,_,.cls cd,_⟩=>PySem.W.nsOkIn K cd.ns&&ns.all (fun n=>PySem.W.nsIn K cd.ns n==some none)&&uB K ns r
   |_=>false)
  |_=>false
theorem qq {K:PySem.W.Frag}{h:Heap}{ns:List Str}(kin:K.In h):∀{l:List Value},uB K ns l=true→qd h nO ns l
 | [],e=>by
  have e:(nO==([]:List Value))=true:=e;rw[←g6.mp e];exact .base
 | v::r,e=>by
  unfold uB at e;rcases Bool.or_eq_true_iff.mp e with q | q
  ·rw[g6.mp q];exact .base
  ·split at q
   ·split at q
    ·rename_i ho;simp only[Bool.and_eq_true,List.all_eq_true,beq_iff_eq] at q;exact .own (kin _ _ ho) (.of_isNs (PySem.W.isNs_of_in kin q.1.1)) (fun n hn=>PySem.W.nsMap_none_of_in kin q.1.1 (q.1.2 n hn)) (qq kin q.2)
    ·cases q
   ·cases q
theorem tN {K:PySem.W.Frag}{h:Heap}{N:Addr}{m:Str→Option Value}{n:Str}{v:Value}(kin:K.In h) (G:h.Ns N m) (e:PySem.W.nsIn K N n=some (some v)):m n=some v:=by
 obtain⟨o,es,ep,ho,hd,_,hf⟩:=G;unfold PySem.W.nsIn at e;split at e
 ·rename_i q;have:=kin _ _ q;rw[ho] at this;cases this;cases hd;split at e
  ·rename_i he;rw[←hf];unfold nsFind findBy;rw[←Array.find?_toList,he];simpa using e
  ·split at e<;>cases e
 ·cases e
noncomputable def DD (K:PySem.W.Frag) (C:Addr) (ns:List Str) (fI:Addr):Bool:=match K.lookup C with
 |some ⟨.type "type",_,.cls cd,sl⟩=>(match cd.mro,sl.toList with
  | .ref C'::bm,[_,_,_,_,some (.builtin n),_]=>C'==C&&n == "ValueError.__new__" && !cd.hasDel&&cd.hasDict&&PySem.W.tailIn K nO bm&&uB K ns bm&&PySem.W.nsOkIn K cd.ns&&ns.all (fun n=>PySem.W.nsIn K cd.ns n==some none)&&PySem.W.nsIn K cd.ns "__init__" == some (some (.ref fI))
  |_,_=>false)
 |_=>false
structure IniF (K:PySem.W.Frag) (h:Heap) (C:Addr) (ns:List Str) (fI:Addr) (bm:List Value):Prop where
 ex:∃ nm q N bs sn sub ab col dd k0 k1 k2 k3 k5 mN,h.get? C=some (excClassObj nm q C N bs bm true sn sub ab col dd k0 k1 k2 k3 k5 "ValueError.__new__")∧h.Ns N mN∧(∀ n∈ns,mN n=none)∧mN "__init__" = some (.ref fI)
 tail:OwnTail h nO bm
 tn:qd h nO ns bm
theorem pQ {K:PySem.W.Frag}{h:Heap}{C fI:Addr}{ns:List Str}(kin:K.In h) (q:DD K C ns fI=true):∃ bm,IniF K h C ns fI bm:=by
 unfold DD at q;split at q
 ·rename_i dd cd sl ho;split at q
  ·rename_i C' bm k0 k1 k2 k3 n k5 hm hs;simp only[Bool.and_eq_true,beq_iff_eq,Bool.not_eq_true',List.all_eq_true] at q;obtain⟨⟨⟨⟨⟨⟨⟨⟨rfl,rfl⟩,hdel⟩,hdc⟩,ht⟩,hnt⟩,hok⟩,hnn⟩,hi⟩:=q;obtain⟨nm,bs,mro,ns',qn,hd,sn,sub,ab,col,del⟩:=cd;dsimp only at hm hdel hok hi hdc hnn;subst hm hdel hdc;have hsl:sl = #[k0,k1,k2,k3,some (.builtin "ValueError.__new__"),k5]:=by
    obtain⟨l⟩:=sl;simp only at hs;rw[hs]
   subst hsl;have G:h.Ns ns' _:=.of_isNs (PySem.W.isNs_of_in kin hok);exact⟨bm,⟨nm,qn,ns',bs,sn,sub,ab,col,dd,k0,k1,k2,k3,k5,_,kin _ _ ho,G,fun n hn=>PySem.W.nsMap_none_of_in kin hok (hnn n hn),tN kin G hi⟩,PySem.W.tail_of_in kin ht,qq kin hnt⟩
  ·cases q
 ·cases q
theorem rE {self:Value}{what:Str}{h:Heap}{bm:List Value}(T:OwnTail h nO bm):refuseLoop self what bm=refuseLoop self what nO:=by
 induction T with
 |base=>rfl
 |own _ _ _ _ ih=>rw[refuseLoop_ref];exact ih
section
variable {prog:Program}{w:World}{A:Around}{E:Value→Shared→Prop}{h:Heap}{g:Array GenState}{d:Drawn}{t:Nat}{os:OsState}{e:Addr}{oe:Obj}{vs:Array Value}{ns:List Str}
 {nm q:Str}{C N:Addr}{bs bm:List Value}{sn:List Str}{sub:List Value}{ab:Bool}{col:Option Bool}{dd:Option Addr}{k0 k1 k2 k3 k5:Option Value}{newId:String}{mN:Str→Option Value}{x:Str}{v:Value}
theorem xS {M:Model}{nameV:Value}{Q:Unit→Shared→Prop}(hC:h.get? C=some (excClassObj nm q C N bs bm true sn sub ab col dd k0 k1 k2 k3 k5 newId)) (T:OwnTail h nO bm) (he:h.get? e=some oe) (hc:oe.cls = .ref C) (hq:Q () ⟨h,g,d,t,os⟩) :
  wpAny M A (checkBuiltinCall "object.__setattr__" ⟨[.ref e,nameV,v],[]⟩) Q E ⟨h,g,d,t,os⟩:=by
 have SF:=F.store_ValueError;have hcB:(Value.ref C::bm).contains (.type "object")=true:=by rw[g8,T.hasType (show nO.contains (.type "object")=true by decide),Bool.or_true]
 have ha:=SF.args (.ref e) nameV v;simp only[checkBuiltinCall,SF.kind,SF.split];refine wpAny_bind ?_;unfold isInstance
 repeat (first | (with_reducible refine wpAny_loadPart_at he ?_;rw[hc]) | (with_reducible refine wpAny_isSubtype_exc hC ?_;rw[hcB]) | wp_step)
 exact hq
theorem set_own {Q:Unit→Shared→Prop}(hC:h.get? C=some (excClassObj nm q C N bs bm true sn sub ab col dd k0 k1 k2 k3 k5 newId)) (hN:h.Ns N mN) (hmN:∀ n∈ns,mN n=none) (T:OwnTail h nO bm) (TN:qd h nO ns bm) (n1:("__setattr__" : Str)∈ns) (n2:x∈ns)
  (hB:typeLookup (.type "ValueError") x=pure none) (he:h.get? e=some oe) (hc:oe.cls = .ref C) (hdn:oe.dict=none) (hd:oe.data = .fields vs)
  (hq:∀ h' tk dx,h'.get? e=some { oe with dict:=some dx }→h.get? dx=none→h'.Ns dx (fun y=>if y=x then some v else none)→(∀ b o,b≠e→h.get? b=some o→h'.get? b=some o)→Q () ⟨h',g,d,tk,os⟩) :
  wpAny (model prog w) A (setAttr (.ref e) x v) Q E ⟨h,g,d,t,os⟩:=by
 have SF:=F.store_ValueError;have f3:=SF.slot.bind (.ref e);unfold setAttr callSpecial? specialOf
 repeat (any_goals (first | assumption | (with_reducible refine wpAny_loadPart_at he ?_;rw[hc]) | with_reducible refine rH n1 hC hN hmN TN SF.mro SF.slot.lookup ?_ | wp_step))
 refine codeAny_call_builtin SF.slot.plain SF.entry (xS hC T he hc ?_);have hpass:=SF.passes (.ref e);unfold Builtin.«object.__setattr__»
 repeat (first | rw[refuse_eq] | (rw[refuseLoop_ref,rE T,hpass]) | (with_reducible refine wpAny_loadPart_at he ?_;rw[hc]) | with_reducible refine wpAny_mroOf_exc hC ?_ | with_reducible refine rH n2 hC hN hmN TN SF.mro hB ?_ | wp_step)
 rw[hdn,if_neg (by simp[typeHasDict])];split
 ·rename_i z;cases z
 split
 ·rename_i z;rw[hd] at z;cases z
 have he1:(h.push { cls:=.type "dict",data:=.dict #[] }).get? e=some oe:=Heap.get?_push_of_some _ he;have ne:e≠h.objs.size:=bt (Heap.lt_size he);refine wpAny_bind (wpAny_alloc' (wpAny_bind (wpAny_update' he1 (wpAny_pure ?_))));have gd:((h.push { cls:=.type "dict",data:=.dict #[] }).update e fun o=>{ cls:=o.cls,dict:=some h.objs.size,data:=o.data,slots:=o.slots }).get? h.objs.size=some { cls:=.type "dict",data:=.dict #[] } :=
  (Heap.get?_update_ne _ _ _ _ ne.symm).trans (Heap.get?_push_at rfl rfl)
 have nd:((h.push { cls:=.type "dict",data:=.dict #[] }).update e fun o=>{ cls:=o.cls,dict:=some h.objs.size,data:=o.data,slots:=o.slots }).Ns h.objs.size (fun _=>none) :=
  ⟨_,#[],_,gd,rfl,fun _ z=>absurd z (by simp),fun _=>rfl⟩
 show wpAny _ _ (Builtin.ObjectAttr.storeInDict h.objs.size (.str x _) x v) _ _ _;unfold Builtin.ObjectAttr.storeInDict Builtin.ObjectAttr.newKeyGuard;refine wpAny_bind (wpAny_pure (wpAny_bind (wpAny_nsSet1 (Heap.Ns1.of_empty nd) fun h' hn' hs=>?_)));obtain⟨oD,esD,epD,hoD,hdD,hcD⟩:=hn'.count (Within.cons x v Within.nil);refine wpAny_bind (wpAny_lookBehind hoD (by rw[hdD];exact pastItsLine_dict (bu hcD (by rw[c9,List.length_nil,sizeLine_eq];omega))) ?_)
 repeat (any_goals (first | assumption | wp_step))
 refine hq h' _ h.objs.size ?_ (Heap.get?_none_of_le (au _)) hn'.ns fun b o hb q=>?_
 ·refine (hs.2 e ne).trans (Heap.get?_update_self _ he1 ?_);have fr:=(Heap.get?_some_iff.mp he).2;obtain⟨oc,od,odt,osl⟩:=oe;cases odt<;>first | rfl | exact fr
 ·exact (hs.2 b (bt (Heap.lt_size q))).trans ((Heap.get?_update_ne _ _ _ _ hb).trans (Heap.get?_push_of_some _ q))
end
end Pc
end
section
namespace Pc
open PySem PySem.Spec PyProof.Rows L2
noncomputable abbrev pG (C:Addr) (t0:Addr):Obj:={ cls:=.ref C,data:=.fields #[.ref t0,.none,.none,.none,.bool false,.none] }
section
variable {prog:Program}{w:World}{A:Around}{E:Value→Shared→Prop}{h:Heap}{g:Array GenState}{d:Drawn}{t:Nat}{os:OsState}{e t0:Addr}{us:List Value}
 {nm q:Str}{C N fI:Addr}{bs bm:List Value}{hdct:Bool}{sn:List Str}{sub:List Value}{ab:Bool}{col:Option Bool}{dd:Option Addr}{k0 k1 k2 k3 k5:Option Value}{mN:Str→Option Value}
theorem vJ {Q:Value→Shared→Prop}(hC:h.get? C=some (excClassObj nm q C N bs bm hdct sn sub ab col dd k0 k1 k2 k3 k5 "ValueError.__new__")) (T:OwnTail h nO bm) (he:h.get? e=some (pG C t0)) (hl:us.length≤sizeLine)
  (hq:∀ h' t1,h'.get? e=some (pG C t1)→h.get? t1=none→(∀ b o,b≠e→h.get? b=some o→h'.get? b=some o)→Q .none ⟨h',g,d,t,os⟩) :
  wpAny (model prog w) A (call (.builtin "ValueError.__init__") (.ref e::us)) Q E ⟨h,g,d,t,os⟩:=by
 have FB:=PySem.F.excBase_ValueError;refine wpAny_call (codeAny_call_builtin FB.init.plain FB.initEntry (wpAny_check_init_subT FB T hC he rfl ?_))
 wp_walk
 have ne:e≠h.objs.size:=bt (Heap.lt_size he);refine hq _ h.objs.size ?_ (Heap.get?_none_of_le (au _)) fun b o hb z=>?_
 ·rw[Heap.get?_update_self _ (Heap.get?_push_of_some _ he) rfl];rfl
 ·rw[Heap.get?_update_other _ _ (cj hb)];exact Heap.get?_push_of_some _ z
theorem wA {Q:Value→Shared→Prop}(hC:h.get? C=some (excClassObj nm q C N bs bm hdct sn sub ab col dd k0 k1 k2 k3 k5 "ValueError.__new__")) (hN:h.Ns N mN) (T:OwnTail h nO bm) (hi:mN "__init__" = some (.ref fI)) {oI:Obj}(hf:h.get? fI=some oI) (hfc:oI.cls = .type "function") (hl:us.length≤sizeLine)
  (hq:∀ h' e t0,h'.get? e=some (pG C t0)→h.get? e=none→(∀ b o,h.get? b=some o→h'.get? b=some o) →
   wpAny (model prog w) (A.under (.builtin "type.__call__" ⟨.ref C::us,[]⟩)) (call (.ref fI) (.ref e::us)) (fun r s'=>r = .none∧Q (.ref e) s') E ⟨h',g,d,t,os⟩) :
  wpAny (model prog w) A (call (.ref C) us) Q E ⟨h,g,d,t,os⟩:=by
 have FB:=PySem.F.excBase_ValueError;have f1:=tc_lookup;have f2:=tc_bind (.ref C);have hT:(⟨h,g,d,t,os⟩:Shared).TypeIs (.ref C) "type":=⟨_,hC,rfl⟩;refine wpAny_call (codeAny_of_tree ?_);show wpAny _ _ (callAny (.ref C) _) _ _ _
 repeat (any_goals (first | assumption | with_reducible refine wpAny_loadPart_at hC ?_ | wp_step))
 refine⟨rfl,codeAny_call_builtin_at (Code.quiet_builtin _ (by decide +kernel)) entry_typeCall (wpAny_check_type_call_sub hC ?_)⟩
 repeat (first | with_reducible refine wpAny_loadPart_at hC ?_ | with_reducible refine wpAny_madeBy_exc hC ?_ | wp_step)
 refine codeAny_call_builtin_code (Code.quiet_builtin _ FB.quiet) (wpAny_check_new_subT FB T hC (codeAny_exc_new_subT FB T hC ?_ hl));show wpAny _ _ _ _ _ ⟨(h.push { cls:=.type "tuple",data:=.seq us.toArray }).push (pG C h.objs.size),g,d,t,os⟩;generalize htu:({ cls:=.type "tuple",data:=.seq us.toArray }:Obj)=ot;have kp:∀ b o,h.get? b=some o→((h.push ot).push (pG C h.objs.size)).get? b=some o:=fun b o z=>Heap.get?_push_of_some _ (Heap.get?_push_of_some _ z)
 have hC1:=kp _ _ hC;have hf1:=kp _ _ hf;have hN1:=hN.keeps kp;have hg:((h.push ot).push (pG C h.objs.size)).get? (h.objs.size+1)=some (pG C h.objs.size):=by
  subst htu
  heap_get
 have hcC:(Value.ref C::bm).contains (.ref C)=true:=by simp
 unfold isInstance
 repeat (first | with_reducible refine wpAny_loadPart_at hg ?_ | (with_reducible refine wpAny_isSubtype_exc hC1 ?_;rw[hcC]) | wp_step)
 show wpAny _ _ (typeLookup (.ref C) _) _ _ _;refine wpAny_typeLookup_tail hC1 hN1 (T.keeps kp) FB.mroIs FB.init.lookup ?_;rw[hi];refine wpAny_holding (wpAny_bind ?_);unfold bindSpecial;refine wpAny_bind (wpAny_typeOf (T:="function") ⟨_,hf1,hfc⟩ ?_);rw[if_pos (by decide)];refine wpAny_pure (wpAny_bind (wpAny_mono (hq _ _ _ hg (Heap.get?_none_of_le (Nat.le_succ _)) kp) (fun r s' z=>?_) fun _ _ z=>z));obtain⟨rfl,z⟩:=z
 wp_walk
 exact z
end
end Pc
end
section
namespace Pc
open PySem PySem.Spec PyProof.Rows L2
noncomputable abbrev ins (x:Str):List Str:=["__getattribute__","__getattr__","__class__","__setattr__",x]
noncomputable abbrev AE (C t0 dx:Addr):Obj:={ cls:=.ref C,dict:=some dx,data:=.fields #[.ref t0,.none,.none,.none,.bool false,.none] }
structure BW (st:Stmt) (S x:Str):Prop where
 ex:∃(c1 c2:Str) (p1 p2 p3 p4 p5 p6 p7 p8 p9 p10 p11 p12 p13 p14:Pos),bM st=[.Expr (.Call (.Attribute (.Name S p1) "__init__" p2) [.Name "self" p3,.JoinedStr [.Constant (.str c1) 0 p4,.FormattedValue (.Name x p5) (-1) none p6,.Constant (.str c2) 0 p7] p8] [] p9) p10,
   .Assign [.Attribute (.Name "self" p11) x p12] (.Name x p13) p14] ∧
  (p2.endLine==p9.line)=true∧c1.length≤1000∧c2.length≤1000
 sc:eF ["self",x] ["self",x] (aE st)
 gl:(aE st).names.lookup S=some .globalImplicit
 l1:(aE st).names.lookup ("self" : Str)=some .local
 l2:(aE st).names.lookup x=some .local
 ne:x≠"self"
 db:(S==("__debug__" : Str))=false∧(x==("__debug__" : Str))=false
structure wX (K:PySem.W.Frag) (mg:Str→Option Value) (S x qual:Str) (C cS fI:Addr) (fd:FuncData) (st:Stmt):Prop where
 hS:mg S=some (.ref cS)
 cls:DD K C (ins x) fI=true
 keep:PySem.W.keepIn K (.ref C)=true
 ga:PySem.W.specialIn K (.ref cS) "__getattribute__" = some (some (.builtin "type.__getattribute__"))
 rd:PySem.W.readsIn K cS (.type "type")=true
 fc:PySem.W.findCls K (.ref cS) (.type "type") "__init__" = some (.val (.builtin "ValueError.__init__"))
 F:L2.vk K "__init__" qual st fI fd
 ft:(K.lookup fI).any (fun o=>o.cls == .type "function")=true
 bd:Binds K fd ["self",x] []
 s:BW st S x
 nx:typeLookup (.type "ValueError") x=pure none
theorem log2_small {n:Int}(h:n.natAbs<2 ^ 64):n.natAbs.log2<1920:=by
 by_cases z:n.natAbs=0
 ·rw[z];decide
 ·have:=(Nat.log2_lt z).mpr h;omega
section
variable {P:Program}{w:World}{K:PySem.W.Frag}{mg:Str→Option Value}{base:Heap}{A:Around}{E:Value→Shared→Prop}{s:Shared}{e t0 C cS fI:Addr}{fd:FuncData}{st:Stmt}{S x qual:Str}{n:Int}{u:Tok}
theorem yQ {Q:Value→Shared→Prop}(mod:Mod K mg base) (ks:∀ b o,base.get? b=some o→s.heap.get? b=some o) (k:wX K mg S x qual C cS fI fd st) (hn:n.natAbs<2 ^ 64) (hd:A.depth<recursionLimit) (he:s.heap.get? e=some (pG C t0)) (hb:base.get? e=none)
  (hq:∀ s' t1 dx,s'.os=s.os→s'.gens=s.gens→s'.drawn=s.drawn→s'.heap.get? e=some (AE C t1 dx)→(∃ m,s'.heap.Ns dx m∧m x=some (.int n u))→s.heap.get? dx=none→(∀ b o,b≠e→s.heap.get? b=some o→s'.heap.get? b=some o)→Q .none s') :
  wpAny (model P w) A (call (.ref fI) [.ref e,.int n u]) Q E s:=by
 obtain⟨oc,od,kV,doc,pm,an,cdv,ct,osl,rfl,lk,hcd⟩:=k.F.ex;obtain⟨c1,c2,p1,p2,p3,p4,p5,p6,p7,p8,p9,p10,p11,p12,p13,p14,hbody,hline,hc1,hc2⟩:=k.s.ex;have KX:K.In s.heap:=mod.kin.keeps ks;have lim:s.heap.NoLimit:=mod.nolimit.keeps ks;have sc:=k.s.sc;have hkind:∀ y∈[("self" : Str),x].zip [Value.ref e,.int n u],(aE st).names.lookup y.1=some .local∨((aE st).names.lookup y.1=some .cell∧((cellsFrom (s.heap.objs.size+1) (aE st).names []).lookup y.1).isSome=true):=fun y hy=>by
  rcases et.mp hy with rfl | hy
  ·exact .inl k.s.l1
  ·rcases et.mp hy with rfl | hy
   ·exact .inl k.s.l2
   ·cases hy
 refine wpAny_call (codeAny_call_function hd (KX _ _ lk) rfl sc.co sc.gen rfl (PySem.W.codeRec_of KX hcd) (k.bd s [.ref e,.int n u] KX rfl _ _ _ _ ?_));refine wpAny_newFunctionEnv_cells sc.kind hkind fun env henv s1 x1=>?_
 subst henv;refine⟨lim.keeps x1.toInCall.keep,codeAny_func ?_⟩;show wpAny _ (A.deeper (envOfC qual (aE st) s.heap.objs.size fI cdv)) (execs (bM st) (envOfC qual (aE st) s.heap.objs.size fI cdv)) _ _ _;rw[hbody];have hk0:(envOfC qual (aE st) s.heap.objs.size fI cdv).scope.kind = .function:=sc.kind;have hns:s1.heap.Ns s.heap.objs.size (bindL (envOfC qual (aE st) s.heap.objs.size fI cdv).kindOf ([("self" : Str),x].zip [Value.ref e,.int n u]) fun _=>none):=x1.toInCall.ns;obtain⟨h1,tk,rfl,kp1⟩:=x1.done;have nd:[("self" : Str),x].Nodup:=sc.nd;have m1:=ju (m:=fun _=>none) (kindOf:=(envOfC qual (aE st) s.heap.objs.size fI cdv).kindOf) (vs:=[Value.ref e,.int n u]) (i:=0) nd rfl rfl k.s.l1;have m2:=ju (m:=fun _=>none) (kindOf:=(envOfC qual (aE st) s.heap.objs.size fI cdv).kindOf) (vs:=[Value.ref e,.int n u]) (i:=1) nd rfl rfl k.s.l2;generalize hm:bindL (envOfC qual (aE st) s.heap.objs.size fI cdv).kindOf ([("self" : Str),x].zip [Value.ref e,.int n u]) (fun _=>none)=m at m1 m2 hns;have hns:h1.Ns s.heap.objs.size m:=hns;have ld1:∀{A':Around}{E':Value→Shared→Prop}{s':Shared}{p:Pos}{Q':Value→Shared→Prop},s'.heap.Ns s.heap.objs.size m→Q' (.ref e) s'→wpAny (model P w) A' (eval (.Name "self" p) (envOfC qual (aE st) s.heap.objs.size fI cdv)) Q' E' s' :=
  fun hn' hq'=>wpAny_Name (wpAny_loadName_local hk0 k.s.l1 hn' m1 hq') (by decide)
 have ld2:∀{A':Around}{E':Value→Shared→Prop}{s':Shared}{p:Pos}{Q':Value→Shared→Prop},s'.heap.Ns s.heap.objs.size m→Q' (.int n u) s'→wpAny (model P w) A' (eval (.Name x p) (envOfC qual (aE st) s.heap.objs.size fI cdv)) Q' E' s' :=
  fun hn' hq'=>wpAny_Name (wpAny_loadName_local hk0 k.s.l2 hn' m2 hq') k.s.db.2
 have hlog:=log2_small hn;have kb:∀ b o,base.get? b=some o→h1.get? b=some o:=fun b o z=>kp1 b o (ks b o z)
 have K1:K.In h1:=mod.kin.keeps kb;have eL:e≠s.heap.objs.size:=bt (Heap.lt_size he);have he1:=kp1 _ _ he;obtain⟨bm,FI⟩:=pQ K1 k.cls;obtain⟨nm,q,N,bs,sn,sub,ab,col,dd,k0,k1,k2,k3,k5,mN,hC,hN,hmN,hi⟩:=FI.ex;have neC:C≠e:=fun z=>by rw[z,he1] at hC;cases hC
 refine wpAny_execs_cons (wpAny_Expr_any ?_ (by simp[interactive,hk0]) rfl);rw[arm_eval_Call];refine wpAny_bind (Calls.Name_function_global hk0 k.s.gl (Calls.loadGlobal_global (mg:=mg) (show Heap.Ns _ mainGlobals mg from mod.glob.keeps kb) k.hS ?_) k.s.db.1);refine wpAny_bind (wpAny_standAt ?_);have hpos:methodCallPos true (.Name S p1) (envOfC qual (aE st) s.heap.objs.size fI cdv) p2 p9=pure p9:=by unfold methodCallPos;simp[hline]
 unfold methodCall;rw[show methodCallForm _ _ _=true from rfl];refine wpAny_bind (wpAny_holding (PySem.W.method_cls (name:="__init__") K1 k.ga (PySem.W.cls_value (name:="__init__") K1 k.rd k.fc rfl ?_)));refine wpAny_bind (wpAny_of_eq hpos ?_);refine PySem.W.callWith_of (P:=fun _=>True) rfl (fun h _=>⟨.machine,.inr (.inl rfl),.now⟩) ?_;refine Calls.evalArgs_plain (Calls.spliced_cons (ld1 hns (Calls.spliced_cons ?_)));have l1:(Str.ofString (toString n)).length≤2000:=by
  rw[PySem.ofString_length];have:=int_text_length_le (k:=1920) (by decide) hlog;omega
 show wpAny _ _ (eval (.JoinedStr [.Constant (.str c1) 0 p4,.FormattedValue (.Name x p5) (-1) none p6,.Constant (.str c2) 0 p7] p8) (envOfC qual (aE st) s.heap.objs.size fI cdv)) _ _ _;refine wpAny_JoinedStr (Calls.Constant_str ⟨c1,_,rfl,?_,wpAny_FormattedValue_plain (ld2 hns (wpAny_formatField_int hlog ⟨_,_,rfl,?_,Calls.Constant_str ⟨c2,_,rfl,?_,?_,Calls.spliced_nil ⟨trivial,?_⟩⟩⟩))⟩)
 any_goals (simp only[strLen_append,sizeLine_eq];have:(Str.empty).length=0:=rfl;omega)
 refine vJ hC FI.tail he1 (by rw[sizeLine_eq];exact (by decide:1≤16777216)) fun h2 t1 he2 hn2 kp2=>?_
 have ns2:h2.Ns s.heap.objs.size m:=by
  obtain⟨o,es,ep,z,r⟩:=hns;exact⟨o,es,ep,kp2 _ _ (cj eL) z,r⟩
 have kb2:∀ b o,base.get? b=some o→h2.get? b=some o:=fun b o z=>kp2 b o (fun y=>by rw[y,hb] at z;cases z) (kb b o z)
 obtain⟨bm',FI2⟩:=pQ (mod.kin.keeps kb2) k.cls;obtain⟨nm',q',N',bs',sn',sub',ab',col',dd',j0,j1,j2,j3,j5,mN',hC2,hN2,hmN2,hi2⟩:=FI2.ex;refine wpAny_execs_cons (plainObj_wpAny_Assign_Attribute (ld2 ns2 (ld1 ns2 ?_)) rfl);refine set_own (oe:=pG C t1) hC2 hN2 hmN2 FI2.tail FI2.tn (by simp) (by simp) k.nx he2 rfl rfl rfl fun h3 tk3 dx he3 hdx hn3 kp3=>?_
 refine wpAny_execs_nil (hq _ t1 dx rfl rfl rfl he3 ⟨_,hn3,by simp⟩ ?_ fun b o hbe z=>kp3 b o hbe (kp2 b o hbe (kp1 b o z)));cases z:s.heap.get? dx with
 |none=>rfl
 |some o =>
  by_cases y:dx=e
  ·rw[y,he2] at hdx;cases hdx
  ·rw[kp2 dx o y (kp1 dx o z)] at hdx;cases hdx
end
end Pc
end
section
namespace Pc
open PySem PySem.Spec PyProof.Rows L2
noncomputable def GR (x:Str) (B:Heap) (fr:List Addr) (h:Heap) (a:Addr) (n:Nat):Prop:=∃ dx m u,oH h a (some dx)∧h.Ns dx m∧m x=some (.int n u)∧B.get? dx=none∧dx∉fr
noncomputable def EX (x:Str) (P:Program) (w:World):rV:=fun outer H s E e s'=>∃ a C a0 H' B n,e = .ref a∧s'.os=s.os∧AllBare s'.gens∧Un (fW outer) [] H H' s.heap s'.heap∧kx P w H' s'.heap ∧
 Heap.FlyingW B outer a C a0 s'.heap∧Bf B (fW outer) H' s.heap s'.heap∧GR x B (fW outer) s'.heap a n∧E C (some n) H'
section
variable {M:Model}{A:Around}{E:Value→Shared→Prop}{s:Shared}{env:Env}{nm q:Str}{C N:Addr}{bs bm:List Value}{hdct:Bool}{sn:List Str}{sub:List Value}{ab:Bool}{col:Option Bool}{dd:Option Addr}{k0 k1 k2 k3 k5:Option Value}{newId:String}
theorem vL {y:Sem Value}{Q:Flow→Shared→Prop}(hbase:bm.contains (.type "BaseException")=true) (hh:A.handled=none)
  (h:wpAny M A y (fun v s₁=>∃ e t dx,v = .ref e∧s₁.heap.get? C=some (excClassObj nm q C N bs bm hdct sn sub ab col dd k0 k1 k2 k3 k5 newId)∧s₁.heap.get? e=some (AE C t dx)∧E (.ref e) s₁) E s) :
  wpAny M A (raiseStmt env (some y) none) Q E s:=by
 have hcB:(Value.ref C::bm).contains (.type "BaseException")=true:=by rw[g8,hbase,Bool.or_true]
 unfold raiseStmt;refine wpAny_bind (wpAny_mono h (fun v s₁ h₁=>?_) fun _ _ z=>z);obtain⟨e,t,dx,rfl,hC,he,hE⟩:=h₁;obtain⟨hp,g,d,tk,os⟩:=s₁
 repeat (first | with_reducible refine wpAny_loadPart_at he ?_ | with_reducible refine wpAny_loadPart_at hC ?_ | (with_reducible refine wpAny_isSubtype_exc hC ?_;rw[hcB]) | wp_step)
 exact wpAny_raiseNew_none hh hE
end
section
variable {X:Cx}
theorem wz {y S x qual:Str}{C cS fI:Addr}{fd:FuncData}{st:Stmt}{np cpos pos:Pos}{e:Expr}{t:TA}{W:Nat→Hp→Prop}(hc:X.calm=true) (hdp:X.A.depth+1<recursionLimit) (hg:Gl X y) (hm:X.mg y=some (.ref C)) (k:wX X.K X.mg S x qual C cS fI fd st) (ha:PA X [e] t)
  (hw:∀(pins:List (Addr×Obj)) (σ:L2.St) (H:Hp) (s:Shared) (h':Heap) (tk:Nat) (a t1 dx:Addr) (n:Nat) (u:Tok),W n H→Inv X pins σ H s→s.heap.get? a=none→h'.get? a=some (AE C t1 dx)→(∃ m,h'.Ns dx m∧m x=some (.int n u))→s.heap.get? dx=none →
   (∀ b o,s.heap.get? b=some o→h'.get? b=some o)→X.xe (.ref a) { s with heap:=h',toks:=tk })
  (he:starEach [e] X.env=[(false,eval e X.env)]:=by rfl) (hd:(y==("__debug__" : Str))=false:=by decide) :
  PS X (.Raise (some (.Call (.Name y np) [e] [] cpos)) none pos) (fun D σ H=>t σ H fun vs H'=>∃ n:Nat,vs=[.int n]∧n<2 ^ 64∧W n H'):=by
 intro pins s σ H D I h;obtain⟨bm,FI⟩:=pQ I.ok.mod.kin k.cls;obtain⟨nm,q,N,bs,sn,sub,ab,col,dd,k0,k1,k2,k3,k5,mN,hC,hN,hmN,hi⟩:=FI.ex;rw[arm_exec_Raise];simp only[evalOpt,Option.map];refine wpAny_bind (wpAny_standAt (vL (C:=C) (nm:=nm) (q:=q) (N:=N) (bs:=bs) (bm:=bm) (hdct:=true) (sn:=sn) (sub:=sub) (ab:=ab) (col:=col) (dd:=dd) (k0:=k0) (k1:=k1) (k2:=k2) (k3:=k3) (k5:=k5) (newId:="ValueError.__new__")
  (FI.tail.hasType (show nO.contains (.type "BaseException")=true by decide)) (I.ok.hd hc) ?_))
 refine wpAny_bind (wpAny_mono (wpAny_Call_ofName (jq I hg hm ?_ hd)) (fun v s₃ h₃=>wpAny_bind (wpAny_standAt (wpAny_pure h₃))) fun _ _ z=>z);refine PySem.W.callWith_K (h₀:=X.base) I.ok.mod.kin k.keep (wpAny_mono (ha cpos pins s σ H _ I h) (fun us s1 ⟨vs,H1,I1,r,n,hv,hn,hW⟩=>⟨I1.kIn,?_⟩) fun _ _ z=>z) he rfl;subst hv;obtain⟨u,rfl⟩:∃ u,us=[.int n u]:=by
  cases r with
  |cons r1 r2 =>
   cases r2;obtain⟨u,rfl⟩:=(show ∃ u,_=Value.int n u from r1);exact⟨u,rfl⟩
 obtain⟨oc,od,kV,doc,pm,an,cdv,ct,osl,rfl,lk,hcd⟩:=k.F.ex;have ft:=k.ft;rw[show List.lookup fI X.K=_ from lk] at ft;have hC1:=I1.bk _ _ hC;obtain⟨h1,g1,d1,tk1,os1⟩:=s1;refine wA hC1 (hN.keeps I1.bk) (FI.tail.keeps I1.bk) hi (I1.kIn _ _ lk) (by simpa using ft) (by rw[sizeLine_eq];exact (by decide:1≤16777216)) fun h2 a t0 ha0 hna kp=>?_
 have kb:∀ b o,X.base.get? b=some o→h2.get? b=some o:=fun b o z=>kp b o (I1.bk b o z)
 refine yQ (n:=n) I.ok.mod kb k (by simpa using hn) (by rw[depth_under_make];exact hdp) ha0 (by
  cases z:X.base.get? a with
  |none=>rfl
  |some o=>have:=I1.bk _ _ z;rw[hna] at this;cases this) fun s3 t1 dx e1 e2 e3 e4 e5 e6 e7=>⟨rfl,a,t1,dx,rfl,?_,e4,?_⟩
 ·exact e7 _ _ (fun z=>by rw[z,hna] at hC1;cases hC1) (kp _ _ hC1)
 ·obtain⟨h3,g3,d3,tk3,os3⟩:=s3;cases e1;cases e2;cases e3;refine hw pins σ H1 ⟨h1,g1,d1,tk1,os1⟩ h3 tk3 a t1 dx n u hW I1 hna e4 e5 ?_ fun b o z=>e7 b o (fun y=>by rw[y,hna] at z;cases z) (kp b o z)
  cases z:h1.get? dx with
  |none=>rfl
  |some o =>
   have:=kp _ _ z;have e6:h2.get? dx=none:=e6;rw[e6] at this;cases this
theorem vO {P:Program}{w:World}{K:PySem.W.Frag}{mg:Str→Option Value}{base:Heap}{N:List Str}{qual:Str}{scope:Scope}{f:Addr}{cd:Value}{A:Around}{outer:List Env}{s:Shared}{H:Hp}{E:XK}{CX:rV}
  {pins:List (Addr×Obj)}{σ:L2.St}{H1:Hp}{s1:Shared}{h2 h':Heap}{a:Addr}{C a0:Value}(I:Inv (gF CX P w K mg base N qual scope f cd A outer s H E) pins σ H1 s1) (kp:∀ b o,s1.heap.get? b=some o→h2.get? b=some o)
  (fl:Heap.FlyingW (PySem.W.hideAll s1.heap (fW (envOfC qual scope s.heap.objs.size f cd::outer))) outer a C a0 h') (uts:h2.UpToSlots h') :
  Un (fW outer) [] H H1 s.heap h'∧kx P w H1 h'∧Bf (PySem.W.hideAll s1.heap (fW (envOfC qual scope s.heap.objs.size f cd::outer))) (fW outer) H1 s.heap h':=by
 have hst:=I.stack;have L0:∀ b o,s.heap.get? b=some o→b≠s.heap.objs.size:=fun b o e=>bt (Heap.lt_size e)
 have fr:fW (envOfC qual scope s.heap.objs.size f cd::outer)=s.heap.objs.size::fW outer:=rfl;have stay:∀ b o,s1.heap.get? b=some o→b≠s.heap.objs.size→b∉fW outer→h'.get? b=some o:=fun b o e h1 h2=>fl.1 b o (PySem.W.hideAll_get _ e (by
  rw[fr];intro z;rcases et.mp z with z | z
  ·exact h1 z
  ·exact h2 z))
 have fslot:∀ b o,s1.heap.get? b=some o→b∈fW outer→∃ sl,h'.get? b=some { o with slots:=sl }:=fun b o e hb=>by
  obtain⟨_,o',e',hd⟩:=hst.mem (b:=b) (show b∈s.heap.objs.size::fW outer from aa _ hb);rw[e] at e';cases e';exact uts b o (kp b o e) hd
 have bs:=I.base;have nofr:∀ b,H1 b≠none→b≠s.heap.objs.size∧b∉fW outer:=fun b hb=>by
  have:=I.stkFree;refine⟨fun z=>hb (this b (show b∈s.heap.objs.size::fW outer by rw[z];exact ag)),fun z=>hb (this b (show b∈s.heap.objs.size::fW outer from aa _ z))⟩
 refine⟨⟨fun b o e n hf _=>?_,fun b o e n hf _=>?_,fun b o e n _=>bs.free b o e n (by simp[gF]),fun b o e _=>?_,bs.tups,bs.frzs,bs.tbls⟩,rk I.hok fun b o hb e=>stay b o e (nofr b hb).1 (nofr b hb).2,fun b o e=>?_⟩
 ·exact stay b o (bs.keep b o e n hf (by simp[gF])) (L0 b o e) hf
 ·obtain⟨sl,e1⟩:=bs.slot b o e n hf (by simp[gF]);obtain⟨sl',e2⟩:=fslot b _ e1 hf;exact⟨sl',e2⟩
 ·obtain⟨o1,e1⟩:=bs.there b o e (by simp[gF]);by_cases hf:b∈fW outer
  ·obtain⟨sl',e2⟩:=fslot b _ e1 hf;exact⟨_,e2⟩
  ·exact⟨o1,stay b o1 e1 (L0 b o e) hf⟩
 ·by_cases hf:b∈fW outer
  ·exact .inl hf
  ·cases e1:s1.heap.get? b with
   |none =>
    refine .inr (.inr ⟨?_,?_⟩)
    ·cases e0:s.heap.get? b with
     |none=>rfl
     |some o0 =>
      obtain⟨o1,e2⟩:=bs.there b o0 e0 (by simp[gF]);rw[e1] at e2;cases e2
    ·cases e0:H1 b with
     |none=>rfl
     |some u =>
      obtain⟨ob,e2⟩:=dX.live' (I.hok b u e0);rw[e1] at e2;cases e2
   |some o1 =>
    by_cases hL:b=s.heap.objs.size
    ·refine .inr (.inr ⟨?_,?_⟩)
     ·rw[hL];cases e0:s.heap.get? s.heap.objs.size with
      |none=>rfl
      |some o0=>exact absurd rfl (L0 _ _ e0)
     ·cases e0:H1 b with
      |none=>rfl
      |some u=>exact absurd hL (nofr b (by rw[e0];simp)).1
    ·have:=stay b o1 e1 hL hf;rw[e] at this;cases this;refine .inr (.inl (PySem.W.hideAll_get _ e1 ?_));rw[fr];intro z;rcases et.mp z with z | z
     ·exact hL z
     ·exact hf z
theorem v9 {x:Str}{P:Program}{w:World}{K:PySem.W.Frag}{mg:Str→Option Value}{base:Heap}{N:List Str}{qual:Str}{scope:Scope}{f:Addr}{cd:Value}{A:Around}{outer:List Env}{s:Shared}{H:Hp}{E:XK}
  {pins:List (Addr×Obj)}{σ:L2.St}{H1:Hp}{s1:Shared}{h2:Heap}{tk:Nat}{a t1 dx C:Addr}{n:Nat}{u:Tok}(I:Inv (gF (EX x P w) P w K mg base N qual scope f cd A outer s H E) pins σ H1 s1) (hna:s1.heap.get? a=none) (he:h2.get? a=some (AE C t1 dx))
  (hm:∃ m,h2.Ns dx m∧m x=some (.int n u)) (hdx:s1.heap.get? dx=none) (kp:∀ b o,s1.heap.get? b=some o→h2.get? b=some o) (hE:E (.ref C) (some n) H1):(gF (EX x P w) P w K mg base N qual scope f cd A outer s H E).xe (.ref a) { s1 with heap:=h2,toks:=tk }:=by
 have hst:=I.stack;have hin:∀ env∈(envOfC qual scope s.heap.objs.size f cd::outer),∀ b,env.frame=some b→b∈fW (envOfC qual scope s.heap.objs.size f cd::outer):=fun env he b hb=>List.mem_filterMap.mpr ⟨env,he,hb⟩
 have hid:∀ b,s1.heap.get? b=none→(PySem.W.hideAll s1.heap (fW (envOfC qual scope s.heap.objs.size f cd::outer))).get? b=none:=fun b hb=>by
  cases z:(PySem.W.hideAll s1.heap (fW (envOfC qual scope s.heap.objs.size f cd::outer))).get? b with
  |none=>rfl
  |some o=>have:=PySem.W.of_hideAll _ z;rw[hb] at this;cases this
 show wpAny (model P w) (A.deeper (envOfC qual scope s.heap.objs.size f cd)) (leaving (envOfC qual scope s.heap.objs.size f cd) (.ref a)) _ _ _;refine Dt (base:=PySem.W.hideAll s1.heap (fW (envOfC qual scope s.heap.objs.size f cd::outer))) (s:={ s1 with heap:=h2,toks:=tk }) (outer:=outer) I.ok.frames ((PySem.W.funFrames_hide hst hin).of_keeps fun b o hb _=>⟨o,kp b o hb,rfl⟩) rfl he
  (fun b o q=>kp b o (PySem.W.of_hideAll _ q)) (hid a hna) rfl rfl rfl fun h' fl uts dc=>?_
 obtain⟨r1,r2,r3⟩:=vO I kp fl uts;obtain⟨m,m1,m2⟩:=hm;refine⟨a,.ref C,.ref t1,H1,_,n,rfl,I.os,I.bare,r1,r2,fl,r3,⟨dx,m,u,dc,uts.ns m1,m2,hid dx hdx,fun z=>?_⟩,hE⟩;obtain⟨_,o,e1,_⟩:=hst.mem (b:=dx) (show dx∈s.heap.objs.size::fW outer from aa _ z);rw[hdx] at e1;cases e1
end
end Pc
end
section
namespace Pc
open PySem PySem.Spec PyProof.Rows L2
inductive Rb where
 | fin (cs:bF)
 | seq (cs:bF) (c:Ex) (n:Nat) (r:Rb)
noncomputable def wQ (T:Tb):Rb→En→Option ((D×Bool) ⊕ Nat)
 |.fin cs,env=>match aC T cs env with
  |.rt d fr=>some (.inl (d,fr))
  |.nx _=>some (.inl (.non,true))
  |_=>none
 |.seq cs c n r,env=>match aC T cs env with
  |.rt d fr=>some (.inl (d,fr))
  |.nx e1=>match ev T c e1 with
   |.ok p=>match truth p.1 with
    |some true=>some (.inr n)
    |some false=>wQ T r e1
    |none=>none
   |_=>none
  |_=>none
noncomputable def Rb.add (cs:St):Rb→Rb
 |.fin l=>.fin (.cons cs l)
 |.seq l c n r=>.seq (.cons cs l) c n r
noncomputable def pL (y:Str):List Stmt→Option Nat
 | [.Raise (some (.Call (.Name y' _) [.Constant (.int (.ofNat k)) _ _] [] _)) none _]=>if y'=y∧k<2 ^ 64 then some k else none
 |_=>none
noncomputable def cR (m:Nat) (S:Sc) (y:Str):List Stmt→Option Rb
 |[]=>some (.fin .nil)
 |st::rest=>(cR m S y rest).bind fun r=>match st with
  |.If e a b _=>(match pL y a with
   |some k=>if b.isEmpty then (cE m S e).map fun c=>Rb.seq .nil c k r else none
   |none=>(cS m S st).map fun c=>r.add c)
  |_=>(cS m S st).map fun c=>r.add c
noncomputable def tIfr (K:Frag) (T:Tb) (c:Ex) (w:Hp→Prop) (u:TS):TS:=fun D σ H=>∃(P Z:Addr→Prop) (env:En) (F:Nat→List Addr),RE K P env σ H F∧(∀ i,∀ a∈F i,Z a)∧(∀ a,¬ P a→Z a)∧∃ p k,ev T c env = .ok p∧truth p.1=some k∧∀ H',aN H H'→if k then w H' else u D σ H'
noncomputable def tR (K:Frag) (T:Tb) (W:Nat→Hp→Prop):Rb→TS
 |.fin cs=>Ae K T cs
 |.seq cs c n r=>GJ K T cs (tIfr K T c (W n) (tR K T W r))
section
variable {X:Cx}{S:Sc}{T:Tb}{W:Nat→Hp→Prop}
theorem qX {y:Str}:∀{a:List Stmt}{k:Nat},pL y a=some k→∃ p1 j p2 p3 p4,a=[.Raise (some (.Call (.Name y p1) [.Constant (.int (k:Int)) j p2] [] p3)) none p4]∧k<2 ^ 64:=by
 intro a k h;unfold pL at h;split at h
 ·split at h
  ·rename_i z;cases h;obtain⟨rfl,z⟩:=z;exact⟨_,_,_,_,_,rfl,z⟩
  ·cases h
 ·cases h
theorem Ek {st:Stmt}{rest:List Stmt}{cs:St}{r:Rb}(h1:PS X st (tS X.K T cs)) (h2:jJ X rest (tR X.K T W r)):jJ X (st::rest) (tR X.K T W (r.add cs)):=by
 cases r with
 |fin l=>exact rK h1 h2
 |seq l c n r =>
  refine lU (jZ h1 h2) fun D σ H ⟨P,Z,env,F,re,hz,zp,h⟩=>⟨P,Z,env,F,re,hz,zp,?_⟩
  unfold aC at h;cases hs:bE T cs env with
  |nx env' =>
   rw[hs] at h;exact fun σ' H' F' af=>⟨P,Z,env',F',af.re,af.z,zp,post.trans af h⟩
  |bk env'=>rw[hs] at h;exact h
  |ct env'=>rw[hs] at h;exact h
  |rt d fr=>rw[hs] at h;exact h
  |xc e env'=>rw[hs] at h;exact h
  |bad=>rw[hs] at h;exact h
theorem Cb {y:Str}{m:Nat}(C:qk X.nox S T) (hr:∀ k p1 j p2 p3 p4,k<2 ^ 64→PS X (.Raise (some (.Call (.Name y p1) [.Constant (.int ((k:Nat):Int)) j p2] [] p3)) none p4) (fun D σ H=>W k H)) :
  ∀(l:List Stmt) (r:Rb),cR m S y l=some r→jJ X l (tR X.K T W r)
 | [],r,h=>by
  cases h;exact uQ
 | st::l,r,h=>by
  unfold cR at h;obtain⟨r1,h1,h2⟩:=ah.mp h;clear h;have ih:=Cb C hr l r1 h1;have gen:∀{c:St},cS m S st=some c→jJ X (st::l) (tR X.K T W (r1.add c)):=fun hc=>Ek (PS.nox ((BV C m).1 _ _ hc)) ih
  split at h2
  ·split at h2
   ·rename_i k hk;obtain⟨p1,j,p2,p3,p4,rfl,hk2⟩:=qX hk;split at h2
    ·rename_i hb;obtain⟨c,hc,rfl⟩:=ae.mp h2;rw[List.isEmpty_iff] at hb;subst hb;refine lU (jZ (Cc (PT.nox (eX m C.c _ _ hc).2) (qa (hr k p1 j p2 p3 p4 hk2)) u7) ih) fun D σ H h=>?_
     obtain⟨P,Z,env,F,re,hz,zp,h⟩:=h;unfold aC at h;obtain⟨P,Z,env,F,re,hz,zp,p,b,e1,e2,h⟩:=h σ H F (After.same re hz (aN.refl _));refine⟨P,env,F,re,p,b,e1,e2,fun H' sm=>?_⟩;have:=h H' sm;cases b with
     |true=>exact this
     |false=>exact this
    ·cases h2
   ·obtain⟨c,hc,rfl⟩:=ae.mp h2;exact gen hc
  ·obtain⟨c,hc,rfl⟩:=ae.mp h2;exact gen hc
theorem B7 {K:Frag}{P Z:Addr→Prop}{D:Ends}(hnx:∀ σ' H',D.rt .non H'→D.nx σ' H') (zp:∀ a,¬ P a→Z a):∀(r:Rb) {env:En}{σ:L2.St}{H:Hp}{F:Nat→List Addr},RE K P env σ H F→(∀ i,∀ a∈F i,Z a)→(match wQ T r env with
  | some (.inl (d,fr))=>∀ v H' G,Rep K H' d v G→kq P H H'→(∀ a∈G,Z a)→(fr=true→G.Nodup∧∀ a∈G,¬ P a∧∃ vs:ML,H' a=some vs.o)→D.rt v H'
  | some (.inr k)=>∀ H',kq P H H'→W k H'
  |none=>False)→tR K T W r D σ H
 | .fin cs,env,σ,H,F,re,hz,h=>by
  refine⟨P,Z,env,F,re,hz,zp,?_⟩;unfold wQ at h;cases hq:aC T cs env with
  |rt d fr=>rw[hq] at h;exact h
  |nx e =>
   rw[hq] at h;intro σ' H' F' af;exact hnx _ _ (h .non H' [] .non af.ev (fun _ h=>(nomatch h)) fun _=>⟨bz,fun _ h=>(nomatch h)⟩)
  |bk e=>rw[hq] at h;exact h.elim
  |ct e=>rw[hq] at h;exact h.elim
  |xc e e'=>rw[hq] at h;exact h.elim
  |bad=>rw[hq] at h;exact h.elim
 | .seq cs c n r,env,σ,H,F,re,hz,h=>by
  refine⟨P,Z,env,F,re,hz,zp,?_⟩;unfold wQ at h;cases hq:aC T cs env with
  |rt d fr=>rw[hq] at h;exact h
  |nx e =>
   rw[hq] at h;intro σ' H' F' af;dsimp only at h;cases hc:ev T c e with
   |ok p =>
    rw[hc] at h;dsimp only at h;cases ht:truth p.1 with
    |none=>rw[ht] at h;exact h.elim
    |some b =>
     rw[ht] at h;refine⟨P,Z,e,F',af.re,af.z,zp,p,b,hc,ht,fun H2 sm=>?_⟩;have af2:=After.same (Z:=Z) af.re af.z sm;cases b with
     |true=>exact h H2 (af.ev.trans af2.ev)
     |false =>
      show if false=true then _ else _
      rw[if_neg ba];refine B7 hnx zp r af2.re af2.z ?_;dsimp only at h;cases hr:wQ T r e with
      |none=>rw[hr] at h;exact h
      |some z =>
       rw[hr] at h;cases z with
       |inl q=>exact fun v H' G r1 r2 r3 r4=>h v H' G r1 (af.ev.trans (af2.ev.trans r2)) r3 r4
       |inr k=>exact fun H' r2=>h H' (af.ev.trans (af2.ev.trans r2))
   |exc x=>rw[hc] at h;exact h.elim
   |bad=>rw[hc] at h;exact h.elim
  |bk e=>rw[hq] at h;exact h.elim
  |ct e=>rw[hq] at h;exact h.elim
  |xc e e'=>rw[hq] at h;exact h.elim
  |bad=>rw[hq] at h;exact h.elim
end
section
variable {p:Pg}{P:Program}{w:World}{K:Frag}{mg:Str→Option Value}{base:Heap}
noncomputable def spX (K:Frag) (n:Nat) (C:Addr) (f:List D→Option ((D×Bool) ⊕ Nat)):Sp:=fun vs H Q E=>∃ ds G,ds.length=n∧aI K H ds vs G∧(match f ds with
 | some (.inl (d,fr))=>∀ v H' G',aN H H'→Rep K H' d v G'→(∀ a∈G',H a=none∨a∈G)→(fr=true→G'.Nodup∧∀ a∈G',H a=none∧∃ vs:ML,H' a=some vs.o)→Q v H'
 | some (.inr k)=>∀ H',aN H H'→E (.ref C) (some k) H'
 |none=>False)
theorem BM {n:Nat}{C:Addr}{f:List D→Option ((D×Bool) ⊕ Nat)}{vs:List V}{H:Hp}{Q:VK}{E:XK}(h:spX K n C f vs H Q E):vs.length=n:=by
 obtain⟨ds,G,h1,h2,_⟩:=h;rw[←h1,h2.len]
theorem BG {fo:List Str}{n m:Nat}{d:Df}{rb:Rb}{S x y qual:Str}{C cS fI f:Addr}{fd fdI:FuncData}{stI:Stmt}(hp:∀ d∈p.dfs,d.OkX p fo) (hi:p.In K mg) (hh:wO w K) (ih:rW p P w K mg base n) (Sc:eF d.N d.ps (aE d.st)) (F:L2.vk K d.nm d.nm d.st f fd)
  (hc:cR m (p.sc d) y (bM d.st)=some rb) (hg:(aE d.st).names.lookup y=some .globalImplicit) (hm:mg y=some (.ref C)) (k:wX K mg S x qual C cS fI fdI stI) (hd:(y==("__debug__" : Str))=false) :
  nS P w K mg base (EX x P w) (mT n) f fd d.ps (spX K d.ps.length C fun ds=>wQ ⟨p.run n,p.gl,p.fuel⟩ rb (aF ds d.N.length)):=by
 refine zD F Sc (fun A r=>⟨r.hd,by have:=r.dp;omega⟩) (fun vs H Q E h=>BM h) fun cdv A outer s H vs Q E hr hs=>?_
 refine⟨_,Cb (W:=fun n H'=>E (.ref C) (some n) H') (EH hp hi hh ih Sc (hr.deeper _)) (fun k0 p1 j p2 p3 p4 hk=>?_) _ _ hc,?_⟩
 ·refine cJ (wz (C:=C) (W:=fun n H'=>E (.ref C) (some n) H') rfl ?_ hg hm k (fZ tP mJ) (fun pins σ H1 s1 h' tk a t1 dx n u hW I e1 e2 e3 e4 e5=>v9 I e1 e2 e3 e4 e5 hW) rfl hd) fun D σ H' h=>?_
  ·show A.depth+1+1<_;have:=hr.dp;omega
  ·exact⟨k0,rfl,hk,h⟩
 obtain⟨ds,G,hlen,rs,k⟩:=hs;dsimp only at k;have hN:ds.length≤d.N.length:=by
  rw[hlen,←Sc.pre,eg];exact ik _ _
 obtain⟨F0,re,hF⟩:=entry rs hN;refine B7 (P:=fun a=>H a≠none) (Z:=fun a=>H a=none∨a∈G) (fun σ' H' h=>h) (fun a h=>.inl (Classical.not_not.mp h)) rb re (fun j a ha=>.inr (hF j a ha)) ?_;show match wQ ⟨p.run n,p.gl,p.fuel⟩ rb (aF ds d.N.length) with
  | some (.inl (d,fr))=>_
  | some (.inr k)=>_
  |none=>False
 cases hq:wQ ⟨p.run n,p.gl,p.fuel⟩ rb (aF ds d.N.length) with
 |none=>rw[hq] at k;exact k
 |some z =>
  rw[hq] at k;cases z with
  |inl q =>
   intro v H' G' rp ev z fz;exact k v H' G' (kl ev) rp z fun hf=>let ⟨a,b⟩:=fz hf;⟨a,fun x hx=>⟨Classical.not_not.mp (b x hx).1,(b x hx).2⟩⟩
  |inr j=>exact fun H' ev=>k H' (kl ev)
end
end Pc
end
section
namespace Pc
open PySem PySem.Spec PyProof.Rows L2
noncomputable def tU (K:PySem.W.Frag) (C:Addr):Bool:=x6 K C&&(match K.lookup C with
 |some ⟨_,_,.cls cd,_⟩=>cd.mro.tail.contains (.type "BaseException")
 |_=>false)
theorem xb {K:PySem.W.Frag}{h:Heap}{D:Addr}(kin:K.In h) (q:tU K D=true) :
  ∃ bm N nm qn bs hdct sn sub ab col dd k0 k1 k2 k3 k5 newId,h.get? D=some (excClassObj nm qn D N bs bm hdct sn sub ab col dd k0 k1 k2 k3 k5 newId)∧bm.contains (.type "BaseException")=true:=by
 unfold tU at q;rw[ai] at q;obtain⟨bm,N,nm,qn,bs,hdct,sn,sub,ab,col,dd,k0,k1,k2,k3,k5,newId,hD⟩:=rD kin q.1;refine⟨bm,N,nm,qn,bs,hdct,sn,sub,ab,col,dd,k0,k1,k2,k3,k5,newId,hD,?_⟩;have q2:=q.2;split at q2
 ·rename_i ho;have:=kin _ _ ho;rw[hD] at this;injection this with this
  injection this with _ _ hdat _
  injection hdat with hdat
  subst hdat;exact q2
 ·cases q2
theorem zS {K:PySem.W.Frag}{h:Heap}{C D N:Addr}{nm q:Str}{bs bm:List Value}{hdct:Bool}{sn:List Str}{sub:List Value}{ab:Bool}{col:Option Bool}{dd:Option Addr}{k0 k1 k2 k3 k5:Option Value}{newId:String}(kin:K.In h)
  (hC:h.get? C=some (excClassObj nm q C N bs bm hdct sn sub ab col dd k0 k1 k2 k3 k5 newId)) (ho:mw K C D=true):(Value.ref C::bm).contains (.ref D)=true:=by
 unfold mw at ho;split at ho
 ·rename_i hl;have:=kin _ _ hl;rw[hC] at this;injection this with this
  injection this with _ _ hdat _
  injection hdat with hdat
  subst hdat;exact ho
 ·cases ho
section
variable {X:Cx}{pins:List (Addr×Obj)}{σ:L2.St}{H:Hp}{s:Shared}{D:Ends}{x:Str}{W:Value→Nat→Hp→Prop}
noncomputable def uE (x:Str) (X:Cx) (pins:List (Addr×Obj)) (σ:L2.St) (W:Value→Nat→Hp→Prop) (e:Value) (s1:Shared):Prop :=
 ∃ H0 s0 a C a0 H' B n,Inv X pins σ H0 s0∧e = .ref a∧s1.os=s0.os∧AllBare s1.gens∧B5 X H0 H' s0 B s1.heap∧Heap.FlyingW B X.stack a C a0 s1.heap∧GR x B (fW X.stack) s1.heap a n∧W C n H'
theorem vz {RP:Around→Prop}{f:Addr}{fd:FuncData}{ps:List Str}{sp:Sp}{dvs:List V}{ds:List Value}{y:Str}{p pos:Pos}{e:Expr}{es:List Expr}{t:TA}{Q:VK}(F:nS X.prog X.w X.K X.mg X.base (EX x X.prog X.w) RP f fd ps sp) (hr:RP X.A) (hg:Gl X y) (hm:X.mg y=some (.ref f)) (hk:PySem.W.keepIn X.K (.ref f)=true) (hb:Binds X.K fd ps ds) (hd:aQ dvs ds)
  (I:Inv X pins σ H s) (ha:PA X.nox (e::es) t) (h:t σ H fun vs H1=>sp (vs++dvs) H1 Q (fun C o H'=>∃ n,o=some n∧W C n H')) (hdb:(y==("__debug__" : Str))=false:=by decide)
  (he:starEach (e::es) X.env=(false,eval e X.env)::starEach es X.env:=by rfl) (hpl:(backTo pos (starEach es X.env)).any (·.1)=false:=by rfl) :
  wpAny (model X.prog X.w) X.A (eval (.Call (.Name y p) (e::es) [] pos) X.env) (EP X pins σ Q) (uE x X pins σ W) s:=by
 refine wpAny_Call_Name_kw (jq I hg hm ?_ hdb);refine PySem.W.callWith_K (h₀:=X.base) I.ok.mod.kin hk (wpAny_mono (ha pos pins s σ H _ (I.wish _) h) (fun us s1 ⟨vs,H1,I1,r,q⟩=>⟨I1.unwish.kIn,?_⟩) fun _ _ z=>False.elim z) he hpl;have I:=I1.unwish;have r2:aQ (vs++dvs) (us++ds):=r.append hd;have hl:(us++ds).length=ps.length:=by rw[←r2.length];exact F.len _ _ _ _ q
 refine wpAny_call (codeAny_mono (F.run X.A X.stack s1 H1 ⟨us,[]⟩ (us++ds) (vs++dvs) Q _ hr I.env0 (hb s1 us I.kIn hl) r2 q) fun r s' hq=>?_);cases r with
 |error e =>
  have hq:EX x X.prog X.w X.stack H1 s1 (fun C o H'=>∃ n,o=some n∧W C n H') e s':=hq;obtain⟨a,C,a0,H',B,n,e1,e2,e3,e4,e5,e6,e7,e8,n',e9,e10⟩:=hq;cases e9;exact⟨H1,s1,a,C,a0,H',B,n,I,e1,e2,e3,⟨e4,e5,e7⟩,e6,e8,e10⟩
 |ok fl =>
  cases fl with
  |ret u=>exact I.after hq
  |next=>exact False.elim hq
  |brk=>exact False.elim hq
  |cont=>exact False.elim hq
theorem xI {E':Value→Shared→Prop}{i:Nat}{y:Str}{e:Expr}{pos pos':Pos}{Q:VK}(hN:X.N.Nodup) (hi:X.N[i]? = some y) (hx:Loc X.env.scope y) (I:Inv X pins σ H s) (h:wpAny (model X.prog X.w) X.A (eval e X.env) (EP X pins σ Q) E' s) (hq:∀ v H',Q v H'→D.nx (σ.set i (some v)) H')
  (hs:swapsWith e (some (.Name y pos')) pos.line X.env=pure false:=by rfl) (hf:X.fn y=true∨X.env.scope.names.lookup y=some .local:=by first | exact .inl rfl | exact .inr rfl | assumption) :
  wpAny (model X.prog X.w) X.A (execs [.Assign [.Name y pos'] e pos] X.env) (SP X pins D) E' s:=by
 refine wpAny_execs_cons (wpAny_mono (Q:=SP X pins D) (wpAny_Assign_Name (dB h fun v s1 ⟨y,H1,I1,r1,q1⟩=>kr I1 hN hi hx r1 (fun s2 I2=>⟨_,H1,I2,hq _ _ q1⟩) hf) hs) (fun f s1 q=>?_) fun _ _ z=>z);cases f with
 |next=>exact wpAny_execs_nil q
 |ret v=>exact q
 |brk=>exact q
 |cont=>exact q
theorem wq (hs:X.stack=X.env::X.outer) (hf:X.env.frame=some X.env.locals) (ok:X.Ok) {body:List Stmt}{y:Str}{Cd:Addr}{np hp pos:Pos}{b₀:Stmt}{suite:List Stmt}{ts:TS}(hg:Gl X y) (hm:X.mg y=some (.ref Cd)) (qD:tU X.K Cd=true) (hsu:∀ a,jJ (markX X a) (b₀::suite) ts)
  (hw:∀ C n H',W C n H'→(∃ c,C = .ref c∧x6 X.K c=true∧mw X.K c Cd=true)∧ts D σ H') (hd:(y==("__debug__" : Str))=false:=by decide)
  (hb:wpAny (model X.prog X.w) X.A (execs body X.env) (SP X pins D) (uE x X pins σ W) s) :
  wpAny (model X.prog X.w) X.A (exec (.Try body [.ExceptHandler (some (.Name y np)) none (b₀::suite) hp] [] [] pos) X.env) (SP X pins D) X.xe s:=by
 refine wpAny_Try_except (wpAny_mono hb (fun f s1 h1=>?_) fun e s1 h1=>?_)
 ·cases f with
  |next=>exact wpAny_pure h1
  |brk=>exact h1
  |cont=>exact h1
  |ret u=>exact h1
 obtain⟨H0,s0,a,C,a0,H',B,n,I0,rfl,ho,hbr,F1,f1,at1,w1⟩:=h1;obtain⟨⟨c,rfl,qC,oC⟩,hts⟩:=hw C n H' w1;have f1':=f1;rw[hs] at f1';refine wpAny_looks_onW (by rw[ok.frames,hs]) hf f1' fun h2 g2 u2=>?_
 rw[←hs] at g2;have F2:=F1.next I0 g2.1 (nh f1) u2;refine wpAny_landsW g2 fun h3 f3 u3=>?_
 have F3:=F2.next I0 f3.1 (qT g2) u3;have back:∀ h,({ s1 with heap:=h }:Shared)={ s0 with heap:=h,gens:=s1.gens,drawn:=s1.drawn,toks:=s1.toks }:=fun h=>by
  cases s1;cases s0;cases ho;rfl
 have I3:Inv X pins σ H' { s1 with heap:=h3 }:=by
  rw[back];exact F3.inv I0 hbr
 refine wpAny_handleBy_cons (codeAny_handlers_test (jq (X:=markX X a) (qJ I3 a ok.frames) hg hm ?_ hd)) (by intro q;cases q);obtain⟨bm',N',nm',qn',bs',hdct',sn',sub',ab',col',dd',j0,j1,j2,j3,j5,nI',hD,hB⟩:=xb I3.kIn qD;obtain⟨bm,N,nm,qn,bs,hdct,sn,sub,ab,col,dd,k0,k1,k2,k3,k5,nI,hC⟩:=rD I3.kIn qC;obtain⟨oe,he,hcl⟩:=f3.there;refine qN hC hD he hcl hB ?_;rw[zS I3.kIn hC oC];refine codeAny_handlers_suite (lands_againW f3 fun h4 f4 u4=>?_);have F4:=F3.next I0 f4.1 (nh f3) u4;have I4:Inv X pins σ H' { s1 with heap:=h4 }:=by
  rw[back];exact F4.inv I0 hbr
 exact wpAny_mono (hsu a pins _ σ H' D (qJ I4 a ok.frames) hts) (fun f s2 h2=>wH ok h2) fun _ _ z=>z.elim
end
end Pc
end
section
namespace Pc
open PySem PySem.Spec PyProof.Rows L2
section
variable {prog:Program}{w:World}{A:Around}{E:Value→Shared→Prop}{h:Heap}{g:Array GenState}{d:Drawn}{t:Nat}{os:OsState}{a dx:Addr}{o:Obj}{vs:Array Value}{m:Str→Option Value}{x:Str}{v:Value}
 {nm q:Str}{C N:Addr}{bs bm:List Value}{sn:List Str}{sub:List Value}{ab:Bool}{col:Option Bool}{dd:Option Addr}{k0 k1 k2 k3 k5:Option Value}{newId:String}{mN:Str→Option Value}
end
section
variable {X:Cx}{a dx C fI:Addr}{o od:Obj}{x:Str}{k:Nat}
end
end Pc
end
section
namespace Pc
open PySem PySem.Spec PyProof.Rows L2
noncomputable def bF.app:bF→bF→bF
 |.nil,b=>b
 |.cons s r,b=>.cons s (r.app b)
theorem rf {T:Tb}(b:bF):∀(a:bF) (env:En),aC T (a.app b) env=(aC T a env).andThen (aC T b)
 |.nil,env=>by rw[bF.app,aC.eq_1 T];rfl
 | .cons s r,env=>by
  rw[bF.app,aC,aC];cases bE T s env with
  |nx e=>exact rf b r e
  |bk e=>rfl
  |ct e=>rfl
  |rt d fr=>rfl
  |xc x e=>rfl
  |bad=>rfl
noncomputable def Rb.ask:Rb→bF
 |.fin cs=>cs
 |.seq cs c n r=>cs.app (.cons (.ite c (.cons .retN .nil) .nil) r.ask)
theorem yr {T:Tb}:∀(rb:Rb) {env:En}{r:D×Bool},Pc.ret (aC T rb.ask env) = .ok r→wQ T rb env=some (.inl r)∨(∃ k,wQ T rb env=some (.inr k)∧r=(.non,true))
 | .fin cs,env,r,h=>by
  unfold Rb.ask at h;unfold wQ;cases hq:aC T cs env with
  |rt d fr=>rw[hq] at h;cases h;exact .inl rfl
  |nx e=>rw[hq] at h;cases h;exact .inl rfl
  |bk e=>rw[hq] at h;cases h
  |ct e=>rw[hq] at h;cases h
  |xc x e=>rw[hq] at h;cases h
  |bad=>rw[hq] at h;cases h
 | .seq cs c n rb,env,r,h=>by
  unfold Rb.ask at h;rw[rf] at h;unfold wQ;cases hq:aC T cs env with
  |rt d fr=>rw[hq] at h;cases h;exact .inl rfl
  |nx e =>
   rw[hq] at h;have h:Pc.ret (aC T (.cons (.ite c (.cons .retN .nil) .nil) rb.ask) e) = .ok r:=h;rw[aC,bE] at h;dsimp only;cases hc:ev T c e with
   |ok p =>
    rw[hc] at h;dsimp only;cases ht:truth p.1 with
    |none =>
     rw[iI,ht] at h;cases h
    |some b =>
     rw[iI,ht] at h;cases b with
     |true =>
      dsimp only at h;rw[aC,bE] at h;cases h;exact .inr ⟨n,rfl,rfl⟩
     |false =>
      dsimp only at h;rw[aC] at h;exact yr rb h
   |exc x=>rw[hc] at h;cases h
   |bad=>rw[hc] at h;cases h
  |bk e=>rw[hq] at h;cases h
  |ct e=>rw[hq] at h;cases h
  |xc x e=>rw[hq] at h;cases h
  |bad=>rw[hq] at h;cases h
end Pc
end
section
namespace Pc
open PySem PySem.Spec PyProof.Rows L2
structure yu (st:Stmt) (a b c t g y:Str):Prop where
 ex:∃(j1 j2:Nat) (q1 q2 q3 p1 p2 p3 p4 p5 p6 p7 p8 h1 h2 h3 h4 h5 r1 r2:Pos),bM st=[.Assign [.Name t q1] (.Constant .none j1 q2) q3,
   .Try [.Assign [.Name t p1] (.Call (.Name g p2) [.Name a p3,.Name b p4,.Name c p5] [] p6) p7] [.ExceptHandler (some (.Name y h1)) none [.Assign [.Name t h2] (.Constant .none j2 h3) h4] h5] [] [] p8,
   .Return (some (.Name t r1)) r2]
 sc:eF [a,b,c,t] [a,b,c] (aE st)
 la:(aE st).names.lookup a=some .local
 lb:(aE st).names.lookup b=some .local
 lc:(aE st).names.lookup c=some .local
 lt:(aE st).names.lookup t=some .local
 lg:(aE st).names.lookup g=some .globalImplicit
 ly:(aE st).names.lookup y=some .globalImplicit
 db:((a==("__debug__" : Str))=false∧(a==("__classdict__" : Str))=false)∧((b==("__debug__" : Str))=false∧(b==("__classdict__" : Str))=false)∧((c==("__debug__" : Str))=false∧(c==("__classdict__" : Str))=false)∧((t==("__debug__" : Str))=false∧(t==("__classdict__" : Str))=false)∧(g==("__debug__" : Str))=false∧(y==("__debug__" : Str))=false
section
variable {P:Program}{w:World}{K:Frag}{mg:Str→Option Value}{base:Heap}
theorem asked {n:Nat}{f f' C:Addr}{fd fd':FuncData}{st:Stmt}{x nm a b c t g y:Str}{ps':List Str}{spx:Sp}(k:yu st a b c t g y) (F:L2.vk K nm nm st f fd) (FR:nS P w K mg base (EX x P w) (mT n) f' fd' ps' spx) (kp:PySem.W.keepIn K (.ref f')=true)
  (B':Binds K fd' ps' []) (hm':mg g=some (.ref f')) (hy:mg y=some (.ref C)) (qB:tU K C=true) (qo:mw K C C=true) (sp:Sp)
  (hl:∀ vs H Q E,sp vs H Q E→∃ v1 v2 v3,vs=[v1,v2,v3]∧spx [v1,v2,v3] H Q (fun C' o H'=>∃ m,o=some m∧C' = .ref C∧Q .non H')):kT P w K mg base wN (n+1) f fd [a,b,c] sp:=by
 have S:=k.sc;refine (zD (RP:=fR (n+1)) F S (fun A r=>⟨r.hd,r.depth⟩) (fun vs H Q E h=>by obtain⟨v1,v2,v3,e,_⟩:=hl vs H Q E h;rw[e];rfl) fun cdv A outer s H vs Q E hr hs=>?_).plain;obtain⟨v1,v2,v3,rfl,hx⟩:=hl vs H Q E hs;obtain⟨j1,j2,q1,q2,q3,p1,p2,p3,p4,p5,p6,p7,p8,h1,h2,h3,h4,h5,r1,r2,hbody⟩:=k.ex;rw[hbody];obtain⟨da,db,dc,dt,dg,dy⟩:=k.db;have qD:x6 K C=true:=by
  unfold tU at qB;rw[ai] at qB;exact qB.1
 have hrest:jJ (gF wN P w K mg base [a,b,c,t] nm (aE st) f cdv A outer s H E).nox [.Try [.Assign [.Name t p1] (.Call (.Name g p2) [.Name a p3,.Name b p4,.Name c p5] [] p6) p7] [.ExceptHandler (some (.Name y h1)) none [.Assign [.Name t h2] (.Constant .none j2 h3) h4] h5] [] [] p8,
   .Return (some (.Name t r1)) r2] (fun D σ H1=>σ=[some v1,some v2,some v3,some .non]∧spx [v1,v2,v3] H1 D.rt (fun C' o H'=>∃ m,o=some m∧C' = .ref C∧D.rt .non H')):=by
  intro pins s1 σ H1 D I ⟨hσ,hx⟩;subst hσ;have args:PA (gF wN P w K mg base [a,b,c,t] nm (aE st) f cdv A outer s H E).nox [.Name a p3,.Name b p4,.Name c p5] (mE (Bw 0) (mE (Bw 1) (mE (Bw 2) xC))) :=
   fZ (jL rfl (.inl k.la) da.1 da.2) (fZ (jL rfl (.inl k.lb) db.1 db.2) (fZ (jL rfl (.inl k.lc) dc.1 dc.2) mJ))
  refine wpAny_execs_cons (wpAny_mono (Q:=SP _ pins { D with nx:=fun σ' H'=>∃ z,σ'=[some v1,some v2,some v3,some z]∧D.rt z H' }) (wq (x:=x) (ts:=xN (tC .non) (mj 3)) (W:=fun C' _ H'=>C' = .ref C∧D.rt .non H') rfl rfl I.ok k.ly hy qB
   (fun a=>qa (sC (i:=3) S.nd rfl (.inl k.lt) pz)) (fun C' m H' hW=>⟨⟨C,hW.1,qD,qo⟩,.non,rfl,hW.2⟩) dy
   (xI (i:=3) (Q:=D.rt) S.nd rfl (.inl k.lt) I (vz FR (mT.of hr _) k.lg hm' kp B' .nil I args ⟨v1,rfl,v2,rfl,v3,rfl,hx⟩ dg) fun z H' q=>⟨z,rfl,q⟩)) (fun fl s2 q=>?_) fun _ _ z=>z)
  cases fl with
  |next =>
   obtain⟨σ',H',J,z,rfl,q⟩:=q;exact qa (zi (jL (i:=3) rfl (.inl k.lt) dt.1 dt.2)) pins s2 _ H' D J ⟨z,rfl,q⟩
  |ret u=>exact q
  |brk=>exact q
  |cont=>exact q
 exact⟨_,jJ.nox (jZ (sC (i:=3) S.nd rfl (.inl k.lt) pz) hrest),rfl,hx⟩
end
end Pc
end
section
namespace Pc
open PySem PySem.Spec PyProof.Rows L2
section
variable {p:Pg}{P:Program}{w:World}{K:Frag}{mg:Str→Option Value}{base:Heap}
theorem Bo {fo:List Str}{n m iA iM:Nat}{dA dM:Df}{rb:Rb}{S x y qual a b c t:Str}{C cS fI f:Addr}{fd fdI:FuncData}{stI:Stmt}(hp:∀ d∈p.dfs,d.OkX p fo) (hi:p.In K mg) (hh:wO w K) (ih:rW p P w K mg base n)
  (hA:p.dfs[iA]? = some dA) (hM:p.dfs[iM]? = some dM) (pA:dA.ps=[a,b,c]) (pM:dM.ps.length=3) (bA:dA.body=rb.ask) (nA:dA.N.length=dM.N.length) (ScM:eF dM.N dM.ps (aE dM.st)) (hc:cR m (p.sc dM) y (bM dM.st)=some rb)
  (hg:(aE dM.st).names.lookup y=some .globalImplicit) (hm:mg y=some (.ref C)) (k:wX K mg S x qual C cS fI fdI stI) (hd:(y==("__debug__" : Str))=false) (kA:yu dA.st a b c t dM.nm y) (qB:tU K C=true) (qo:mw K C C=true) (F:L2.vk K dA.nm dA.nm dA.st f fd) :
  kT P w K mg base wN (n+1) f fd dA.ps (Bq K dA.ps.length (p.run (n+1) iA)):=by
 obtain⟨f',fd',F',M'⟩:=hi.fn iM dM hM;have B':=F'.binds (hp dM (List.mem_of_getElem? hM)).bd;have FR:=BG (m:=m) hp hi hh ih ScM F' hc hg hm k hd;rw[pA];refine asked kA F FR F'.kp B' M' hm qB qo _ fun vs H Q E hs=>?_
 obtain⟨ds,G,hlen,rs,r,hrun,kk⟩:=hs;have hl:ds.length=3:=hlen;have hv:vs.length=3:=by rw[←rs.len];exact hl
 obtain⟨v1,v2,v3,rfl⟩:∃ v1 v2 v3,vs=[v1,v2,v3]:=by
  match vs,hv with
  |[v1,v2,v3],_=>exact⟨v1,v2,v3,rfl⟩
 refine⟨v1,v2,v3,rfl,ds,G,by rw[hl,pM],rs,?_⟩;have hfn:p.fns[iA]? = some ⟨dA.ps.length,dA.N.length,dA.body⟩:=by unfold Pg.fns;rw[List.getElem?_map,hA];rfl
 have hrun:Pc.ret (aC ⟨p.run n,p.gl,p.fuel⟩ dA.body (aF ds dA.N.length)) = .ok r:=(bI (F:=⟨dA.ps.length,dA.N.length,dA.body⟩) hfn (by rw[hl,pA];rfl)).symm.trans hrun;rw[bA,nA] at hrun;dsimp only;rcases yr rb hrun with e | ⟨j,e,rfl⟩
 ·rw[e];exact kk
 ·rw[e];intro H' sm;exact⟨j,rfl,rfl,kk .non H' [] sm .non (fun _ z=>(nomatch z)) fun _=>⟨bz,fun _ z=>(nomatch z)⟩⟩
end
end Pc
end
section
namespace Pc
open PySem PySem.Spec PyProof.Rows L2
section
variable {P:Program}{w:World}{K:PySem.W.Frag}{mg:Str→Option Value}{base:Heap}{f:Addr}{fd:FuncData}{ps N:List Str}{sp:Sp}
end
section
variable {X:Cx}
end
end Pc
end
section
namespace Pc
open PySem PySem.Spec PyProof.Rows L2
noncomputable def bF.asgs:bF→Bool
 |.nil=>true
 | .cons (.asg (.nm _) _ _) r=>r.asgs
 |_=>false
noncomputable def Rb.plain:Rb→Bool
 | .fin (.cons (.ret _) .nil)=>true
 |.fin _=>false
 |.seq cs _ n r=>cs.asgs&&n==0&&r.plain
end Pc
end
section
namespace Pc
open PySem
theorem nr {f:D→Rs (Option (D×Rt))}{g:D→D×Rt}:∀{l:List D},(∀ d∈l,f d = .ok (some (g d)))→dJ f l = .ok (l.map g)
 |[],_=>rfl
 | d::l,h=>by
  simp only[List.map_cons,dJ];rw[h d ag,nr fun j hj=>h j (aa _ hj)];rfl
theorem jS {T:Tb}{own:Nat}{pick:List Nat}{t:lG}{it:rT}{e:Ex}{env:En}{l:List D}{R:List Nat}{g:D→D×Rt}(hit:fQ T it env = .ok (l,R)) (hl:l.length≤lim) (hg:∀ d∈l,aX (aW [] t d (aL env own pick)) (mQ T .none) (ev T e) = .ok (some (g d))) (hf:∀ d∈l,((g d).1.flat || eT (g d).2)=true) :
  ev T (.comp own pick t it .none e) env = .ok (.lst (l.map fun d=>(g d).1),.mv []):=by
 rw[ev,hit,aA,nr hg,aA];dsimp only;rw[if_pos hl,if_pos]
 ·rw[bg];rfl
 ·rw[List.all_map,bw];exact hf
theorem cV {l:List D}(h:D.flats l=true) (R:List Nat):ji (.lst l) R = .mv []:=by
 unfold ji;rw[if_pos];exact h
theorem gN {T:Tb}{e:Ex}{env:En}{d:D}(h:ev T e env = .ok (d,.mv [])):ret (aC T (.cons (.ret e) .nil) env) = .ok (d,true):=by
 rw[aC,bE,h,aR];rfl
theorem cB {n:Nat}(h:n≤1000):n≤lim:=bu h (by decide)
theorem pH (T:Tb) (env:En) (e:Ex) (j:Int) (r:Rt) (he:ev T e env = .ok (.int j,r)) (h1:fJ j=true):fQ T (.rng1 e) env = .ok (bC 0 1 j.toNat,[]):=by
 rw[fQ,he,aA];show (if fJ j=true then Rs.ok (bC 0 1 j.toNat,[]) else .bad)=_;rw[if_pos h1]
theorem qm {n:Nat}(h:n≤1000):fJ (n:Int)=true:=by
 unfold fJ;exact dq ⟨Int.le_trans (by decide) (fi n),Int.lt_of_le_of_lt (Int.ofNat_le.mpr h) (by decide)⟩
end Pc
end
section
namespace Pc
open PySem
noncomputable def cC (s:Slot):Prop:=s=none∨(∃ d,s=some (d,.own))∨(∃ d,s=some (d,.sh []))∨∃ d,s=some (d,.lk)
noncomputable def Tame (env:En):Prop:=∀ s∈env,cC s
theorem aG:cC none:=.inl rfl
theorem aB (d:D):cC (some (d,.own)):=.inr (.inl ⟨d,rfl⟩)
theorem aH (d:D):cC (some (d,.sh [])):=.inr (.inr (.inl ⟨d,rfl⟩))
theorem pJ (d:D):cC (some (d,.lk)):=.inr (.inr (.inr ⟨d,rfl⟩))
theorem Tame.nil:Tame []:=fun _ h=>(nomatch h)
theorem Tame.cons {s:Slot}{e:En}(h:cC s) (t:Tame e):Tame (s::e):=fun x hx=>by
 rcases et.mp hx with rfl | hx
 ·exact h
 ·exact t x hx
theorem Tame.set {e:En}{s:Slot}(t:Tame e) (h:cC s) (i:Nat):Tame (e.set i s):=fun x hx=>by
 rcases g9 hx with q | q
 ·exact t x q
 ·rw[q];exact h
theorem i8 {env:En}(h:Tame env) (i:Nat) (d:D) (t:Tg):put env i d t=env.set i (some (d,t)):=by
 unfold put;have:env.map (fun (s:Slot)=>s.map fun (p:D×Tg)=>(p.1,p.2.drop i))=env:=by
  conv=>rhs;rw[←List.map_id env]
  refine en fun s hs=>?_
  rcases h s hs with rfl | ⟨d,rfl⟩ | ⟨d,rfl⟩ | ⟨d,rfl⟩<;>rfl
 rw[this]
theorem vt {env:En}(h:Tame env) (R:List Nat):kill R env=env.mapIdx fun i s=>if R.contains i then none else s:=by
 unfold kill;apply List.ext_getElem?;intro i;rw[List.getElem?_mapIdx,List.getElem?_mapIdx];cases q:env[i]? with
 |none=>rfl
 |some s =>
  rcases h s (List.mem_of_getElem? q) with rfl | ⟨d,rfl⟩ | ⟨d,rfl⟩ | ⟨d,rfl⟩
  ·simp
  ·simp[jr]
  ·simp[jr]
  ·simp[jr]
theorem i9 {env:En}(h:Tame env) (x:Nat) (s:Slot):(kill [x] env).set x s=env.set x s:=by
 rw[vt h];apply List.ext_getElem?;intro i;by_cases hi:i=x
 ·subst hi;by_cases hl:i<env.length
  ·rw[List.getElem?_set_self (by simpa using hl),List.getElem?_set_self hl]
  ·rw[List.getElem?_eq_none (by simp;omega),List.getElem?_eq_none (by simp;omega)]
 ·rw[List.getElem?_set_ne (cj hi),List.getElem?_set_ne (cj hi),List.getElem?_mapIdx];cases q:env[i]? with
  |none=>rfl
  |some s=>simp[hi]
section
variable {T:Tb}{env:En}
theorem bU {i:Nat}{e:Ex}{d:D}(ht:Tame env) (hi:i<env.length) (h:ev T e env = .ok (d,.mv [])):bE T (.asg (.nm i) e false) env = .nx (env.set i (some (d,.own))):=by
 rw[bE,h,aR];show (if i<env.length then Fl.nx (put env i d .own) else .bad)=_;rw[if_pos hi,i8 ht]
theorem fM {i:Nat}{d:D}(ht:Tame env) (hi:i<env.length):aW [] (.nm i) d env=some (env.set i (some (d,cG d []))):=by
 show (if i<env.length then some (put env i d (cG d [])) else none)=_;rw[if_pos hi,i8 ht]
theorem cO {i:Nat}{d:D}(h:env[i]? = some (some (d,.own))) (hf:d.flat=false):ev T (.var i) env = .ok (d,.mv [i]):=by
 rw[ev,h];dsimp only;rw[hf];rfl
theorem aJ {i:Nat}{d:D}{t:Tg}(h:env[i]? = some (some (d,t))) (hf:d.flat=true):ev T (.var i) env = .ok (d,.mv []):=by
 rw[ev,h];dsimp only;rw[if_pos hf]
theorem BL {i:Nat}{d:D}{t:Tg}(h:env[i]? = some (some (d,t))):∃ R,ev T (.var i) env = .ok (d,R):=by
 rw[ev,h];exact⟨_,rfl⟩
theorem xD {x:Nat}{p e:Ex}{xs ys:List D}{d:D}{i:Int}{j:Nat}{R:Rt}(ht:Tame env) (hx:env[x]? = some (some (.lst xs,.own))) (hp:ev T p env = .ok (.int i,R)) (hi:Pc.jy xs.length i=some j) (hj:xs[j]? = some (.lst ys)) (h:ev T e env = .ok (d,.mv [])) (hl:ys.length+1≤lim) :
  bE T (.mut x (.some p) .append (.cons e .nil)) env = .nx (env.set x (some (.lst (xs.set j (.lst (ys ++ [d]))),.own))):=by
 have ho:ownAt env x=some (.lst xs):=by unfold ownAt;rw[hx]
 have hs:bK T (.cons e .nil) env = .ok [(d,.mv [])]:=by
  rw[bK,h,aA];rfl
 have hat:D.at1 (.lst xs) (some i)=some ys:=by simp[D.at1,hi,hj]
 rw[bE,ho];simp only[mH,hp,aA,aR,hat,hs,List.map_cons,List.map_nil,yi,aZ,Rt.roots,List.flatten_cons,List.flatten_nil,List.append_nil,List.contains_nil,Bool.false_eq_true,if_false,rY.copies,dF,eM,Option.map_some];have:(ys ++ [d]).length≤lim:=by rw[cz];exact hl
 simp only[List.nodup_nil,decide_true,bW,List.all_nil,Bool.not_false,Bool.and_self,this,if_true,D.set1,hi,Bool.true_and];rw[i9 ht]
theorem iF {x:Nat}{k e:Ex}{xs:List D}{d:D}{l:Int}{m:Nat}{R':Rt}(ht:Tame env) (hx:env[x]? = some (some (.lst xs,.own))) (hk:ev T k env = .ok (.int l,R')) (hm:Pc.jy xs.length l=some m) (h:ev T e env = .ok (d,.mv [])) (hl:xs.length≤lim) :
  bE T (.setix x .none k e) env = .nx (env.set x (some (.lst (xs.set m d),.own))):=by
 have ho:ownAt env x=some (.lst xs):=by unfold ownAt;rw[hx]
 have hll:(xs.set m d).length≤lim:=by rw[aq];exact hl
 rw[bE,ho];simp only[h,aR,mH,D.at1,hk,hm,dF,eM,Option.map_some,List.append_nil,List.nodup_nil,decide_true,bW,List.all_nil,List.contains_nil,Bool.not_false,Bool.and_self,hll,if_true,D.set1,Bool.true_and];rw[i9 ht]
theorem ite_ff {c:Ex}{a:bF}{R:Rt}(h:ev T c env = .ok (.bl false,R)):bE T (.ite c a .nil) env = .nx env:=by
 rw[bE,h,aR];rfl
theorem yO {x:Nat}{d:D}(hx:env[x]? = some (some (d,.own))):lock [x] env=env.set x (some (d,.lk)):=by
 unfold lock;apply List.ext_getElem?;intro i;rw[List.getElem?_mapIdx];by_cases hi:i=x
 ·subst hi;have hl:i<env.length:=(List.getElem?_eq_some_iff.mp hx).1;rw[List.getElem?_set_self hl,hx];simp
 ·rw[List.getElem?_set_ne (cj hi)];cases q:env[i]? with
  |none=>rfl
  |some s =>
   cases s with
   |none=>rfl
   |some p =>
    obtain⟨d,t⟩:=p;cases t with
    |own=>simp[hi]
    |lk=>rfl
    |sh R=>rfl
theorem sA {x:Nat}{d d':D}{e:En}(hx:env[x]? = some (some (d,.own))) (he:e[x]? = some (some (d',.lk))):unlock [x] env e=e.set x (some (d',.own)):=by
 unfold unlock;apply List.ext_getElem?;intro i;rw[List.getElem?_mapIdx];by_cases hi:i=x
 ·subst hi;have hl:i<e.length:=(List.getElem?_eq_some_iff.mp he).1;rw[List.getElem?_set_self hl,he];simp[hx]
 ·rw[List.getElem?_set_ne (cj hi)];cases q:e[i]? with
  |none=>rfl
  |some s =>
   cases s with
   |none=>rfl
   |some p =>
    obtain⟨d,t⟩:=p;cases t with
    |own=>rfl
    |lk =>
     simp only[Option.map_some];split
     ·simp[hi]
     ·rfl
    |sh R=>rfl
theorem Ac {t:lG}{it:rT}{b:bF}{e:En}{l:List D}{x:Nat}{d d':D}(hx:env[x]? = some (some (d,.own))) (hit:fQ T it env = .ok (l,[x])) (h:bD t [x] (aC T b) l (env.set x (some (d,.lk))) = .nx e) (he:e[x]? = some (some (d',.lk))):bE T (.forr t it b) env = .nx (e.set x (some (d',.own))):=by
 rw[bE,hit,aR];dsimp only;rw[yO hx,h];dsimp only;rw[sA hx he]
theorem gU {i j:Nat}{x y:D}{R:List Nat}(ht:Tame env) (hi:i<env.length) (hj:j<env.length) (fx:x.flat=true) (fy:y.flat=true):aW R (.tp [i,j]) (.tup [x,y]) env=some ((env.set i (some (x,.own))).set j (some (y,.own))):=by
 show bindM (fun d=>cG d R) [i,j] [x,y] env=_;have tx:cG x R = .own:=by unfold cG;rw[if_pos fx]
 have ty:cG y R = .own:=by unfold cG;rw[if_pos fy]
 simp only[bindM,hi,if_true,tx,ty];rw[i8 ht,if_pos (by rw[aq];exact hj),i8 (ht.set (aB x) i)]
end
end Pc
end
section
namespace Pc
end Pc
namespace Pc.Sm
open PySem Pc
theorem vS (p:D×Rt):List.map (fun x:D×Rt=>x.1) [p]=[p.1]:=rfl
theorem map2 (p q:D×Rt):List.map (fun x:D×Rt=>x.1) [p,q]=[p.1,q.1]:=rfl
theorem lq {T:Tb}{f:Nat}{e1:Ex}{env:En}{d1 r:D}{R1:Rt}(h1:ev T e1 env = .ok (d1,R1)) (h:T.cl f [d1] = .ok (r,true)):ev T (.call f (.cons e1 .nil)) env = .ok (r,.mv []):=by
 have:bK T (.cons e1 .nil) env = .ok [(d1,R1)]:=by
  rw[bK,h1,aA];rfl
 rw[ev,this,aA,vS,h,aA];rfl
theorem bP {T:Tb}{f:Nat}{e1 e2:Ex}{env:En}{d1 d2 r:D}{R1 R2:Rt}(h1:ev T e1 env = .ok (d1,R1)) (h2:ev T e2 env = .ok (d2,R2)) (h:T.cl f [d1,d2] = .ok (r,true)):ev T (.call f (.cons e1 (.cons e2 .nil))) env = .ok (r,.mv []):=by
 have:bK T (.cons e1 (.cons e2 .nil)) env = .ok [(d1,R1),(d2,R2)]:=by
  rw[bK,h1,aA,bK,h2,aA];rfl
 rw[ev,this,aA,map2,h,aA];rfl
end Pc.Sm
end
section
namespace Fl64
noncomputable def Gr (l:List Nat):Prop:=∀ g∈l,g<64
theorem Gr.nil:Gr []:=fun _ h=>(nomatch h)
theorem Gr.cons {g:Nat}{l:List Nat}(h:g<64) (t:Gr l):Gr (g::l):=fun x hx=>by
 rcases et.mp hx with rfl | hx
 ·exact h
 ·exact t x hx
theorem Gr.append {l m:List Nat}(a:Gr l) (b:Gr m):Gr (l++m):=fun x hx=>(iy.mp hx).elim (a x) (b x)
noncomputable def gC (x w:Nat) (l:List Nat):Nat:=l.foldl (fun w g=>tm w x^^^g) w
noncomputable abbrev cW (x:Nat) (l:List Nat):Nat:=gC x 0 l
theorem j4 (x w g:Nat) (l:List Nat):gC x w (g::l)=gC x (tm w x^^^g) l:=rfl
theorem sV (x w:Nat) (l m:List Nat):gC x w (l++m)=gC x (gC x w l) m:=by unfold gC;rw[List.foldl_append]
theorem fH {x w:Nat}(hx:x<64) (hw:w<64):∀{l:List Nat},Gr l→gC x w l<64:=by
 intro l
 induction l generalizing w with
 |nil=>exact fun _=>hw
 |cons g r ih=>exact fun h=>ih (aV (aY hw hx) (h g ag)) fun z hz=>h z (aa _ hz)
noncomputable def pw (x:Nat):Nat→Nat
 |0=>1
 |n+1=>tm (pw x n) x
theorem bB {x:Nat}(hx:x<64):∀ n,pw x n<64
 |0=>by show 1<64;decide
 |n+1=>aY (bB hx n) hx
theorem gR {x w:Nat}(hx:x<64) (hw:w<64) {l:List Nat}(h:Gr l):gC x w l=tm w (pw x l.length)^^^cW x l:=by
 induction l generalizing w with
 |nil=>simp[gC,pw,kB hw]
 |cons g r ih =>
  have g64:=h g ag;have hr:Gr r:=fun z hz=>h z (aa _ hz)
  have p64:=bB hx r.length;rw[j4,ih (aV (aY hw hx) g64) hr];show _=tm w (pw x (r.length+1))^^^gC x (tm 0 x^^^g) r;rw[cA hx,cu,ih g64 hr,i0 (aY hw hx) g64 p64,cU hw hx p64,dI hx p64,bh];rfl
noncomputable def eW (a b:List Nat):List Nat:=List.zipWith (· ^^^ ·) a b
theorem zA {a b:List Nat}(h:a.length=b.length):(eW a b).length=a.length:=by simp[eW,h]
theorem vq:∀{a b:List Nat},Gr a→Gr b→Gr (eW a b)
 |[],_,_,_=>Gr.nil
 |_::_,[],_,_=>by simpa[eW] using Gr.nil
 | x::a,y::b,ha,hb=>by
  show Gr ((x^^^y)::eW a b);exact .cons (aV (ha x ag) (hb y ag)) (vq (fun z hz=>ha z (aa _ hz)) fun z hz=>hb z (aa _ hz))
theorem E6 (a b c d:Nat):(a^^^b)^^^(c^^^d)=(a^^^c)^^^(b^^^d):=by
 rw[bh,bh,←bh b,Nat.xor_comm b c,bh c]
theorem uv {x:Nat}(hx:x<64):∀{a b:List Nat},a.length=b.length→Gr a→Gr b→∀{u v:Nat},u<64→v<64→gC x (u^^^v) (eW a b)=gC x u a^^^gC x v b
 |[],[],_,_,_,_,_,_,_=>rfl
 | p::a,q::b,hl,ha,hb,u,v,hu,hv=>by
  have p64:=ha p ag;have q64:=hb q ag;show gC x (tm (u^^^v) x^^^(p^^^q)) (eW a b)=gC x (tm u x^^^p) a^^^gC x (tm v x^^^q) b;rw[i0 hu hv hx,E6];exact uv hx (by simpa using hl) (fun z hz=>ha z (List.mem_cons_of_mem _ hz)) (fun z hz=>hb z (List.mem_cons_of_mem _ hz)) (aV (aY hu hx) p64) (aV (aY hv hx) q64)
 |[],_::_,h,_,_,_,_,_,_=>by simp at h
 |_::_,[],h,_,_,_,_,_,_=>by simp at h
theorem AY {x:Nat}(hx:x<64) {a b:List Nat}(h:a.length=b.length) (ha:Gr a) (hb:Gr b):cW x (eW a b)=cW x a^^^cW x b:=uv (u:=0) (v:=0) hx h ha hb (by decide) (by decide)
theorem kW (x:Nat) (hx:x<64):∀ n,cW x (List.replicate n 0)=0
 |0=>rfl
 | n+1=>by
  show gC x (tm 0 x^^^0) (List.replicate n 0)=0;rw[cA hx];exact kW x hx n
theorem jb (n:Nat):Gr (List.replicate n 0):=fun g hg=>by rw[List.eq_of_mem_replicate hg];decide
theorem yq {x:Nat}(hx:x<64) (n:Nat) (l:List Nat):cW x (List.replicate n 0++l)=cW x l:=by
 show gC x 0 _=_;rw[sV];show gC x (cW x (List.replicate n 0)) l=_;rw[kW x hx]
noncomputable def mulR (f:Nat) (l:List Nat):List Nat:=l.map fun g=>tm f g
theorem lP {f:Nat}(hf:f<64) {l:List Nat}(h:Gr l):Gr (mulR f l):=fun g hg=>by
 obtain⟨y,hy,rfl⟩:=List.mem_map.mp hg;exact aY hf (h y hy)
theorem BC {x f:Nat}(hx:x<64) (hf:f<64) {l:List Nat}(h:Gr l):∀{w:Nat},w<64→gC x (tm f w) (mulR f l)=tm f (gC x w l):=by
 induction l with
 |nil=>exact fun _=>rfl
 |cons g r ih =>
  intro w hw;have g64:=h g ag;show gC x (tm (tm f w) x^^^tm f g) (mulR f r)=tm f (gC x (tm w x^^^g) r);rw[cU hf hw hx,←jg,ih (fun z hz=>h z (aa _ hz)) (aV (aY hw hx) g64)]
theorem AA {x f:Nat}(hx:x<64) (hf:f<64) {l:List Nat}(h:Gr l):cW x (mulR f l)=tm f (cW x l):=by
 have:=BC hx hf h (w:=0) (by decide);rw[iE] at this;exact this
theorem dP {a b:Nat}(ha:a<64) (hb:b<64) (h:tm a b=0):a=0∨b=0:=by
 have:=all2 (f:=fun a b=>decide (tm a b=0→a=0∨b=0)) (by decide +kernel) ha hb;exact du this h
theorem cI {a b:Nat}(h:a^^^b=0):a=b:=by
 have:(a^^^b)^^^b=0^^^b:=by rw[h]
 rwa [bh,fm,gb,cu] at this
noncomputable def xQ (a w:Nat):List Nat→List Nat
 |[]=>[]
 |g::r=>w::xQ a (tm w a^^^g) r
theorem vh (a:Nat):∀(w:Nat) (l:List Nat),(xQ a w l).length=l.length
 |_,[]=>rfl
 |w,g::r=>by rw[xQ,c9,vh,c9]
theorem sL {a:Nat}(ha:a<64):∀{w:Nat}{l:List Nat},w<64→Gr l→Gr (xQ a w l)
 |_,[],_,_=>Gr.nil
 |w,g::r,hw,h=>.cons hw (sL ha (aV (aY hw ha) (h g ag)) fun z hz=>h z (aa _ hz))
theorem rC {a b c:Nat}(ha:a<64) (hb:b<64) (hc:c<64):tm (tm a b) c=tm (tm a c) b:=by rw[cU ha hb hc,dI hb hc,cU ha hc hb]
theorem uH {x a:Nat}(hx:x<64) (ha:a<64):∀{l:List Nat}{u w:Nat},Gr l→u<64→w<64→gC x (tm u (x^^^a)^^^w) l=tm (gC x u (xQ a w l)) (x^^^a)^^^gC a w l
 |[],u,w,_,_,_=>rfl
 | g::r,u,w,h,hu,hw=>by
  have g64:=h g ag;have xa:=aV hx ha;have ux:=aY hu hx;rw[xQ,j4,j4,j4];have e:tm (tm u (x^^^a)^^^w) x^^^g=tm (tm u x^^^w) (x^^^a)^^^(tm w a^^^g):=by
   rw[i0 (aY hu xa) hw hx,i0 ux hw xa,rC hu xa hx,jg w x a];generalize tm (tm u x) (x^^^a)=p;generalize tm w x=q;generalize tm w a=s;rw[bh,bh,bh,←bh s s,fm,cu]
  rw[e];exact uH hx ha (fun z hz=>h z (aa _ hz)) (aV ux hw) (aV (aY hw ha) g64)
theorem A6 {x a:Nat}(hx:x<64) (ha:a<64) {g:Nat}{r:List Nat}(h:Gr (g::r)):cW x (g::r)=tm (cW x (xQ a g r)) (x^^^a)^^^cW a (g::r):=by
 have g64:=h g ag;have hr:Gr r:=fun z hz=>h z (aa _ hz)
 have:=uH hx ha (u:=0) (w:=g) hr (by decide) g64;rw[cA (aV hx ha),cu] at this;show gC x (tm 0 x^^^g) r=tm (gC x 0 (xQ a g r)) (x^^^a)^^^gC a (tm 0 a^^^g) r;rw[cA hx,cA ha,cu];exact this
theorem rh {a:Nat}(ha:a<64):∀{g:Nat}{r:List Nat},Gr (g::r)→(∀ z∈xQ a g r,z=0)→cW a (g::r)=0→∀ z∈g::r,z=0
 | g,[],h,_,hw,z,hz=>by
  have:cW a [g]=g:=by show tm 0 a^^^g=g;rw[cA ha,cu]
  rw[this] at hw;have:=List.mem_singleton.mp hz;rw[this,hw]
 | g,g'::r,h,hq,hw,z,hz=>by
  have g0:g=0:=hq g (by rw[xQ];exact ag);subst g0;rcases et.mp hz with rfl | hz
  ·rfl
  have e:tm 0 a^^^g'=g':=by rw[cA ha,cu]
  refine rh ha (fun z hz=>h z (aa _ hz)) (fun z hz=>hq z ?_) ?_ z hz
  ·rw[xQ,e];exact aa _ hz
  ·have:cW a (0::g'::r)=cW a (g'::r):=yq ha 1 (g'::r);rw[←this];exact hw
theorem mG:∀{xs l:List Nat},xs.Nodup→Gr xs→Gr l→l.length≤xs.length→(∀ x∈xs,cW x l=0)→∀ z∈l,z=0
 |_,[],_,_,_,_,_,z,hz=>(nomatch hz)
 |[],g::r,_,_,_,hl,_,_,_=>by simp at hl
 | a::xs,g::r,hn,hx,hl,hle,hw,z,hz=>by
  have a64:=hx a ag;have g64:=hl g ag;have hr:Gr r:=fun z hz=>hl z (aa _ hz)
  have hn':=iw.mp hn;have wa:=hw a ag;refine rh a64 hl (mG hn'.2 (fun z hz=>hx z (aa _ hz)) (sL a64 g64 hr) ?_ fun x hxm=>?_) wa z hz
  ·rw[vh];simpa using hle
  ·have x64:=hx x (aa _ hxm);have wx:=hw x (aa _ hxm);rw[A6 x64 a64 hl,wa,gb] at wx;rcases dP (fH x64 (by decide) (sL a64 g64 hr)) (aV x64 a64) wx with q | q
   ·exact q
   ·have:=cI q;subst this;exact absurd hxm hn'.1
theorem qg {x:Nat}(hx:x<64) (m:Nat):∀ n,pw x (m+n)=tm (pw x m) (pw x n)
 |0=>by show pw x m=tm (pw x m) 1;rw[kB (bB hx m)]
 | n+1=>by
  show tm (pw x (m+n)) x=tm (pw x m) (tm (pw x n) x);rw[qg hx m n,cU (bB hx m) (bB hx n) hx]
theorem CP {x:Nat}(hx:x<64):pw x 1=x:=mz hx
theorem yJ {x:Nat}(hx:x<64):∀ n,pw (tm x x) n=pw x (2*n)
 |0=>rfl
 | n+1=>by
  show tm (pw (tm x x) n) (tm x x)=pw x (2*n+2);rw[yJ hx n,qg hx (2*n) 2];congr 1;show tm x x=tm (tm 1 x) x;rw[mz hx]
noncomputable def Fy:Nat→Nat→Nat→Nat→Nat
 |0,p,_,_=>p
 |n+1,p,s,l=>if l=0 then p else Fy n (if l%2=1 then tm p s else p) (tm s s) (l / 2)
theorem sY:∀(n p s l:Nat),l<2 ^ n→p<64→s<64→Fy n p s l=tm p (pw s l)
 | 0,p,s,l,hl,hp,_=>by
  have:l=0:=by simpa using hl
  subst this;show p=tm p 1;rw[kB hp]
 | n+1,p,s,l,hl,hp,hs=>by
  unfold Fy;by_cases h:l=0
  ·subst h;rw[if_pos rfl];show p=tm p 1;rw[kB hp]
  ·rw[if_neg h];have ss:=aY hs hs;by_cases o:l%2=1
   ·rw[if_pos o,sY n _ _ _ (by rw[iq] at hl;omega) (aY hp hs) ss,yJ hs,cU hp hs (bB hs _)];congr 1;have e:l=1+2*(l / 2):=by omega
    conv=>rhs;rw[e,qg hs,CP hs]
   ·rw[if_neg o,sY n _ _ _ (by rw[iq] at hl;omega) hp ss,yJ hs];have e:l=2*(l / 2):=by omega
    rw[←e]
noncomputable def bS (c:Nat):List Nat:=(List.range' 1 c).map (pw 2)
theorem jC (c:Nat):Gr (bS c):=fun g hg=>by
 obtain⟨k,_,rfl⟩:=List.mem_map.mp hg;exact bB (by decide) k
theorem jh (c:Nat):(bS c).length=c:=by simp[bS]
theorem ur {x:Nat}(hx:x<64):∀{l:List Nat}{p g:Nat},Gr l→g<64→p<l.length→∀{w:Nat},w<64→gC x w (l.set p (l.getD p 0^^^g))=gC x w l^^^tm g (pw x (l.length - 1 - p))
 |[],p,g,_,_,hp,_,_=>by simp at hp
 | a::l,0,g,hl,hg,_,w,hw=>by
  have a64:=hl a ag;have hr:Gr l:=fun z hz=>hl z (aa _ hz)
  show gC x (tm w x^^^(a^^^g)) l=gC x (tm w x^^^a) l^^^tm g (pw x (l.length+1 - 1 - 0));rw[←bh,gR hx (aV (aV (aY hw hx) a64) hg) hr,gR hx (aV (aY hw hx) a64) hr,i0 (aV (aY hw hx) a64) hg (bB hx _)];rw[bh,bh,Nat.xor_comm (tm g _)];rfl
 | a::l,p+1,g,hl,hg,hp,w,hw=>by
  have a64:=hl a ag;have hr:Gr l:=fun z hz=>hl z (aa _ hz)
  show gC x (tm w x^^^a) (l.set p (l.getD p 0^^^g))=gC x (tm w x^^^a) l^^^tm g (pw x (l.length+1 - 1 - (p+1)));rw[ur hx hr hg (by simpa using hp) (aV (aY hw hx) a64)];congr 3;omega
theorem fA {l:List Nat}(h:Gr l) (p:Nat):l.getD p 0<64:=by
 rw[List.getD_eq_getElem?_getD];cases q:l[p]? with
 |none=>decide
 |some g=>exact h g (List.mem_of_getElem? q)
theorem kM {l:List Nat}(h:Gr l) {p g:Nat}(hg:g<64):Gr (l.set p (l.getD p 0^^^g)):=fun z hz=>by
 rcases g9 hz with q | q
 ·exact h z q
 ·rw[q];exact aV (fA h p) hg
noncomputable def eH (l:List Nat) (p:Nat):List Nat→List Nat
 |[]=>l
 |g::r=>eH (l.set p (l.getD p 0^^^g)) (p+1) r
theorem eN:∀(m:List Nat) (l:List Nat) (p:Nat),(eH l p m).length=l.length
 |[],_,_=>rfl
 |g::r,l,p=>by rw[eH,eN r,aq]
theorem i5:∀{m l:List Nat}{p:Nat},Gr l→Gr m→Gr (eH l p m)
 |[],_,_,h,_=>h
 | g::r,l,p,h,hm=>by
  rw[eH];exact i5 (kM h (hm g ag)) fun z hz=>hm z (aa _ hz)
theorem og {x:Nat}(hx:x<64):∀{m l:List Nat}{p:Nat},Gr l→Gr m→p+m.length≤l.length→cW x (eH l p m)=cW x l^^^tm (cW x m) (pw x (l.length - p - m.length))
 | [],l,p,_,_,_=>by
  show cW x l=cW x l^^^tm 0 _;rw[cA (bB hx _),gb]
 | g::r,l,p,h,hm,hp=>by
  have g64:=hm g ag;have hr:Gr r:=fun z hz=>hm z (aa _ hz)
  have hp':p+(r.length+1)≤l.length:=by simpa using hp
  rw[eH,og hx (kM h g64) hr (by rw[aq];omega),aq];show gC x 0 (l.set p (l.getD p 0^^^g))^^^_=_;rw[ur hx h g64 (by omega) (by decide),bh];congr 1;have e1:cW x (g::r)=tm g (pw x r.length)^^^cW x r:=by
   show gC x (tm 0 x^^^g) r=_;rw[cA hx,cu,gR hx g64 hr]
  have e2:l.length - 1 - p=r.length+(l.length - p - (r.length+1)):=by omega
  have e3:l.length - (p+1) - r.length=l.length - p - (r.length+1):=by omega
  rw[c9,e1,e2,qg hx,e3,i0 (aY g64 (bB hx _)) (fH hx (by decide) hr) (bB hx _),cU g64 (bB hx _) (bB hx _)]
theorem jd:∀{m l:List Nat}{p i:Nat},i<p→(eH l p m).getD i 0=l.getD i 0
 |[],_,_,_,_=>rfl
 | g::r,l,p,i,hi=>by
  rw[eH,jd (by omega),List.getD_eq_getElem?_getD,List.getElem?_set_ne (by omega),List.getD_eq_getElem?_getD]
theorem xl {m l:List Nat}{p g:Nat}(hp:p<l.length):(eH l p (g::m)).getD p 0=l.getD p 0^^^g:=by
 rw[eH,jd (by omega),List.getD_eq_getElem?_getD,List.getElem?_set_self hp];rfl
noncomputable def eA (l:List Nat) (k:Nat):List Nat→List Nat→List Nat
 |[],_=>l
 |g::a,b=>eA (eH l k (mulR g b)) (k+1) a b
theorem mB (f:Nat) (l:List Nat):(mulR f l).length=l.length:=by simp[mulR]
theorem mr:∀(a b l:List Nat) (k:Nat),(eA l k a b).length=l.length
 |[],_,_,_=>rfl
 |g::a,b,l,k=>by rw[eA,mr a,eN]
theorem oV:∀{a b l:List Nat}{k:Nat},Gr a→Gr b→Gr l→Gr (eA l k a b)
 |[],_,_,_,_,_,h=>h
 | g::a,b,l,k,ha,hb,h=>by
  rw[eA];exact oV (fun z hz=>ha z (aa _ hz)) hb (i5 h (lP (ha g ag) hb))
theorem mU {x:Nat}(hx:x<64):∀{a b l:List Nat}{k:Nat},Gr a→Gr b→Gr l→0<b.length→k+a.length+b.length=l.length+1→cW x (eA l k a b)=cW x l^^^tm (cW x a) (cW x b)
 | [],b,l,k,_,hb,_,_,_=>by
  show cW x l=cW x l^^^tm 0 _;rw[cA (fH hx (by decide) hb),gb]
 | g::a,b,l,k,ha,hb,h,h0,hk=>by
  have g64:=ha g ag;have ha':Gr a:=fun z hz=>ha z (aa _ hz)
  have hk':k+(a.length+1)+b.length=l.length+1:=by simpa using hk
  have wb:=fH hx (w:=0) (by decide) hb;have wa:=fH hx (w:=0) (by decide) ha';have mg:=lP g64 hb;rw[eA,mU hx ha' hb (i5 h mg) h0 (by rw[eN];omega),og hx h mg (by rw[mB];omega),AA hx g64 hb,mB,bh];congr 1;have e1:cW x (g::a)=tm g (pw x a.length)^^^cW x a:=by
   show gC x (tm 0 x^^^g) a=_;rw[cA hx,cu,gR hx g64 ha']
  have e2:l.length - k - b.length=a.length:=by omega
  rw[e1,e2,i0 (aY g64 (bB hx _)) wa wb,rC g64 wb (bB hx _)]
noncomputable def dC (a b:List Nat):List Nat:=eA (List.replicate (a.length+b.length - 1) 0) 0 a b
theorem fC (a b:List Nat):(dC a b).length=a.length+b.length - 1:=by rw[dC,mr,bc]
theorem jf {a b:List Nat}(ha:Gr a) (hb:Gr b):Gr (dC a b):=oV ha hb (jb _)
theorem oR {x:Nat}(hx:x<64) {a b:List Nat}(ha:Gr a) (hb:Gr b) (h0:0<b.length):cW x (dC a b)=tm (cW x a) (cW x b):=by
 rw[dC,mU hx ha hb (jb _) h0 (by rw[bc];omega),kW x hx,cu]
theorem jW:∀{a b l:List Nat}{k i:Nat},i<k→(eA l k a b).getD i 0=l.getD i 0
 |[],_,_,_,_,_=>rfl
 |g::a,b,l,k,i,hi=>by rw[eA,jW (by omega),jd hi]
theorem sP {g g':Nat}{a b:List Nat}:(dC (g::a) (g'::b)).getD 0 0=tm g g':=by
 have hl:0<(List.replicate ((g::a).length+(g'::b).length - 1) 0).length:=by simp;omega
 rw[dC,eA,jW (by decide)];show (eH _ 0 (tm g g'::mulR g b)).getD 0 0=_;rw[xl hl];have:(List.replicate ((g::a).length+(g'::b).length - 1) 0).getD 0 0=0:=by
  rw[List.getD_eq_getElem?_getD,List.getElem?_replicate];split<;>rfl
 rw[this,cu]
noncomputable def iR (r:List Nat):List Nat→List Nat
 |[]=>r
 |n::ns=>iR (dC r [1,n]) ns
theorem fG:∀{ns r:List Nat},Gr ns→Gr r→0<r.length→r.getD 0 0=1→(iR r ns).length=r.length+ns.length∧Gr (iR r ns)∧(iR r ns).getD 0 0=1∧(∀ x,x<64→cW x r=0→cW x (iR r ns)=0)∧∀ x∈ns,cW x (iR r ns)=0
 |[],r,_,hr,_,h1=>⟨rfl,hr,h1,fun _ _ h=>h,fun _ h=>(nomatch h)⟩
 | n::ns,r,hn,hr,h0,h1=>by
  have n64:=hn n ag;have hb:Gr [1,n]:=.cons (by decide) (.cons n64 .nil);have hp:=jf hr hb;have hd:(dC r [1,n]).getD 0 0=1:=by
   match r,h0,h1 with
   |g::r',_,h1 =>
    have:g=1:=h1;subst this;exact sP
  obtain⟨a1,a2,a3,a4,a5⟩:=fG (ns:=ns) (r:=dC r [1,n]) (fun z hz=>hn z (List.mem_cons_of_mem _ hz)) hp (by rw[fC];simp) hd;rw[iR];refine⟨by rw[a1,fC];simp;omega,a2,a3,fun x hx hw=>a4 x hx ?_,fun x hxm=>?_⟩
  ·rw[oR hx hr hb (by simp),hw,cA (fH hx (by decide) hb)]
  ·rcases et.mp hxm with rfl | hxm
   ·refine a4 x n64 ?_;have:cW x [1,x]=0:=by
     show tm (tm 0 x^^^1) x^^^x=0;rw[cA n64,cu,mz n64,fm]
    rw[oR n64 hr hb (by simp),this,iE]
   ·exact a5 x hxm
noncomputable def zV (l:List Nat) (c:Nat):Prop:=∀ x∈bS c,cW x l=0
noncomputable instance (l:List Nat) (c:Nat):Decidable (zV l c):=by unfold zV;infer_instance
theorem yz {x:Nat}(hx:x<64) (h:x≠0):∀ n,pw x n≠0
 |0=>by show 1≠0;decide
 |n+1=>fun e=>(dP (bB hx n) hx e).elim (yz hx h n) h
end Fl64
end
section
namespace Pc.Gr
open PySem Pc Pc.Sm
noncomputable abbrev gD (gs:List Nat):List D:=gs.map fun (g:Nat)=>D.int (g:Int)
noncomputable abbrev gI (gs:List Nat):List Int:=gs.map fun (g:Nat)=>(g:Int)
theorem tQ (gs:List Nat):gD gs=(gI gs).map D.int:=by rw[bg];rfl
theorem fB (gs:List Nat):D.flats (gD gs)=true:=by rw[tQ];exact m8 _
theorem cY (a b:List Nat):gD (a++b)=gD a++gD b:=iz ..
theorem aU (a:List Nat):(gD a).length=a.length:=aj ..
noncomputable abbrev sG (gs:List Nat):Slot:=some (.lst (gD gs),.sh [])
noncomputable abbrev oG (gs:List Nat):Slot:=some (.lst (gD gs),.own)
theorem zt {gs:List Nat}{i:Nat}(h:i<gs.length):(gD gs)[i]? = some (.int ((gs.getD i 0:Nat):Int)):=by
 rw[List.getElem?_map,List.getD_eq_getElem?_getD,List.getElem?_eq_getElem h];rfl
theorem kE {gs:List Nat}{i:Nat}(h:i<gs.length):EU (.lst (gD gs)) (.int (i:Int))=some (.int ((gs.getD i 0:Nat):Int)):=by
 show (Pc.jy (gD gs).length (i:Int)).bind (fun j=>(gD gs)[j]?)=_;rw[gL (by rw[aU];exact h)];exact zt h
theorem jO (gs:List Nat) (i g:Nat):(gD gs).set i (.int (g:Int))=gD (gs.set i g):=by rw[gD,gD,List.map_set]
noncomputable def iW (T:Tb) (t:Nat):Prop:=∀ a b:Nat,b<64→T.cl t [.int (a:Int),.int (b:Int)] = .ok (.int ((Fl64.tm a b:Nat):Int),true)
noncomputable def nV (t:Nat):bF:=(.cons (.ite (.cmp .Eq (.bin .Mod (.var 4) (.cst (.int (2)))) (.cst (.int (1)))) (.cons (.asg (.nm 2) (.call t (.cons (.var 2) (.cons (.var 3) .nil))) false)
  .nil) .nil)
  (.cons (.asg (.nm 3) (.call t (.cons (.var 3) (.cons (.var 3) .nil))) false)
  (.cons (.asg (.nm 4) (.bin .FloorDiv (.var 4) (.cst (.int (2)))) false)
  .nil)))
noncomputable def DQ (t:Nat):bF:=(.cons (.asg (.nm 2) (.cst (.int (1))) false)
  (.cons (.asg (.nm 3) (.var 0) false)
  (.cons (.asg (.nm 4) (.var 1) false)
  (.cons (.whl (.cmp .Gt (.var 4) (.cst (.int (0)))) (nV t))
  (.cons (.ret (.var 2))
  .nil)))))
theorem pow_step {T:Tb}{t:Nat}(A K p s l x y:Int) (hx:l%2=1→T.cl t [.int p,.int s] = .ok (.int x,true)) (hx':l%2≠1→x=p) (hy:T.cl t [.int s,.int s] = .ok (.int y,true)):aC T (nV t) [sI A,sI K,sI p,sI s,sI l] = .nx [sI A,sI K,sI x,sI y,sI (l / 2)]:=by
 have e1:(l%2==1)=decide (l%2=1):=rfl;by_cases h1:l%2=1
 ·have hx:=hx h1;simp[e1,nV,aC,bE,ev,bK,aA,aR,aM,aO,Pc.binI,iU,lI,D.eqf,truth,D.flat,bR,kO,put,Tg.drop,aD,h1,hx,hy]
 ·have:=hx' h1;subst this;simp[e1,nV,aC,bE,ev,bK,aA,aR,aM,aO,Pc.binI,iU,lI,D.eqf,truth,D.flat,bR,kO,put,Tg.drop,aD,h1,hy]
theorem uJ {T:Tb}{t:Nat}(ht:iW T t) (A K:Int):∀(n fuel p s l:Nat),l<2 ^ n→n<fuel→s<64 →
  ∃ s' l':Int,iT (fun env=>(ev T (.cmp .Gt (.var 4) (.cst (.int 0))) env).bind fun p=>gO (truth p.1)) (aC T (nV t)) fuel [sI A,sI K,sN p,sN s,sN l] = .nx [sI A,sI K,sN (Fl64.Fy n p s l),sI s',sI l']
 |n,0,p,s,l,_,hf',_=>absurd hf' (fv _)
 | 0,fuel+1,p,s,l,hl,_,_=>by
  have:l=0:=by simpa using hl
  subst this;refine⟨s,0,?_⟩;rw[iT,iK];rfl
 | n+1,fuel+1,p,s,l,hl,hn,hs=>by
  rw[iT,iK,aR];by_cases h0:l=0
  ·subst h0;refine⟨s,0,?_⟩;rfl
  ·have hp:decide ((0:Int)<(l:Int))=true:=by rw[br];omega
   rw[if_pos hp,pow_step A K p s l ((if l%2=1 then Fl64.tm p s else p:Nat):Int) ((Fl64.tm s s:Nat):Int) (fun h=>by rw[if_pos (by omega)];exact ht p s hs) (fun h=>by rw[if_neg (by omega)]) (ht s s hs)];have e3:(l:Int) / 2=((l / 2:Nat):Int):=by omega
   rw[e3];obtain⟨s',l',h⟩:=uJ ht A K n fuel (if l%2=1 then Fl64.tm p s else p) (Fl64.tm s s) (l / 2) (by rw[iq] at hl;omega) (by omega) (Fl64.aY hs hs);refine⟨s',l',?_⟩;dsimp only;rw[h]
   conv=>rhs;unfold Fl64.Fy
   rw[if_neg h0]
theorem CB {T:Tb}{t:Nat}(ht:iW T t) (hfu:41≤T.fuel) (a k:Nat) (ha:a<64) (hk:k<2 ^ 40):Pc.ret (aC T (DQ t) (aF [.int (a:Int),.int (k:Int)] 5)) = .ok (.int ((Fl64.pw a k:Nat):Int),true):=by
 have hst:aF [.int (a:Int),.int (k:Int)] 5=[sN a,sN k,none,none,none]:=rfl;rw[hst];unfold DQ;have h1:bE T (.asg (.nm 2) (.cst (.int 1)) false) [sN a,sN k,none,none,none] = .nx [sN a,sN k,sN 1,none,none]:=rfl;have h2:bE T (.asg (.nm 3) (.var 0) false) [sN a,sN k,sN 1,none,none] = .nx [sN a,sN k,sN 1,sN a,none]:=rfl;have h3:bE T (.asg (.nm 4) (.var 1) false) [sN a,sN k,sN 1,sN a,none] = .nx [sN a,sN k,sN 1,sN a,sN k]:=rfl;rw[aC,h1,aD,aC,h2,aD,aC,h3,aD,aC];obtain⟨d',l',h⟩:=uJ (T:=T) ht a k 40 T.fuel 1 a k hk (by omega) ha;rw[Fl64.sY 40 1 a k hk (by decide) ha,Fl64.mz (Fl64.bB ha k)] at h;have h4:bE T (.whl (.cmp .Gt (.var 4) (.cst (.int 0))) (nV t)) [sN a,sN k,sN 1,sN a,sN k] = .nx [sN a,sN k,sN (Fl64.pw a k),sI d',sI l']:=by
  rw[bE];exact h
 rw[h4,aD];show Pc.ret (aC T (.cons (.ret (.var 2)) .nil) [sN a,sN k,sI ((Fl64.pw a k:Nat):Int),sI d',sI l'])=_;generalize ((Fl64.pw a k:Nat):Int)=x;rfl
noncomputable def vd (t:Nat):bF:=(.cons (.asg (.nm 2) (.bin .BitXor (.call t (.cons (.var 2) (.cons (.var 1) .nil))) (.var 3)) false)
  .nil)
noncomputable def EA (t:Nat):bF:=(.cons (.asg (.nm 2) (.cst (.int (0))) false)
  (.cons (.forr (.nm 3) (.seq (.var 0)) (vd t))
  (.cons (.ret (.var 2))
  .nil)))
theorem DB {T:Tb}{t:Nat}(x w g y:Int) (d:D) (h:T.cl t [.int w,.int x] = .ok (.int y,true)):aC T (vd t) [some (d,.sh []),sI x,sI w,sI g] = .nx [some (d,.sh []),sI x,sI (Builtin.bitXor y g),sI g]:=by
 simp[vd,aC,bE,ev,bK,aA,aR,aM,aO,Pc.binI,D.flat,bR,kO,put,Tg.drop,aD,h]
theorem yM {T:Tb}{t:Nat}(ht:iW T t) (d:D) (x:Nat) (hx:x<64):∀(gs:List Nat) (w:Nat) (o:Slot),∃ o',bD (.nm 3) [] (aC T (vd t)) (gD gs) [some (d,.sh []),sN x,sN w,o] = .nx [some (d,.sh []),sN x,sN (Fl64.gC x w gs),o']
 |[],w,o=>⟨o,rfl⟩
 | g::r,w,o=>by
  obtain⟨o',h⟩:=yM ht d x hx r (Fl64.tm w x^^^g) (sN g);refine⟨o',?_⟩;rw[gD,ax,bD];have hb:aW [] (.nm 3) (.int (g:Int)) [some (d,.sh []),sN x,sN w,o]=some [some (d,.sh []),sN x,sN w,sN g]:=by
   simp[aW,put,Tg.drop,cG,D.flat]
  rw[hb];dsimp only;rw[DB x w g ((Fl64.tm w x:Nat):Int) d (ht w x hx),cZ];exact h
theorem Dv {T:Tb}{t:Nat}(ht:iW T t) (gs:List Nat) (x:Nat) (hx:x<64):Pc.ret (aC T (EA t) (aF [.lst (gD gs),.int (x:Int)] 4)) = .ok (.int ((Fl64.cW x gs:Nat):Int),true):=by
 have hst:aF [.lst (gD gs),.int (x:Int)] 4=[sG gs,sN x,none,none]:=rfl;rw[hst];unfold EA;have h1:bE T (.asg (.nm 2) (.cst (.int 0)) false) [sG gs,sN x,none,none] = .nx [sG gs,sN x,sN 0,none]:=rfl;obtain⟨o',h⟩:=yM ht (.lst (gD gs)) x hx gs 0 none;have hit:fQ T (.seq (.var 0)) [sG gs,sN x,sN 0,none] = .ok (gD gs,[]):=rfl;have h2:=cN hit h;rw[aC,h1,aD,aC,h2,aD];show _=Rs.ok (D.int ((Fl64.gC x 0 gs:Nat):Int),true);generalize Fl64.gC x 0 gs=y;simp[aC,bE,ev,aR,D.flat,lO,Pc.ret,bW]
noncomputable abbrev Al (k:Nat) (gs:List Nat):List D:=(gs.zipIdx k).map fun (q:Nat×Nat)=>D.tup [.int (q.2:Int),.int (q.1:Int)]
theorem Ez (gs:List Nat):((gD gs).zipIdx.map fun (q:D×Nat)=>D.tup [.int q.2,q.1])=Al 0 gs:=by
 rw[gD,List.zipIdx_map,bg];rfl
theorem kg (k g:Nat) (gs:List Nat):Al k (g::gs) = .tup [.int (k:Int),.int (g:Int)]::Al (k+1) gs:=by
 rw[Al,List.zipIdx_cons,ax]
noncomputable def uk (t x p i j f:Nat):bF:=(.cons (.setix x .none (.bin .Add (.var p) (.var i)) (.bin .BitXor (.ix (.var x) (.bin .Add (.var p) (.var i))) (.call t (.cons (.var f) (.cons (.var j) .nil)))))
  .nil)
theorem yl {T:Tb}{t x p i j f:Nat}(ht:iW T t) {env:En}(tm:Tame env) {l:List Nat}{P S F G:Nat}(hx:env[x]? = some (oG l)) (hp:env[p]? = some (sN P)) (hi:env[i]? = some (sN S)) (hj:env[j]? = some (sN G)) (hf:env[f]? = some (sN F)) (hG:G<64) (hl:P+S<l.length) (hlen:l.length≤1000) :
  aC T (uk t x p i j f) env = .nx (env.set x (oG (l.set (P+S) (l.getD (P+S) 0^^^Fl64.tm F G)))):=by
 have vp:ev T (.var p) env = .ok (.int (P:Int),.mv []):=aJ hp rfl;have vi:ev T (.var i) env = .ok (.int (S:Int),.mv []):=aJ hi rfl;have vj:ev T (.var j) env = .ok (.int (G:Int),.mv []):=aJ hj rfl;have vf:ev T (.var f) env = .ok (.int (F:Int),.mv []):=aJ hf rfl;have vx:ev T (.var x) env = .ok (.lst (gD l),.mv [x]):=cO hx rfl;have e1:ev T (.bin .Add (.var p) (.var i)) env = .ok (.int ((P+S:Nat):Int),.mv []):=by
  rw[ev,vp,aA,vi,aA,aO];show (gO (some (D.int ((P:Int)+(S:Int))))).bind _=_;rw[show (P:Int)+(S:Int)=((P+S:Nat):Int) by omega];rfl
 have e2:ev T (.ix (.var x) (.bin .Add (.var p) (.var i))) env = .ok (.int ((l.getD (P+S) 0:Nat):Int),.mv []):=by
  rw[ev,vx,aA,e1,aA,kE hl,aM,aA];rfl
 have e3:=bP vf vj (ht F G hG);have e4:ev T (.bin .BitXor (.ix (.var x) (.bin .Add (.var p) (.var i))) (.call t (.cons (.var f) (.cons (.var j) .nil)))) env = .ok (.int ((l.getD (P+S) 0^^^Fl64.tm F G:Nat):Int),.mv []):=by
  rw[ev,e2,aA,e3,aA,aO];show (gO (some (D.int (Builtin.bitXor ((l.getD (P+S) 0:Nat):Int) ((Fl64.tm F G:Nat):Int))))).bind _=_;rw[cZ];rfl
 have:=iF (T:=T) tm hx e1 (gL (by rw[aU];exact hl)) e4 (by rw[aU];exact cB hlen);unfold uk;rw[aC,this,aD,jO];rfl
theorem qA {T:Tb}{t x p i j f:Nat}{R:List Nat}(ht:iW T t) {P F:Nat}(hxi:x≠i) (hxj:x≠j) (hij:i≠j) (hpi:p≠i) (hpj:p≠j) (hpx:p≠x) (hfi:f≠i) (hfj:f≠j) (hfx:f≠x):∀(m:List Nat) (k:Nat) (l:List Nat) (env:En),Tame env→i<env.length→j<env.length→env[x]? = some (oG l)→env[p]? = some (sN P)→env[f]? = some (sN F)→Fl64.Gr m→P+k+m.length≤l.length→l.length≤1000 →
  ∃ e:En,bD (.tp [i,j]) R (aC T (uk t x p i j f)) (Al k m) env = .nx e∧Tame e∧e.length=env.length∧e[x]? = some (oG (Fl64.eH l (P+k) (Fl64.mulR F m)))∧∀ y,y≠x→y≠i→y≠j→e[y]? = env[y]?
 |[],k,l,env,te,_,_,hx,_,_,_,_,_=>⟨env,rfl,te,rfl,hx,fun _ _ _ _=>rfl⟩
 | g::m,k,l,env,te,hi,hj,hx,hp,hf,hm,hl,hlen=>by
  have hl':P+k+(m.length+1)≤l.length:=by simpa using hl
  have hxl:x<env.length:=(List.getElem?_eq_some_iff.mp hx).1;have hb:=gU (R:=R) (x:=.int (k:Int)) (y:=.int (g:Int)) te hi hj rfl rfl;have te1:Tame ((env.set i (some (.int (k:Int),.own))).set j (some (.int (g:Int),.own))):=(te.set (aB _) i).set (aB _) j;have q1:((env.set i (some (.int (k:Int),.own))).set j (some (.int (g:Int),.own)))[x]? = some (oG l):=by
   rw[List.getElem?_set_ne (cj hxj),List.getElem?_set_ne (cj hxi)];exact hx
  have q2:((env.set i (some (.int (k:Int),.own))).set j (some (.int (g:Int),.own)))[p]? = some (sN P):=by
   rw[List.getElem?_set_ne (cj hpj),List.getElem?_set_ne (cj hpi)];exact hp
  have q3:((env.set i (some (.int (k:Int),.own))).set j (some (.int (g:Int),.own)))[i]? = some (sN k):=by
   rw[List.getElem?_set_ne (cj hij),List.getElem?_set_self hi]
  have q4:((env.set i (some (.int (k:Int),.own))).set j (some (.int (g:Int),.own)))[j]? = some (sN g):=List.getElem?_set_self (by rw[aq];exact hj);have q5:((env.set i (some (.int (k:Int),.own))).set j (some (.int (g:Int),.own)))[f]? = some (sN F):=by
   rw[List.getElem?_set_ne (cj hfj),List.getElem?_set_ne (cj hfi)];exact hf
  have st:=yl ht te1 q1 q2 q3 q4 q5 (hm g ag) (by omega) hlen;generalize hE:(env.set i (some (.int (k:Int),.own))).set j (some (.int (g:Int),.own))=E1 at *;have hEl:E1.length=env.length:=by rw[←hE];simp
  have te2:Tame (E1.set x (oG (l.set (P+k) (l.getD (P+k) 0^^^Fl64.tm F g)))):=te1.set (aB _) x;obtain⟨e,r1,r2,r3,r4,r5⟩:=qA ht (R:=R) (P:=P) (F:=F) hxi hxj hij hpi hpj hpx hfi hfj hfx m (k+1) (l.set (P+k) (l.getD (P+k) 0^^^Fl64.tm F g)) (E1.set x (oG (l.set (P+k) (l.getD (P+k) 0^^^Fl64.tm F g)))) te2 (by simp[hEl];exact hi) (by simp[hEl];exact hj)
   (List.getElem?_set_self (by rw[hEl];exact hxl)) (by rw[List.getElem?_set_ne (cj hpx)];exact q2) (by rw[List.getElem?_set_ne (cj hfx)];exact q5) (fun z hz=>hm z (aa _ hz)) (by rw[aq];omega) (by rw[aq];exact hlen)
  refine⟨e,?_,r2,by rw[r3,aq,hEl],?_,fun y y1 y2 y3=>?_⟩
  ·rw[kg,bD,hb];dsimp only;rw[st];exact r1
  ·rw[r4];rfl
  ·rw[r5 y y1 y2 y3,List.getElem?_set_ne (cj y1),←hE,List.getElem?_set_ne (cj y3),List.getElem?_set_ne (cj y2)]
noncomputable def zg (t:Nat):bF:=(.cons (.forr (.tp [5,6]) (.enum (.var 1)) (uk t 2 3 5 6 4))
  .nil)
noncomputable def bRP (t:Nat):bF:=(.cons (.asg (.nm 2) (.bin .Mult (.lst (.cons (.cst (.int (0))) .nil)) (.bin .Sub (.bin .Add (.blt .len (.cons (.var 0) .nil)) (.blt .len (.cons (.var 1) .nil))) (.cst (.int (1))))) false)
  (.cons (.forr (.tp [3,4]) (.enum (.var 0)) (zg t))
  (.cons (.ret (.var 2))
  .nil)))
theorem uP (T:Tb) {env:En}{i:Nat}{gs:List Nat}(h:env[i]? = some (sG gs)):fQ T (.enum (.var i)) env = .ok (Al 0 gs,[]):=by
 have hv:ev T (.var i) env = .ok (.lst (gD gs),.sh []):=by
  rw[ev,h];rfl
 rw[fQ,hv,aA];show (Rs.ok (gD gs)).bind _=_;rw[aA,Ez];rfl
theorem vm {T:Tb}{t:Nat}(ht:iW T t) {b:List Nat}(hb:Fl64.Gr b) (hb0:0<b.length):∀(a:List Nat) (k:Nat) (l:List Nat) (env:En),Tame env→env.length=7→env[1]? = some (sG b)→env[2]? = some (oG l)→Fl64.Gr a→k+a.length+b.length=l.length+1→l.length≤1000 →
  ∃ e:En,bD (.tp [3,4]) [] (aC T (zg t)) (Al k a) env = .nx e∧Tame e∧e.length=7∧e[2]? = some (oG (Fl64.eA l k a b))
 |[],k,l,env,te,hl,_,h2,_,_,_=>⟨env,rfl,te,hl,h2⟩
 | g::a,k,l,env,te,hl,h1,h2,ha,hk,hlen=>by
  have hk':k+(a.length+1)+b.length=l.length+1:=by simpa using hk
  have bp:=gU (R:=[]) (x:=.int (k:Int)) (y:=.int (g:Int)) (i:=3) (j:=4) te (by omega) (by omega) rfl rfl;have te1:Tame ((env.set 3 (some (.int (k:Int),.own))).set 4 (some (.int (g:Int),.own))):=(te.set (aB _) 3).set (aB _) 4;have q1:((env.set 3 (some (.int (k:Int),.own))).set 4 (some (.int (g:Int),.own)))[1]? = some (sG b):=by
   rw[List.getElem?_set_ne (by decide),List.getElem?_set_ne (by decide)];exact h1
  have q2:((env.set 3 (some (.int (k:Int),.own))).set 4 (some (.int (g:Int),.own)))[2]? = some (oG l):=by
   rw[List.getElem?_set_ne (by decide),List.getElem?_set_ne (by decide)];exact h2
  have q3:((env.set 3 (some (.int (k:Int),.own))).set 4 (some (.int (g:Int),.own)))[3]? = some (sN k):=by
   rw[List.getElem?_set_ne (by decide),List.getElem?_set_self (by omega)]
  have q4:((env.set 3 (some (.int (k:Int),.own))).set 4 (some (.int (g:Int),.own)))[4]? = some (sN g):=List.getElem?_set_self (by rw[aq];omega);have ql:((env.set 3 (some (.int (k:Int),.own))).set 4 (some (.int (g:Int),.own))).length=7:=by simp[hl]
  generalize (env.set 3 (some (.int (k:Int),.own))).set 4 (some (.int (g:Int),.own))=E1 at *;obtain⟨e1,r1,r2,r3,r4,r5⟩:=qA (T:=T) (x:=2) (p:=3) (i:=5) (j:=6) (f:=4) (R:=[]) ht (P:=k) (F:=g) (by decide) (by decide) (by decide) (by decide) (by decide) (by decide) (by decide) (by decide) (by decide) b 0 l E1 te1 (by omega) (by omega) q2 q3 q4 hb (by omega) hlen;have st:aC T (zg t) E1 = .nx e1:=by
   unfold zg;rw[aC,cN (uP T q1) r1,aD];rfl
  obtain⟨e,s1,s2,s3,s4⟩:=vm ht hb hb0 a (k+1) (Fl64.eH l (k+0) (Fl64.mulR g b)) e1 r2 (by omega) (by rw[r5 1 (by decide) (by decide) (by decide)];exact q1) r4 (fun z hz=>ha z (aa _ hz)) (by rw[Fl64.eN];omega) (by rw[Fl64.eN];exact hlen);refine⟨e,?_,s2,s3,s4⟩;rw[kg,bD,bp];dsimp only;rw[st];exact s1
theorem rj:∀ n:Nat,(List.replicate n [D.int 0]).flatten=gD (List.replicate n 0)
 |0=>rfl
 | n+1=>by
  rw[dk,dn,rj n,dk];rfl
theorem n6 (n:Nat) (hn:n≤1000):nF .Mult (.lst [.int 0]) (.int (n:Int))=some (.lst (gD (List.replicate n 0))):=by
 have h : -(2 ^ 63:Int)≤(n:Int)∧(n:Int)<2 ^ 63:=⟨by omega,by omega⟩;have hf:D.flats [D.int 0]=true:=rfl;simp only[nF,FT];rw[if_pos h,if_pos hf,bj,rj];unfold ck;rw[if_pos (cB (by simp;omega))]
theorem qv (gs:List Nat):lF .len [.lst (gD gs)]=some (.int (gs.length:Int)):=by
 show some (D.int ((gD gs).length:Int))=_;rw[aU]
theorem iC {T:Tb}{env:En}{i:Nat}{gs:List Nat}{t:Tg}(h:env[i]? = some (some (.lst (gD gs),t))):ev T (.blt .len (.cons (.var i) .nil)) env = .ok (.int (gs.length:Int),.mv []):=by
 obtain⟨R,hv⟩:=BL (T:=T) h;have h1:bK T (.cons (.var i) .nil) env = .ok [(.lst (gD gs),R)]:=by
  rw[bK,hv,aA];rfl
 rw[ev,h1,aA,vS,qv,aM,aA,bR]
theorem F6 {T:Tb}{t:Nat}(ht:iW T t) {a b:List Nat}(ha:Fl64.Gr a) (hb:Fl64.Gr b) (hb0:0<b.length) (hl:a.length+b.length≤1000):Pc.ret (aC T (bRP t) (aF [.lst (gD a),.lst (gD b)] 7)) = .ok (.lst (gD (Fl64.dC a b)),true):=by
 have hst:aF [.lst (gD a),.lst (gD b)] 7=[sG a,sG b,none,none,none,none,none]:=rfl;rw[hst];have t0:Tame [sG a,sG b,none,none,none,none,none]:=.cons (aH _) (.cons (aH _) (.cons aG (.cons aG (.cons aG (.cons aG (.cons aG .nil))))));have e1:ev T (.bin .Sub (.bin .Add (.blt .len (.cons (.var 0) .nil)) (.blt .len (.cons (.var 1) .nil))) (.cst (.int (1)))) [sG a,sG b,none,none,none,none,none] = .ok (.int ((a.length+b.length - 1:Nat):Int),.mv []):=by
  have l0:=iC (T:=T) (env:=[sG a,sG b,none,none,none,none,none]) (i:=0) (gs:=a) (t:=.sh []) rfl;have l1:=iC (T:=T) (env:=[sG a,sG b,none,none,none,none,none]) (i:=1) (gs:=b) (t:=.sh []) rfl;have e:((a.length+b.length - 1:Nat):Int)=(a.length:Int)+(b.length:Int) - 1:=by omega
  rw[e];generalize (a.length:Int)=A at l0;generalize (b.length:Int)=B at l1;have q:ev T (.bin .Add (.blt .len (.cons (.var 0) .nil)) (.blt .len (.cons (.var 1) .nil))) [sG a,sG b,none,none,none,none,none] = .ok (.int (A+B),.mv []):=by
   rw[ev,l0,aA,l1,aA];rfl
  rw[ev,q,aA];rfl
 have e2:ev T (.bin .Mult (.lst (.cons (.cst (.int (0))) .nil)) (.bin .Sub (.bin .Add (.blt .len (.cons (.var 0) .nil)) (.blt .len (.cons (.var 1) .nil))) (.cst (.int (1))))) [sG a,sG b,none,none,none,none,none] = .ok (.lst (gD (List.replicate (a.length+b.length - 1) 0)),.mv []):=by
  have q:ev T (.lst (.cons (.cst (.int (0))) .nil)) [sG a,sG b,none,none,none,none,none] = .ok (.lst [.int 0],.mv []):=rfl;rw[ev,q,aA,e1,aA,n6 _ (by omega),aM,aA,cV (fB _)]
 have g1:=bU (T:=T) (i:=2) t0 (by simp) e2;obtain⟨e,r1,r2,r3,r4⟩:=vm ht hb hb0 a 0 (List.replicate (a.length+b.length - 1) 0) [sG a,sG b,oG (List.replicate (a.length+b.length - 1) 0),none,none,none,none] (.cons (aH _) (.cons (aH _) (.cons (aB _) (.cons aG (.cons aG (.cons aG (.cons aG .nil))))))) rfl rfl rfl ha (by rw[bc];omega) (by rw[bc];omega);have g2:=cN (uP T (env:=[sG a,sG b,oG (List.replicate (a.length+b.length - 1) 0),none,none,none,none]) (i:=0) rfl) r1;unfold bRP;rw[aC,g1,aD,aC];show Pc.ret ((bE T (.forr (.tp [3,4]) (.enum (.var 0)) (zg t)) [sG a,sG b,oG (List.replicate (a.length+b.length - 1) 0),none,none,none,none]).andThen _)=_;rw[g2,aD];have hv:ev T (.var 2) e = .ok (.lst (gD (Fl64.dC a b)),.mv [2]):=cO r4 rfl;rw[aC,bE,hv,aR];have ho:bW e [2]=true:=by
  simp[bW,r4]
 show Pc.ret ((Fl.rt (.lst (gD (Fl64.dC a b))) (bW e [2])).andThen _)=_;rw[ho];rfl
noncomputable def xi (T:Tb) (rp:Nat):Prop:=∀ a b:List Nat,Fl64.Gr a→Fl64.Gr b→0<b.length→a.length+b.length≤1000→T.cl rp [.lst (gD a),.lst (gD b)] = .ok (.lst (gD (Fl64.dC a b)),true)
noncomputable def sH (rp:Nat):bF:=(.cons (.asg (.nm 1) (.call rp (.cons (.var 1) (.cons (.lst (.cons (.cst (.int (1))) (.cons (.var 2) .nil))) .nil))) false)
  .nil)
noncomputable def bRN (rp:Nat):bF:=(.cons (.asg (.nm 1) (.lst (.cons (.cst (.int (1))) .nil)) false)
  (.cons (.forr (.nm 2) (.seq (.var 0)) (sH rp))
  (.cons (.ret (.var 1))
  .nil)))
theorem uG {T:Tb}{rp:Nat}(h:xi T rp) (N:List Nat):∀(ns r:List Nat) (o:Slot),cC o→Fl64.Gr ns→Fl64.Gr r→0<r.length→r.length+ns.length+2≤1000→∃ o',cC o'∧bD (.nm 2) [] (aC T (sH rp)) (gD ns) [sG N,oG r,o] = .nx [sG N,oG (Fl64.iR r ns),o']
 |[],r,o,ho,_,_,_,_=>⟨o,ho,rfl⟩
 | n::ns,r,o,ho,hn,hr,h0,hl=>by
  have n64:=hn n ag;have hb:Fl64.Gr [1,n]:=.cons (by decide) (.cons n64 .nil);have hl':r.length+(ns.length+1)+2≤1000:=by simpa using hl
  have pl:(Fl64.dC r [1,n]).length=r.length+1:=by rw[Fl64.fC];simp
  obtain⟨o',ho',q⟩:=uG h N ns (Fl64.dC r [1,n]) (sN n) (aB _) (fun z hz=>hn z (aa _ hz)) (Fl64.jf hr hb) (by omega) (by omega);refine⟨o',ho',?_⟩;have bd:=fM (i:=2) (d:=.int (n:Int)) (env:=[sG N,oG r,o]) (.cons (aH _) (.cons (aB _) (.cons ho .nil))) (by simp);have v1:ev T (.var 1) [sG N,oG r,sN n] = .ok (.lst (gD r),.mv [1]):=cO rfl rfl;have e2:ev T (.lst (.cons (.cst (.int (1))) (.cons (.var 2) .nil))) [sG N,oG r,sN n] = .ok (.lst (gD [1,n]),.mv []):=by
   show ev T (.lst (.cons (.cst (.int (1))) (.cons (.var 2) .nil))) [sG N,oG r,sI (n:Int)] = .ok (.lst [.int 1,.int (n:Int)],.mv []);generalize (n:Int)=K;rfl
  have g:=bU (T:=T) (i:=1) (env:=[sG N,oG r,sN n]) (.cons (aH _) (.cons (aB _) (.cons (aB _) .nil))) (by simp) (bP v1 e2 (h r [1,n] hr hb (by simp) (by simp;omega)));have st:aC T (sH rp) [sG N,oG r,sN n] = .nx [sG N,oG (Fl64.dC r [1,n]),sN n]:=by
   unfold sH;rw[aC,g,aD];rfl
  rw[gD,ax,bD,bd];show (match aC T (sH rp) [sG N,oG r,sN n] with
   |.nx e=>bD (.nm 2) [] (aC T (sH rp)) (gD ns) e
   |.ct e=>bD (.nm 2) [] (aC T (sH rp)) (gD ns) e
   |.bk e=>.nx e
   |x=>x)=_
  rw[st];exact q
theorem FW {T:Tb}{rp:Nat}(h:xi T rp) {ns:List Nat}(hn:Fl64.Gr ns) (hl:ns.length≤900):Pc.ret (aC T (bRN rp) (aF [.lst (gD ns)] 3)) = .ok (.lst (gD (Fl64.iR [1] ns)),true):=by
 have hst:aF [.lst (gD ns)] 3=[sG ns,none,none]:=rfl;rw[hst];have g1:bE T (.asg (.nm 1) (.lst (.cons (.cst (.int (1))) .nil)) false) [sG ns,none,none] = .nx [sG ns,oG [1],none]:=rfl;obtain⟨o',_,q⟩:=uG h ns ns [1] none aG hn (.cons (by decide) .nil) (by decide) (by simp;omega);have hit:fQ T (.seq (.var 0)) [sG ns,oG [1],none] = .ok (gD ns,[]):=rfl;have g2:=cN hit q;have hv:ev T (.var 1) [sG ns,oG (Fl64.iR [1] ns),o'] = .ok (.lst (gD (Fl64.iR [1] ns)),.mv [1]):=cO rfl rfl;unfold bRN;rw[aC,g1,aD,aC,g2,aD,aC,bE,hv,aR];rfl
noncomputable def Ak (T:Tb) (pw:Nat):Prop:=∀ a k:Nat,a<64→k<2 ^ 40→T.cl pw [.int (a:Int),.int (k:Int)] = .ok (.int ((Fl64.pw a k:Nat):Int),true)
noncomputable def bCN (pw:Nat):bF:=(.cons (.ret (.comp 1 [] (.nm 0) (.rng2 (.cst (.int (1))) (.bin .Add (.var 0) (.cst (.int (1))))) .none (.call pw (.cons (.cst (.int (2))) (.cons (.var 0) .nil)))))
  .nil)
theorem eC:∀(m a:Nat),bC (a:Int) 1 m=(List.range' a m).map fun (k:Nat)=>D.int (k:Int)
 |0,a=>rfl
 | m+1,a=>by
  rw[bC,List.range'_succ,ax,←eC m (a+1)];congr 2
theorem FX {T:Tb}{pw:Nat}(h:Ak T pw) (c:Nat) (hc:c≤900):Pc.ret (aC T (bCN pw) (aF [.int (c:Int)] 1)) = .ok (.lst (gD (Fl64.bS c)),true):=by
 have hst:aF [.int (c:Int)] 1=[sI (c:Int)]:=rfl;rw[hst];refine gN ?_;have hit:fQ T (.rng2 (.cst (.int (1))) (.bin .Add (.var 0) (.cst (.int (1))))) [sI (c:Int)] = .ok ((List.range' 1 c).map (fun (k:Nat)=>D.int (k:Int)),[]):=by
  have ho:fJ ((c:Int)+1)=true:=by
   have:=qm (n:=c+1) (by omega);rw[show ((c+1:Nat):Int)=(c:Int)+1 by omega] at this;exact this
  have e:((c:Int)+1 - 1).toNat=c:=by omega
  have q:∀ C:Int,fJ (C+1)=true→fQ T (.rng2 (.cst (.int (1))) (.bin .Add (.var 0) (.cst (.int (1))))) [sI C] = .ok (bC 1 1 (C+1 - 1).toNat,[]):=fun C hC=>by
   have v:ev T (.bin .Add (.var 0) (.cst (.int (1)))) [sI C] = .ok (.int (C+1),.mv []):=rfl;have v1:ev T (.cst (.int (1))) [sI C] = .ok (.int 1,.mv []):=rfl;rw[fQ,v1,aA,v,aA];show (if fJ 1&&fJ (C+1) then Rs.ok (bC 1 1 (C+1 - 1).toNat,[]) else .bad)=_;rw[hC];rfl
  rw[q _ ho,e];have:=eC c 1;rw[show ((1:Nat):Int)=1 from rfl] at this;rw[this]
 rw[jS (g:=fun d=>match d with | .int k=>(.int ((Fl64.pw 2 k.toNat:Nat):Int),.mv []) | _=>(.non,.mv [])) hit (by rw[aj,List.length_range'];exact cB (by omega)) (fun d hd=>?_) (fun d hd=>?_)]
 ·unfold Fl64.bS;rw[gD,bg,bg];congr 2
 ·obtain⟨k,hk,rfl⟩:=List.mem_map.mp hd;have hk:k≤c:=by
   have:=List.mem_range'_1.mp hk;omega
  have hb:aW [] (.nm 0) (.int (k:Int)) (aL [sI (c:Int)] 1 [])=some [sN k]:=rfl;rw[hb];have v0:ev T (.var 0) [sN k] = .ok (.int (k:Int),.mv []):=aJ rfl rfl;have v2:ev T (.cst (.int (2))) [sN k] = .ok (.int ((2:Nat):Int),.mv []):=rfl;have he:=bP v2 v0 (h 2 k (by decide) (by omega));simp only[aX,mQ,aA,if_true,he,Int.toNat_natCast]
 ·obtain⟨k,hk,rfl⟩:=List.mem_map.mp hd;rfl
noncomputable def AH (T:Tb) (cn:Nat):Prop:=∀ c:Nat,c≤900→T.cl cn [.int (c:Int)] = .ok (.lst (gD (Fl64.bS c)),true)
noncomputable def tw (T:Tb) (wa:Nat):Prop:=∀(gs:List Nat) (x:Nat),x<64→T.cl wa [.lst (gD gs),.int (x:Int)] = .ok (.int ((Fl64.cW x gs:Nat):Int),true)
noncomputable def eIC (cn wa:Nat):Ex:=.comp 1 [0] (.nm 0) (.seq (.call cn (.cons (.var 1) .nil))) .none (.cmp .Eq (.call wa (.cons (.var 1) (.cons (.var 0) .nil))) (.cst (.int (0))))
noncomputable def bIC (cn wa:Nat):bF:=(.cons (.ret (.blt .all (.cons (eIC cn wa) .nil)))
  .nil)
theorem qG:∀(bs:List Bool),(bs.map D.bl).all D.isBl=true∧allB (bs.map D.bl)=some (bs.all id)
 |[]=>⟨rfl,rfl⟩
 | b::r=>by
  obtain⟨h1,h2⟩:=qG r;refine⟨by simp[D.isBl],?_⟩;cases b
  ·rfl
  ·show allB (r.map D.bl)=_;rw[h2];simp
theorem Gm {T:Tb}{cn wa:Nat}(hcn:AH T cn) (hwa:tw T wa) (gs:List Nat) (c:Nat) (hc:c≤900):Pc.ret (aC T (bIC cn wa) (aF [.lst (gD gs),.int (c:Int)] 2)) = .ok (.bl (decide (Fl64.zV gs c)),true):=by
 have hst:aF [.lst (gD gs),.int (c:Int)] 2=[sG gs,sN c]:=rfl;rw[hst];have v1:ev T (.var 1) [sG gs,sN c] = .ok (.int (c:Int),.mv []):=aJ rfl rfl;have hit:fQ T (.seq (.call cn (.cons (.var 1) .nil))) [sG gs,sN c] = .ok (gD (Fl64.bS c),[]):=by
  rw[fQ,lq v1 (hcn c hc),aA];rfl
 have he:ev T (eIC cn wa) [sG gs,sN c] = .ok (.lst (((Fl64.bS c).map fun x=>decide (Fl64.cW x gs=0)).map D.bl),.mv []):=by
  unfold eIC;rw[jS (g:=fun d=>match d with | .int k=>(.bl (decide (Fl64.cW k.toNat gs=0)),.mv []) | _=>(.non,.mv [])) hit (by rw[aU,Fl64.jh];exact cB (by omega)) (fun d hd=>?_) (fun d hd=>?_)]
  ·rw[gD,bg,bg];congr 2
  ·obtain⟨x,hx,rfl⟩:=List.mem_map.mp hd;have x64:=Fl64.jC c x hx;have hb:aW [] (.nm 0) (.int (x:Int)) (aL [sG gs,sN c] 1 [0])=some [sN x,sG gs]:=rfl;rw[hb];have w0:ev T (.var 0) [sN x,sG gs] = .ok (.int (x:Int),.mv []):=aJ rfl rfl;have w1:ev T (.var 1) [sN x,sG gs] = .ok (.lst (gD gs),.sh []):=rfl;have e1:=bP w1 w0 (hwa gs x x64);have e2:ev T (.cmp .Eq (.call wa (.cons (.var 1) (.cons (.var 0) .nil))) (.cst (.int (0)))) [sN x,sG gs] = .ok (.bl (decide (Fl64.cW x gs=0)),.mv []):=by
    have v:ev T (.cst (.int (0))) [sN x,sG gs] = .ok (.int 0,.mv []):=rfl;rw[ev,e1,aA,v,aA];show (gO (some (((Fl64.cW x gs:Nat):Int)==0))).bind _=_;have:(((Fl64.cW x gs:Nat):Int)==0)=decide (Fl64.cW x gs=0):=by
     rw[ey,g6,br];omega
    rw[this];rfl
   simp only[aX,mQ,aA,if_true,e2,Int.toNat_natCast]
  ·obtain⟨x,hx,rfl⟩:=List.mem_map.mp hd;rfl
 refine gN ?_;have h1:bK T (.cons (eIC cn wa) .nil) [sG gs,sN c] = .ok [(.lst (((Fl64.bS c).map fun x=>decide (Fl64.cW x gs=0)).map D.bl),.mv [])]:=by
  rw[bK,he,aA];rfl
 obtain⟨a1,a2⟩:=qG ((Fl64.bS c).map fun x=>decide (Fl64.cW x gs=0));have hb:lF .all [.lst (((Fl64.bS c).map fun x=>decide (Fl64.cW x gs=0)).map D.bl)]=some (.bl (decide (Fl64.zV gs c))):=by
  show (if (((Fl64.bS c).map fun x=>decide (Fl64.cW x gs=0)).map D.bl).all D.isBl then (allB (((Fl64.bS c).map fun x=>decide (Fl64.cW x gs=0)).map D.bl)).map D.bl else none)=_;rw[if_pos a1,a2];have:(((Fl64.bS c).map fun x=>decide (Fl64.cW x gs=0)).all id)=decide (Fl64.zV gs c):=by
   rw[ey,bw,br];simp[Fl64.zV]
  rw[this];rfl
 rw[ev,h1,aA,vS,hb,aM,aA];rfl
noncomputable def DX (T:Tb) (rn:Nat):Prop:=∀ ns:List Nat,Fl64.Gr ns→ns.length≤900→T.cl rn [.lst (gD ns)] = .ok (.lst (gD (Fl64.iR [1] ns)),true)
end Pc.Gr
end
section
namespace Fl64
noncomputable def gB (a b:Nat):Nat→Nat→Nat→Nat
 |0,_,w=>w
 |m+1,k,w=>gB a b m (k+1) (if b / 2 ^ k%2=1 then w^^^(a*2 ^ k) else w)
noncomputable def zI:Nat→Nat→Nat
 |0,w=>w
 |m+1,w=>zI m (if w / 2 ^ (m+6)%2=1 then w^^^(67*2 ^ m) else w)
noncomputable def tm2 (a b:Nat):Nat:=zI 5 (gB a b 6 0 0)
theorem CU {a b:Nat}(ha:a<64) (hb:b<64):tm2 a b=tm a b:=by
 have:=all2 (f:=fun a b=>decide (tm2 a b=tm a b)) (by decide +kernel) ha hb;exact du this
end Fl64
namespace Pc.Lw
open PySem Pc Pc.Sm Pc.Gr
noncomputable def Ga:bF:=(.cons (.ite (.cmp .Eq (.bin .BitAnd (.bin .RShift (.var 1) (.var 3)) (.cst (.int (1)))) (.cst (.int (1)))) (.cons (.asg (.nm 2) (.bin .BitXor (.var 2) (.bin .LShift (.var 0) (.var 3))) false)
  .nil) .nil)
  .nil)
noncomputable def GG:bF:=(.cons (.ite (.cmp .Eq (.bin .BitAnd (.bin .RShift (.var 2) (.bin .Add (.var 3) (.cst (.int (6))))) (.cst (.int (1)))) (.cst (.int (1)))) (.cons (.asg (.nm 2) (.bin .BitXor (.var 2) (.bin .LShift (.cst (.int (67))) (.var 3))) false)
  .nil) .nil)
  .nil)
noncomputable def bLT:bF:=(.cons (.asg (.nm 2) (.cst (.int (0))) false)
  (.cons (.forr (.nm 3) (.rng1 (.cst (.int (6)))) Ga)
  (.cons (.forr (.nm 3) (.rng3 (.cst (.int (4))) (.neg (.cst (.int (1)))) (.neg (.cst (.int (1))))) GG)
  (.cons (.ret (.var 2))
  .nil))))
theorem AW (T:Tb) (a b w k:Int) (hk:0≤k) (hk':k≤1000000) (ha:a.natAbs<2 ^ 64):aC T Ga [sI a,sI b,sI w,sI k] = .nx [sI a,sI b,sI (if Builtin.bitAnd (b / 2 ^ k.toNat) 1=1 then Builtin.bitXor w (a*2 ^ k.toNat) else w),sI k]:=by
 have e1:(Builtin.bitAnd (b / 2 ^ k.toNat) 1==1)=decide (Builtin.bitAnd (b / 2 ^ k.toNat) 1=1):=rfl;by_cases h1:Builtin.bitAnd (b / 2 ^ k.toNat) 1=1 <;>
  simp[e1,Ga,aC,bE,ev,aA,aR,aM,aO,Pc.binI,iU,lI,D.eqf,truth,D.flat,bR,kO,put,Tg.drop,aD,h1,hk,hk',ha]
theorem As (T:Tb) (a b w k:Int) (hk:0≤k) (hk':k≤1000000):aC T GG [sI a,sI b,sI w,sI k] = .nx [sI a,sI b,sI (if Builtin.bitAnd (w / 2 ^ (k+6).toNat) 1=1 then Builtin.bitXor w (67*2 ^ k.toNat) else w),sI k]:=by
 have e1:(Builtin.bitAnd (w / 2 ^ (k+6).toNat) 1==1)=decide (Builtin.bitAnd (w / 2 ^ (k+6).toNat) 1=1):=rfl;have hk6:0≤k+6:=by omega
 by_cases h1:Builtin.bitAnd (w / 2 ^ (k+6).toNat) 1=1 <;>
  simp[e1,GG,aC,bE,ev,aA,aR,aM,aO,Pc.binI,iU,lI,D.eqf,truth,D.flat,bR,kO,put,Tg.drop,aD,h1,hk,hk',hk6]
theorem va (b k:Nat):Builtin.bitAnd ((b:Int) / 2 ^ k) 1=((b / 2 ^ k%2:Nat):Int):=by
 have q:(b:Int) / 2 ^ k=((b / 2 ^ k:Nat):Int):=by simp
 rw[q,sD (fi _)];omega
theorem uI (T:Tb) (a b:Nat) (ha:a<64):∀(m k w:Nat) (o:Slot),k+m≤6→∃ o',bD (.nm 3) [] (aC T Ga) (bC k 1 m) [sN a,sN b,sN w,o] = .nx [sN a,sN b,sN (Fl64.gB a b m k w),o']
 |0,k,w,o,_=>⟨o,rfl⟩
 | m+1,k,w,o,hm=>by
  rw[bC,bD];have hb:aW [] (.nm 3) (.int (k:Int)) [sN a,sN b,sN w,o]=some [sN a,sN b,sN w,sN k]:=by
   simp[aW,put,Tg.drop,cG,D.flat]
  rw[hb];dsimp only;rw[AW T a b w k (by omega) (by omega) (by omega)];dsimp only;have e2:(if Builtin.bitAnd ((b:Int) / 2 ^ (k:Int).toNat) 1=1 then Builtin.bitXor (w:Int) ((a:Int)*2 ^ (k:Int).toNat) else (w:Int))=((if b / 2 ^ k%2=1 then w^^^(a*2 ^ k) else w:Nat):Int):=by
   rw[bj,va];have q:(a:Int)*2 ^ k=((a*2 ^ k:Nat):Int):=by simp
   rw[q,cZ];by_cases h:b / 2 ^ k%2=1
   ·rw[if_pos h,if_pos (by omega)]
   ·rw[if_neg h,if_neg (by omega)]
  have e3:((k:Int)+1)=((k+1:Nat):Int):=by omega
  rw[e2,e3];obtain⟨o',h⟩:=uI T a b ha m (k+1) (if b / 2 ^ k%2=1 then w^^^(a*2 ^ k) else w) (sN k) (by omega);exact⟨o',h⟩
theorem um (T:Tb) (a b:Nat):∀(m w:Nat) (o:Slot),m≤5→∃ o',bD (.nm 3) [] (aC T GG) (bC ((m:Int) - 1) (-1) m) [sN a,sN b,sN w,o] = .nx [sN a,sN b,sN (Fl64.zI m w),o']
 |0,w,o,_=>⟨o,rfl⟩
 | m+1,w,o,hm=>by
  have e0:((m+1:Nat):Int) - 1=(m:Int):=by omega
  rw[e0,bC,bD];have hb:aW [] (.nm 3) (.int (m:Int)) [sN a,sN b,sN w,o]=some [sN a,sN b,sN w,sN m]:=by
   simp[aW,put,Tg.drop,cG,D.flat]
  rw[hb];dsimp only;rw[As T a b w m (by omega) (by omega)];dsimp only;have e2:(if Builtin.bitAnd ((w:Int) / 2 ^ ((m:Int)+6).toNat) 1=1 then Builtin.bitXor (w:Int) (67*2 ^ (m:Int).toNat) else (w:Int))=((if w / 2 ^ (m+6)%2=1 then w^^^(67*2 ^ m) else w:Nat):Int):=by
   have q0:((m:Int)+6).toNat=m+6:=by omega
   rw[q0,bj,va];have q:(67:Int)*2 ^ m=((67*2 ^ m:Nat):Int):=by simp
   rw[q,cZ];by_cases h:w / 2 ^ (m+6)%2=1
   ·rw[if_pos h,if_pos (by omega)]
   ·rw[if_neg h,if_neg (by omega)]
  have e3:((m:Int) + -1)=(m:Int) - 1:=by omega
  rw[e2,e3];obtain⟨o',h⟩:=um T a b m (if w / 2 ^ (m+6)%2=1 then w^^^(67*2 ^ m) else w) (sN m) (by omega);exact⟨o',h⟩
theorem Ft {T:Tb}(a b:Nat) (ha:a<64) (hb:b<64):Pc.ret (aC T bLT (aF [.int (a:Int),.int (b:Int)] 4)) = .ok (.int (Fl64.tm a b:Nat),true):=by
 have hst:aF [.int a,.int b] 4=[sN a,sN b,none,none]:=rfl;rw[hst];unfold bLT;have h1:bE T (.asg (.nm 2) (.cst (.int 0)) false) [sN a,sN b,none,none] = .nx [sN a,sN b,sN 0,none]:=rfl;obtain⟨o',h⟩:=uI T a b ha 6 0 0 none (by decide);obtain⟨o'',h'⟩:=um T a b 5 (Fl64.gB a b 6 0 0) o' (by decide);have h2:bE T (.forr (.nm 3) (.rng1 (.cst (.int (6)))) Ga) [sN a,sN b,sN 0,none] = .nx (unlock [] [sN a,sN b,sN 0,none] [sN a,sN b,sN (Fl64.gB a b 6 0 0),o']):=by
  rw[bE];have hit:fQ T (.rng1 (.cst (.int (6)))) [sN a,sN b,sN 0,none] = .ok (bC ((0:Nat):Int) 1 6,[]):=rfl;rw[hit,aR];dsimp only;have hl:lock [] [sN a,sN b,sN 0,(none:Slot)]=[sN a,sN b,sN 0,none]:=rfl;rw[hl,h]
 have u1:∀(x:Nat) (o:Slot),unlock [] [sN a,sN b,sN 0,none] [sN a,sN b,sN x,o]=[sN a,sN b,sN x,o]:=fun x o=>by
  simp[unlock];cases o with
  |none=>rfl
  |some p=>obtain⟨d,t⟩:=p;cases t<;>rfl
 have h3:bE T (.forr (.nm 3) (.rng3 (.cst (.int (4))) (.neg (.cst (.int (1)))) (.neg (.cst (.int (1))))) GG) [sN a,sN b,sN (Fl64.gB a b 6 0 0),o'] = .nx (unlock [] [sN a,sN b,sN (Fl64.gB a b 6 0 0),o'] [sN a,sN b,sN (Fl64.tm2 a b),o'']):=by
  rw[bE];have hit:fQ T (.rng3 (.cst (.int (4))) (.neg (.cst (.int (1)))) (.neg (.cst (.int (1))))) [sN a,sN b,sN (Fl64.gB a b 6 0 0),o'] = .ok (bC (((5:Nat):Int) - 1) (-1) 5,[]):=rfl;rw[hit,aR];dsimp only;have hl:lock [] [sN a,sN b,sN (Fl64.gB a b 6 0 0),o']=[sN a,sN b,sN (Fl64.gB a b 6 0 0),o']:=by
   simp[lock];cases o' with
   |none=>rfl
   |some p=>obtain⟨d,t⟩:=p;cases t<;>rfl
  rw[hl,h'];rfl
 rw[aC,h1,aD,aC,h2,aD,u1,aC,h3,aD,Fl64.CU ha hb];generalize Fl64.tm a b=x;simp[aC,bE,ev,unlock,aR,D.flat,lO,Pc.ret,bW]
noncomputable def bCe:bF:=(.cons (.ite (.cmp .Lt (.var 1) (.blt .len (.cons (.var 0) .nil))) (.cons (.ret (.ix (.var 0) (.var 1)))
  .nil) .nil)
  (.cons (.ret (.bin .Mult (.cst (.int (1000003))) (.bin .Add (.var 1) (.cst (.int (1))))))
  .nil))
theorem B3 (ns:List Int):lF .len [.lst (ns.map D.int)]=some (.int (ns.length:Int)):=by
 show some (D.int ((ns.map D.int).length:Int))=_;rw[aj]
theorem Gz {ns:List Int}{k:Nat}(h:k<ns.length):EU (.lst (ns.map D.int)) (.int (k:Int))=some (.int ns[k]):=by
 show (Pc.jy (ns.map D.int).length (k:Int)).bind (fun j=>(ns.map D.int)[j]?)=_;rw[gL (by rw[aj];exact h)];simp[h]
theorem Fm {T:Tb}(ns:List Int) (k:Nat):∃ v:Int,Pc.ret (aC T bCe (aF [.lst (ns.map D.int),.int (k:Int)] 2)) = .ok (.int v,true):=by
 have hst:aF [.lst (ns.map D.int),.int (k:Int)] 2=[sS (ns.map D.int),sI (k:Int)]:=rfl;rw[hst];have el:ev T (.blt .len (.cons (.var 0) .nil)) [sS (ns.map D.int),sI (k:Int)] = .ok (.int (ns.length:Int),.mv []):=by
  have h1:bK T (.cons (.var 0) .nil) [sS (ns.map D.int),sI (k:Int)] = .ok [(.lst (ns.map D.int),.sh [])]:=rfl;rw[ev,h1,aA,vS,B3,aM,aA,bR]
 have v1:ev T (.var 1) [sS (ns.map D.int),sI (k:Int)] = .ok (.int (k:Int),.mv []):=aJ rfl rfl;have ec:ev T (.cmp .Lt (.var 1) (.blt .len (.cons (.var 0) .nil))) [sS (ns.map D.int),sI (k:Int)] = .ok (.bl (decide ((k:Int)<(ns.length:Int))),.mv []):=by
  rw[ev,v1,aA,el,aA];rfl
 unfold bCe;rw[aC,bE,ec,aR];by_cases h:k<ns.length
 ·rw[dq (show (k:Int)<(ns.length:Int) by omega)];have e:ev T (.ix (.var 0) (.var 1)) [sS (ns.map D.int),sI (k:Int)] = .ok (.int ns[k],.mv []):=by
   have v0:ev T (.var 0) [sS (ns.map D.int),sI (k:Int)] = .ok (.lst (ns.map D.int),.sh []):=rfl;rw[ev,v0,aA,v1,aA,Gz h,aM,aA];rfl
  refine⟨ns[k],?_⟩;show Pc.ret ((aC T (.cons (.ret (.ix (.var 0) (.var 1))) .nil) [sS (ns.map D.int),sI (k:Int)]).andThen _)=_;rw[aC,bE,e,aR];rfl
 ·rw[de (show ¬ (k:Int)<(ns.length:Int) by omega)];refine⟨1000003*((k:Int)+1),?_⟩;show Pc.ret ((Fl.nx [sS (ns.map D.int),sI (k:Int)]).andThen _)=_;rw[aD];refine gN ?_;have s1:small 1000003=true:=by decide
  generalize (k:Int)=K;simp[ev,aA,D.flat,aO,Pc.binI,aM,bR,s1]
noncomputable def bMx:bF:=(.cons (.asg (.nm 2) (.bin .Mod (.bin .Mult (.bin .Add (.bin .Add (.bin .Mod (.var 0) (.cst (.int (2147483647)))) (.bin .Mult (.cst (.int (7919))) (.var 1))) (.cst (.int (1)))) (.cst (.int (48271)))) (.cst (.int (2147483647)))) false)
  (.cons (.ret (.bin .FloorDiv (.bin .Mod (.bin .Mult (.var 2) (.bin .Add (.bin .Mod (.var 2) (.cst (.int (1009)))) (.cst (.int (1))))) (.cst (.int (2147483629)))) (.cst (.int (3)))))
  .nil))
theorem G6 {T:Tb}(c k:Int):∃ v:Int,0≤v∧Pc.ret (aC T bMx (aF [.int c,.int k] 3)) = .ok (.int v,true):=by
 have hst:aF [.int c,.int k] 3=[sI c,sI k,none]:=rfl;rw[hst];have s1:small 7919=true:=by decide
 have s2:small 48271=true:=by decide
 have g1:bE T (.asg (.nm 2) (.bin .Mod (.bin .Mult (.bin .Add (.bin .Add (.bin .Mod (.var 0) (.cst (.int (2147483647)))) (.bin .Mult (.cst (.int (7919))) (.var 1))) (.cst (.int (1)))) (.cst (.int (48271)))) (.cst (.int (2147483647)))) false) [sI c,sI k,none] = .nx [sI c,sI k,sI ((c%2147483647+7919*k+1)*48271%2147483647)]:=by
  simp[bE,ev,aA,aR,aM,aO,Pc.binI,D.flat,bR,kO,put,Tg.drop,s1,s2]
 have so:small ((c%2147483647+7919*k+1)*48271%2147483647)=true:=xT (by omega) (by omega);generalize (c%2147483647+7919*k+1)*48271%2147483647=o at g1 so;refine⟨o*(o%1009+1)%2147483629 / 3,by omega,?_⟩;unfold bMx;rw[aC,g1,aD];refine gN ?_;simp[ev,aA,D.flat,aO,Pc.binI,aM,bR,so]
noncomputable def nu (T:Tb) (mx:Nat):Prop:=∀ c k:Int,∃ v:Int,0≤v∧T.cl mx [.int c,.int k] = .ok (.int v,true)
noncomputable def eRw:Ex:=.comp 1 [] (.nm 0) (.rng1 (.var 1)) .none (.bin .Mod (.bin .Mult (.cst (.int (7))) (.var 0)) (.cst (.int (64))))
noncomputable def Aw (mx:Nat):bF:=(.cons (.setix 3 .none (.bin .Mod (.var 2) (.var 1)) (.bin .BitXor (.ix (.var 3) (.bin .Mod (.var 2) (.var 1))) (.bin .Mod (.bin .FloorDiv (.call mx (.cons (.ix (.var 0) (.var 2)) (.cons (.var 2) .nil))) (.cst (.int (97)))) (.cst (.int (64))))))
  .nil)
noncomputable def bRw (mx:Nat):bF:=(.cons (.asg (.nm 3) eRw false)
  (.cons (.forr (.nm 2) (.rng1 (.blt .len (.cons (.var 0) .nil))) (Aw mx))
  (.cons (.ret (.var 3))
  .nil)))
theorem zZ {T:Tb}{mx:Nat}(hmx:nu T mx) (ns:List Int) (n:Nat) (hn:0<n) (hn':n≤1000) (k:Nat) (hk:k<ns.length) {gs:List Nat}(hg:Fl64.Gr gs) (hgl:gs.length=n) (o:Slot) (ho:cC o) :
  ∃ gs',Fl64.Gr gs'∧gs'.length=n∧aW [] (.nm 2) (.int (k:Int)) [sS (ns.map D.int),sN n,o,oG gs]=some [sS (ns.map D.int),sN n,sN k,oG gs]∧aC T (Aw mx) [sS (ns.map D.int),sN n,sN k,oG gs] = .nx [sS (ns.map D.int),sN n,sN k,oG gs']:=by
 have hb:=fM (i:=2) (d:=.int (k:Int)) (env:=[sS (ns.map D.int),sN n,o,oG gs]) (.cons (aH _) (.cons (aB _) (.cons ho (.cons (aB _) .nil)))) (by simp);have te:Tame [sS (ns.map D.int),sN n,sN k,oG gs]:=.cons (aH _) (.cons (aB _) (.cons (aB _) (.cons (aB _) .nil)));obtain⟨v,hv,hm⟩:=hmx ns[k] k;have v0:ev T (.var 0) [sS (ns.map D.int),sN n,sN k,oG gs] = .ok (.lst (ns.map D.int),.sh []):=rfl;have v1:ev T (.var 1) [sS (ns.map D.int),sN n,sN k,oG gs] = .ok (.int (n:Int),.mv []):=aJ rfl rfl;have v2:ev T (.var 2) [sS (ns.map D.int),sN n,sN k,oG gs] = .ok (.int (k:Int),.mv []):=aJ rfl rfl;have v3:ev T (.var 3) [sS (ns.map D.int),sN n,sN k,oG gs] = .ok (.lst (gD gs),.mv [3]):=cO rfl rfl;have e1:ev T (.bin .Mod (.var 2) (.var 1)) [sS (ns.map D.int),sN n,sN k,oG gs] = .ok (.int ((k%n:Nat):Int),.mv []):=by
  rw[ev,v2,aA,v1,aA,aO];have:Pc.binI .Mod (k:Int) (n:Int)=some ((k%n:Nat):Int):=by
   show (if 0<(n:Int) then some ((k:Int)%(n:Int)) else none)=_;rw[if_pos (by omega)];simp
  rw[this];rfl
 have hlt:k%n<gs.length:=by rw[hgl];exact gj _ hn
 have e2:ev T (.ix (.var 3) (.bin .Mod (.var 2) (.var 1))) [sS (ns.map D.int),sN n,sN k,oG gs] = .ok (.int ((gs.getD (k%n) 0:Nat):Int),.mv []):=by
  rw[ev,v3,aA,e1,aA,kE hlt,aM,aA];rfl
 have e3:ev T (.ix (.var 0) (.var 2)) [sS (ns.map D.int),sN n,sN k,oG gs] = .ok (.int ns[k],.mv []):=by
  rw[ev,v0,aA,v2,aA,Gz hk,aM,aA];rfl
 have e4:=bP e3 v2 hm;obtain⟨w,hw,hw'⟩:=xX (a:=v / 97%64) (m:=64) (by omega) (by omega);have e5:ev T (.bin .Mod (.bin .FloorDiv (.call mx (.cons (.ix (.var 0) (.var 2)) (.cons (.var 2) .nil))) (.cst (.int (97)))) (.cst (.int (64)))) [sS (ns.map D.int),sN n,sN k,oG gs] = .ok (.int (w:Int),.mv []):=by
  have q:ev T (.bin .FloorDiv (.call mx (.cons (.ix (.var 0) (.var 2)) (.cons (.var 2) .nil))) (.cst (.int (97)))) [sS (ns.map D.int),sN n,sN k,oG gs] = .ok (.int (v / 97),.mv []):=by
   rw[ev,e4,aA];rfl
  rw[ev,q,aA,←hw];rfl
 have e6:ev T (.bin .BitXor (.ix (.var 3) (.bin .Mod (.var 2) (.var 1))) (.bin .Mod (.bin .FloorDiv (.call mx (.cons (.ix (.var 0) (.var 2)) (.cons (.var 2) .nil))) (.cst (.int (97)))) (.cst (.int (64))))) [sS (ns.map D.int),sN n,sN k,oG gs] = .ok (.int ((gs.getD (k%n) 0^^^w:Nat):Int),.mv []):=by
  rw[ev,e2,aA,e5,aA,aO];show (gO (some (D.int (Builtin.bitXor ((gs.getD (k%n) 0:Nat):Int) (w:Int))))).bind _=_;rw[cZ];rfl
 have st:=iF (T:=T) (x:=3) te rfl e1 (gL (by rw[aU];exact hlt)) e6 (by rw[aU,hgl];exact cB hn');refine⟨gs.set (k%n) (gs.getD (k%n) 0^^^w),Fl64.kM hg (by omega),by rw[aq];exact hgl,hb,?_⟩;unfold Aw;rw[aC,st,aD,jO];rfl
theorem Gg {T:Tb}{mx:Nat}(hmx:nu T mx) (ns:List Int) (hl:ns.length≤63) (n:Nat) (hn:0<n) (hn':n≤1000):∃ gs,Fl64.Gr gs∧gs.length=n∧Pc.ret (aC T (bRw mx) (aF [.lst (ns.map D.int),.int (n:Int)] 4)) = .ok (.lst (gD gs),true):=by
 have hst:aF [.lst (ns.map D.int),.int (n:Int)] 4=[sS (ns.map D.int),sN n,none,none]:=rfl;rw[hst];have v1:ev T (.var 1) [sS (ns.map D.int),sN n,none,none] = .ok (.int (n:Int),.mv []):=aJ rfl rfl;have hit:fQ T (.rng1 (.var 1)) [sS (ns.map D.int),sN n,none,none] = .ok ((List.range' 0 n).map (fun (k:Nat)=>D.int (k:Int)),[]):=by
  have:=pH T _ _ _ _ v1 (qm hn');rw[bj] at this;rw[this,←eC n 0];rfl
 have he:ev T eRw [sS (ns.map D.int),sN n,none,none] = .ok (.lst (gD ((List.range' 0 n).map fun k=>7*k%64)),.mv []):=by
  unfold eRw;rw[jS (g:=fun d=>match d with | .int k=>(.int ((7*k.toNat%64:Nat):Int),.mv []) | _=>(.non,.mv [])) hit (by rw[aj,List.length_range'];exact cB hn') (fun d hd=>?_) (fun d hd=>?_)]
  ·rw[gD,bg,bg];congr 2
  ·obtain⟨k,hk,rfl⟩:=List.mem_map.mp hd;have hb:aW [] (.nm 0) (.int (k:Int)) (aL [sS (ns.map D.int),sN n,none,none] 1 [])=some [sN k]:=rfl;rw[hb];have e:ev T (.bin .Mod (.bin .Mult (.cst (.int (7))) (.var 0)) (.cst (.int (64)))) [sN k] = .ok (.int ((7*k%64:Nat):Int),.mv []):=by
    have s7:small 7=true:=by decide
    have q:((7*k%64:Nat):Int)=7*(k:Int)%64:=by omega
    rw[q];show ev T (.bin .Mod (.bin .Mult (.cst (.int (7))) (.var 0)) (.cst (.int (64)))) [sI (k:Int)]=_;generalize (k:Int)=K;simp[ev,aA,D.flat,aO,Pc.binI,aM,bR,s7]
   simp only[aX,mQ,aA,if_true,e,Int.toNat_natCast]
  ·obtain⟨k,hk,rfl⟩:=List.mem_map.mp hd;rfl
 have g1:bE T (.asg (.nm 3) eRw false) [sS (ns.map D.int),sN n,none,none] = .nx [sS (ns.map D.int),sN n,none,oG ((List.range' 0 n).map fun k=>7*k%64)]:=bU (.cons (aH _) (.cons (aB _) (.cons aG (.cons aG .nil)))) (by simp) he;have hg0:Fl64.Gr ((List.range' 0 n).map fun k=>7*k%64):=fun z hz=>by
  obtain⟨k,_,rfl⟩:=List.mem_map.mp hz;exact gj _ (by decide)
 obtain⟨e,q1,q2⟩:=rB (t:=.nm 2) (R:=[]) (b:=aC T (Aw mx)) (fun _ e=>∃ gs o,Fl64.Gr gs∧gs.length=n∧cC o∧e=[sS (ns.map D.int),sN n,o,oG gs]) (bC 0 1 ns.length) 0 [sS (ns.map D.int),sN n,none,oG ((List.range' 0 n).map fun k=>7*k%64)] ⟨_,none,hg0,by simp,aG,rfl⟩ (fun i d e hi hj=>by
  obtain⟨gs,o,a1,a2,a3,rfl⟩:=hj;obtain⟨i1,rfl⟩:=ou _ _ _ _ hi;rw[Int.zero_add];obtain⟨gs',b1,b2,b3,b4⟩:=zZ hmx ns n hn hn' i i1 a1 a2 o a3;exact⟨_,_,b3,b4,gs',_,b1,b2,aB _,rfl⟩)
 obtain⟨gs,o,a1,a2,a3,rfl⟩:=q2;have hlen:fQ T (.rng1 (.blt .len (.cons (.var 0) .nil))) [sS (ns.map D.int),sN n,none,oG ((List.range' 0 n).map fun k=>7*k%64)] = .ok (bC 0 1 ns.length,[]):=by
  have el:ev T (.blt .len (.cons (.var 0) .nil)) [sS (ns.map D.int),sN n,none,oG ((List.range' 0 n).map fun k=>7*k%64)] = .ok (.int (ns.length:Int),.mv []):=by
   have h1:bK T (.cons (.var 0) .nil) [sS (ns.map D.int),sN n,none,oG ((List.range' 0 n).map fun k=>7*k%64)] = .ok [(.lst (ns.map D.int),.sh [])]:=rfl;rw[ev,h1,aA,vS,B3,aM,aA,bR]
  have:=pH T _ _ _ _ el (qm (by omega));rw[bj] at this;exact this
 have g2:=cN hlen q1;have v3:ev T (.var 3) [sS (ns.map D.int),sN n,o,oG gs] = .ok (.lst (gD gs),.mv [3]):=cO rfl rfl;refine⟨gs,a1,a2,?_⟩;unfold bRw;rw[aC,g1,aD,aC,g2,aD,aC,bE,v3,aR];rfl
noncomputable def qM (T:Tb) (ce:Nat):Prop:=∀(ns:List Int) (k:Nat),∃ v:Int,T.cl ce [.lst (ns.map D.int),.int (k:Int)] = .ok (.int v,true)
noncomputable def FN (T:Tb) (lt:Nat):Prop:=∀ a b:Nat,a<64→b<64→T.cl lt [.int (a:Int),.int (b:Int)] = .ok (.int ((Fl64.tm a b:Nat):Int),true)
end Pc.Lw
end
section
namespace Fl64
noncomputable def sm:List (Nat×Nat)→Nat→Nat
 |[],_=>0
 |p::r,j=>tm p.1 (pw p.2 j)^^^sm r j
noncomputable def Pr (l:List (Nat×Nat)):Prop:=∀ p∈l,p.1<64∧p.2<64
noncomputable def Dw (x:Nat) (l:List (Nat×Nat)):List (Nat×Nat):=l.map fun p=>(tm p.1 (p.2^^^x),p.2)
theorem DA {x:Nat}(hx:x<64) {l:List (Nat×Nat)}(h:Pr l):Pr (Dw x l):=fun p hp=>by
 obtain⟨q,hq,rfl⟩:=List.mem_map.mp hp;exact⟨aY (h q hq).1 (aV (h q hq).2 hx),(h q hq).2⟩
theorem x8 {e y x P:Nat}(he:e<64) (hy:y<64) (hx:x<64) (hP:P<64):tm (tm e (y^^^x)) P=tm e (tm P y)^^^tm x (tm e P):=by
 rw[cU he (aV hy hx) hP,dI (aV hy hx) hP,jg,jg];rw[dI hx (aY he hP),cU he hP hx]
theorem zE {x:Nat}(hx:x<64):∀{l:List (Nat×Nat)},Pr l→∀ j,sm (Dw x l) j=sm l (j+1)^^^tm x (sm l j)
 |[],_,j=>by show 0=0^^^tm x 0;rw[iE];rfl
 | p::r,h,j=>by
  have ih:=zE hx (l:=r) (fun q hq=>h q (aa _ hq)) j;obtain⟨he,hy⟩:=h p ag;show tm (tm p.1 (p.2^^^x)) (pw p.2 j)^^^sm (Dw x r) j=(tm p.1 (tm (pw p.2 j) p.2)^^^sm r (j+1))^^^tm x (tm p.1 (pw p.2 j)^^^sm r j);rw[ih,x8 he hy hx (bB hy j),jg,E6]
theorem yC:∀(n:Nat) {l:List (Nat×Nat)},l.length=n→Pr l→(∀ p∈l,p.2≠0)→(l.map (·.2)).Nodup→∀ a,(∀ j,a≤j→j<a+n→sm l j=0)→∀ p∈l,p.1=0
 | 0,l,hl,_,_,_,_,_=>by
  have:l=[]:=List.length_eq_zero_iff.mp hl;subst this;exact fun _ h=>(nomatch h)
 |n+1,[],hl,_,_,_,_,_=>by simp at hl
 | n+1,q::r,hl,hp,h0,nd,a,hs=>by
  have hq:=hp q ag;have hr:Pr r:=fun z hz=>hp z (aa _ hz)
  rw[ax,iw] at nd;have ih:=yC n (l:=Dw q.2 r) (by simpa[Dw] using hl) (DA hq.2 hr) (fun z hz=>by
    obtain⟨y,hy,rfl⟩:=List.mem_map.mp hz;exact h0 y (aa _ hy)) (by
    have:(Dw q.2 r).map (·.2)=r.map (·.2):=by simp[Dw]
    rw[this];exact nd.2) a (fun j h1 h2=>by
    rw[zE hq.2 hr];have e1:=hs j h1 (by omega);have e2:=hs (j+1) (by omega) (by omega);have e1':tm q.1 (pw q.2 j)=sm r j:=cI e1;have e2':tm q.1 (tm (pw q.2 j) q.2)=sm r (j+1):=cI e2;rw[←e1',←e2',dI hq.2 (aY hq.1 (bB hq.2 j)),cU hq.1 (bB hq.2 j) hq.2,fm])
  have er:∀ p∈r,p.1=0:=fun p hpr=>by
   have hpp:=hr p hpr;have:=ih (tm p.1 (p.2^^^q.2),p.2) (List.mem_map.mpr ⟨p,hpr,rfl⟩);rcases dP hpp.1 (aV hpp.2 hq.2) this with z | z
   ·exact z
   ·exact absurd (List.mem_map.mpr ⟨p,hpr,cI z⟩) nd.1
  have sz:∀{l:List (Nat×Nat)},Pr l→(∀ p∈l,p.1=0)→sm l a=0:=by
   intro l
   induction l with
   |nil=>intro _ _;rfl
   |cons p l ihl =>
    intro h1 h2;show tm p.1 (pw p.2 a)^^^sm l a=0;rw[ihl (fun z hz=>h1 z (aa _ hz)) (fun z hz=>h2 z (aa _ hz)),h2 p ag,cA (bB (h1 p ag).2 a)];rfl
  have e:=hs a (au _) (by omega);have e:tm q.1 (pw q.2 a)^^^sm r a=0:=e;rw[sz hr er,gb] at e;intro p hpm;rcases et.mp hpm with rfl | z
  ·rcases dP hq.1 (bB hq.2 a) e with z | z
   ·exact z
   ·exact absurd z (yz hq.2 (h0 p ag) a)
  ·exact er p z
theorem vv:((List.range 63).map (pw 2)).Nodup:=by decide +kernel
theorem uC {i j:Nat}(hi:i<63) (hj:j<i):pw 2 i≠pw 2 j:=by
 have:=List.pairwise_iff_getElem.mp vv j i (by simp;omega) (by simp;omega) hj;simpa using fun e=>this (by simpa using e.symm)
end Fl64
end
section
namespace Pc.Lw
open PySem Pc Pc.Sm Pc.Gr
end Pc.Lw
end
section
namespace Pc.Nw
open PySem Pc Pc.Sm Pc.Lw Pc.Gr
end Pc.Nw
end
section
namespace Pc.Nw
open PySem Pc Pc.Sm Pc.Lw Pc.Gr
section
variable {T:Tb}{env:En}
end
section
variable {T:Tb}{env:En}
end
end Pc.Nw
end
section
namespace Pc.Fr
open PySem Pc Pc.Sm Pc.Lw Pc.Gr Pc.Nw
end Pc.Fr
end
section
namespace Md
open Fl64
structure F where
 v:Nat
 h:v<64
theorem F.ext {a b:F}(h:a.v=b.v):a=b:=by cases a;cases b;cases h;rfl
noncomputable instance:Add F:=⟨fun a b=>⟨a.v^^^b.v,aV a.h b.h⟩⟩
noncomputable instance:Mul F:=⟨fun a b=>⟨tm a.v b.v,aY a.h b.h⟩⟩
noncomputable instance:OfNat F 0:=⟨⟨0,by decide⟩⟩
noncomputable instance:OfNat F 1:=⟨⟨1,by decide⟩⟩
theorem Fp (a b:F):(a+b).v=a.v^^^b.v:=rfl
theorem G5 (a b:F):(a*b).v=tm a.v b.v:=rfl
theorem add_comm (a b:F):a+b=b+a:=F.ext (Nat.xor_comm ..)
theorem add_assoc (a b c:F):a+b+c=a+(b+c):=F.ext (bh ..)
theorem mul_comm (a b:F):a*b=b*a:=F.ext (dI a.h b.h)
theorem mul_assoc (a b c:F):a*b*c=a*(b*c):=F.ext (cU a.h b.h c.h)
theorem add_zero (a:F):a+0=a:=F.ext (gb _)
theorem zero_add (a:F):0+a=a:=F.ext (cu _)
theorem mS (a:F):a+a=0:=F.ext (fm _)
theorem mul_one (a:F):a*1=a:=F.ext (kB a.h)
theorem one_mul (a:F):1*a=a:=F.ext (mz a.h)
theorem mul_zero (a:F):a*0=0:=rfl
theorem zero_mul (a:F):0*a=0:=F.ext (cA a.h)
theorem mul_add (a b c:F):a*(b+c)=a*b+a*c:=F.ext (jg a.v b.v c.v)
theorem add_mul (a b c:F):(a+b)*c=a*c+b*c:=F.ext (i0 a.h b.h c.h)
theorem jG {a b:F}(ha:a≠0) (hb:b≠0):a*b≠0:=fun e=>by
 rcases dP a.h b.h (ij F.v e) with h | h
 ·exact ha (F.ext h)
 ·exact hb (F.ext h)
theorem vW {a b:F}(h:a+b=0):a=b:=F.ext (cI (ij F.v h))
noncomputable instance:Std.Associative (α:=F) (· + ·):=⟨add_assoc⟩
noncomputable instance:Std.Commutative (α:=F) (· + ·):=⟨add_comm⟩
noncomputable instance:Std.Associative (α:=F) (· * ·):=⟨mul_assoc⟩
noncomputable instance:Std.Commutative (α:=F) (· * ·):=⟨mul_comm⟩
noncomputable instance:DecidableEq F:=fun a b=>if h:a.v=b.v then .isTrue (F.ext h) else .isFalse fun e=>h (ij F.v e)
noncomputable def sum:Nat→(Nat→F)→F
 |0,_=>0
 |n+1,f=>sum n f+f n
theorem aP:∀{n:Nat}{f g:Nat→F},(∀ i,i<n→f i=g i)→sum n f=sum n g
 |0,_,_,_=>rfl
 |n+1,f,g,h=>by rw[sum,sum,aP fun i hi=>h i (by omega),h n (by omega)]
theorem cT:∀{n:Nat}{f:Nat→F},(∀ i,i<n→f i=0)→sum n f=0
 |0,_,_=>rfl
 |n+1,f,h=>by rw[sum,cT fun i hi=>h i (by omega),h n (by omega),add_zero]
theorem sum_add:∀(n:Nat) (f g:Nat→F),sum n (fun i=>f i+g i)=sum n f+sum n g
 |0,_,_=>(add_zero 0).symm
 |n+1,f,g=>by rw[sum,sum,sum,sum_add n];ac_rfl
theorem fT (a:F):∀(n:Nat) (f:Nat→F),a*sum n f=sum n fun i=>a*f i
 |0,_=>rfl
 |n+1,f=>by rw[sum,sum,mul_add,fT a n]
theorem uV (n:Nat) (f:Nat→F) (a:F):sum n f*a=sum n fun i=>f i*a:=by
 rw[mul_comm,fT];exact aP fun i _=>mul_comm ..
theorem qO (m:Nat):∀(n:Nat) (f:Nat→Nat→F),sum m (fun i=>sum n (f i))=sum n fun j=>sum m fun i=>f i j
 |0,f=>cT fun _ _=>rfl
 | n+1,f=>by
  rw[sum,←qO m n f,←sum_add];rfl
theorem fL {n:Nat}{f:Nat→F}:∀{m:Nat},n≤m→(∀ i,n≤i→i<m→f i=0)→sum m f=sum n f
 |0,h,_=>by rw[Nat.le_zero.mp h]
 | m+1,h,z=>by
  by_cases e:n=m+1
  ·rw[e]
  ·rw[sum,z m (by omega) (by omega),add_zero];exact fL (by omega) fun i a b=>z i a (by omega)
theorem cM:∀(n:Nat) (f:Nat→F),sum (n+1) f=f 0+sum n fun i=>f (i+1)
 |0,f=>by show 0+f 0=f 0+0;rw[zero_add,add_zero]
 |n+1,f=>by rw[sum,cM n,sum,add_assoc]
theorem AI {n k:Nat}{f:Nat→F}(hk:k<n) (z:∀ i,i<n→i≠k→f i=0):sum n f=f k:=by
 rw[fL (n:=k+1) (by omega) fun i a b=>z i b (by omega),sum,cT fun i h=>z i (by omega) (by omega),zero_add]
noncomputable def at' (g:Nat→F) (n k:Nat):F:=if k≤n then g (n - k) else 0
noncomputable def conv (f g:Nat→F) (n:Nat):F:=sum (n+1) fun j=>f j*g (n - j)
theorem A7 (f g:Nat→F) {n M:Nat}(h:n<M):conv f g n=sum M fun j=>f j*at' g n j:=by
 rw[fL (n:=n+1) (by omega) fun i a b=>by rw[at',if_neg (by omega),mul_zero]];exact aP fun i hi=>by rw[at',if_pos (by omega)]
theorem qI (f g t:Nat→F) (n:Nat):conv f (conv g t) n=sum (n+1) fun j=>sum (n+1) fun i=>f j*(g i*(if i+j≤n then t (n - (i+j)) else 0)):=by
 refine aP fun j hj=>?_
 rw[A7 g t (n:=n - j) (M:=n+1) (by omega),fT];refine aP fun i hi=>?_
 unfold at';by_cases h:i+j≤n
 ·rw[if_pos h,if_pos (by omega)];congr 2;congr 1;omega
 ·rw[if_neg h,if_neg (by omega)]
theorem wI (f g t:Nat→F) (n:Nat):conv f (conv g t) n=conv g (conv f t) n:=by
 rw[qI,qI,qO];refine aP fun i hi=>aP fun j hj=>?_
 rw[Nat.add_comm i j];generalize (if j+i≤n then t (n - (j+i)) else 0)=y
 ac_rfl
theorem uL:∀(n:Nat) (f:Nat→F),sum n f=sum n fun i=>f (n - 1 - i)
 |0,_=>rfl
 | n+1,f=>by
  rw[cM n (fun i=>f (n+1 - 1 - i)),sum,uL n f,add_comm];congr 1;exact aP fun i hi=>by congr 1;omega
theorem cX (f g:Nat→F) (n:Nat):conv f g n=conv g f n:=by
 unfold conv;rw[uL];refine aP fun i hi=>?_
 rw[mul_comm];congr 1<;>congr 1<;>omega
theorem hZ {f f' g g':Nat→F}{n:Nat}(h1:∀ j,j≤n→f j=f' j) (h2:∀ j,j≤n→g j=g' j):conv f g n=conv f' g' n :=
 aP fun j hj=>by rw[h1 j (by omega),h2 (n - j) (by omega)]
theorem gX (f g t:Nat→F) (n:Nat):conv (fun j=>f j+g j) t n=conv f t n+conv g t n:=by
 unfold conv;rw[←sum_add];exact aP fun j _=>add_mul ..
theorem gP (a:F) (f t:Nat→F) (n:Nat):conv (fun j=>a*f j) t n=a*conv f t n:=by
 unfold conv;rw[fT];exact aP fun j _=>mul_assoc ..
noncomputable def sh (f:Nat→F):Nat→F
 |0=>0
 |n+1=>f n
theorem jo (f t:Nat→F) (n:Nat):conv (sh f) t (n+1)=conv f t n:=by
 unfold conv;rw[cM];show 0*_+_=_;rw[zero_mul,zero_add];exact aP fun i hi=>by show f i*_=_;congr 2;omega
theorem mD (f t:Nat→F):conv (sh f) t 0=0:=by
 show 0+sh f 0*_=0;rw[zero_add];exact zero_mul _
structure Goes (t C:Nat→F) (L n:Nat):Prop where
 one:C 0=1
 deg:∀ j,L<j→C j=0
 zer:∀ k,L≤k→k<n→conv C t k=0
theorem EO {t C C':Nat→F}{L L' n:Nat}(g:Goes t C L n) (hd:conv C t n≠0) (g':Goes t C' L' (n+1)):n+1≤L+L':=by
 refine eu fun h=>hd ?_
 have e:conv C' (conv C t) n=conv C t n:=by
  show sum (n+1) _=_;rw[cM,g'.one,one_mul,cT fun i hi=>?_,add_zero];rfl;by_cases hL:i+1≤L'
  ·rw[g.zer (n - (i+1)) (by omega) (by omega),mul_zero]
  ·rw[g'.deg _ (by omega),zero_mul]
 have e':conv C (conv C' t) n=0:=by
  refine cT fun i hi=>?_
  by_cases hL:i≤L
  ·rw[g'.zer (n - i) (by omega) (by omega),mul_zero]
  ·rw[g.deg _ (by omega),zero_mul]
 rw[←e,wI,e']
structure Bm (t C f:Nat→F) (L:Nat) (b:F) (n:Nat):Prop where
 go:Goes t C L n
 le:L≤n
 deg:∀ j,n - L<j→f j=0
 zer:∀ k,n - L≤k→k+1<n→conv f t k=0
 las:∀ k,n - L≤k→k+1=n→conv f t k=b
 ne:b≠0
theorem Bm.init (t C f:Nat→F) (h0:C 0=1) (h:∀ j,0<j→C j=0) (hf:∀ j,0<j→f j=0):Bm t C f 0 1 0 where
 go:=⟨h0,h,fun k _ h=>absurd h (fv k)⟩
 le:=au 0
 deg:=hf
 zer:=fun k _ h=>absurd h (fv _)
 las:=fun k _ h=>absurd h (by omega)
 ne:=by decide
theorem Bm.same {t C f:Nat→F}{L n:Nat}{b:F}(B:Bm t C f L b n) (h:conv C t n=0):Bm t C (sh f) L b (n+1) where
 go:=⟨B.go.one,B.go.deg,fun k a c=>by
  by_cases e:k=n
  ·rw[e,h]
  ·exact B.go.zer k a (by omega)⟩
 le:=by have:=B.le;omega
 deg:=fun j hj=>by
  cases j with
  |zero=>rfl
  |succ j=>exact B.deg j (by have:=B.le;omega)
 zer:=fun k a c=>by
  cases k with
  |zero=>exact mD ..
  |succ k=>rw[jo];exact B.zer k (by have:=B.le;omega) (by omega)
 las:=fun k a c=>by
  cases k with
  |zero=>exact absurd a (by have:=B.le;omega)
  |succ k=>rw[jo];exact B.las k (by have:=B.le;omega) (by omega)
 ne:=B.ne
noncomputable def qK (C f:Nat→F) (a:F):Nat→F:=fun j=>C j+a*sh f j
theorem Bm.amend {t C f:Nat→F}{L n:Nat}{b d a:F}(B:Bm t C f L b n) (hd:conv C t n=d) (ha:a*b=d) (M:Nat) (h1:L≤M) (h2:n+1 - L≤M):Goes t (qK C f a) M (n+1) where
 one:=by show C 0+a*0=1;rw[mul_zero,add_zero];exact B.go.one
 deg:=fun j hj=>by
  show C j+a*sh f j=0;rw[B.go.deg j (by omega),zero_add];cases j with
  |zero=>rfl
  |succ j=>show a*f j=0;rw[B.deg j (by omega),mul_zero]
 zer:=fun k a' c=>by
  unfold qK;rw[gX,gP];cases k with
  |zero=>exact absurd h2 (by have:=B.le;omega)
  |succ k =>
   rw[jo];by_cases e:k+1=n
   ·rw[e,hd,B.las k (by omega) e,ha,mS]
   ·rw[B.go.zer _ (by omega) (by omega),B.zer k (by omega) (by omega),mul_zero,add_zero]
theorem Bm.longer {t C f:Nat→F}{L n:Nat}{b d a:F}(B:Bm t C f L b n) (hd:conv C t n=d) (h0:d≠0) (ha:a*b=d) (h:2*L≤n):Bm t (qK C f a) C (n+1 - L) d (n+1) where
 go:=B.amend hd ha _ (by omega) (by omega)
 le:=by omega
 deg:=fun j hj=>B.go.deg j (by omega)
 zer:=fun k a c=>B.go.zer k (by omega) (by omega)
 las:=fun k a c=>by rw[show k=n by omega,hd]
 ne:=h0
theorem Bm.kept {t C f:Nat→F}{L n:Nat}{b d a:F}(B:Bm t C f L b n) (hd:conv C t n=d) (ha:a*b=d) (h:¬ 2*L≤n):Bm t (qK C f a) (sh f) L b (n+1) where
 go:=B.amend hd ha _ (by omega) (by omega)
 le:=by have:=B.le;omega
 deg:=fun j hj=>by
  cases j with
  |zero=>rfl
  |succ j=>exact B.deg j (by have:=B.le;omega)
 zer:=fun k a c=>by
  cases k with
  |zero=>exact mD ..
  |succ k=>rw[jo];exact B.zer k (by have:=B.le;omega) (by omega)
 las:=fun k a c=>by
  cases k with
  |zero=>exact absurd a (by have:=B.le;omega)
  |succ k=>rw[jo];exact B.las k (by have:=B.le;omega) (by omega)
 ne:=B.ne
theorem Bm.least {t C f:Nat→F}{L n w N:Nat}{b:F}{R:Nat→F}(B:Bm t C f L b n) (hd:conv C t n≠0) (R':Goes t R w N) (hN:n+1≤N):n+1 - L≤w:=by
 have:=EO B.go hd (C':=R) (L':=w) ⟨R'.one,R'.deg,fun k a c=>R'.zer k a (by omega)⟩;omega
end Md
end
section
namespace Md
open Fl64
noncomputable def fD (x:F):Nat→F
 |0=>1
 |n+1=>fD x n*x
theorem jV (x:F) (m:Nat):∀ n,fD x (m+n)=fD x m*fD x n
 |0=>(mul_one _).symm
 |n+1=>by show fD x (m+n)*x=fD x m*(fD x n*x);rw[jV x m n,mul_assoc]
theorem yo {x:F}(h:x≠0):∀ n,fD x n≠0
 |0=>by show (1:F)≠0;decide
 |n+1=>jG (yo h n) h
noncomputable def wo (f:Nat→F) (n:Nat) (x:F):F:=sum n fun j=>f j*fD x (n - 1 - j)
theorem ve (f:Nat→F) (n:Nat) (x:F):wo f (n+1) x=wo f n x*x+f n:=by
 show sum n _+_=_;unfold wo;rw[uV];congr 1
 ·refine aP fun j hj=>?_
  rw[mul_assoc];congr 1;show fD x (n+1 - 1 - j)=fD x (n - 1 - j+1);congr 1;omega
 ·show f n*fD x (n+1 - 1 - n)=f n;rw[show n+1 - 1 - n=0 by omega];exact mul_one _
theorem uz {f:Nat→F}{n:Nat}{x:F}:∀{m:Nat},n≤m→(∀ j,n≤j→j<m→f j=0)→wo f m x=wo f n x*fD x (m - n)
 |0,h,_=>by rw[Nat.le_zero.mp h];exact (mul_one _).symm
 | m+1,h,z=>by
  by_cases e:n=m+1
  ·rw[e,ip];exact (mul_one _).symm
  ·rw[ve,z m (by omega) (by omega),add_zero,uz (m:=m) (by omega) fun j a b=>z j a (by omega),mul_assoc];congr 1;show fD x (m - n+1)=_;congr 1;omega
theorem GC (f:Nat→F) (n:Nat) (x:F):wo (sh f) (n+1) x=wo f n x:=by
 unfold wo;rw[cM];show 0*_+_=_;rw[zero_mul,zero_add];exact aP fun i hi=>by show f i*_=_;congr 2;omega
theorem y4 (f g:Nat→F) (n:Nat) (x:F):wo (fun j=>f j+g j) n x=wo f n x+wo g n x:=by
 unfold wo;rw[←sum_add];exact aP fun j _=>add_mul ..
theorem tK (a:F) (f:Nat→F) (n:Nat) (x:F):wo (fun j=>a*f j) n x=a*wo f n x:=by
 unfold wo;rw[fT];exact aP fun j _=>mul_assoc ..
theorem zy {f g:Nat→F}{n:Nat}{x:F}(h:∀ j,j<n→f j=g j):wo f n x=wo g n x:=aP fun j hj=>by rw[h j hj]
noncomputable def eV:List F→Nat→F
 |[],n=>if n=0 then 1 else 0
 |x::l,n=>eV l n+x*sh (eV l) n
theorem mW:∀(l:List F) {j:Nat},l.length<j→eV l j=0
 |[],j,h=>if_neg (by simp at h;omega)
 | x::l,j,h=>by
  simp only[List.length_cons] at h;show eV l j+x*sh (eV l) j=0;rw[mW l (by omega),zero_add];cases j with
  |zero=>rfl
  |succ j=>show x*eV l j=0;rw[mW l (by omega),mul_zero]
theorem uF:∀(l:List F),eV l 0=1
 |[]=>rfl
 |x::l=>by show eV l 0+x*0=1;rw[uF l,mul_zero,add_zero]
noncomputable def dist (x:F):List F→F
 |[]=>1
 |y::l=>dist x l*(x+y)
theorem uA (x:F):∀(l:List F),wo (eV l) (l.length+1) x=dist x l
 |[]=>by show 0+1*1=1;rw[zero_add,mul_one]
 | y::l=>by
  show wo (fun j=>eV l j+y*sh (eV l) j) (l.length+1+1) x=dist x l*(x+y);rw[y4,tK,GC,ve,mW l (Nat.lt_succ_self _),add_zero,uA x l,mul_add,mul_comm y]
theorem pD {x:F}:∀{l:List F},x∉l→dist x l≠0
 |[],_=>by show (1:F)≠0;decide
 |y::l,h=>jG (pD fun e=>h (aa _ e)) fun e=>h (by rw[vW e];exact ag)
theorem jm {x:F}:∀{l:List F},x∈l→dist x l=0
 | y::l,h=>by
  show dist x l*(x+y)=0;rcases et.mp h with rfl | h
  ·rw[mS,mul_zero]
  ·rw[jm h,zero_mul]
theorem yD (f g:Nat→F):∀ n,sh (fun j=>f j+g j) n=sh f n+sh g n
 |0=>(add_zero 0).symm
 |n+1=>rfl
theorem wZ (a:F) (f:Nat→F):∀ n,sh (fun j=>a*f j) n=a*sh f n
 |0=>rfl
 |n+1=>rfl
theorem uT {l m:List F}(h:l.Perm m):eV l=eV m:=by
 induction h with
 |nil=>rfl
 |cons x _ ih=>funext n;show eV _ n+x*sh (eV _) n=_;rw[ih];rfl
 |swap x y l =>
  funext n;show (eV l n+x*sh (eV l) n)+y*sh (fun j=>eV l j+x*sh (eV l) j) n=(eV l n+y*sh (eV l) n)+x*sh (fun j=>eV l j+y*sh (eV l) j) n;rw[yD,yD,wZ,wZ,mul_add,mul_add,←mul_assoc,←mul_assoc,mul_comm y x]
  ac_rfl
 |trans _ _ a b=>rw[a,b]
noncomputable def ps:List (F×F)→Nat→F
 |[],_=>0
 |p::l,j=>p.1*fD p.2 j+ps l j
noncomputable def lsum:List F→F
 |[]=>0
 |a::l=>a+lsum l
theorem vc (j:Nat):∀(l:List (F×F)),ps l j=lsum (l.map fun p=>p.1*fD p.2 j)
 |[]=>rfl
 |p::l=>by show _+_=_+_;rw[vc j l]
theorem jn {f:Nat→F}(g:Nat→F) {n:Nat}(h:∀ j,j≤n→f j=0):conv f g n=0:=cT fun j hj=>by rw[h j (by omega),zero_mul]
theorem vG (x:F) {G:Nat→F}{m:Nat}(hG:∀ j,m<j→G j=0) (k:Nat):conv (fun j=>fD x (j+1)) G (m+k)=fD x (k+1)*wo G (m+1) x:=by
 rw[cX];unfold conv wo;rw[fL (n:=m+1) (by omega) fun i a b=>by rw[hG i (by omega),zero_mul],fT];refine aP fun j hj=>?_
 show G j*fD x (m+k - j+1)=_;rw[show m+k - j+1=(k+1)+(m+1 - 1 - j) by omega,jV]
 ac_rfl
theorem freed {G:Nat→F}{m:Nat}(hG:∀ j,m<j→G j=0) (k:Nat):∀(es:List (F×F)),conv (fun j=>ps es (j+1)) G (m+k)=ps (es.map fun p=>(p.1*(p.2*wo G (m+1) p.2),p.2)) k
 |[]=>jn G fun _ _=>rfl
 | p::l=>by
  show conv (fun j=>p.1*fD p.2 (j+1)+ps l (j+1)) G (m+k)=p.1*(p.2*wo G (m+1) p.2)*fD p.2 k+ps _ k;rw[gX,gP,vG p.2 hG,freed hG k l];congr 1;show p.1*(fD p.2 k*p.2*wo G (m+1) p.2)=_
  ac_rfl
theorem yj (x:F) (l:List F):∀ k,conv (fun j=>fD x (j+1)) (eV (x::l)) k=x*eV l k:=by
 have h:∀(f:Nat→F) k,conv f (fun j=>fD x (j+1)) (k+1)=x*conv f (fun j=>fD x (j+1)) k+f (k+1)*x:=fun f k=>by
  show sum (k+1) _+f (k+1)*fD x (k+1 - (k+1)+1)=_;rw[ip,show fD x (0+1)=x from one_mul x];unfold conv;rw[fT];congr 1;refine aP fun j hj=>?_
  show f j*fD x (k+1 - j+1)=x*(f j*fD x (k - j+1));rw[show k+1 - j+1=(k - j+1)+1 by omega];show f j*(fD x (k - j+1)*x)=_
  ac_rfl
 intro k;rw[cX];show conv (fun j=>eV l j+x*sh (eV l) j) _ k=_;rw[gX,gP];cases k with
 |zero =>
  rw[mD,mul_zero,add_zero];show 0+eV l 0*(1*x)=_;rw[zero_add,one_mul,mul_comm]
 |succ k =>
  rw[jo,h];generalize x*conv (eV l) (fun j=>fD x (j+1)) k=y;rw[add_comm y,add_assoc,mS,add_zero,mul_comm]
theorem heads (ls:List F):∀(es:List (F×F)),(∀ p∈es,p.2∈ls)→∀ k,conv (fun j=>ps es (j+1)) (eV ls) k=lsum (es.map fun p=>p.1*(p.2*eV (ls.erase p.2) k))
 |[],_,k=>jn _ fun _ _=>rfl
 | p::l,h,k=>by
  show conv (fun j=>p.1*fD p.2 (j+1)+ps l (j+1)) _ k=p.1*(p.2*eV (ls.erase p.2) k)+lsum _;rw[gX,gP,heads ls l (fun q hq=>h q (aa _ hq)),uT (List.perm_cons_erase (h p ag)),yj]
theorem Bv (n:Nat) (x:F):wo (fun _=>0) n x=0:=cT fun _ _=>zero_mul _
theorem qW {ls:List F}(x:F) (h0:ls≠[]):∀(es:List (F×F)),(∀ p∈es,p.2∈ls)→wo (fun k=>lsum (es.map fun p=>p.1*(p.2*eV (ls.erase p.2) k))) ls.length x=lsum (es.map fun p=>p.1*(p.2*dist x (ls.erase p.2)))
 |[],_=>Bv _ _
 | p::l,h=>by
  show wo (fun k=>p.1*(p.2*eV (ls.erase p.2) k)+lsum (l.map _)) ls.length x=p.1*(p.2*_)+lsum _;rw[y4,tK,tK,qW x h0 l fun q hq=>h q (aa _ hq)];have e:ls.length=(ls.erase p.2).length+1:=by
   rw[List.length_erase_of_mem (h p ag)];have:0<ls.length:=List.length_pos_iff.mpr h0;omega
  conv=>lhs;lhs;rw[e]
  rw[uA]
theorem oP:∀{l:List F},(∀ a∈l,a=0)→lsum l=0
 |[],_=>rfl
 |a::l,h=>by show a+lsum l=0;rw[h a ag,zero_add];exact oP fun b hb=>h b (aa _ hb)
theorem xV {ls:List F}{es:List (F×F)}(hn:(es.map (·.2)).Nodup) (hnl:ls.Nodup) (h:∀ p∈es,p.2∈ls) {p:F×F}(hp:p∈es) :
  lsum (es.map fun q=>q.1*(q.2*dist p.2 (ls.erase q.2)))=p.1*(p.2*dist p.2 (ls.erase p.2)):=by
 have z:∀ q∈es,q.2≠p.2→q.1*(q.2*dist p.2 (ls.erase q.2))=0:=fun q hq hne=>by
  rw[jm ((List.mem_erase_of_ne (cj hne)).mpr (h p hp)),mul_zero,mul_zero]
 clear h
 induction es with
 |nil=>cases hp
 |cons q l ih =>
  rw[ax,iw] at hn;show q.1*(q.2*_)+lsum _=_;rcases et.mp hp with rfl | hp
  ·rw[oP,add_zero];intro a ha;obtain⟨r,hr,rfl⟩:=List.mem_map.mp ha;exact z r (aa _ hr) fun e=>hn.1 (List.mem_map.mpr ⟨r,hr,e⟩)
  ·rw[z q ag fun e=>hn.1 (List.mem_map.mpr ⟨p,hp,e.symm⟩),zero_add];exact ih hn.2 hp fun r hr=>z r (aa _ hr)
theorem Bn {es:List (F×F)}{t:Nat→F}{N:Nat}(ht:∀ k,k<N→t k=ps es k):Goes t (eV (es.map (·.2))) es.length N where
 one:=uF _
 deg:=fun j hj=>mW _ (by rw[aj];exact hj)
 zer:=fun k a b=>by
  rw[hZ (g':=ps es) (fun _ _=>rfl) fun j hj=>ht j (by omega)];have key:∀(es':List (F×F)),(∀ p∈es',p.2∈es.map (·.2))→conv (eV (es.map (·.2))) (ps es') k=0:=by
   intro es'
   induction es' with
   |nil=>exact fun _=>cT fun _ _=>mul_zero _
   |cons p l ih =>
    intro h;rw[cX];show conv (fun j=>p.1*fD p.2 j+ps l j) _ k=0;rw[gX,gP,cX (ps l),ih fun q hq=>h q (aa _ hq),add_zero];have hk:k=es.length+(k - es.length):=by omega
    have e:conv (fD p.2) (eV (es.map (·.2))) k=fD p.2 (k - es.length)*wo (eV (es.map (·.2))) (es.length+1) p.2:=by
     conv=>lhs;rw[hk]
     rw[cX];unfold conv wo;rw[fL (n:=es.length+1) (by omega) fun i a b=>by rw[mW _ (by rw[aj];omega),zero_mul],fT];refine aP fun j hj=>?_
     rw[show es.length+(k - es.length) - j=(k - es.length)+(es.length+1 - 1 - j) by omega,jV]
     ac_rfl
    have e2:=uA p.2 (es.map (·.2));rw[aj] at e2;rw[e,e2,jm (h p ag),mul_zero,mul_zero]
  exact key es fun p hp=>List.mem_map.mpr ⟨p,hp,rfl⟩
theorem vand {l:List (F×F)}(h0:∀ p∈l,p.2≠0) (hn:(l.map (·.2)).Nodup) {a:Nat}(z:∀ j,a≤j→j<a+l.length→ps l j=0):∀ p∈l,p.1=0:=by
 have pw_v:∀(x:F) j,(fD x j).v=pw x.v j:=fun x j=>by
  induction j with
  |zero=>rfl
  |succ j ih=>show tm (fD x j).v x.v=_;rw[ih];rfl
 have sm_v:∀(l:List (F×F)) j,sm (l.map fun p=>(p.1.v,p.2.v)) j=(ps l j).v:=fun l j=>by
  induction l with
  |nil=>rfl
  |cons p r ih=>show tm p.1.v (pw p.2.v j)^^^_=tm p.1.v (fD p.2 j).v^^^_;rw[ih,pw_v]
 intro p hp;refine F.ext (yC l.length (l:=l.map fun p=>(p.1.v,p.2.v)) (by simp) (fun q hq=>?_) (fun q hq=>?_) ?_ a (fun j h1 h2=>?_) (p.1.v,p.2.v) (List.mem_map.mpr ⟨p,hp,rfl⟩))
 ·obtain⟨r,_,rfl⟩:=List.mem_map.mp hq;exact⟨r.1.h,r.2.h⟩
 ·obtain⟨r,hr,rfl⟩:=List.mem_map.mp hq;exact fun e=>h0 r hr (F.ext e)
 ·rw[bg];have:(List.map ((fun x=>x.2)∘fun p:F×F=>(p.1.v,p.2.v)) l)=(l.map (·.2)).map F.v:=by rw[bg];rfl
  rw[this];rw[List.Nodup,h8];exact hn.imp fun h e=>h (F.ext e)
 ·rw[sm_v,z j h1 h2];rfl
theorem vT {es:List (F×F)}{t C:Nat→F}{L N n:Nat}(ht:∀ k,k<N→t k=ps es k) (h0:∀ p∈es,p.2≠0) (hn:(es.map (·.2)).Nodup) (g:Goes t C L N) (hL:L≤es.length) (hN:2*es.length≤N)
  (hn1:0<n) (hnL:n≤L+1) (hC:∀ j,n≤j→C j=0) {p:F×F}(hp:p∈es) (hpe:p.1≠0):wo C n p.2=0:=by
 have key:=vand (l:=es.map fun q=>(q.1*wo C (es.length+1) q.2,q.2)) (fun q hq=>by obtain⟨r,hr,rfl⟩:=List.mem_map.mp hq;exact h0 r hr) (by rw[bg];exact hn) (a:=0) (fun j _ hj=>by
  simp only[List.length_map,Nat.zero_add] at hj;have z:=g.zer (es.length+j) (by omega) (by omega);rw[hZ (g':=ps es) (fun _ _=>rfl) (fun i hi=>ht i (by omega))] at z;rw[←z];clear z;have gen:∀(l:List (F×F)),ps (l.map fun q=>(q.1*wo C (es.length+1) q.2,q.2)) j=conv C (ps l) (es.length+j):=by
   intro l
   induction l with
   |nil=>exact (cT fun _ _=>mul_zero _).symm
   |cons q r ih =>
    show q.1*wo C (es.length+1) q.2*fD q.2 j+ps _ j=_;rw[ih,cX C (ps (q::r))];show _=conv (fun i=>q.1*fD q.2 i+ps r i) C _;rw[gX,gP,cX (ps r)];congr 1;rw[mul_assoc];congr 1;rw[cX];unfold conv wo;rw[uV,fL (n:=es.length+1) (m:=es.length+j+1) (by omega) fun i a b=>by rw[g.deg i (by omega),zero_mul]];refine aP fun i hi=>?_
    rw[show es.length+j - i=(es.length+1 - 1 - i)+j by omega,jV,mul_assoc]
  exact gen es) (p.1*wo C (es.length+1) p.2,p.2) (List.mem_map.mpr ⟨p,hp,rfl⟩)
 have z:wo C (es.length+1) p.2=0:=eu fun h=>jG hpe h key
 rw[uz (n:=n) (by omega) fun j a b=>hC j a] at z;exact eu fun h=>jG h (yo (h0 p hp) _) z
end Md
end
section
namespace Md
open Fl64
noncomputable def toF (n:Nat):F:=⟨n%64,gj _ (by decide)⟩
theorem k9 {n:Nat}(h:n<64):(toF n).v=n:=Nat.mod_eq_of_lt h
theorem lR {a b:Nat}(ha:a<64) (hb:b<64):toF (a^^^b)=toF a+toF b:=F.ext (by rw[k9 (aV ha hb),Fp,k9 ha,k9 hb])
theorem eJ {a b:Nat}(ha:a<64) (hb:b<64):toF (tm a b)=toF a*toF b:=F.ext (by rw[k9 (aY ha hb),G5,k9 ha,k9 hb])
theorem y0:toF 0=0:=rfl
theorem qc:toF 1=1:=rfl
theorem mo {a b:Nat}(ha:a<64) (hb:b<64) (h:toF a=toF b):a=b:=by rw[←k9 ha,←k9 hb,h]
theorem kL {a:Nat}(ha:a<64) (h:a≠0):toF a≠0:=fun e=>h (mo ha (by decide) e)
theorem pK {x:Nat}(hx:x<64):∀ n,toF (pw x n)=fD (toF x) n
 |0=>rfl
 |n+1=>by show toF (tm (pw x n) x)=_;rw[eJ (bB hx n) hx,pK hx n];rfl
noncomputable def cf (l:List Nat) (j:Nat):F:=toF (l.getD j 0)
theorem gG {l:List Nat}{j:Nat}(h:l.length≤j):cf l j=0:=by
 unfold cf;rw[List.getD_eq_getElem?_getD,List.getElem?_eq_none h];rfl
theorem iG (l:List Nat):cf (0::l)=sh (cf l):=by
 funext j;cases j<;>rfl
theorem je (l:List Nat) (n:Nat):cf (l++List.replicate n 0)=cf l:=by
 funext j;unfold cf;congr 1;rw[List.getD_eq_getElem?_getD,List.getD_eq_getElem?_getD];by_cases h:j<l.length
 ·rw[List.getElem?_append_left h]
 ·rw[List.getElem?_append_right (by omega),List.getElem?_eq_none (l:=l) (by omega),List.getElem?_replicate];split<;>rfl
theorem yX {f:Nat}(hf:f<64) {l:List Nat}(h:Gr l) (j:Nat):cf (mulR f l) j=toF f*cf l j:=by
 unfold cf mulR;rw[List.getD_eq_getElem?_getD,List.getElem?_map,List.getD_eq_getElem?_getD];cases q:l[j]? with
 |none=>exact (mul_zero _).symm
 |some g=>exact eJ hf (h g (List.mem_of_getElem? q))
theorem DS {l:List Nat}(h:Gr l) {p g:Nat}(hg:g<64) (hp:p<l.length) (j:Nat):cf (l.set p (l.getD p 0^^^g)) j=cf l j+if j=p then toF g else 0:=by
 unfold cf;by_cases e:j=p
 ·subst e;rw[if_pos rfl,List.getD_eq_getElem?_getD,List.getElem?_set_self hp,Option.getD_some,lR (fA h _) hg]
 ·rw[if_neg e,add_zero,List.getD_eq_getElem?_getD,List.getElem?_set_ne (by omega),List.getD_eq_getElem?_getD]
theorem mf:∀{m l:List Nat}{p:Nat},Gr l→Gr m→p+m.length≤l.length→∀ j,cf (eH l p m) j=cf l j+if p≤j then cf m (j - p) else 0
 | [],l,p,_,_,_,j=>by
  show cf l j=_;rw[show (if p≤j then cf [] (j - p) else 0)=0 by split;exact gG (dm _);rfl,add_zero]
 | g::r,l,p,h,hm,hp,j=>by
  have g64:=hm g ag;have hr:Gr r:=fun z hz=>hm z (aa _ hz)
  have hp':p+(r.length+1)≤l.length:=by simpa using hp
  rw[eH,mf (kM h g64) hr (by rw[aq];omega),DS h g64 (by omega),add_assoc];congr 1;by_cases e:j=p
  ·subst e;rw[if_pos rfl,if_neg (by omega),if_pos (au _),ip,add_zero];rfl
  ·rw[if_neg e,zero_add];by_cases h2:p+1≤j
   ·rw[if_pos h2,if_pos (by omega),show j - p=(j - (p+1))+1 by omega];rfl
   ·rw[if_neg h2,if_neg (by omega)]
theorem nZ:∀{a b l:List Nat}{k:Nat},Gr a→Gr b→Gr l→k+a.length+b.length≤l.length+1→0<b.length→∀ j,cf (eA l k a b) j=cf l j+if k≤j then conv (cf a) (cf b) (j - k) else 0
 | [],b,l,k,_,_,_,_,_,j=>by
  show cf l j=_;rw[show (if k≤j then conv (cf []) (cf b) (j - k) else 0)=0 by split;exact jn _ fun _ _=>gG (dm _);rfl,add_zero]
 | g::a,b,l,k,ha,hb,hl,h,h0,j=>by
  have g64:=ha g ag;have ha':Gr a:=fun z hz=>ha z (aa _ hz)
  simp only[List.length_cons] at h;rw[eA,nZ ha' hb (i5 hl (lP g64 hb)) (by rw[eN];omega) h0,mf hl (lP g64 hb) (by rw[mB];omega),add_assoc];congr 1;by_cases e:j<k
  ·rw[if_neg (by omega),if_neg (by omega),if_neg (by omega),add_zero]
  ·have e1:k≤j:=by omega
   rw[if_pos e1,yX g64 hb];by_cases e2:j=k
   ·subst e2;rw[if_neg (by omega),if_pos e1,add_zero,ip];show _=0+cf (g::a) 0*cf b (0 - 0);rw[zero_add];rfl
   ·rw[if_pos (show k+1≤j by omega),if_pos e1];show _=sum (j - k+1) _;rw[cM,show j - (k+1)=j - k - 1 by omega];have e3:j - k=(j - k - 1)+1:=by omega
    show _=toF g*cf b (j - k)+sum (j - k) fun i=>cf a i*cf b (j - k - (i+1))
    congr 1
    conv=>rhs;rw[e3]
    exact aP fun i hi=>by congr 2;omega
theorem rL (n j:Nat):cf (List.replicate n 0) j=0:=by
 have:=congrFun (je [] n) j;rw[List.nil_append] at this;rw[this];exact gG (dm _)
theorem nk {a b:List Nat}(ha:Gr a) (hb:Gr b) (hb0:0<b.length) (j:Nat):cf (dC a b) j=conv (cf a) (cf b) j:=by
 by_cases h0:a.length=0
 ·rw[List.length_eq_zero_iff.mp h0];show cf (List.replicate _ 0) j=_;rw[rL,jn _ fun _ _=>gG (dm _)]
 unfold dC;rw[nZ ha hb (jb _) (by rw[bc];omega) hb0,rL,zero_add,if_pos (dm _)];rfl
theorem pS {x:Nat}(hx:x<64) {l:List Nat}(h:Gr l):toF (cW x l)=wo (cf l) l.length (toF x):=by
 induction l with
 |nil=>rfl
 |cons g r ih =>
  have hr:Gr r:=fun z hz=>h z (aa _ hz)
  have g64:g<64:=h g ag;have e:cW x (g::r)=tm g (pw x r.length)^^^cW x r:=by
   show gC x (tm 0 x^^^g) r=_;rw[cA hx,cu,gR hx g64 hr]
  rw[e,lR (aY g64 (bB hx _)) (fH hx (by decide) hr),eJ g64 (bB hx _),ih hr,pK hx];show _=sum (r.length+1) _;rw[cM];congr 1;exact aP fun j hj=>by show cf r j*_=cf r j*_;congr 2;show _=r.length+1 - 1 - (j+1);omega
theorem vb:∀{ns r:List Nat}{l:List F},Gr ns→Gr r→0<r.length→cf r=eV l→cf (iR r ns)=eV ((ns.map toF).reverse++l)
 |[],r,l,_,_,_,e=>e
 | n::ns,r,l,hn,hr,h0,e=>by
  have n64:=hn n ag;have hb:Gr [1,n]:=.cons (by decide) (.cons n64 .nil);have hl:=fC r [1,n];rw[iR,vb (l:=toF n::l) (fun z hz=>hn z (List.mem_cons_of_mem _ hz)) (jf hr hb) (by rw[hl];simp)]
  ·rw[ax,List.reverse_cons,ek];rfl
  ·funext j;rw[nk hr hb (by simp),cX,e];show _=eV l j+toF n*sh (eV l) j;have:∀ f:Nat→F,conv (cf [1,n]) f j=f j+toF n*sh f j:=fun f=>by
    cases j with
    |zero=>show 0+cf [1,n] 0*f 0=f 0+toF n*0;rw[zero_add,mul_zero,add_zero];exact one_mul _
    |succ j =>
     unfold conv;rw[cM,show cf [1,n] 0=1 from rfl,one_mul,cM,show cf [1,n] (0+1)=toF n from rfl,cT fun i _=>by rw[gG (by show 2≤i+1+1;omega),zero_mul],add_zero];rfl
   exact this _
theorem Ef:cf [1]=eV []:=by
 funext j;cases j with
 |zero=>rfl
 |succ j=>exact gG (by simp)
end Md
end
section
namespace Md
open Fl64
noncomputable def cP (nums:List Nat) (place:Nat):Nat→List Nat→Nat→Nat
 |_,[],g=>g
 |k,f::r,g=>cP nums place (k+1) r (g^^^tm f (nums.getD (place - k) 0))
theorem jP {nums:List Nat}(hn:Gr nums) (place:Nat):∀{r:List Nat}{k g:Nat},Gr r→g<64→cP nums place k r g<64
 |[],_,_,_,h=>h
 | f::r,k,g,hr,h=>by
  rw[cP];exact jP hn place (fun z hz=>hr z (aa _ hz)) (aV h (aY (hr f ag) (fA hn _)))
theorem oX {nums:List Nat}(hn:Gr nums) (place:Nat):∀{r:List Nat}{k g:Nat},Gr r→g<64→toF (cP nums place k r g)=toF g+sum r.length fun j=>cf r j*cf nums (place - (k+j))
 |[],_,_,_,h=>(add_zero _).symm
 | f::r,k,g,hr,h=>by
  have f64:=hr f ag;have t64:=aY f64 (fA hn (place - k));rw[cP,oX hn place (fun z hz=>hr z (aa _ hz)) (aV h t64),lR h t64,eJ f64 (fA hn _),add_assoc];congr 1;show _=sum (r.length+1) _;rw[cM];congr 1;exact aP fun j hj=>by show cf r j*_=cf r j*_;congr 2;omega
theorem qR {nums r:List Nat}(hn:Gr nums) (hr:Gr r) {place:Nat}(h:r.length≤place+1):toF (cP nums place 0 r 0)=conv (cf r) (cf nums) place:=by
 rw[oX hn place hr (by decide),y0,zero_add];unfold conv;rw[fL h fun i a b=>by rw[gG a,zero_mul]];exact aP fun j hj=>by rw[eo]
noncomputable def AS (row:List Nat) (f:Nat):List Nat:=row.map fun g=>tm g f
theorem yB {row:List Nat}{f:Nat}(h:Gr row) (hf:f<64):Gr (AS row f):=fun z hz=>by
 obtain⟨g,hg,rfl⟩:=List.mem_map.mp hz;exact aY (h g hg) hf
theorem FF {row:List Nat}{f:Nat}(h:Gr row) (hf:f<64) (j:Nat):cf (AS row f) j=toF f*cf row j:=by
 have:AS row f=mulR f row:=en fun g hg=>dI (h g hg) hf
 rw[this,yX hf h]
noncomputable def wR (a b:List Nat):List Nat:=eH (a++List.replicate (b.length - a.length) 0) 0 b
theorem DZ {a b:List Nat}(ha:Gr a) (hb:Gr b):Gr (wR a b):=i5 (ha.append (jb _)) hb
theorem A1 (a b:List Nat):(wR a b).length=a.length+(b.length - a.length):=by rw[wR,eN,cz,bc]
theorem Gw {a b:List Nat}(ha:Gr a) (hb:Gr b) (j:Nat):cf (wR a b) j=cf a j+cf b j:=by
 unfold wR;rw[mf (ha.append (jb _)) hb (by rw[cz,bc];omega),je,if_pos (dm _)];rfl
theorem inv_one {a:Nat}(h:a<64) (h0:a≠0):tm a (pw a 62)=1:=by
 have:=eO (n:=64) (f:=fun a=>a==0 || tm a (pw a 62)==1) (by decide +kernel) a h;simpa[h0] using this
structure Sr where
 rule:List Nat
 len:Nat
 fo:List Nat
 gap:Nat
noncomputable def Sr.qK (nums:List Nat) (n:Nat) (s:Sr):List Nat:=wR s.rule (AS (0::s.fo) (tm (cP nums n 0 s.rule 0) (pw s.gap 62)))
noncomputable def Sr.step (nums:List Nat) (n:Nat) (s:Sr):Sr :=
 if cP nums n 0 s.rule 0=0 then ⟨s.rule,s.len,0::s.fo,s.gap⟩
 else if 2*s.len≤n then ⟨s.qK nums n,n+1 - s.len,s.rule,cP nums n 0 s.rule 0⟩
 else ⟨s.qK nums n,s.len,0::s.fo,s.gap⟩
noncomputable def m4 (nums:List Nat):Nat→Sr
 |0=>⟨[1],0,[1],1⟩
 |n+1=>(m4 nums n).step nums n
structure pE (nums:List Nat) (n:Nat) (s:Sr):Prop where
 gr:Gr s.rule
 gf:Gr s.fo
 gg:s.gap<64
 l0:0<s.rule.length
 lr:s.rule.length≤s.len+1
 lf:s.fo.length≤n - s.len+1
 f0:0<s.fo.length
 bm:Bm (cf nums) (cf s.rule) (cf s.fo) s.len (toF s.gap) n
theorem pE.ne {nums:List Nat}{n:Nat}{s:Sr}(o:pE nums n s):s.gap≠0:=fun e=>o.bm.ne (by rw[e];rfl)
theorem pE.rl {nums:List Nat}{n:Nat}{s:Sr}(o:pE nums n s):s.rule.length≤n+1:=by have:=o.lr;have:=o.bm.le;omega
theorem Co {l:List Nat}(h:Gr l):Gr (0::l):=.cons (by decide) h
theorem pE.step {nums:List Nat}(hn:Gr nums) {n:Nat}{s:Sr}(o:pE nums n s):pE nums (n+1) (s.step nums n):=by
 have hle:=o.bm.le;have g64:=jP hn n (k:=0) o.gr (g:=0) (by decide);have gc:=qR hn o.gr o.rl;have t64:=aY g64 (bB o.gg 62);have ha:toF (tm (cP nums n 0 s.rule 0) (pw s.gap 62))*toF s.gap=toF (cP nums n 0 s.rule 0):=by
  rw[eJ g64 (bB o.gg 62),mul_assoc,mul_comm (toF (pw s.gap 62)),←eJ o.gg (bB o.gg 62),inv_one o.gg o.ne,qc,mul_one]
 have hA:cf (s.qK nums n)=Md.qK (cf s.rule) (cf s.fo) (toF (tm (cP nums n 0 s.rule 0) (pw s.gap 62))):=by
  funext j;show cf (wR _ _) j=_;rw[Gw o.gr (yB (Co o.gf) t64),FF (Co o.gf) t64,iG];rfl
 have gA:Gr (s.qK nums n):=DZ o.gr (yB (Co o.gf) t64);have lA:(s.qK nums n).length=s.rule.length+(s.fo.length+1 - s.rule.length):=by
  show (wR _ _).length=_;rw[A1];simp[AS]
 have lr:=o.lr;have lf:=o.lf;have l0:=o.l0;have f0:=o.f0;unfold Sr.step;split
 ·rename_i h;rw[h] at gc;exact⟨o.gr,Co o.gf,o.gg,l0,lr,by simp only[List.length_cons];omega,by simp,by rw[iG];exact o.bm.same gc.symm⟩
 ·rename_i h;split
  ·rename_i h2;refine⟨gA,o.gr,g64,by rw[lA];omega,by rw[lA];show _≤n+1 - s.len+1;omega,by show s.rule.length≤n+1 - (n+1 - s.len)+1;omega,l0,?_⟩;show Bm _ (cf (s.qK nums n)) _ _ _ _;rw[hA];exact o.bm.longer gc.symm (kL g64 h) ha h2
  ·rename_i h2;refine⟨gA,Co o.gf,o.gg,by rw[lA];omega,by rw[lA];show _≤s.len+1;omega,by show s.fo.length+1≤n+1 - s.len+1;omega,by simp,?_⟩;show Bm _ (cf (s.qK nums n)) (cf (0::s.fo)) _ _ _;rw[hA,iG];exact o.bm.kept gc.symm ha h2
theorem zK {j:Nat}(h:0<j):cf [1] j=0:=gG h
theorem ub {nums:List Nat}(hn:Gr nums):∀ n,pE nums n (m4 nums n)
 |0=>⟨.cons (by decide) .nil,.cons (by decide) .nil,by show 1<64;decide,by show 0<1;decide,by show 1≤0+1;decide,by show 1≤0 - 0+1;decide,by show 0<1;decide,Bm.init _ _ _ rfl (fun j h=>zK h) fun j h=>zK h⟩
 |n+1=>(ub hn n).step hn
theorem Cf {nums:List Nat}(hn:Gr nums) {R:Nat→F}{w N:Nat}(g:Goes (cf nums) R w N):∀ n,n≤N→(m4 nums n).len≤w
 |0,_=>dm _
 | n+1,h=>by
  have ih:=Cf hn g n (by omega);have o:=ub hn n;show ((m4 nums n).step nums n).len≤w;unfold Sr.step;split
  ·exact ih
  ·rename_i h0;have gc:=qR hn o.gr o.rl;split
   ·exact o.bm.least (by rw[←gc];exact kL (jP hn n o.gr (by decide)) h0) g h
   ·exact ih
end Md
end
section
namespace Md
open Fl64
noncomputable def loc (n p:Nat):Nat:=pw 2 (n - 1 - p)
theorem fF (n p:Nat):loc n p<64:=bB (by decide) _
theorem pf (n p:Nat):loc n p≠0:=yz (by decide) (by decide) _
noncomputable def locs (n:Nat) (l:List Nat):List Nat:=l.map (loc n)
theorem fU (n:Nat) (l:List Nat):Gr (locs n l):=fun z hz=>by obtain⟨p,_,rfl⟩:=List.mem_map.mp hz;exact fF n p
theorem uD {n p q:Nat}(h:n≤63) (hp:p<n) (hq:q<n) (e:loc n p=loc n q):p=q:=by
 unfold loc at e;rcases Nat.lt_trichotomy (n - 1 - p) (n - 1 - q) with c | c | c
 ·exact absurd e.symm (uC (by omega) c)
 ·omega
 ·exact absurd e (uC (by omega) c)
noncomputable def aT (g:List Nat) (c:Nat):List Nat:=(bS c).map fun x=>cW x g
noncomputable def iS (n:Nat) (mi:List Nat):List Nat:=iR [1] (locs n mi)
noncomputable def dN (wo mi:List Nat) (n:Nat):List Nat:=((dC wo (iS n mi)).take wo.length).drop mi.length
noncomputable def fV (wo mi:List Nat) (n:Nat):List Nat:=(m4 (dN wo mi n) (dN wo mi n).length).rule
noncomputable def others (mi:List Nat) (n:Nat):List Nat:=(List.range n).filter fun p=>!mi.contains p
noncomputable def susp (wo mi:List Nat) (n:Nat):List Nat:=(others mi n).filter fun p=>cW (loc n p) (fV wo mi n)==0
noncomputable def cH (x:Nat) (pr:Nat):List Nat→Nat
 |[]=>pr
 |o::l=>cH x (if o=x then pr else tm pr (x^^^o)) l
noncomputable def cK (wo ls:List Nat):List Nat:=(dC wo (iR [1] ls)).take ls.length
noncomputable def share (hd ls:List Nat) (x:Nat):Nat:=tm (cW x hd) (pw (tm x (cH x 1 ls)) 62)
noncomputable def pC (n:Nat) (hd ls:List Nat):List Nat→List Nat→List Nat
 |[],ch=>ch
 |p::r,ch=>pC n hd ls r (ch.set p (ch.getD p 0^^^share hd ls (loc n p)))
noncomputable def eY (g su wo:List Nat):List Nat:=pC g.length (cK wo (locs g.length su)) (locs g.length su) su g
theorem hU {g:List Nat}(h:Gr g) (c:Nat):Gr (aT g c):=fun z hz=>by
 obtain⟨x,hx,rfl⟩:=List.mem_map.mp hz;exact fH (jC c x hx) (by decide) h
theorem jK (g:List Nat) (c:Nat):(aT g c).length=c:=by rw[aT,aj,jh]
theorem jM:Gr [1]:=.cons (by decide) .nil
theorem jY (n:Nat) (mi:List Nat):(iS n mi).length=mi.length+1∧Gr (iS n mi):=by
 obtain⟨a,b,_⟩:=fG (r:=[1]) (fU n mi) jM (by decide) rfl;exact⟨by rw[iS,a];simp[locs];omega,b⟩
theorem yb (ls:List Nat) (h:Gr ls):cf (iR [1] ls)=eV (ls.map toF):=by
 rw[vb (l:=[]) h jM (by decide) Ef,bo];exact uT (List.reverse_perm _)
theorem lZ {wo:List Nat}(h:Gr wo) (mi:List Nat) (n:Nat):Gr (dN wo mi n):=fun z hz =>
 jf h (jY n mi).2 z (List.mem_of_mem_take (List.mem_of_mem_drop hz))
theorem oi (wo mi:List Nat) (n:Nat):(dN wo mi n).length=wo.length - mi.length:=by
 unfold dN;rw[fq,eg,fC,(jY n mi).1];omega
theorem sum_list:∀{l:List Nat}{n:Nat}{f:Nat→F},l.Nodup→(∀ p∈l,p<n)→(∀ p,p<n→p∉l→f p=0)→sum n f=lsum (l.map f)
 |[],n,f,_,_,z=>cT fun p hp=>z p hp (by simp)
 | a::l,n,f,hn,hl,z=>by
  rw[iw] at hn;have ha:=hl a ag;have e:sum n f=sum n (fun p=>if p=a then f p else 0)+sum n fun p=>if p=a then 0 else f p:=by
   rw[←sum_add];exact aP fun p _=>by split;rw[add_zero];rw[zero_add]
  rw[e,AI ha (fun p _ hp=>if_neg hp),if_pos rfl,sum_list (l:=l) hn.2 (fun p hp=>hl p (aa _ hp)) fun p hp hm=>?_]
  ·show _=f a+lsum (l.map f);congr 2;exact en fun p hp=>if_neg fun (q:p=a)=>hn.1 (q ▸ hp)
  ·by_cases h:p=a
   ·rw[if_pos h]
   ·rw[if_neg h];exact z p hp fun hm'=>by rcases et.mp hm' with q | q;exact h q;exact hm q
noncomputable def vF (n:Nat) (E:List Nat) (l:List Nat):List (F×F):=l.map fun p=>(cf E p,toF (loc n p))
theorem pj (x:F) (i:Nat):∀ j,fD (fD x i) j=fD x (i*j)
 |0=>rfl
 |j+1=>by show fD (fD x i) j*_=_;rw[pj x i j,←jV,Nat.mul_succ]
theorem zm {E:List Nat}(hE:Gr E) {l:List Nat}(hn:l.Nodup) (hl:∀ p∈l,p<E.length) (z:∀ p,p<E.length→p∉l→E.getD p 0=0) (j:Nat):toF (cW (pw 2 j) E)=ps (vF E.length E l) j:=by
 rw[pS (bB (by decide) j) hE,vc];unfold wo vF;rw[sum_list hn hl fun p hp hm=>by show toF (E.getD p 0)*_=0;rw[z p hp hm];exact zero_mul _,bg];congr 1;refine en fun p hp=>?_
 show cf E p*_=cf E p*fD (toF (loc E.length p)) j;rw[loc,pK (by decide),pK (by decide),pj,pj,Nat.mul_comm]
structure iV (g y mi W:List Nat) (c:Nat):Prop where
 gg:Gr g
 gy:Gr y
 ly:y.length=g.length
 n63:g.length≤63
 c62:c≤62
 code:zV y c
 mn:mi.Nodup
 ml:∀ p∈mi,p<g.length
 wr:W=(others mi g.length).filter fun p=>y.getD p 0 != g.getD p 0
 le:2*W.length+mi.length≤c
theorem dS {mi:List Nat}{n p:Nat}:p∈others mi n↔p<n∧p∉mi:=by
 unfold others;rw[List.mem_filter,List.mem_range];simp
theorem jR (mi:List Nat) (n:Nat):(others mi n).Nodup:=List.nodup_range.filter _
section
variable {g y mi W:List Nat}{c:Nat}(N:iV g y mi W c)
include N
theorem iV.lE:(eW g y).length=g.length:=zA N.ly.symm
theorem iV.gE:Gr (eW g y):=vq N.gg N.gy
theorem iV.E {p:Nat}(hp:p<g.length):(eW g y).getD p 0=g.getD p 0^^^y.getD p 0:=by
 rw[List.getD_eq_getElem?_getD,List.getD_eq_getElem?_getD,List.getD_eq_getElem?_getD,eW,List.getElem?_zipWith,List.getElem?_eq_getElem hp,List.getElem?_eq_getElem (by rw[N.ly];exact hp)];rfl
theorem iV.Wm {p:Nat}:p∈W↔p<g.length∧p∉mi∧y.getD p 0≠g.getD p 0:=by
 rw[N.wr,List.mem_filter,dS];simp[and_assoc]
theorem iV.nd:(mi++W).Nodup:=by
 rw[eh];refine⟨N.mn,by rw[N.wr];exact (jR _ _).filter _,fun a ha b hb e=>?_⟩;exact ((N.Wm).mp hb).2.1 (e ▸ ha)
theorem iV.lt {p:Nat}(h:p∈mi++W):p<g.length:=by
 rcases iy.mp h with h | h
 ·exact N.ml p h
 ·exact ((N.Wm).mp h).1
theorem iV.out {p:Nat}(hp:p<g.length) (h:p∉mi++W):(eW g y).getD p 0=0:=by
 rw[N.E hp];have:y.getD p 0=g.getD p 0:=eu fun e=>h (ao _ ((N.Wm).mpr ⟨hp,fun m=>h (ay _ m),e⟩))
 rw[this,fm]
theorem iV.worth {j:Nat}(hj:j<c):cf (aT g c) j=ps (vF g.length (eW g y) (mi++W)) (j+1):=by
 have e1:(aT g c).getD j 0=cW (pw 2 (j+1)) g:=by
  unfold aT bS;rw[List.getD_eq_getElem?_getD,bg,List.getElem?_map,List.getElem?_range' hj,bq,Option.getD_some];show cW (pw 2 _) g=_;congr 2;omega
 have hx:pw 2 (j+1)<64:=bB (by decide) _;have e2:cW (pw 2 (j+1)) (eW g y)=cW (pw 2 (j+1)) g:=by
  rw[AY hx N.ly.symm N.gg N.gy,N.code (pw 2 (j+1)) (by
   unfold bS;exact List.mem_map.mpr ⟨j+1,List.mem_range'_1.mpr ⟨by omega,by omega⟩,rfl⟩),gb]
 have:=zm N.gE N.nd (fun p hp=>by rw[N.lE];exact N.lt hp) (fun p hp hm=>N.out (by rw[←N.lE];exact hp) hm) (j+1);rw[N.lE] at this;rw[cf,e1,←e2,this]
theorem iV.locF {p q:Nat}(hp:p<g.length) (hq:q<g.length) (e:toF (loc g.length p)=toF (loc g.length q)):p=q:=uD N.n63 hp hq (mo (fF _ _) (fF _ _) e)
theorem iV.locn {l:List Nat}(hn:l.Nodup) (hl:∀ p∈l,p<g.length):(l.map fun p=>toF (loc g.length p)).Nodup:=by
 rw[List.Nodup,h8];exact List.Pairwise.imp_of_mem (fun ha hb h e=>h (N.locF (hl _ ha) (hl _ hb) e)) hn
end
theorem xF (j:Nat):∀(a b:List (F×F)),ps (a++b) j=ps a j+ps b j
 |[],b=>(zero_add _).symm
 |p::a,b=>by show _+ps (a++b) j=_+ps a j+_;rw[xF j a b,add_assoc]
theorem uN (j:Nat):∀{a:List (F×F)},(∀ p∈a,p.1=0)→ps a j=0
 |[],_=>rfl
 |p::a,h=>by show p.1*_+_=0;rw[h p ag,zero_mul,zero_add];exact uN j fun q hq=>h q (aa _ hq)
section
variable {g y mi W:List Nat}{c:Nat}(N:iV g y mi W c)
include N
theorem iV.freed {k:Nat}(hk:k<c - mi.length):cf (dN (aT g c) mi g.length) k=ps ((vF g.length (eW g y) W).map fun p=>(p.1*(p.2*dist p.2 ((locs g.length mi).map toF)),p.2)) k:=by
 have lg:=jY g.length mi;have e1:cf (dN (aT g c) mi g.length) k=conv (cf (aT g c)) (cf (iS g.length mi)) (mi.length+k):=by
  rw[←nk (hU N.gg c) lg.2 (by rw[lg.1];omega)];unfold cf dN;rw[List.getD_eq_getElem?_getD,List.getD_eq_getElem?_getD,List.getElem?_drop,List.getElem?_take,if_pos (by rw[jK];omega)]
 rw[e1,hZ (f':=fun j=>ps (vF g.length (eW g y) (mi++W)) (j+1)) (fun j hj=>N.worth (by omega)) fun _ _=>rfl,Md.freed (m:=mi.length) (fun j hj=>gG (by rw[lg.1];omega)) k];rw[iS,yb _ (fU _ _)];have ed:∀ x,wo (eV ((locs g.length mi).map toF)) (mi.length+1) x=dist x ((locs g.length mi).map toF):=fun x=>by
  rw[←uA,aj,locs,aj]
 simp only[ed];rw[vF,iz,iz,xF,uN,zero_add];rfl;intro q hq;obtain⟨r,hr,rfl⟩:=List.mem_map.mp hq;obtain⟨p,hp,rfl⟩:=List.mem_map.mp hr;show _*(_*dist (toF (loc g.length p)) _)=0;rw[jm (l:=(locs g.length mi).map toF) (List.mem_map.mpr ⟨loc g.length p,List.mem_map.mpr ⟨p,hp,rfl⟩,rfl⟩),mul_zero,mul_zero]
theorem iV.susp:susp (aT g c) mi g.length=W:=by
 have gw:=hU N.gg c;let fr:=dN (aT g c) mi g.length;have lf:fr.length=c - mi.length:=by show (dN _ _ _).length=_;rw[oi,jK]
 let es:=(vF g.length (eW g y) W).map fun p=>(p.1*(p.2*dist p.2 ((locs g.length mi).map toF)),p.2)
 have les:es.length=W.length:=by simp[es,vF]
 have ht:∀ k,k<fr.length→cf fr k=ps es k:=fun k hk=>N.freed (lf ▸ hk)
 have hle:=N.le;have go:=Bn ht;have o:=ub (lZ gw mi g.length) fr.length;have hL:=Cf (lZ gw mi g.length) go fr.length (au _);have hr:∀ p∈W,cW (loc g.length p) (fV (aT g c) mi g.length)=0:=fun p hp=>by
  have m:=(N.Wm).mp hp;have hx:toF (loc g.length p)≠0:=kL (fF _ _) (pf _ _);have z:=vT (es:=es) (C:=cf (fV (aT g c) mi g.length)) (n:=(fV (aT g c) mi g.length).length) ht (fun q hq=>by
    obtain⟨r,hr,rfl⟩:=List.mem_map.mp hq;obtain⟨p,hp,rfl⟩:=List.mem_map.mp hr;exact kL (fF _ _) (pf _ _)) (by
    simp only[es,vF,List.map_map];exact N.locn ((eh.mp N.nd).2.1) fun q hq=>((N.Wm).mp hq).1) o.bm.go hL (by rw[les];omega) o.l0 o.lr (fun j hj=>gG hj) (List.mem_map.mpr ⟨_,List.mem_map.mpr ⟨p,hp,rfl⟩,rfl⟩) (by
    refine jG ?_ (jG hx (pD fun q=>?_))
    ·show toF ((eW g y).getD p 0)≠0;rw[N.E m.1];exact kL (aV (fA N.gg _) (fA N.gy _)) fun e=>m.2.2 (cI e).symm
    ·obtain⟨x,hx,e⟩:=List.mem_map.mp q;obtain⟨q,hq,rfl⟩:=List.mem_map.mp hx;exact m.2.1 (N.locF (N.ml q hq) m.1 e ▸ hq))
  have z':=(pS (x:=loc g.length p) (fF _ _) o.gr).trans z;exact mo (fH (fF _ _) (by decide) o.gr) (by decide) z'
 have hsub:W=(Md.susp (aT g c) mi g.length).filter fun p=>y.getD p 0 != g.getD p 0:=by
  unfold Md.susp;rw[List.filter_filter]
  conv=>lhs;rw[N.wr]
  refine List.filter_congr fun p hp=>?_
  by_cases e:y.getD p 0=g.getD p 0
  ·have:(y.getD p 0 != g.getD p 0)=false:=by rw[e];exact bne_self_eq_false _
   rw[this,Bool.false_and]
  ·have:=hr p ((N.Wm).mpr ⟨(dS.mp hp).1,(dS.mp hp).2,e⟩);rw[this];simp
 have hlen:(Md.susp (aT g c) mi g.length).length≤W.length:=by
  refine gm fun h=>?_
  have hz:=mG (xs:=locs g.length (Md.susp (aT g c) mi g.length)) (l:=fV (aT g c) mi g.length) (by
    unfold locs;rw[List.Nodup,h8];refine List.Pairwise.imp_of_mem (fun {a b} ha hb h e=>h (uD N.n63 ?_ ?_ e)) ((jR mi g.length).filter _)
    ·exact (dS.mp (gu.mp ha |>.1)).1
    ·exact (dS.mp (gu.mp hb |>.1)).1) (fU _ _) o.gr (by
    have:=o.lr;have h2:(m4 fr fr.length).len≤W.length:=by rw[←les];exact hL
    have h3:(fV (aT g c) mi g.length).length≤(m4 fr fr.length).len+1:=o.lr;simp only[locs,List.length_map];omega) (fun x hx=>by
    obtain⟨p,hp,rfl⟩:=List.mem_map.mp hx;have:=(gu.mp hp).2;simpa using this)
  have h1:=o.bm.go.one;have l0:=o.l0;have:(m4 fr fr.length).rule.getD 0 0=0:=by
   rw[List.getD_eq_getElem?_getD,List.getElem?_eq_getElem l0];exact hz _ (List.getElem_mem l0)
  unfold cf at h1;rw[this] at h1;exact absurd h1 (by decide)
 have sl:W.Sublist (Md.susp (aT g c) mi g.length):=by
  conv=>lhs;rw[hsub]
  exact List.filter_sublist
 exact (sl.eq_of_length_le hlen).symm
end
end Md
end
section
namespace Md
open Fl64
theorem gS {x:Nat}(hx:x<64):∀{l:List Nat}{pr:Nat},Gr l→pr<64→cH x pr l<64
 |[],_,_,h=>h
 | o::l,pr,hl,h=>by
  rw[cH];refine gS hx (fun z hz=>hl z (aa _ hz)) ?_;split
  ·exact h
  ·exact aY h (aV hx (hl o ag))
theorem jH {x:Nat}(hx:x<64):∀{l:List Nat}{pr:Nat},Gr l→pr<64→toF (cH x pr l)=toF pr*dist (toF x) ((l.map toF).filter (· != toF x))
 |[],_,_,h=>(mul_one _).symm
 | o::l,pr,hl,h=>by
  have o64:=hl o ag;have hr:Gr l:=fun z hz=>hl z (aa _ hz)
  rw[cH,ax];by_cases e:o=x
  ·rw[if_pos e,jH hx hr h,List.filter_cons_of_neg (by rw[e];simp)]
  ·have ne:toF o≠toF x:=fun q=>e (mo o64 hx q)
   rw[if_neg e,jH hx hr (aY h (aV hx o64)),List.filter_cons_of_pos (by simpa using ne),eJ h (aV hx o64),lR hx o64];show _=toF pr*(dist _ _*(toF x+toF o))
   ac_rfl
theorem qS {hd ls:List Nat}(h1:Gr hd) (h2:Gr ls) {x:Nat}(hx:x<64):share hd ls x<64:=aY (fH hx (by decide) h1) (bB (aY hx (gS hx h2 (by decide))) _)
theorem kd (n:Nat) (hd ls:List Nat):∀(su ch:List Nat),(pC n hd ls su ch).length=ch.length
 |[],_=>rfl
 |p::r,ch=>by rw[pC,kd n hd ls r,aq]
theorem vn {n:Nat}{hd ls:List Nat}(h1:Gr hd) (h2:Gr ls):∀{su ch:List Nat},Gr ch→Gr (pC n hd ls su ch)
 |[],_,h=>h
 |p::r,ch,h=>by rw[pC];exact vn h1 h2 (kM h (qS h1 h2 (fF _ _)))
theorem uo (n:Nat) (hd ls:List Nat):∀{su ch:List Nat},su.Nodup→(∀ p∈su,p<ch.length)→∀ q,(pC n hd ls su ch).getD q 0=if q∈su then ch.getD q 0^^^share hd ls (loc n q) else ch.getD q 0
 |[],_,_,_,q=>by rw[if_neg (by simp)];rfl
 | p::r,ch,hn,hl,q=>by
  rw[iw] at hn;rw[pC,uo n hd ls hn.2 (fun z hz=>by rw[aq];exact hl z (aa _ hz))];by_cases e:q=p
  ·subst e;rw[if_neg hn.1,if_pos ag,List.getD_eq_getElem?_getD,List.getElem?_set_self (hl q ag)];rfl
  ·have:(ch.set p (ch.getD p 0^^^share hd ls (loc n p))).getD q 0=ch.getD q 0:=by
    rw[List.getD_eq_getElem?_getD,List.getElem?_set_ne (by omega),List.getD_eq_getElem?_getD]
   rw[this];by_cases m:q∈r
   ·rw[if_pos m,if_pos (aa _ m)]
   ·rw[if_neg m,if_neg fun h=>by rcases et.mp h with h | h;exact e h;exact m h]
theorem mh {wo ls:List Nat}(h:Gr wo) (h2:Gr ls):Gr (cK wo ls):=fun z hz =>
 jf h (fG (r:=[1]) h2 jM (by decide) rfl).2.1 z (List.mem_of_mem_take hz)
theorem wG (wo ls:List Nat) (h2:Gr ls):(cK wo ls).length=ls.length:=by
 unfold cK;rw[List.length_take,fC,(fG (r:=[1]) h2 jM (by decide) rfl).1];simp;omega
theorem zB {a b:List Nat}(h:a.length=b.length) (e:∀ p,p<a.length→a.getD p 0=b.getD p 0):a=b:=by
 refine gn h fun p h1 h2=>?_
 have:=e p h1;rw[List.getD_eq_getElem?_getD,List.getD_eq_getElem?_getD,List.getElem?_eq_getElem h1,List.getElem?_eq_getElem h2] at this;exact this
section
variable {g y mi W:List Nat}{c:Nat}(N:iV g y mi W c)
include N
theorem iV.share {p:Nat}(hp:p∈mi++W):share (cK (aT g c) (locs g.length (mi++W))) (locs g.length (mi++W)) (loc g.length p)=(eW g y).getD p 0:=by
 have gw:=hU N.gg c;have gl:=fU g.length (mi++W);have hx:=fF g.length p;have gh:=mh gw gl;have ll:(locs g.length (mi++W)).length=mi.length+W.length:=by simp[locs]
 have hle:=N.le;have eL:(locs g.length (mi++W)).map toF=(mi++W).map fun p=>toF (loc g.length p):=by rw[locs,bg];rfl
 have hnd:((locs g.length (mi++W)).map toF).Nodup:=by rw[eL];exact N.locn N.nd fun q hq=>N.lt hq
 have hmem:∀ q∈vF g.length (eW g y) (mi++W),q.2∈(locs g.length (mi++W)).map toF:=fun q hq=>by
  obtain⟨r,hr,rfl⟩:=List.mem_map.mp hq;rw[eL];exact List.mem_map.mpr ⟨r,hr,rfl⟩
 have hne:(locs g.length (mi++W)).map toF≠[]:=fun e=>by
  have:=(List.mem_map (f:=fun p=>toF (loc g.length p))).mpr ⟨p,hp,rfl⟩;rw[←eL,e] at this;cases this
 have hprs:((vF g.length (eW g y) (mi++W)).map (·.2)).Nodup:=by
  unfold vF;rw[bg];exact N.locn N.nd fun q hq=>N.lt hq
 have hpm:(cf (eW g y) p,toF (loc g.length p))∈vF g.length (eW g y) (mi++W):=List.mem_map.mpr ⟨p,hp,rfl⟩;have e1:toF (cW (loc g.length p) (cK (aT g c) (locs g.length (mi++W))))=cf (eW g y) p*(toF (loc g.length p)*dist (toF (loc g.length p)) (((locs g.length (mi++W)).map toF).erase (toF (loc g.length p)))):=by
  rw[pS hx gh,wG _ _ gl,←xV hprs hnd hmem hpm,←qW _ hne _ hmem,aj];refine zy fun k hk=>?_
  rw[←heads _ _ hmem];have:cf (cK (aT g c) (locs g.length (mi++W))) k=cf (dC (aT g c) (iR [1] (locs g.length (mi++W)))) k:=by
   unfold cf cK;rw[List.getD_eq_getElem?_getD,List.getD_eq_getElem?_getD,List.getElem?_take,if_pos hk]
  rw[this,nk gw (fG (r:=[1]) gl jM (by decide) rfl).2.1 (by rw[(fG (r:=[1]) gl jM (by decide) rfl).1];simp;omega),yb _ gl];exact hZ (fun j hj=>N.worth (by omega)) fun _ _=>rfl
 have d64:=gS hx gl (pr:=1) (by decide);have e2:toF (cH (loc g.length p) 1 (locs g.length (mi++W)))=dist (toF (loc g.length p)) (((locs g.length (mi++W)).map toF).erase (toF (loc g.length p))):=by
  rw[jH hx gl (by decide),qc,one_mul,hnd.erase_eq_filter]
 have ne:tm (loc g.length p) (cH (loc g.length p) 1 (locs g.length (mi++W)))≠0:=fun e=>by
  have z:toF (tm (loc g.length p) (cH (loc g.length p) 1 (locs g.length (mi++W))))=0:=by rw[e];rfl
  rw[eJ hx d64,e2] at z;exact jG (kL hx (pf _ _)) (pD hnd.not_mem_erase) z
 have t64:=aY hx d64;refine mo (qS gh gl hx) (fA N.gE p) ?_;unfold Md.share;rw[eJ (fH hx (by decide) gh) (bB t64 _),e1,←e2,←eJ hx d64,mul_assoc,←eJ t64 (bB t64 _),inv_one t64 ne,qc,mul_one];rfl
theorem iV.eY:eY g (mi++W) (aT g c)=y:=by
 unfold Md.eY;refine zB (by rw[kd,N.ly]) fun p hp=>?_
 rw[kd] at hp;rw[uo _ _ _ N.nd fun q hq=>N.lt hq];split
 ·rename_i h;rw[N.share h,N.E hp,←bh,fm,cu]
 ·rename_i h;have:=N.out hp h;rw[N.E hp] at this;exact cI this
end
noncomputable def cD (g y mi:List Nat):List Nat:=(List.range g.length).filter fun p=>!mi.contains p&&y.getD p 0 != g.getD p 0
theorem vQ (g y mi:List Nat):cD g y mi=(others mi g.length).filter fun p=>y.getD p 0 != g.getD p 0:=by
 unfold cD others;rw[List.filter_filter];exact List.filter_congr fun p _=>Bool.and_comm ..
noncomputable def bQ (g mi:List Nat) (c:Nat):List Nat:=eY g (mi++susp (aT g c) mi g.length) (aT g c)
theorem kN (g mi:List Nat) (c:Nat):(bQ g mi c).length=g.length:=kd ..
theorem y9 {g:List Nat}(h:Gr g) (mi:List Nat) (c:Nat):Gr (bQ g mi c):=vn (mh (hU h c) (fU _ _)) (fU _ _) h
theorem found {g y mi:List Nat}{c:Nat}(gg:Gr g) (gy:Gr y) (ly:y.length=g.length) (n63:g.length≤63) (c62:c≤62) (code:zV y c) (mn:mi.Nodup) (ml:∀ p∈mi,p<g.length) (le:2*(cD g y mi).length+mi.length≤c):bQ g mi c=y:=by
 have N:iV g y mi (cD g y mi) c:=⟨gg,gy,ly,n63,c62,code,mn,ml,vQ g y mi,le⟩;unfold bQ;rw[N.susp,N.eY]
end Md
end
section
namespace Pc.Vw
open PySem Pc Pc.Sm Pc.Gr Fl64 Md
noncomputable def aK (T:Tb) (e:Ex) (env:En) (d:D):Prop:=∃ R,ev T e env = .ok (d,R)
section
variable {T:Tb}{env:En}{a b c:Ex}{x y z d:D}
theorem aK.bin {op:Operator}(h:aK T a env x) (h':aK T b env y) (e:nF op x y=some z):aK T (.bin op a b) env z:=by
 obtain⟨R,h⟩:=h;obtain⟨R',h'⟩:=h';exact⟨_,by rw[ev,h,aA,h',aA,e,aM,aA]⟩
theorem aK.cmp {op:CmpOp}{k:Bool}(h:aK T a env x) (h':aK T b env y) (e:iU op x y=some k):aK T (.cmp op a b) env (.bl k):=by
 obtain⟨R,h⟩:=h;obtain⟨R',h'⟩:=h';exact⟨_,by rw[ev,h,aA,h',aA,e,aM,aA]⟩
theorem aK.ix (h:aK T a env x) (h':aK T b env y) (e:EU x y=some z):aK T (.ix a b) env z:=by
 obtain⟨R,h⟩:=h;obtain⟨R',h'⟩:=h';exact⟨_,by rw[ev,h,aA,h',aA,e,aM,aA]⟩
theorem aK.cst (d:D):aK T (.cst d) env d:=⟨_,by rw[ev]⟩
theorem aK.glb (i:Nat):aK T (.glb i) env (T.gl i):=by
 cases h:ev T (.glb i) env with
 |ok p=>rw[ev] at h;exact⟨p.2,by rw[ev];cases h;rfl⟩
 |exc e=>rw[ev] at h;cases h
 |bad=>rw[ev] at h;cases h
theorem aK.lq {f:Nat}{r:D}{fr:Bool}(h:aK T a env x) (e:T.cl f [x] = .ok (r,fr)):aK T (.call f (.cons a .nil)) env r:=by
 obtain⟨R,h⟩:=h;exact⟨_,by rw[ev,bK,h,aA,bK,aA,aA];show (T.cl f [x]).bind _=_;rw[e,aA]⟩
theorem aK.bP {f:Nat}{r:D}{fr:Bool}(h:aK T a env x) (h2:aK T b env y) (e:T.cl f [x,y] = .ok (r,fr)):aK T (.call f (.cons a (.cons b .nil))) env r:=by
 obtain⟨R,h⟩:=h;obtain⟨R2,h2⟩:=h2;exact⟨_,by rw[ev,bK,h,aA,bK,h2,aA,bK,aA,aA,aA];show (T.cl f [x,y]).bind _=_;rw[e,aA]⟩
theorem aK.call3 {f:Nat}{r:D}{fr:Bool}(h:aK T a env x) (h2:aK T b env y) (h3:aK T c env z) (e:T.cl f [x,y,z] = .ok (r,fr)):aK T (.call f (.cons a (.cons b (.cons c .nil)))) env r:=by
 obtain⟨R,h⟩:=h;obtain⟨R2,h2⟩:=h2;obtain⟨R3,h3⟩:=h3;exact⟨_,by rw[ev,bK,h,aA,bK,h2,aA,bK,h3,aA,bK,aA,aA,aA,aA];show (T.cl f [x,y,z]).bind _=_;rw[e,aA]⟩
theorem aK.blt1 {k:AZ}(h:aK T a env x) (e:lF k [x]=some z):aK T (.blt k (.cons a .nil)) env z:=by
 obtain⟨R,h⟩:=h;exact⟨_,by rw[ev,bK,h,aA,bK,aA,aA];show (gO (lF k [x])).bind _=_;rw[e,aM,aA]⟩
theorem aK.lst1 (h:aK T a env x):aK T (.lst (.cons a .nil)) env (.lst [x]):=by
 obtain⟨R,h⟩:=h;exact⟨_,by rw[ev,bK,h,aA,bK,aA,aA];exact if_pos (by show (1:Nat)≤lim;decide)⟩
theorem aK.not {k:Bool}(h:aK T a env (.bl k)):aK T (.not a) env (.bl (!k)):=by
 obtain⟨R,h⟩:=h;exact⟨_,by rw[ev,h,aA]⟩
theorem aK.and {k:Bool}{w:Bool}(h:aK T a env (.bl k)) (h':k=true→aK T b env (.bl w)) (hw:k=false→w=false):aK T (.and a b) env (.bl w):=by
 obtain⟨R,h⟩:=h;cases k with
 |true=>obtain⟨R',h'⟩:=h' rfl;exact⟨_,by rw[ev,h,aA];exact h'⟩
 |false=>rw[hw rfl];exact⟨_,by rw[ev,h,aA]⟩
theorem aK.or {k:Bool}{w:Bool}(h:aK T a env (.bl k)) (h':k=false→aK T b env (.bl w)) (hw:k=true→w=true):aK T (.or a b) env (.bl w):=by
 obtain⟨R,h⟩:=h;cases k with
 |false=>obtain⟨R',h'⟩:=h' rfl;exact⟨_,by rw[ev,h,aA];exact h'⟩
 |true=>rw[hw rfl];exact⟨_,by rw[ev,h,aA]⟩
theorem jD {k:Bool}{p q:bF}(h:aK T c env (.bl k)):bE T (.ite c p q) env=if k then aC T p env else aC T q env:=by
 obtain⟨R,h⟩:=h;rw[bE,h,aR];cases k<;>rfl
theorem vB {e:Ex}(h:aK T e env d):∃ fr,Pc.ret (aC T (.cons (.ret e) .nil) env) = .ok (d,fr):=by
 obtain⟨R,h⟩:=h;rw[aC,bE,h,aR];exact⟨_,rfl⟩
end
noncomputable def Vw (env:En) (vs:List (Option D)):Prop:=env.length=vs.length∧∀(j:Nat) (d:D),vs[j]? = some (some d)→∃ t,env[j]? = some (some (d,t))
section
variable {T:Tb}{env:En}{vs:List (Option D)}{d:D}
theorem Vw.var (h:Vw env vs) {i:Nat}(e:vs[i]? = some (some d)):aK T (.var i) env d:=by
 obtain⟨t,q⟩:=h.2 i d e;rw[aK,ev,q];exact⟨_,rfl⟩
theorem Vw.put (h:Vw env vs) (i:Nat) (d:D) (t:Tg):Vw (Pc.put env i d t) (vs.set i (some d)):=by
 unfold Pc.put;refine⟨by rw[aq,aq,aj,h.1],fun j x e=>?_⟩;by_cases hj:i=j
 ·subst hj;have hl:i<vs.length:=by
   have:=(List.getElem?_eq_some_iff.mp e).1
   rwa [aq] at this
  rw[List.getElem?_set_self hl] at e;cases e;exact⟨t,List.getElem?_set_self (by rw[aj,h.1];exact hl)⟩
 ·rw[List.getElem?_set_ne hj] at e;obtain⟨t',q⟩:=h.2 j x e;refine⟨t'.drop i,?_⟩;rw[List.getElem?_set_ne hj,List.getElem?_map,q];rfl
theorem Vw.asg (h:Vw env vs) {i:Nat}(hi:i<vs.length) {e:Ex}(he:aK T e env d):∃ env',bE T (.asg (.nm i) e false) env = .nx env'∧Vw env' (vs.set i (some d)):=by
 obtain⟨R,he⟩:=he;rw[bE,he,aR];have hi':i<env.length:=by rw[h.1];exact hi
 show ∃ env',(if i<env.length then _ else _)=_∧_;rw[if_pos hi'];cases R with
 |mv R =>
  cases R with
  |nil=>exact⟨_,rfl,h.put i d _⟩
  |cons r R=>exact⟨_,rfl,h.put i d _⟩
 |sh R=>exact⟨_,rfl,h.put i d _⟩
theorem Vw.bind (h:Vw env vs) {i:Nat}(hi:i<vs.length) (R:List Nat) (d:D):∃ env',aW R (.nm i) d env=some env'∧Vw env' (vs.set i (some d)):=by
 refine⟨_,?_,h.put i d (cG d R)⟩;show (if i<env.length then _ else _)=_;rw[if_pos (by rw[h.1];exact hi)]
theorem Vw.start (ds:List D) (n:Nat):Vw (aF ds n) (ds.map some++List.replicate (n - ds.length) none):=by
 unfold aF;refine⟨by simp,fun j d e=>?_⟩;by_cases hj:j<ds.length
 ·rw[List.getElem?_append_left (by rw[aj];exact hj),List.getElem?_map] at e;rw[List.getElem?_append_left (by rw[aj];exact hj),List.getElem?_map];cases q:ds[j]? with
  |none=>rw[q] at e;cases e
  |some x=>rw[q] at e;cases e;exact⟨_,rfl⟩
 ·rw[List.getElem?_append_right (by rw[aj];omega),List.getElem?_replicate] at e;split at e<;>cases e
end
theorem rS {t:lG}{R:List Nat}{b:En→Fl}(J:Nat→En→Prop):∀(l:List D) (k:Nat) (env:En),J k env →
  (∀(i:Nat) (d:D) (e:En),l[i]? = some d→J (k+i) e→∃ e1 e2,aW R t d e=some e1∧(b e1 = .nx e2∨b e1 = .ct e2)∧J (k+i+1) e2)→∃ e,bD t R b l env = .nx e∧J (k+l.length) e
 |[],k,env,h,_=>⟨env,rfl,h⟩
 | d::r,k,env,h,st=>by
  obtain⟨e1,e2,h1,h2,h3⟩:=st 0 d env rfl h;obtain⟨e,q1,q2⟩:=rS J r (k+1) e2 h3 fun i d e hd hJ=>by
   have:=st (i+1) d e hd (by rw[show k+(i+1)=k+1+i by omega];exact hJ);rw[show k+(i+1)+1=k+1+i+1 by omega] at this;exact this
  refine⟨e,?_,by rw[c9,show k+(r.length+1)=k+1+r.length by omega];exact q2⟩;rw[bD,h1];rcases h2 with h2 | h2
  ·dsimp only;rw[h2];exact q1
  ·dsimp only;rw[h2];exact q1
noncomputable def zG (T:Tb) (iv:Nat):Prop:=∀ a:Nat,a<64→a≠0→T.cl iv [.int (a:Int)] = .ok (.int ((pw a 62:Nat):Int),true)
noncomputable def bIN (g pwf:Nat):bF:=(.cons (.ite (.cmp .Eq (.var 0) (.cst (.int (0)))) (.cons (.expr (.neg (.cst .non)))
  .nil) .nil)
  (.cons (.ret (.call pwf (.cons (.var 0) (.cons (.bin .Sub (.glb g) (.cst (.int (2)))) .nil))))
  .nil))
theorem GH {T:Tb}{g pwf:Nat}(hg:T.gl g = .int 64) (hp:Ak T pwf) {a:Nat}(ha:a<64) (h0:a≠0):Pc.ret (aC T (bIN g pwf) (aF [.int (a:Int)] 1)) = .ok (.int ((pw a 62:Nat):Int),true):=by
 have hst:aF [.int (a:Int)] 1=[sN a]:=rfl;rw[hst];have v0:ev T (.var 0) [sN a] = .ok (.int (a:Int),.mv []):=aJ rfl rfl;have c:ev T (.cmp .Eq (.var 0) (.cst (.int (0)))) [sN a] = .ok (.bl false,.mv []):=by
  rw[ev,v0,aA,ev,aA];show (gO (some ((a:Int)==0))).bind _=_;rw[show ((a:Int)==0)=false by rw[gv];omega];rfl
 have e:ev T (.bin .Sub (.glb g) (.cst (.int (2)))) [sN a] = .ok (.int ((62:Nat):Int),.mv []):=by
  have:∃ R,ev T (.glb g) [sN a] = .ok (.int 64,R):=by
   have:=aK.glb (T:=T) (env:=[sN a]) g;rw[hg] at this;exact this
  obtain⟨R,q⟩:=this;rw[ev,q,aA,ev,aA,aO];rfl
 unfold bIN;rw[aC,ite_ff c,aD];exact gN (Pc.Sm.bP v0 e (hp a 62 ha (by decide)))
noncomputable def Dg (T:Tb) (gp:Nat):Prop:=∀(rule nums:List Nat) (place:Nat),Gr rule→Gr nums→rule.length≤place+1→place<nums.length→T.cl gp [.lst (gD rule),.lst (gD nums),.int (place:Int)] = .ok (.int ((cP nums place 0 rule 0:Nat):Int),true)
noncomputable def CO (t:Nat):bF:=(.cons (.asg (.nm 3) (.bin .BitXor (.var 3) (.call t (.cons (.var 5) (.cons (.ix (.var 1) (.bin .Sub (.var 2) (.var 4))) .nil)))) false)
  .nil)
noncomputable def bGP (t:Nat):bF:=(.cons (.asg (.nm 3) (.cst (.int (0))) false)
  (.cons (.forr (.tp [4,5]) (.enum (.var 0)) (CO t))
  (.cons (.ret (.var 3))
  .nil)))
theorem uX {T:Tb}{t:Nat}(ht:iW T t) (d:D) {nums:List Nat}(hn:Gr nums) {place:Nat}(hp:place<nums.length):∀(r:List Nat) (k g:Nat) (o4 o5:Slot),cC o4→cC o5→k+r.length≤place+1→∃ o4' o5',bD (.tp [4,5]) [] (aC T (CO t)) (Al k r) [some (d,.sh []),sG nums,sN place,sN g,o4,o5] = .nx [some (d,.sh []),sG nums,sN place,sN (cP nums place k r g),o4',o5']
 |[],k,g,o4,o5,_,_,_=>⟨o4,o5,rfl⟩
 | f::r,k,g,o4,o5,t4,t5,hk=>by
  simp only[List.length_cons] at hk;obtain⟨a,b,q⟩:=uX ht d hn hp r (k+1) (g^^^tm f (nums.getD (place - k) 0)) (sN k) (sN f) (aB _) (aB _) (by omega);refine⟨a,b,?_⟩;have te:Tame [some (d,.sh []),sG nums,sN place,sN g,o4,o5]:=.cons (aH _) (.cons (aH _) (.cons (aB _) (.cons (aB _) (.cons t4 (.cons t5 .nil)))));have hb:aW [] (.tp [4,5]) (.tup [.int (k:Int),.int (f:Int)]) [some (d,.sh []),sG nums,sN place,sN g,o4,o5]=some [some (d,.sh []),sG nums,sN place,sN g,sN k,sN f]:=gU te (by simp) (by simp) rfl rfl;have te1:Tame [some (d,.sh []),sG nums,sN place,sN g,sN k,sN f]:=.cons (aH _) (.cons (aH _) (.cons (aB _) (.cons (aB _) (.cons (aB _) (.cons (aB _) .nil)))));have v1:ev T (.var 1) [some (d,.sh []),sG nums,sN place,sN g,sN k,sN f] = .ok (.lst (gD nums),.sh []):=rfl;have v2:ev T (.var 2) [some (d,.sh []),sG nums,sN place,sN g,sN k,sN f] = .ok (.int (place:Int),.mv []):=aJ rfl rfl;have v3:ev T (.var 3) [some (d,.sh []),sG nums,sN place,sN g,sN k,sN f] = .ok (.int (g:Int),.mv []):=aJ rfl rfl;have v4:ev T (.var 4) [some (d,.sh []),sG nums,sN place,sN g,sN k,sN f] = .ok (.int (k:Int),.mv []):=aJ rfl rfl;have v5:ev T (.var 5) [some (d,.sh []),sG nums,sN place,sN g,sN k,sN f] = .ok (.int (f:Int),.mv []):=aJ rfl rfl;have e1:ev T (.bin .Sub (.var 2) (.var 4)) [some (d,.sh []),sG nums,sN place,sN g,sN k,sN f] = .ok (.int ((place - k:Nat):Int),.mv []):=by
   rw[ev,v2,aA,v4,aA,aO];show (gO (some (D.int ((place:Int) - (k:Int))))).bind _=_;rw[show (place:Int) - (k:Int)=((place - k:Nat):Int) by omega];rfl
  have e2:ev T (.ix (.var 1) (.bin .Sub (.var 2) (.var 4))) [some (d,.sh []),sG nums,sN place,sN g,sN k,sN f] = .ok (.int ((nums.getD (place - k) 0:Nat):Int),.mv []):=by
   rw[ev,v1,aA,e1,aA,kE (by omega),aM,aA];rfl
  have e3:=Pc.Sm.bP v5 e2 (ht f _ (fA hn (place - k)));have e4:ev T (.bin .BitXor (.var 3) (.call t (.cons (.var 5) (.cons (.ix (.var 1) (.bin .Sub (.var 2) (.var 4))) .nil)))) [some (d,.sh []),sG nums,sN place,sN g,sN k,sN f] = .ok (.int ((g^^^tm f (nums.getD (place - k) 0):Nat):Int),.mv []):=by
   rw[ev,v3,aA,e3,aA,aO];show (gO (some (D.int (Builtin.bitXor (g:Int) ((tm f (nums.getD (place - k) 0):Nat):Int))))).bind _=_;rw[cZ];rfl
  have s1:bE T (.asg (.nm 3) (.bin .BitXor (.var 3) (.call t (.cons (.var 5) (.cons (.ix (.var 1) (.bin .Sub (.var 2) (.var 4))) .nil)))) false) [some (d,.sh []),sG nums,sN place,sN g,sN k,sN f] = .nx [some (d,.sh []),sG nums,sN place,sN (g^^^tm f (nums.getD (place - k) 0)),sN k,sN f]:=bU te1 (by simp) e4;rw[kg,bD,hb];dsimp only;unfold CO;rw[aC,s1,aD];exact q
theorem GX {T:Tb}{t:Nat}(ht:iW T t) {rule nums:List Nat}{place:Nat}(hr:Gr rule) (hn:Gr nums) (h1:rule.length≤place+1) (h2:place<nums.length):Pc.ret (aC T (bGP t) (aF [.lst (gD rule),.lst (gD nums),.int (place:Int)] 6)) = .ok (.int ((cP nums place 0 rule 0:Nat):Int),true):=by
 have hst:aF [.lst (gD rule),.lst (gD nums),.int (place:Int)] 6=[sG rule,sG nums,sN place,none,none,none]:=rfl;rw[hst];have s1:bE T (.asg (.nm 3) (.cst (.int (0))) false) [sG rule,sG nums,sN place,none,none,none] = .nx [sG rule,sG nums,sN place,sN 0,none,none]:=rfl;obtain⟨a,b,q⟩:=uX ht (.lst (gD rule)) hn h2 rule 0 0 none none aG aG (by omega);have s2:=cN (uP T (env:=[sG rule,sG nums,sN place,sN 0,none,none]) (i:=0) (gs:=rule) rfl) q;unfold bGP;rw[aC,s1,aD,aC,s2,aD];exact gN (aJ (t:=.own) rfl rfl)
noncomputable def CM (T:Tb) (sc:Nat):Prop:=∀(row:List Nat) (f:Nat),Gr row→f<64→row.length≤900→T.cl sc [.lst (gD row),.int (f:Int)] = .ok (.lst (gD (AS row f)),true)
noncomputable def bSC (t:Nat):bF:=(.cons (.ret (.comp 1 [1] (.nm 0) (.seq (.var 0)) .none (.call t (.cons (.var 0) (.cons (.var 1) .nil)))))
  .nil)
theorem Fh {T:Tb}{t:Nat}(ht:iW T t) {row:List Nat}{f:Nat}(hr:Gr row) (hf:f<64) (hl:row.length≤900):Pc.ret (aC T (bSC t) (aF [.lst (gD row),.int (f:Int)] 2)) = .ok (.lst (gD (AS row f)),true):=by
 have hst:aF [.lst (gD row),.int (f:Int)] 2=[sG row,sN f]:=rfl;rw[hst];refine gN ?_;have hit:fQ T (.seq (.var 0)) [sG row,sN f] = .ok (gD row,[]):=rfl;rw[jS (g:=fun d=>match d with | .int k=>(.int ((tm k.toNat f:Nat):Int),.mv []) | _=>(.non,.mv [])) hit (by rw[aU];exact cB (by omega)) (fun d hd=>?_) (fun d hd=>?_)]
 ·rw[gD,AS,gD,bg,bg];rfl
 ·obtain⟨x,hx,rfl⟩:=List.mem_map.mp hd;have hb:aW [] (.nm 0) (.int (x:Int)) (aL [sG row,sN f] 1 [1])=some [sN x,some (.int (f:Int),.sh [])]:=rfl;rw[hb];have w0:ev T (.var 0) [sN x,some (.int (f:Int),.sh [])] = .ok (.int (x:Int),.mv []):=aJ rfl rfl;have w1:ev T (.var 1) [sN x,some (.int (f:Int),.sh [])] = .ok (.int (f:Int),.mv []):=aJ rfl rfl;have e1:=Pc.Sm.bP w0 w1 (ht x f hf);simp only[aX,mQ,aA,if_true,e1,Int.toNat_natCast]
 ·obtain⟨x,hx,rfl⟩:=List.mem_map.mp hd;rfl
end Pc.Vw
end
section
namespace Pc.Vw
open PySem Pc Pc.Sm Pc.Gr Fl64 Md
noncomputable def DL (T:Tb) (ad:Nat):Prop:=∀(a b:List Nat),a.length≤400→b.length≤400→T.cl ad [.lst (gD a),.lst (gD b)] = .ok (.lst (gD (wR a b)),true)
noncomputable def CF:bF:=(.cons (.setix 2 .none (.var 3) (.bin .BitXor (.ix (.var 2) (.var 3)) (.var 4)))
  .nil)
noncomputable def bAD:bF:=(.cons (.asg (.nm 2) (.bin .Add (.var 0) (.bin .Mult (.lst (.cons (.cst (.int (0))) .nil)) (.bin .Sub (.blt .len (.cons (.var 1) .nil)) (.blt .len (.cons (.var 0) .nil))))) false)
  (.cons (.forr (.tp [3,4]) (.enum (.var 1)) CF)
  (.cons (.ret (.var 2))
  .nil)))
theorem wm (n m:Nat) (hn:n≤1000) (hm:m≤1000):nF .Mult (.lst [.int 0]) (.int ((n:Int) - (m:Int)))=some (.lst (gD (List.replicate (n - m) 0))):=by
 by_cases h:m≤n
 ·rw[show (n:Int) - (m:Int)=((n - m:Nat):Int) by omega];exact n6 _ (by omega)
 ·show (if -(2 ^ 63)≤(n:Int) - (m:Int)∧(n:Int) - (m:Int)<2 ^ 63 then (if D.flats [D.int 0] then ck ([D.int 0].length*((n:Int) - (m:Int)).toNat) (.lst (List.replicate ((n:Int) - (m:Int)).toNat [D.int 0]).flatten) else none) else none)=_;rw[if_pos (by omega),show ((n:Int) - (m:Int)).toNat=0 by omega,show n - m=0 by omega];rfl
theorem ui {T:Tb}(a b:List Nat):∀(m:List Nat) (k:Nat) (l:List Nat) (o3 o4:Slot),cC o3→cC o4→k+m.length≤l.length→l.length≤1000→∃ o3' o4',bD (.tp [3,4]) [] (aC T CF) (Al k m) [sG a,sG b,oG l,o3,o4] = .nx [sG a,sG b,oG (eH l k m),o3',o4']
 |[],k,l,o3,o4,_,_,_,_=>⟨o3,o4,rfl⟩
 | g::m,k,l,o3,o4,t3,t4,hk,hl=>by
  simp only[List.length_cons] at hk;obtain⟨p,q,r⟩:=ui (T:=T) a b m (k+1) (l.set k (l.getD k 0^^^g)) (sN k) (sN g) (aB _) (aB _) (by rw[aq];omega) (by rw[aq];exact hl);refine⟨p,q,?_⟩;have te:Tame [sG a,sG b,oG l,o3,o4]:=.cons (aH _) (.cons (aH _) (.cons (aB _) (.cons t3 (.cons t4 .nil))));have hb:aW [] (.tp [3,4]) (.tup [.int (k:Int),.int (g:Int)]) [sG a,sG b,oG l,o3,o4]=some [sG a,sG b,oG l,sN k,sN g]:=gU te (by simp) (by simp) rfl rfl;have te1:Tame [sG a,sG b,oG l,sN k,sN g]:=.cons (aH _) (.cons (aH _) (.cons (aB _) (.cons (aB _) (.cons (aB _) .nil))));have v2:ev T (.var 2) [sG a,sG b,oG l,sN k,sN g] = .ok (.lst (gD l),.mv [2]):=cO rfl rfl;have v3:ev T (.var 3) [sG a,sG b,oG l,sN k,sN g] = .ok (.int (k:Int),.mv []):=aJ rfl rfl;have v4:ev T (.var 4) [sG a,sG b,oG l,sN k,sN g] = .ok (.int (g:Int),.mv []):=aJ rfl rfl;have e1:ev T (.ix (.var 2) (.var 3)) [sG a,sG b,oG l,sN k,sN g] = .ok (.int ((l.getD k 0:Nat):Int),.mv []):=by
   rw[ev,v2,aA,v3,aA,kE (by omega),aM,aA];rfl
  have e2:ev T (.bin .BitXor (.ix (.var 2) (.var 3)) (.var 4)) [sG a,sG b,oG l,sN k,sN g] = .ok (.int ((l.getD k 0^^^g:Nat):Int),.mv []):=by
   rw[ev,e1,aA,v4,aA,aO];show (gO (some (D.int (Builtin.bitXor ((l.getD k 0:Nat):Int) (g:Int))))).bind _=_;rw[cZ];rfl
  have s1:=iF (T:=T) (x:=2) te1 rfl v3 (gL (n:=(gD l).length) (by rw[aU];omega)) e2 (by rw[aU];exact cB hl);rw[kg,bD,hb];dsimp only;unfold CF;rw[aC,s1,aD,jO];exact r
theorem Gj {T:Tb}{a b:List Nat}(ha:a.length≤400) (hb:b.length≤400):Pc.ret (aC T bAD (aF [.lst (gD a),.lst (gD b)] 5)) = .ok (.lst (gD (wR a b)),true):=by
 have hst:aF [.lst (gD a),.lst (gD b)] 5=[sG a,sG b,none,none,none]:=rfl;rw[hst];have te:Tame [sG a,sG b,none,none,none]:=.cons (aH _) (.cons (aH _) (.cons aG (.cons aG (.cons aG .nil))));have l0:=iC (T:=T) (env:=[sG a,sG b,none,none,none]) (i:=0) (gs:=a) (t:=.sh []) rfl;have l1:=iC (T:=T) (env:=[sG a,sG b,none,none,none]) (i:=1) (gs:=b) (t:=.sh []) rfl;have v0:ev T (.var 0) [sG a,sG b,none,none,none] = .ok (.lst (gD a),.sh []):=rfl;have q:ev T (.lst (.cons (.cst (.int (0))) .nil)) [sG a,sG b,none,none,none] = .ok (.lst [.int 0],.mv []):=rfl;have e1:ev T (.bin .Sub (.blt .len (.cons (.var 1) .nil)) (.blt .len (.cons (.var 0) .nil))) [sG a,sG b,none,none,none] = .ok (.int ((b.length:Int) - (a.length:Int)),.mv []):=by
  rw[ev,l1,aA,l0,aA,aO];rfl
 have e2:ev T (.bin .Mult (.lst (.cons (.cst (.int (0))) .nil)) (.bin .Sub (.blt .len (.cons (.var 1) .nil)) (.blt .len (.cons (.var 0) .nil)))) [sG a,sG b,none,none,none] = .ok (.lst (gD (List.replicate (b.length - a.length) 0)),.mv []):=by
  rw[ev,q,aA,e1,aA,wm _ _ (by omega) (by omega),aM,aA,cV (fB _)]
 have e3:ev T (.bin .Add (.var 0) (.bin .Mult (.lst (.cons (.cst (.int (0))) .nil)) (.bin .Sub (.blt .len (.cons (.var 1) .nil)) (.blt .len (.cons (.var 0) .nil))))) [sG a,sG b,none,none,none] = .ok (.lst (gD (a++List.replicate (b.length - a.length) 0)),.mv []):=by
  have hb:nF .Add (.lst (gD a)) (.lst (gD (List.replicate (b.length - a.length) 0)))=some (.lst (gD (a++List.replicate (b.length - a.length) 0))):=by
   show ck ((gD a).length+(gD (List.replicate (b.length - a.length) 0)).length) (.lst (gD a++gD (List.replicate (b.length - a.length) 0)))=_;unfold ck;rw[if_pos (by rw[aU,aU,bc];exact cB (by omega)),cY]
  rw[ev,v0,aA,e2,aA,hb,aM,aA,cV (fB _)]
 have s1:bE T (.asg (.nm 2) (.bin .Add (.var 0) (.bin .Mult (.lst (.cons (.cst (.int (0))) .nil)) (.bin .Sub (.blt .len (.cons (.var 1) .nil)) (.blt .len (.cons (.var 0) .nil))))) false) [sG a,sG b,none,none,none] = .nx [sG a,sG b,oG (a++List.replicate (b.length - a.length) 0),none,none]:=bU te (by simp) e3;obtain⟨p,r,h⟩:=ui (T:=T) a b b 0 (a++List.replicate (b.length - a.length) 0) none none aG aG (by simp;omega) (by simp;omega);have s2:=cN (uP T (env:=[sG a,sG b,oG (a++List.replicate (b.length - a.length) 0),none,none]) (i:=1) (gs:=b) rfl) h;unfold bAD;rw[aC,s1,aD,aC,s2,aD];show Pc.ret (aC T (.cons (.ret (.var 2)) .nil) [sG a,sG b,oG (wR a b),p,r])=_;generalize wR a b=l;simp[aC,bE,ev,aR,D.flat,lO,Pc.ret,bW]
noncomputable def EE (T:Tb) (dp:Nat):Prop:=∀(x:Nat) (ls:List Nat),x<64→Gr ls→T.cl dp [.int (x:Int),.lst (gD ls)] = .ok (.int ((cH x 1 ls:Nat):Int),true)
noncomputable def Bl (t:Nat):bF:=(.cons (.ite (.cmp .NotEq (.var 3) (.var 0)) (.cons (.asg (.nm 2) (.call t (.cons (.var 2) (.cons (.bin .BitXor (.var 0) (.var 3)) .nil))) false)
  .nil) .nil)
  .nil)
noncomputable def bDP (t:Nat):bF:=(.cons (.asg (.nm 2) (.cst (.int (1))) false)
  (.cons (.forr (.nm 3) (.seq (.var 1)) (Bl t))
  (.cons (.ret (.var 2))
  .nil)))
theorem uO {T:Tb}{t:Nat}(ht:iW T t) {x:Nat}(hx:x<64) (d:D):∀(ls:List Nat) (pr:Nat) (o:Slot),Gr ls→pr<64→cC o→∃ o',bD (.nm 3) [] (aC T (Bl t)) (gD ls) [sN x,some (d,.sh []),sN pr,o] = .nx [sN x,some (d,.sh []),sN (cH x pr ls),o']
 |[],pr,o,_,_,_=>⟨o,rfl⟩
 | y::ls,pr,o,hl,hp,to=>by
  have y64:=hl y ag;obtain⟨o',r⟩:=uO ht hx d ls (if y=x then pr else tm pr (x^^^y)) (sN y) (fun z hz=>hl z (aa _ hz)) (by split;exact hp;exact aY hp (aV hx y64)) (aB _);refine⟨o',?_⟩;have te:Tame [sN x,some (d,.sh []),sN pr,o]:=.cons (aB _) (.cons (aH _) (.cons (aB _) (.cons to .nil)));have hb:aW [] (.nm 3) (.int (y:Int)) [sN x,some (d,.sh []),sN pr,o]=some [sN x,some (d,.sh []),sN pr,sN y]:=fM te (by simp);have te1:Tame [sN x,some (d,.sh []),sN pr,sN y]:=.cons (aB _) (.cons (aH _) (.cons (aB _) (.cons (aB _) .nil)));have v0:ev T (.var 0) [sN x,some (d,.sh []),sN pr,sN y] = .ok (.int (x:Int),.mv []):=aJ rfl rfl;have v2:ev T (.var 2) [sN x,some (d,.sh []),sN pr,sN y] = .ok (.int (pr:Int),.mv []):=aJ rfl rfl;have v3:ev T (.var 3) [sN x,some (d,.sh []),sN pr,sN y] = .ok (.int (y:Int),.mv []):=aJ rfl rfl;have c:aK T (.cmp .NotEq (.var 3) (.var 0)) [sN x,some (d,.sh []),sN pr,sN y] (.bl (!((y:Int)==(x:Int)))):=aK.cmp ⟨_,v3⟩ ⟨_,v0⟩ rfl;have e1:ev T (.bin .BitXor (.var 0) (.var 3)) [sN x,some (d,.sh []),sN pr,sN y] = .ok (.int ((x^^^y:Nat):Int),.mv []):=by
   rw[ev,v0,aA,v3,aA,aO];show (gO (some (D.int (Builtin.bitXor (x:Int) (y:Int))))).bind _=_;rw[cZ];rfl
  have s1:bE T (.asg (.nm 2) (.call t (.cons (.var 2) (.cons (.bin .BitXor (.var 0) (.var 3)) .nil))) false) [sN x,some (d,.sh []),sN pr,sN y] = .nx [sN x,some (d,.sh []),sN (tm pr (x^^^y)),sN y]:=bU te1 (by simp) (Pc.Sm.bP v2 e1 (ht pr _ (aV hx y64)));have st:aC T (Bl t) [sN x,some (d,.sh []),sN pr,sN y] = .nx [sN x,some (d,.sh []),sN (if y=x then pr else tm pr (x^^^y)),sN y]:=by
   unfold Bl;rw[aC,jD c];by_cases e:y=x
   ·rw[if_pos e,show (!((y:Int)==(x:Int)))=false by rw[e];simp];rfl
   ·rw[if_neg e,show (!((y:Int)==(x:Int)))=true by simp;omega];simp only[if_true];rw[aC,s1,aD];rfl
  rw[gD,ax,bD,hb];dsimp only;rw[st];exact r
theorem Fe {T:Tb}{t:Nat}(ht:iW T t) {x:Nat}(hx:x<64) {ls:List Nat}(hl:Gr ls):Pc.ret (aC T (bDP t) (aF [.int (x:Int),.lst (gD ls)] 4)) = .ok (.int ((cH x 1 ls:Nat):Int),true):=by
 have hst:aF [.int (x:Int),.lst (gD ls)] 4=[sN x,sG ls,none,none]:=rfl;rw[hst];have s1:bE T (.asg (.nm 2) (.cst (.int (1))) false) [sN x,sG ls,none,none] = .nx [sN x,sG ls,sN 1,none]:=rfl;obtain⟨o',h⟩:=uO ht hx (.lst (gD ls)) ls 1 none hl (by decide) aG;have hit:fQ T (.seq (.var 1)) [sN x,sG ls,sN 1,none] = .ok (gD ls,[]):=rfl;have s2:=cN hit h;unfold bDP;rw[aC,s1,aD,aC,s2,aD];exact gN (aJ (t:=.own) rfl rfl)
noncomputable def C0 (T:Tb) (lo:Nat):Prop:=∀(p n:Nat),p<n→n≤1000→T.cl lo [.int (p:Int),.int (n:Int)] = .ok (.int ((loc n p:Nat):Int),true)
noncomputable def bLO (pwf:Nat):bF:=(.cons (.ret (.call pwf (.cons (.cst (.int (2))) (.cons (.bin .Sub (.bin .Sub (.var 1) (.cst (.int (1)))) (.var 0)) .nil))))
  .nil)
theorem Fs {T:Tb}{pwf:Nat}(hp:Ak T pwf) {p n:Nat}(h:p<n) (hn:n≤1000):Pc.ret (aC T (bLO pwf) (aF [.int (p:Int),.int (n:Int)] 2)) = .ok (.int ((loc n p:Nat):Int),true):=by
 have hst:aF [.int (p:Int),.int (n:Int)] 2=[sN p,sN n]:=rfl;rw[hst];have v0:ev T (.var 0) [sN p,sN n] = .ok (.int (p:Int),.mv []):=aJ rfl rfl;have v1:ev T (.var 1) [sN p,sN n] = .ok (.int (n:Int),.mv []):=aJ rfl rfl;have e:ev T (.bin .Sub (.bin .Sub (.var 1) (.cst (.int (1)))) (.var 0)) [sN p,sN n] = .ok (.int ((n - 1 - p:Nat):Int),.mv []):=by
  have e1:ev T (.bin .Sub (.var 1) (.cst (.int (1)))) [sN p,sN n] = .ok (.int ((n:Int) - 1),.mv []):=by
   rw[ev,v1,aA,ev,aA,aO];rfl
  rw[ev,e1,aA,v0,aA,aO];show (gO (some (D.int ((n:Int) - 1 - (p:Int))))).bind _=_;rw[show (n:Int) - 1 - (p:Int)=((n - 1 - p:Nat):Int) by omega];rfl
 have c2:ev T (.cst (.int (2))) [sN p,sN n] = .ok (.int ((2:Nat):Int),.mv []):=rfl;exact gN (Pc.Sm.bP c2 e (hp 2 _ (by decide) (g7 (show _≤1000 by omega) (by decide))))
end Pc.Vw
end
section
namespace Pc.Vw
open PySem Pc Pc.Sm Pc.Gr Fl64 Md
noncomputable def GI (T:Tb) (sr:Nat):Prop:=∀(nums:List Nat),Gr nums→nums.length≤100→∃ fr,T.cl sr [.lst (gD nums)] = .ok (.lst (gD (m4 nums nums.length).rule),fr)
noncomputable def zv (tmf iv gp sc ad:Nat):bF:=(.cons (.asg (.nm 3) (.bin .Add (.lst (.cons (.cst (.int (0))) .nil)) (.var 3)) false)
  (.cons (.asg (.nm 6) (.call gp (.cons (.var 1) (.cons (.var 0) (.cons (.var 5) .nil)))) false)
  (.cons (.ite (.cmp .Eq (.var 6) (.cst (.int (0)))) (.cons .cnt
  .nil) .nil)
  (.cons (.asg (.nm 7) (.call ad (.cons (.var 1) (.cons (.call sc (.cons (.var 3) (.cons (.call tmf (.cons (.var 6) (.cons (.call iv (.cons (.var 4) .nil)) .nil))) .nil))) .nil))) false)
  (.cons (.ite (.cmp .LtE (.bin .Mult (.cst (.int (2))) (.var 2)) (.var 5)) (.cons (.asg (.nm 2) (.bin .Sub (.bin .Add (.var 5) (.cst (.int (1)))) (.var 2)) false)
  (.cons (.asg (.nm 3) (.var 1) false)
  (.cons (.asg (.nm 4) (.var 6) false)
  .nil))) .nil)
  (.cons (.asg (.nm 1) (.var 7) false)
  .nil))))))
noncomputable def bSR (tmf iv gp sc ad:Nat):bF:=(.cons (.asg (.nm 1) (.lst (.cons (.cst (.int (1))) .nil)) false)
  (.cons (.asg (.nm 2) (.cst (.int (0))) false)
  (.cons (.asg (.nm 3) (.lst (.cons (.cst (.int (1))) .nil)) false)
  (.cons (.asg (.nm 4) (.cst (.int (1))) false)
  (.cons (.forr (.nm 5) (.rng1 (.blt .len (.cons (.var 0) .nil))) (zv tmf iv gp sc ad))
  (.cons (.ret (.var 1))
  .nil))))))
noncomputable abbrev nD (n:Nat):Option D:=some (.int (n:Int))
noncomputable abbrev lD (l:List Nat):Option D:=some (.lst (gD l))
noncomputable def SrV (nums:List Nat) (s:Sr) (env:En):Prop:=∃ v5 v6 v7,Vw env [lD nums,lD s.rule,nD s.len,lD s.fo,nD s.gap,v5,v6,v7]
theorem Ag {T:Tb}{tmf iv gp sc ad:Nat}(ht:iW T tmf) (hi:zG T iv) (hg:Dg T gp) (hs:CM T sc) (ha:DL T ad) {nums:List Nat}(hn:Gr nums) (hl:nums.length≤100) {n:Nat}(hn':n<nums.length) {s:Sr}(o:pE nums n s) {env:En}(V:SrV nums s env) (R:List Nat) :
  ∃ e1 e2,aW R (.nm 5) (.int (n:Int)) env=some e1∧(aC T (zv tmf iv gp sc ad) e1 = .nx e2∨aC T (zv tmf iv gp sc ad) e1 = .ct e2)∧SrV nums (s.step nums n) e2:=by
 obtain⟨v5,v6,v7,V⟩:=V;have hle:=o.bm.le;have lr:=o.lr;have lf:=o.lf;obtain⟨e1,b1,V1⟩:=V.bind (i:=5) (show (5:Nat)<8 by decide) R (.int (n:Int));have V1:Vw e1 [lD nums,lD s.rule,nD s.len,lD s.fo,nD s.gap,nD n,v6,v7]:=V1;refine⟨e1,?_⟩;obtain⟨e2,q2,V2⟩:=V1.asg (T:=T) (i:=3) (show (3:Nat)<8 by decide) (aK.bin (op:=.Add) (aK.lst1 (aK.cst (.int 0))) (V1.var (i:=3) rfl) (z:=.lst (gD (0::s.fo))) (by
  show ck (1+(gD s.fo).length) (.lst ([D.int 0]++gD s.fo))=_;unfold ck;rw[if_pos (by rw[aU];exact cB (by omega))];rfl))
 have V2:Vw e2 [lD nums,lD s.rule,nD s.len,lD (0::s.fo),nD s.gap,nD n,v6,v7]:=V2;obtain⟨e3,q3,V3⟩:=V2.asg (T:=T) (i:=6) (show (6:Nat)<8 by decide) (aK.call3 (V2.var (i:=1) rfl) (V2.var (i:=0) rfl) (V2.var (i:=5) rfl) (hg s.rule nums n o.gr hn o.rl hn'));have V3:Vw e3 [lD nums,lD s.rule,nD s.len,lD (0::s.fo),nD s.gap,nD n,nD (cP nums n 0 s.rule 0),v7]:=V3;have c1:aK T (.cmp .Eq (.var 6) (.cst (.int (0)))) e3 (.bl (((cP nums n 0 s.rule 0:Nat):Int)==0)):=aK.cmp (V3.var (i:=6) rfl) (aK.cst _) rfl;unfold zv;by_cases h0:cP nums n 0 s.rule 0=0
 ·refine⟨e3,b1,.inr ?_,?_⟩
  ·rw[aC,q2,aD,aC,q3,aD,aC,jD c1,h0];rfl
  ·unfold Sr.step;rw[if_pos h0];exact⟨_,_,_,V3⟩
 ·have g64:=jP hn n (k:=0) o.gr (g:=0) (by decide);have t64:=aY g64 (bB o.gg 62);have c1':(((cP nums n 0 s.rule 0:Nat):Int)==0)=false:=by rw[gv];omega
  obtain⟨e4,q4,V4⟩:=V3.asg (T:=T) (i:=7) (show (7:Nat)<8 by decide) (aK.bP (V3.var (i:=1) rfl) (aK.bP (V3.var (i:=3) rfl) (aK.bP (V3.var (i:=6) rfl) (aK.lq (V3.var (i:=4) rfl) (hi s.gap o.gg o.ne)) (ht _ _ (bB o.gg 62))) (hs (0::s.fo) _ (Co o.gf) t64 (by simp;omega))) (ha s.rule _ (by omega) (by simp[AS];omega)));have V4:Vw e4 [lD nums,lD s.rule,nD s.len,lD (0::s.fo),nD s.gap,nD n,nD (cP nums n 0 s.rule 0),lD (s.qK nums n)]:=V4;have c2:aK T (.cmp .LtE (.bin .Mult (.cst (.int (2))) (.var 2)) (.var 5)) e4 (.bl (decide (2*(s.len:Int)≤(n:Int)))):=aK.cmp (aK.bin (op:=.Mult) (aK.cst _) (V4.var (i:=2) rfl) (z:=.int (2*(s.len:Int))) rfl) (V4.var (i:=5) rfl) rfl;by_cases h2:2*s.len≤n
  ·obtain⟨e5,q5,V5⟩:=V4.asg (T:=T) (i:=2) (show (2:Nat)<8 by decide) (aK.bin (op:=.Sub) (aK.bin (op:=.Add) (V4.var (i:=5) rfl) (aK.cst (.int 1)) (z:=.int ((n:Int)+1)) rfl) (V4.var (i:=2) rfl) (z:=.int ((n+1 - s.len:Nat):Int)) (by
    show some (D.int ((n:Int)+1 - (s.len:Int)))=_;rw[show (n:Int)+1 - (s.len:Int)=((n+1 - s.len:Nat):Int) by omega]))
   have V5:Vw e5 [lD nums,lD s.rule,nD (n+1 - s.len),lD (0::s.fo),nD s.gap,nD n,nD (cP nums n 0 s.rule 0),lD (s.qK nums n)]:=V5;obtain⟨e6,q6,V6⟩:=V5.asg (T:=T) (i:=3) (show (3:Nat)<8 by decide) (V5.var (i:=1) rfl);have V6:Vw e6 [lD nums,lD s.rule,nD (n+1 - s.len),lD s.rule,nD s.gap,nD n,nD (cP nums n 0 s.rule 0),lD (s.qK nums n)]:=V6;obtain⟨e7,q7,V7⟩:=V6.asg (T:=T) (i:=4) (show (4:Nat)<8 by decide) (V6.var (i:=6) rfl);have V7:Vw e7 [lD nums,lD s.rule,nD (n+1 - s.len),lD s.rule,nD (cP nums n 0 s.rule 0),nD n,nD (cP nums n 0 s.rule 0),lD (s.qK nums n)]:=V7;obtain⟨e8,q8,V8⟩:=V7.asg (T:=T) (i:=1) (show (1:Nat)<8 by decide) (V7.var (i:=7) rfl);refine⟨e8,b1,.inl ?_,?_⟩
   ·rw[aC,q2,aD,aC,q3,aD,aC,jD c1,c1'];simp only[Bool.false_eq_true,if_false];rw[aC,aD,aC,q4,aD,aC,jD c2,dq (show 2*(s.len:Int)≤(n:Int) by omega)];simp only[if_true];rw[aC,q5,aD,aC,q6,aD,aC,q7,aD,aC,aD,aC,q8,aD];rfl
   ·unfold Sr.step;rw[if_neg h0,if_pos h2];exact⟨_,_,_,V8⟩
  ·obtain⟨e8,q8,V8⟩:=V4.asg (T:=T) (i:=1) (show (1:Nat)<8 by decide) (V4.var (i:=7) rfl);refine⟨e8,b1,.inl ?_,?_⟩
   ·rw[aC,q2,aD,aC,q3,aD,aC,jD c1,c1'];simp only[Bool.false_eq_true,if_false];rw[aC,aD,aC,q4,aD,aC,jD c2,de (show ¬ 2*(s.len:Int)≤(n:Int) by omega)];simp only[Bool.false_eq_true,if_false];rw[aC,aD,aC,q8,aD];rfl
   ·unfold Sr.step;rw[if_neg h0,if_neg h2];exact⟨_,_,_,V8⟩
theorem Vw.len {T:Tb}{env:En}{vs:List (Option D)}(h:Vw env vs) {i:Nat}{l:List Nat}(e:vs[i]? = some (lD l)):aK T (.blt .len (.cons (.var i) .nil)) env (.int (l.length:Int)):=aK.blt1 (h.var e) (qv l)
theorem qw {T:Tb}{env:En}{e:Ex}{n:Nat}(h:aK T e env (.int (n:Int))) (hn:n≤1000):fQ T (.rng1 e) env = .ok ((List.range n).map fun (k:Nat)=>D.int (k:Int),[]):=by
 obtain⟨R,h⟩:=h;rw[pH T env e _ R h (qm hn),bj];have:=eC n 0;rw[show ((0:Nat):Int)=0 from rfl] at this;rw[this,List.range_eq_range']
theorem Eb {T:Tb}{tmf iv gp sc ad:Nat}(ht:iW T tmf) (hi:zG T iv) (hg:Dg T gp) (hs:CM T sc) (ha:DL T ad) {nums:List Nat}(hn:Gr nums) (hl:nums.length≤100):∃ fr,Pc.ret (aC T (bSR tmf iv gp sc ad) (aF [.lst (gD nums)] 8)) = .ok (.lst (gD (m4 nums nums.length).rule),fr):=by
 have V0:Vw (aF [.lst (gD nums)] 8) [lD nums,none,none,none,none,none,none,none]:=Vw.start [.lst (gD nums)] 8;obtain⟨e1,q1,V1⟩:=V0.asg (T:=T) (i:=1) (show (1:Nat)<8 by decide) (aK.lst1 (aK.cst (.int 1)));obtain⟨e2,q2,V2⟩:=V1.asg (T:=T) (i:=2) (show (2:Nat)<8 by decide) (aK.cst (.int 0));obtain⟨e3,q3,V3⟩:=V2.asg (T:=T) (i:=3) (show (3:Nat)<8 by decide) (aK.lst1 (aK.cst (.int 1)));obtain⟨e4,q4,V4⟩:=V3.asg (T:=T) (i:=4) (show (4:Nat)<8 by decide) (aK.cst (.int 1));have V4:Vw e4 [lD nums,lD [1],nD 0,lD [1],nD 1,none,none,none]:=V4;obtain⟨e5,q5,V5⟩:=rS (t:=.nm 5) (R:=[]) (b:=aC T (zv tmf iv gp sc ad)) (fun k env=>k≤nums.length→SrV nums (m4 nums k) env) ((List.range nums.length).map fun (k:Nat)=>D.int (k:Int)) 0 e4 (fun _=>⟨_,_,_,V4⟩) (fun i d e hd J=>by
  rw[List.getElem?_map] at hd;have hi':i<nums.length:=by
   cases q:(List.range nums.length)[i]? with
   |none=>rw[q] at hd;cases hd
   |some z=>have:=(List.getElem?_eq_some_iff.mp q).1;rwa [cg] at this
  rw[List.getElem?_range hi'] at hd;cases hd;rw[eo] at J ⊢;obtain⟨x,y,z1,z2,z3⟩:=Ag ht hi hg hs ha hn hl hi' (ub hn i) (J (by omega)) [];exact⟨x,y,z1,z2,fun _=>z3⟩)
 have q5':=cN (qw (V4.len (T:=T) (i:=0) rfl) (by omega)) q5;simp only[List.length_map,List.length_range,Nat.zero_add] at V5;obtain⟨v5,v6,v7,V5⟩:=V5 (au _);unfold bSR;rw[aC,q1,aD,aC,q2,aD,aC,q3,aD,aC,q4,aD,aC,q5',aD];exact vB (V5.var (i:=1) rfl)
theorem xk (mi:List Nat) (p:Nat):inD (.int (p:Int)) (.lst (gD mi))=some (mi.contains p):=by
 show (if (true&&(gD mi).all D.ja)=true then some ((gD mi).any fun y=>D.eqs y (.int (p:Int))) else none)=_;have h1:(gD mi).all D.ja=true:=by rw[List.all_map,bw];intro _ _;rfl
 rw[h1,Bool.and_self,if_pos rfl,List.any_map];congr 1
 induction mi with
 |nil=>rfl
 |cons a l ih =>
  rw[ie,g8,ih (by rw[List.all_map,bw];intro _ _;rfl)];congr 1;show ((a:Int)==(p:Int))=(p==a);rw[Bool.eq_iff_iff];simp;omega
end Pc.Vw
end
section
namespace Pc.Vw
open PySem Pc Pc.Sm Pc.Gr Fl64 Md
theorem Av {T:Tb}{env:En}{e:Ex}{l:List D}(h:aK T e env (.lst l)):∃ R,fQ T (.seq e) env = .ok (l,R):=by
 obtain⟨R,h⟩:=h;exact⟨R.roots,by rw[fQ,h,aA];rfl⟩
theorem Cg {T:Tb}{env:En}{pick:List Nat}{it:rT}{e:Ex}{l:List Nat}{R:List Nat}{g:Nat→Nat}(hit:fQ T it env = .ok (gD l,R)) (hl:l.length≤1000) (hg:∀ a∈l,aK T e (put (aL env 1 pick) 0 (.int (a:Int)) .own) (.int ((g a:Nat):Int))) (h0:0<(aL env 1 pick).length) :
  aK T (.comp 1 pick (.nm 0) it .none e) env (.lst (gD (l.map g))):=by
 have key:∀(l:List Nat),(∀ a∈l,aK T e (put (aL env 1 pick) 0 (.int (a:Int)) .own) (.int ((g a:Nat):Int)))→∃ qs:List (D×Rt),dJ (fun d=>aX (aW [] (.nm 0) d (aL env 1 pick)) (mQ T .none) (ev T e)) (gD l) = .ok qs∧qs.map (·.1)=gD (l.map g)∧qs.all (fun q=>q.1.flat || eT q.2)=true:=by
  intro l
  induction l with
  |nil=>exact fun _=>⟨[],rfl,rfl,rfl⟩
  |cons a r ih =>
   intro h;obtain⟨qs,a1,a2,a3⟩:=ih fun b hb=>h b (aa _ hb)
   obtain⟨R',hR⟩:=h a ag;refine⟨(.int ((g a:Nat):Int),R')::qs,?_,?_,?_⟩
   ·have hb:aW [] (.nm 0) (.int (a:Int)) (aL env 1 pick)=some (put (aL env 1 pick) 0 (.int (a:Int)) .own):=by
     show (if 0<(aL env 1 pick).length then some (put (aL env 1 pick) 0 (.int (a:Int)) .own) else none)=_;rw[if_pos h0]
    have step:aX (aW [] (.nm 0) (.int (a:Int)) (aL env 1 pick)) (mQ T .none) (ev T e) = .ok (some (.int ((g a:Nat):Int),R')):=by
     simp only[hb,aX,mQ,aA,if_true,hR]
    rw[gD,ax,dJ,step,aA,show (r.map fun (g:Nat)=>D.int (g:Int))=gD r from rfl,a1];rfl
   ·rw[ax,a2];rfl
   ·rw[dh,a3];rfl
 obtain⟨qs,a1,a2,a3⟩:=key l hg;rw[aK,ev,hit,aA,a1,aA];dsimp only;rw[if_pos (by rw[aU];exact cB hl),a2];exact⟨_,rfl⟩
theorem xy {T:Tb}{env:En}{pick:List Nat}{it:rT}{ce:Ex}{l:List Nat}{R:List Nat}{c:Nat→Bool}(hit:fQ T it env = .ok (gD l,R)) (hl:l.length≤1000) (hg:∀ a∈l,aK T ce (put (aL env 1 pick) 0 (.int (a:Int)) .own) (.bl (c a))) (h0:0<(aL env 1 pick).length) :
  aK T (.comp 1 pick (.nm 0) it (.some ce) (.var 0)) env (.lst (gD (l.filter c))):=by
 have key:∀(l:List Nat),(∀ a∈l,aK T ce (put (aL env 1 pick) 0 (.int (a:Int)) .own) (.bl (c a)))→∃ qs:List (D×Rt),dJ (fun d=>aX (aW [] (.nm 0) d (aL env 1 pick)) (mQ T (.some ce)) (ev T (.var 0))) (gD l) = .ok qs∧qs.map (·.1)=gD (l.filter c)∧qs.all (fun q=>q.1.flat || eT q.2)=true:=by
  intro l
  induction l with
  |nil=>exact fun _=>⟨[],rfl,rfl,rfl⟩
  |cons a r ih =>
   intro h;obtain⟨qs,a1,a2,a3⟩:=ih fun b hb=>h b (aa _ hb)
   obtain⟨R',hR⟩:=h a ag;have hb:aW [] (.nm 0) (.int (a:Int)) (aL env 1 pick)=some (put (aL env 1 pick) 0 (.int (a:Int)) .own):=by
    show (if 0<(aL env 1 pick).length then some (put (aL env 1 pick) 0 (.int (a:Int)) .own) else none)=_;rw[if_pos h0]
   have hv:ev T (.var 0) (put (aL env 1 pick) 0 (.int (a:Int)) .own) = .ok (.int (a:Int),.mv []):=aJ (t:=.own) (by
    unfold Pc.put;exact List.getElem?_set_self (by rw[aj];exact h0)) rfl
   cases hc:c a with
   |true =>
    refine⟨(.int (a:Int),.mv [])::qs,?_,?_,?_⟩
    ·rw[hc] at hR;have step:aX (aW [] (.nm 0) (.int (a:Int)) (aL env 1 pick)) (mQ T (.some ce)) (ev T (.var 0)) = .ok (some (.int (a:Int),.mv [])):=by
      simp only[hb,aX,mQ,hR,aA,truth,aM,if_true,hv]
     rw[gD,ax,dJ,step,aA,show (r.map fun (g:Nat)=>D.int (g:Int))=gD r from rfl,a1];rfl
    ·rw[ax,a2,List.filter_cons_of_pos hc];rfl
    ·rw[dh,a3];rfl
   |false =>
    refine⟨qs,?_,?_,a3⟩
    ·rw[hc] at hR;have step:aX (aW [] (.nm 0) (.int (a:Int)) (aL env 1 pick)) (mQ T (.some ce)) (ev T (.var 0)) = .ok none:=by
      simp only[hb,aX,mQ,hR,aA,truth,aM,Bool.false_eq_true,if_false]
     rw[gD,ax,dJ,step,aA,show (r.map fun (g:Nat)=>D.int (g:Int))=gD r from rfl,a1];rfl
    ·rw[a2,List.filter_cons_of_neg (by rw[hc];decide)]
 obtain⟨qs,a1,a2,a3⟩:=key l hg;rw[aK,ev,hit,aA,a1,aA];dsimp only;rw[if_pos (by rw[aU];exact cB hl),a2];exact⟨_,rfl⟩
theorem Vw.picked {env:En}{vs ws:List (Option D)}(h:Vw env vs) {pick:List Nat}(hw:∀(j:Nat) (d:D),ws[j]? = some (some d)→∃ i,pick[j]? = some i∧vs[i]? = some (some d)) (hl:ws.length=pick.length) (a:D) :
  0<(aL env 1 pick).length∧Vw (Pc.put (aL env 1 pick) 0 a .own) (some a::ws):=by
 have hlen:(aL env 1 pick).length=ws.length+1:=by unfold aL;simp[hl,Nat.add_comm]
 have V:Vw (aL env 1 pick) (none::ws):=by
  refine⟨by rw[hlen];simp,fun j d e=>?_⟩;cases j with
  |zero=>cases e
  |succ j =>
   have e:ws[j]? = some (some d):=e;obtain⟨i,p1,p2⟩:=hw j d e;refine⟨.sh [],?_⟩;unfold aL;rw[List.getElem?_append_right (by simp),List.length_replicate,show j+1 - 1=j by omega,List.getElem?_map,p1];obtain⟨t,q⟩:=h.2 i d p2;show some (match env[i]? with | some (some (d,_))=>some (d,Tg.sh []) | _=>none:Slot)=_;rw[q]
 exact⟨by omega,V.put 0 a .own⟩
theorem BR (l:List Nat) (m c:Nat):slD (.lst (gD l)) (some (m:Int)) (some (c:Int))=some (.lst (gD ((l.take c).drop m))):=by
 show some (D.lst (cut (gD l) (some (m:Int)) (some (c:Int))))=_;unfold cut cF;simp only;rw[if_neg (by omega),if_neg (by omega),bj,bj,aU,gD,gD,←List.map_drop,←List.map_take];congr 3;rw[List.drop_take];by_cases h:m≤l.length
 ·rw[Nat.min_eq_left h];by_cases h2:c≤l.length
  ·rw[Nat.min_eq_left h2]
  ·rw[Nat.min_eq_right (by omega),iu (by rw[fq];omega),iu (by rw[fq];omega)]
 ·rw[Nat.min_eq_right (show l.length≤m by omega),List.drop_of_length_le (au _),List.drop_of_length_le (show l.length≤m by omega)];simp
theorem Fj (l:List Nat) (c:Nat):slD (.lst (gD l)) none (some (c:Int))=some (.lst (gD (l.take c))):=by
 have:=BR l 0 c;rw[List.drop_zero] at this;rw[←this];show some (D.lst (cut (gD l) none (some (c:Int))))=some (D.lst (cut (gD l) (some ((0:Nat):Int)) (some (c:Int))));unfold cut cF;simp
theorem aK.sl {T:Tb}{env:En}{a lo hi:Ex}{x z:D}{m c:Int}(h:aK T a env x) (h1:aK T lo env (.int m)) (h2:aK T hi env (.int c)) (e:slD x (some m) (some c)=some z):aK T (.sl a (.some lo) (.some hi)) env z:=by
 obtain⟨R,h⟩:=h;obtain⟨R1,h1⟩:=h1;obtain⟨R2,h2⟩:=h2;exact⟨_,by rw[ev,h,aA,mH,h1,aA];dsimp only;rw[aA,mH,h2,aA];dsimp only;rw[aA,e,aM,aA]⟩
noncomputable def CS (T:Tb) (su:Nat):Prop:=∀(wo mi:List Nat) (n:Nat),Gr wo→wo.length≤62→mi.length≤63→(∀ p∈mi,p<n)→n≤63→∃ fr,T.cl su [.lst (gD wo),.lst (gD mi),.int (n:Int)] = .ok (.lst (gD (susp wo mi n)),fr)
noncomputable def bSU (wa rp rn lo sr:Nat):bF:=(.cons (.asg (.nm 3) (.call rn (.cons (.comp 1 [2] (.nm 0) (.seq (.var 1)) .none (.call lo (.cons (.var 0) (.cons (.var 1) .nil)))) .nil)) false)
  (.cons (.asg (.nm 4) (.sl (.call rp (.cons (.var 0) (.cons (.var 3) .nil))) (.some (.blt .len (.cons (.var 1) .nil))) (.some (.blt .len (.cons (.var 0) .nil)))) false)
  (.cons (.asg (.nm 5) (.call sr (.cons (.var 4) .nil)) false)
  (.cons (.asg (.nm 6) (.comp 1 [1] (.nm 0) (.rng1 (.var 2)) (.some (.cmp .NotIn (.var 0) (.var 1))) (.var 0)) false)
  (.cons (.ret (.comp 1 [2,5] (.nm 0) (.seq (.var 6)) (.some (.cmp .Eq (.call wa (.cons (.var 2) (.cons (.call lo (.cons (.var 0) (.cons (.var 1) .nil))) .nil))) (.cst (.int (0))))) (.var 0)))
  .nil)))))
theorem CJ {T:Tb}{wa rp rn lo sr:Nat}(hw:tw T wa) (hrp:xi T rp) (hrn:DX T rn) (hlo:C0 T lo) (hsr:GI T sr) {wo mi:List Nat}{n:Nat}(gw:Gr wo) (lw:wo.length≤62) (lm:mi.length≤63) (hm:∀ p∈mi,p<n) (hn:n≤63) :
  ∃ fr,Pc.ret (aC T (bSU wa rp rn lo sr) (aF [.lst (gD wo),.lst (gD mi),.int (n:Int)] 7)) = .ok (.lst (gD (susp wo mi n)),fr):=by
 have V0:Vw (aF [.lst (gD wo),.lst (gD mi),.int (n:Int)] 7) [lD wo,lD mi,nD n,none,none,none,none]:=Vw.start _ 7;have lg:=jY n mi;obtain⟨R1,i1⟩:=Av (T:=T) (V0.var (i:=1) rfl);have c1:aK T (.comp 1 [2] (.nm 0) (.seq (.var 1)) .none (.call lo (.cons (.var 0) (.cons (.var 1) .nil)))) (aF [.lst (gD wo),.lst (gD mi),.int (n:Int)] 7) (.lst (gD (locs n mi))):=Cg i1 (by omega) (fun a ha=>by
  obtain⟨_,W⟩:=V0.picked (pick:=[2]) (ws:=[nD n]) (fun j d e=>by cases j with | zero=>exact⟨2,rfl,e⟩ | succ j=>cases e) rfl (.int (a:Int));exact aK.bP (W.var (i:=0) rfl) (W.var (i:=1) rfl) (hlo a n (hm a ha) (by omega))) (V0.picked (pick:=[2]) (ws:=[nD n]) (fun j d e=>by cases j with | zero=>exact⟨2,rfl,e⟩ | succ j=>cases e) rfl .non).1
 obtain⟨e1,q1,V1⟩:=V0.asg (T:=T) (i:=3) (show (3:Nat)<7 by decide) (aK.lq c1 (hrn (locs n mi) (fU n mi) (by simp[locs];omega)));have V1:Vw e1 [lD wo,lD mi,nD n,lD (iS n mi),none,none,none]:=V1;obtain⟨e2,q2,V2⟩:=V1.asg (T:=T) (i:=4) (show (4:Nat)<7 by decide) (aK.sl (aK.bP (V1.var (i:=0) rfl) (V1.var (i:=3) rfl) (hrp wo (iS n mi) gw lg.2 (by rw[lg.1];omega) (by rw[lg.1];omega))) (V1.len (i:=1) rfl) (V1.len (i:=0) rfl) (BR _ _ _));have V2:Vw e2 [lD wo,lD mi,nD n,lD (iS n mi),lD (dN wo mi n),none,none]:=V2;obtain⟨fr,hs⟩:=hsr (dN wo mi n) (lZ gw mi n) (by rw[oi];omega);obtain⟨e3,q3,V3⟩:=V2.asg (T:=T) (i:=5) (show (5:Nat)<7 by decide) (aK.lq (V2.var (i:=4) rfl) hs);have V3:Vw e3 [lD wo,lD mi,nD n,lD (iS n mi),lD (dN wo mi n),lD (fV wo mi n),none]:=V3;have c2:aK T (.comp 1 [1] (.nm 0) (.rng1 (.var 2)) (.some (.cmp .NotIn (.var 0) (.var 1))) (.var 0)) e3 (.lst (gD (others mi n))):=xy (l:=List.range n) (qw (V3.var (i:=2) rfl) (by omega)) (by rw[cg];omega) (fun a ha=>by
  obtain⟨_,W⟩:=V3.picked (pick:=[1]) (ws:=[lD mi]) (fun j d e=>by cases j with | zero=>exact⟨1,rfl,e⟩ | succ j=>cases e) rfl (.int (a:Int));exact aK.cmp (W.var (i:=0) rfl) (W.var (i:=1) rfl) (by show (inD _ _).map _=_;rw[xk];rfl)) (V3.picked (pick:=[1]) (ws:=[lD mi]) (fun j d e=>by cases j with | zero=>exact⟨1,rfl,e⟩ | succ j=>cases e) rfl .non).1
 obtain⟨e4,q4,V4⟩:=V3.asg (T:=T) (i:=6) (show (6:Nat)<7 by decide) c2;have V4:Vw e4 [lD wo,lD mi,nD n,lD (iS n mi),lD (dN wo mi n),lD (fV wo mi n),lD (others mi n)]:=V4;obtain⟨R6,i6⟩:=Av (T:=T) (V4.var (i:=6) rfl);have pk:∀(j:Nat) (d:D),[nD n,lD (fV wo mi n)][j]? = some (some d)→∃ i,[2,5][j]? = some i∧[lD wo,lD mi,nD n,lD (iS n mi),lD (dN wo mi n),lD (fV wo mi n),lD (others mi n)][i]? = some (some d):=fun j d e=>by
  cases j with
  |zero=>exact⟨2,rfl,e⟩
  |succ j=>cases j with
   |zero=>exact⟨5,rfl,e⟩
   |succ j=>cases e
 have ol:(others mi n).length≤n:=by
  have:=gi (fun p=>!mi.contains p) (List.range n);rw[cg] at this;exact this
 have c3:aK T (.comp 1 [2,5] (.nm 0) (.seq (.var 6)) (.some (.cmp .Eq (.call wa (.cons (.var 2) (.cons (.call lo (.cons (.var 0) (.cons (.var 1) .nil))) .nil))) (.cst (.int (0))))) (.var 0)) e4 (.lst (gD (susp wo mi n))):=xy (l:=others mi n) i6 (by omega) (fun a ha=>by
  obtain⟨_,W⟩:=V4.picked (pick:=[2,5]) (ws:=[nD n,lD (fV wo mi n)]) pk rfl (.int (a:Int));refine aK.cmp (aK.bP (W.var (i:=2) rfl) (aK.bP (W.var (i:=0) rfl) (W.var (i:=1) rfl) (hlo a n (dS.mp ha).1 (by omega))) (hw _ _ (fF n a))) (aK.cst _) ?_;show some (((cW (loc n a) (fV wo mi n):Nat):Int)==0)=_;congr 1;rw[Bool.eq_iff_iff];simp) (V4.picked (pick:=[2,5]) (ws:=[nD n,lD (fV wo mi n)]) pk rfl .non).1
 unfold bSU;rw[aC,q1,aD,aC,q2,aD,aC,q3,aD,aC,q4,aD];exact vB c3
end Pc.Vw
end
section
namespace Pc.Vw
open PySem Pc Pc.Sm Pc.Gr Fl64 Md
theorem rM {x:Nat}(hx:x<64):∀{l:List Nat}{pr:Nat},Gr l→pr<64→pr≠0→cH x pr l≠0
 |[],_,_,_,h=>h
 | o::l,pr,hl,hp,h=>by
  have o64:=hl o ag;rw[cH];refine rM hx (fun z hz=>hl z (aa _ hz)) ?_ ?_
  ·split
   ·exact hp
   ·exact aY hp (aV hx o64)
  ·split
   ·exact h
   ·rename_i ne;exact fun e=>(dP hp (aV hx o64) e).elim h fun e=>ne (cI e).symm
noncomputable def D1 (T:Tb) (ch:Nat):Prop:=∀(g su wo:List Nat),Gr g→Gr wo→g.length≤63→su.length≤130→wo.length≤62→(∀ p∈su,p<g.length)→T.cl ch [.lst (gD g),.lst (gD su),.lst (gD wo)] = .ok (.lst (gD (eY g su wo)),true)
noncomputable def C2 (tmf iv wa dp:Nat):bF:=(.cons (.asg (.nm 8) (.call iv (.cons (.call tmf (.cons (.var 7) (.cons (.call dp (.cons (.var 7) (.cons (.var 4) .nil))) .nil))) .nil)) false)
  (.cons (.setix 6 .none (.var 3) (.bin .BitXor (.ix (.var 6) (.var 3)) (.call tmf (.cons (.call wa (.cons (.var 5) (.cons (.var 7) .nil))) (.cons (.var 8) .nil)))))
  .nil))
noncomputable def bCH (tmf iv wa rp rn lo dp:Nat):bF:=(.cons (.asg (.nm 4) (.comp 1 [0] (.nm 0) (.seq (.var 1)) .none (.call lo (.cons (.var 0) (.cons (.blt .len (.cons (.var 1) .nil)) .nil)))) false)
  (.cons (.asg (.nm 5) (.sl (.call rp (.cons (.var 2) (.cons (.call rn (.cons (.var 4) .nil)) .nil))) .none (.some (.blt .len (.cons (.var 4) .nil)))) false)
  (.cons (.asg (.nm 6) (.blt .list (.cons (.var 0) .nil)) false)
  (.cons (.forr (.tp [3,7]) (.zip (.var 1) (.var 4)) (C2 tmf iv wa dp))
  (.cons (.ret (.var 6))
  .nil)))))
theorem uy {T:Tb}{tmf iv wa dp:Nat}(ht:iW T tmf) (hi:zG T iv) (hw:tw T wa) (hd:EE T dp) (g su wo:List Nat) {ls hdl:List Nat}(gl:Gr ls) (gh:Gr hdl) {n:Nat}:∀(r l:List Nat) (o3 o7 o8:Slot),cC o3→cC o7→cC o8→(∀ p∈r,p<l.length)→l.length≤1000→∃ o3' o7' o8',cC o3'∧cC o7'∧cC o8' ∧
  bD (.tp [3,7]) [4] (aC T (C2 tmf iv wa dp)) (r.map fun (p:Nat)=>D.tup [.int (p:Int),.int ((loc n p:Nat):Int)]) [sG g,sG su,sG wo,o3,some (.lst (gD ls),.lk),oG hdl,oG l,o7,o8] = .nx [sG g,sG su,sG wo,o3',some (.lst (gD ls),.lk),oG hdl,oG (pC n hdl ls r l),o7',o8']
 |[],l,o3,o7,o8,a,b,c,_,_=>⟨o3,o7,o8,a,b,c,rfl⟩
 | p::r,l,o3,o7,o8,t3,t7,t8,hp,hl=>by
  have hx:=fF n p;have hne:tm (loc n p) (cH (loc n p) 1 ls)≠0:=fun e=>(dP hx (gS hx gl (by decide)) e).elim (pf n p) (rM hx gl (by decide) (by decide))
  have t64:=aY hx (gS hx gl (pr:=1) (by decide));obtain⟨x,y,z,tx,ty,tz,q⟩:=uy ht hi hw hd g su wo gl gh (n:=n) r (l.set p (l.getD p 0^^^share hdl ls (loc n p))) (sN p) (sN (loc n p)) (sN (pw (tm (loc n p) (cH (loc n p) 1 ls)) 62)) (aB _) (aB _) (aB _) (fun z hz=>by rw[aq];exact hp z (aa _ hz)) (by rw[aq];exact hl);refine⟨x,y,z,tx,ty,tz,?_⟩;have te:Tame [sG g,sG su,sG wo,o3,some (.lst (gD ls),.lk),oG hdl,oG l,o7,o8]:=.cons (aH _) (.cons (aH _) (.cons (aH _) (.cons t3 (.cons (pJ _) (.cons (aB _) (.cons (aB _) (.cons t7 (.cons t8 .nil))))))));have hb:aW [4] (.tp [3,7]) (.tup [.int (p:Int),.int ((loc n p:Nat):Int)]) [sG g,sG su,sG wo,o3,some (.lst (gD ls),.lk),oG hdl,oG l,o7,o8]=some [sG g,sG su,sG wo,sN p,some (.lst (gD ls),.lk),oG hdl,oG l,sN (loc n p),o8]:=gU te (by simp) (by simp) rfl rfl;have te1:Tame [sG g,sG su,sG wo,sN p,some (.lst (gD ls),.lk),oG hdl,oG l,sN (loc n p),o8]:=.cons (aH _) (.cons (aH _) (.cons (aH _) (.cons (aB _) (.cons (pJ _) (.cons (aB _) (.cons (aB _) (.cons (aB _) (.cons t8 .nil))))))));have v7:ev T (.var 7) [sG g,sG su,sG wo,sN p,some (.lst (gD ls),.lk),oG hdl,oG l,sN (loc n p),o8] = .ok (.int ((loc n p:Nat):Int),.mv []):=aJ rfl rfl;have v4:ev T (.var 4) [sG g,sG su,sG wo,sN p,some (.lst (gD ls),.lk),oG hdl,oG l,sN (loc n p),o8] = .ok (.lst (gD ls),.mv [4]):=rfl;have s1:bE T (.asg (.nm 8) (.call iv (.cons (.call tmf (.cons (.var 7) (.cons (.call dp (.cons (.var 7) (.cons (.var 4) .nil))) .nil))) .nil)) false) [sG g,sG su,sG wo,sN p,some (.lst (gD ls),.lk),oG hdl,oG l,sN (loc n p),o8] = .nx [sG g,sG su,sG wo,sN p,some (.lst (gD ls),.lk),oG hdl,oG l,sN (loc n p),sN (pw (tm (loc n p) (cH (loc n p) 1 ls)) 62)] :=
   bU te1 (by simp) (Pc.Sm.lq (Pc.Sm.bP v7 (Pc.Sm.bP v7 v4 (hd (loc n p) ls hx gl)) (ht _ _ (gS hx gl (by decide)))) (hi _ t64 hne))
  have te2:Tame [sG g,sG su,sG wo,sN p,some (.lst (gD ls),.lk),oG hdl,oG l,sN (loc n p),sN (pw (tm (loc n p) (cH (loc n p) 1 ls)) 62)]:=.cons (aH _) (.cons (aH _) (.cons (aH _) (.cons (aB _) (.cons (pJ _) (.cons (aB _) (.cons (aB _) (.cons (aB _) (.cons (aB _) .nil))))))));have w3:ev T (.var 3) [sG g,sG su,sG wo,sN p,some (.lst (gD ls),.lk),oG hdl,oG l,sN (loc n p),sN (pw (tm (loc n p) (cH (loc n p) 1 ls)) 62)] = .ok (.int (p:Int),.mv []):=aJ rfl rfl;have w5:ev T (.var 5) [sG g,sG su,sG wo,sN p,some (.lst (gD ls),.lk),oG hdl,oG l,sN (loc n p),sN (pw (tm (loc n p) (cH (loc n p) 1 ls)) 62)] = .ok (.lst (gD hdl),.mv [5]):=cO rfl rfl;have w6:ev T (.var 6) [sG g,sG su,sG wo,sN p,some (.lst (gD ls),.lk),oG hdl,oG l,sN (loc n p),sN (pw (tm (loc n p) (cH (loc n p) 1 ls)) 62)] = .ok (.lst (gD l),.mv [6]):=cO rfl rfl;have w7:ev T (.var 7) [sG g,sG su,sG wo,sN p,some (.lst (gD ls),.lk),oG hdl,oG l,sN (loc n p),sN (pw (tm (loc n p) (cH (loc n p) 1 ls)) 62)] = .ok (.int ((loc n p:Nat):Int),.mv []):=aJ rfl rfl;have w8:ev T (.var 8) [sG g,sG su,sG wo,sN p,some (.lst (gD ls),.lk),oG hdl,oG l,sN (loc n p),sN (pw (tm (loc n p) (cH (loc n p) 1 ls)) 62)] = .ok (.int ((pw (tm (loc n p) (cH (loc n p) 1 ls)) 62:Nat):Int),.mv []):=aJ rfl rfl;have hpl:p<l.length:=hp p ag;have e1:ev T (.ix (.var 6) (.var 3)) [sG g,sG su,sG wo,sN p,some (.lst (gD ls),.lk),oG hdl,oG l,sN (loc n p),sN (pw (tm (loc n p) (cH (loc n p) 1 ls)) 62)] = .ok (.int ((l.getD p 0:Nat):Int),.mv []):=by
   rw[ev,w6,aA,w3,aA,kE hpl,aM,aA];rfl
  have e2:=Pc.Sm.bP (Pc.Sm.bP w5 w7 (hw hdl (loc n p) hx)) w8 (ht _ _ (bB t64 62));have e3:ev T (.bin .BitXor (.ix (.var 6) (.var 3)) (.call tmf (.cons (.call wa (.cons (.var 5) (.cons (.var 7) .nil))) (.cons (.var 8) .nil)))) [sG g,sG su,sG wo,sN p,some (.lst (gD ls),.lk),oG hdl,oG l,sN (loc n p),sN (pw (tm (loc n p) (cH (loc n p) 1 ls)) 62)] = .ok (.int ((l.getD p 0^^^share hdl ls (loc n p):Nat):Int),.mv []):=by
   rw[ev,e1,aA,e2,aA,aO];show (gO (some (D.int (Builtin.bitXor ((l.getD p 0:Nat):Int) ((share hdl ls (loc n p):Nat):Int))))).bind _=_;rw[cZ];rfl
  have s2:=iF (T:=T) (x:=6) te2 rfl w3 (gL (n:=(gD l).length) (by rw[aU];exact hpl)) e3 (by rw[aU];exact cB hl);rw[ax,bD,hb];dsimp only;unfold C2;rw[aC,s1,aD,aC,s2,aD,jO];exact q
theorem GA {T:Tb}{tmf iv wa rp rn lo dp:Nat}(ht:iW T tmf) (hi:zG T iv) (hw:tw T wa) (hrp:xi T rp) (hrn:DX T rn) (hlo:C0 T lo) (hd:EE T dp) {g su wo:List Nat}(gg:Gr g) (gw:Gr wo) (lg:g.length≤63) (lsu:su.length≤130) (lw:wo.length≤62) (hs:∀ p∈su,p<g.length) :
  Pc.ret (aC T (bCH tmf iv wa rp rn lo dp) (aF [.lst (gD g),.lst (gD su),.lst (gD wo)] 9)) = .ok (.lst (gD (eY g su wo)),true):=by
 have hst:aF [.lst (gD g),.lst (gD su),.lst (gD wo)] 9=[sG g,sG su,sG wo,none,none,none,none,none,none]:=rfl;have V0:Vw (aF [.lst (gD g),.lst (gD su),.lst (gD wo)] 9) [lD g,lD su,lD wo,none,none,none,none,none,none]:=Vw.start _ 9;rw[hst] at V0 ⊢;have tn:=aG;have te0:Tame [sG g,sG su,sG wo,none,none,none,none,none,none]:=.cons (aH _) (.cons (aH _) (.cons (aH _) (.cons tn (.cons tn (.cons tn (.cons tn (.cons tn (.cons tn .nil))))))));let ls:=locs g.length su;have gl:Gr ls:=fU _ _;have ll:ls.length=su.length:=by simp[ls,locs]
 have hit:fQ T (.seq (.var 1)) [sG g,sG su,sG wo,none,none,none,none,none,none] = .ok (gD su,[]):=rfl;have c1:ev T (.comp 1 [0] (.nm 0) (.seq (.var 1)) .none (.call lo (.cons (.var 0) (.cons (.blt .len (.cons (.var 1) .nil)) .nil)))) [sG g,sG su,sG wo,none,none,none,none,none,none] = .ok (.lst (gD ls),.mv []):=by
  rw[jS (g:=fun d=>match d with | .int k=>(.int ((loc g.length k.toNat:Nat):Int),.mv []) | _=>(.non,.mv [])) hit (by rw[aU];exact cB (by omega)) (fun d hd=>?_) (fun d hd=>?_)]
  ·show Rs.ok (D.lst _,Rt.mv [])=Rs.ok (D.lst (gD (locs g.length su)),Rt.mv []);rw[gD,locs,gD,bg,bg];rfl
  ·obtain⟨x,hx,rfl⟩:=List.mem_map.mp hd;have hb:aW [] (.nm 0) (.int (x:Int)) (aL [sG g,sG su,sG wo,none,none,none,none,none,none] 1 [0])=some [sN x,sG g]:=rfl;rw[hb];have w0:ev T (.var 0) [sN x,sG g] = .ok (.int (x:Int),.mv []):=aJ rfl rfl;have e1:=Pc.Sm.bP w0 (iC (T:=T) (env:=[sN x,sG g]) (i:=1) (gs:=g) (t:=.sh []) rfl) (hlo x g.length (hs x hx) (by omega));simp only[aX,mQ,aA,if_true,e1,Int.toNat_natCast]
  ·obtain⟨x,hx,rfl⟩:=List.mem_map.mp hd;rfl
 have s1:bE T (.asg (.nm 4) (.comp 1 [0] (.nm 0) (.seq (.var 1)) .none (.call lo (.cons (.var 0) (.cons (.blt .len (.cons (.var 1) .nil)) .nil)))) false) [sG g,sG su,sG wo,none,none,none,none,none,none] = .nx [sG g,sG su,sG wo,none,oG ls,none,none,none,none]:=bU te0 (by simp) c1;have te1:Tame [sG g,sG su,sG wo,none,oG ls,none,none,none,none]:=.cons (aH _) (.cons (aH _) (.cons (aH _) (.cons tn (.cons (aB _) (.cons tn (.cons tn (.cons tn (.cons tn .nil))))))));have ra:=fG (r:=[1]) gl jM (by decide) rfl;have w2:ev T (.var 2) [sG g,sG su,sG wo,none,oG ls,none,none,none,none] = .ok (.lst (gD wo),.sh []):=rfl;have w4:ev T (.var 4) [sG g,sG su,sG wo,none,oG ls,none,none,none,none] = .ok (.lst (gD ls),.mv [4]):=cO rfl rfl;have c2:=Pc.Sm.bP w2 (Pc.Sm.lq w4 (hrn ls gl (by omega))) (hrp wo (iR [1] ls) gw ra.2.1 (by rw[ra.1];simp;omega) (by rw[ra.1];simp;omega));have c3:ev T (.sl (.call rp (.cons (.var 2) (.cons (.call rn (.cons (.var 4) .nil)) .nil))) .none (.some (.blt .len (.cons (.var 4) .nil)))) [sG g,sG su,sG wo,none,oG ls,none,none,none,none] = .ok (.lst (gD (cK wo ls)),.mv []):=by
  rw[ev,c2,aA,mH,aA,mH,iC (T:=T) (env:=[sG g,sG su,sG wo,none,oG ls,none,none,none,none]) (i:=4) (gs:=ls) (t:=.own) rfl,aA];dsimp only;rw[aA,Fj,aM,aA,cV (fB _)];rfl
 have s2:bE T (.asg (.nm 5) (.sl (.call rp (.cons (.var 2) (.cons (.call rn (.cons (.var 4) .nil)) .nil))) .none (.some (.blt .len (.cons (.var 4) .nil)))) false) [sG g,sG su,sG wo,none,oG ls,none,none,none,none] = .nx [sG g,sG su,sG wo,none,oG ls,oG (cK wo ls),none,none,none]:=bU te1 (by simp) c3;have te2:Tame [sG g,sG su,sG wo,none,oG ls,oG (cK wo ls),none,none,none]:=.cons (aH _) (.cons (aH _) (.cons (aH _) (.cons tn (.cons (aB _) (.cons (aB _) (.cons tn (.cons tn (.cons tn .nil))))))));have c4:ev T (.blt .list (.cons (.var 0) .nil)) [sG g,sG su,sG wo,none,oG ls,oG (cK wo ls),none,none,none] = .ok (.lst (gD g),.mv []):=by
  have h1:bK T (.cons (.var 0) .nil) [sG g,sG su,sG wo,none,oG ls,oG (cK wo ls),none,none,none] = .ok [(.lst (gD g),.sh [])]:=rfl;rw[ev,h1,aA];show (Rs.ok (Pc.D.lst (gD g))).bind _=_;rw[aA,cV (fB _)]
 have s3:bE T (.asg (.nm 6) (.blt .list (.cons (.var 0) .nil)) false) [sG g,sG su,sG wo,none,oG ls,oG (cK wo ls),none,none,none] = .nx [sG g,sG su,sG wo,none,oG ls,oG (cK wo ls),oG g,none,none]:=bU te2 (by simp) c4;obtain⟨x,y,z,tx,ty,tz,q⟩:=uy ht hi hw hd g su wo gl (mh gw gl) (n:=g.length) su g none none none tn tn tn hs (by omega);have hz:fQ T (.zip (.var 1) (.var 4)) [sG g,sG su,sG wo,none,oG ls,oG (cK wo ls),oG g,none,none] = .ok (su.map fun (p:Nat)=>D.tup [.int (p:Int),.int ((loc g.length p:Nat):Int)],[4]):=by
  have v1:ev T (.var 1) [sG g,sG su,sG wo,none,oG ls,oG (cK wo ls),oG g,none,none] = .ok (.lst (gD su),.sh []):=rfl;have v4:ev T (.var 4) [sG g,sG su,sG wo,none,oG ls,oG (cK wo ls),oG g,none,none] = .ok (.lst (gD ls),.mv [4]):=cO rfl rfl;rw[fQ,v1,aA,v4,aA];show (Rs.ok (gD su)).bind (fun l=>(Rs.ok (gD ls)).bind fun m=>Rs.ok ((l.zip m).map fun z=>D.tup [z.1,z.2],[4]))=_;rw[aA,aA];congr 2;show (List.zip (gD su) (gD (su.map (loc g.length)))).map _=_;rw[gD,gD,bg,List.zip_map'];rw[bg];rfl
 have s4:=Ac (T:=T) (x:=4) rfl hz q rfl;unfold bCH;rw[aC,s1,aD,aC,s2,aD,aC,s3,aD,aC,s4,aD];show Pc.ret (aC T (.cons (.ret (.var 6)) .nil) [sG g,sG su,sG wo,x,oG ls,oG (cK wo ls),oG (eY g su wo),y,z])=_;generalize eY g su wo=l;simp[aC,bE,ev,aR,D.flat,lO,Pc.ret,bW]
end Pc.Vw
end
section
namespace Pc.Vw
open PySem Pc Pc.Sm Pc.Gr Fl64 Md
noncomputable def D7 (T:Tb) (ic:Nat):Prop:=∀(gs:List Nat) (c:Nat),c≤900→T.cl ic [.lst (gD gs),.int (c:Int)] = .ok (.bl (decide (zV gs c)),true)
noncomputable def A4:Ex:=.cmp .Gt (.blt .len (.cons (.var 1) .nil)) (.var 2)
noncomputable def bMDm (wa cn su ch:Nat):bF:=(.cons (.asg (.nm 3) (.comp 1 [0] (.nm 0) (.seq (.call cn (.cons (.var 2) .nil))) .none (.call wa (.cons (.var 1) (.cons (.var 0) .nil)))) false)
  (.cons (.asg (.nm 4) (.bin .Add (.blt .list (.cons (.var 1) .nil)) (.call su (.cons (.var 3) (.cons (.var 1) (.cons (.blt .len (.cons (.var 0) .nil)) .nil))))) false)
  (.cons (.asg (.nm 5) (.call ch (.cons (.var 0) (.cons (.var 4) (.cons (.var 3) .nil)))) false)
  (.cons (.asg (.nm 6) (.comp 1 [0,5,1] (.nm 0) (.rng1 (.blt .len (.cons (.var 0) .nil))) (.some (.and (.cmp .NotIn (.var 0) (.var 3)) (.cmp .NotEq (.ix (.var 2) (.var 0)) (.ix (.var 1) (.var 0))))) (.var 0)) false)
  .nil))))
noncomputable def BK (ic:Nat):Ex:=.or (.cmp .Gt (.bin .Add (.bin .Mult (.cst (.int (2))) (.blt .len (.cons (.var 6) .nil))) (.blt .len (.cons (.var 1) .nil))) (.var 2)) (.not (.call ic (.cons (.var 5) (.cons (.var 2) .nil))))
noncomputable def bMD (wa cn ic su ch:Nat):bF:=(.cons (.ite A4 (.cons (.expr (.neg (.cst .non)))
  .nil) .nil)
  (.cons (.asg (.nm 3) (.comp 1 [0] (.nm 0) (.seq (.call cn (.cons (.var 2) .nil))) .none (.call wa (.cons (.var 1) (.cons (.var 0) .nil)))) false)
  (.cons (.asg (.nm 4) (.bin .Add (.blt .list (.cons (.var 1) .nil)) (.call su (.cons (.var 3) (.cons (.var 1) (.cons (.blt .len (.cons (.var 0) .nil)) .nil))))) false)
  (.cons (.asg (.nm 5) (.call ch (.cons (.var 0) (.cons (.var 4) (.cons (.var 3) .nil)))) false)
  (.cons (.asg (.nm 6) (.comp 1 [0,5,1] (.nm 0) (.rng1 (.blt .len (.cons (.var 0) .nil))) (.some (.and (.cmp .NotIn (.var 0) (.var 3)) (.cmp .NotEq (.ix (.var 2) (.var 0)) (.ix (.var 1) (.var 0))))) (.var 0)) false)
  (.cons (.ite (BK ic) (.cons (.expr (.neg (.cst .non)))
  .nil) .nil)
  (.cons (.ret (.tup (.cons (.var 5) (.cons (.var 6) .nil))))
  .nil)))))))
theorem G7 {T:Tb}{env:En}{g mi:List Nat}{c:Nat}{r:List (Option D)}(V:Vw env (lD g::lD mi::nD c::r)):aK T A4 env (.bl (decide (c<mi.length))):=by
 refine aK.cmp (V.len (i:=1) rfl) (V.var (i:=2) rfl) ?_;show some (decide ((c:Int)<(mi.length:Int)))=_;congr 1;rw[Bool.eq_iff_iff];simp
noncomputable abbrev sT (g mi:List Nat) (c:Nat):List Nat:=mi++susp (aT g c) mi g.length
theorem zd {wo mi:List Nat}{n p:Nat}(h:p∈susp wo mi n):p<n:=(dS.mp (gu.mp h).1).1
theorem xG (wo mi:List Nat) (n:Nat):(susp wo mi n).length≤n:=by
 have h1:=gi (fun p=>cW (loc n p) (fV wo mi n)==0) (others mi n);have h2:=gi (fun p=>!mi.contains p) (List.range n);rw[cg] at h2;exact bu h1 h2
noncomputable def vP (g mi:List Nat) (c:Nat):Bool:=decide (c<2*(cD g (bQ g mi c) mi).length+mi.length) || !decide (zV (bQ g mi c) c)
theorem GQ {T:Tb}{ic:Nat}(hi:D7 T ic) {env:En}{g mi:List Nat}{c:Nat}(lc:c≤62) {v3 v4:Option D}(V:Vw env [lD g,lD mi,nD c,v3,v4,lD (bQ g mi c),lD (cD g (bQ g mi c) mi)]):aK T (BK ic) env (.bl (vP g mi c)):=by
 refine aK.or (k:=decide (c<2*(cD g (bQ g mi c) mi).length+mi.length)) (aK.cmp (aK.bin (op:=.Add) (aK.bin (op:=.Mult) (aK.cst _) (V.len (i:=6) rfl) (z:=.int (2*((cD g (bQ g mi c) mi).length:Int))) rfl) (V.len (i:=1) rfl) (z:=.int (2*((cD g (bQ g mi c) mi).length:Int)+(mi.length:Int))) rfl) (V.var (i:=2) rfl) ?_) (fun hk=>?_) (fun hk=>?_)
 ·show some (decide ((c:Int)<2*((cD g (bQ g mi c) mi).length:Int)+(mi.length:Int)))=_;congr 1;rw[Bool.eq_iff_iff];simp;omega
 ·unfold vP;rw[hk,Bool.false_or];exact aK.not (aK.bP (V.var (i:=5) rfl) (V.var (i:=2) rfl) (hi _ c (by omega)))
 ·unfold vP;rw[hk,Bool.true_or]
noncomputable abbrev z8 (g mi:List Nat) (c:Nat):D:=.tup [.lst (gD (bQ g mi c)),.lst (gD (cD g (bQ g mi c) mi))]
noncomputable def BZ (g y mi:List Nat) (c:Nat):Prop:=Gr y∧y.length=g.length∧zV y c∧2*(cD g y mi).length+mi.length≤c
theorem tJ {g y mi:List Nat}{c:Nat}(gg:Gr g) (n63:g.length≤63) (c62:c≤62) (mn:mi.Nodup) (ml:∀ p∈mi,p<g.length) (N:BZ g y mi c):bQ g mi c=y∧vP g mi c=false:=by
 obtain⟨gy,ly,code,le⟩:=N;have e:=found gg gy ly n63 c62 code mn ml le;refine⟨e,?_⟩;unfold vP;rw[e,de (by omega),dq code];rfl
theorem x9 {g mi:List Nat}{c:Nat}(gg:Gr g) (h:vP g mi c=false):BZ g (bQ g mi c) mi c:=by
 unfold vP at h;rw[Bool.or_eq_false_iff] at h;refine⟨y9 gg mi c,kN g mi c,?_,?_⟩
 ·have:=h.2;simpa using this
 ·have:=of_decide_eq_false h.1;omega
end Pc.Vw
end
section
namespace Pc.Vw
open PySem Pc Pc.Sm Pc.Gr Pc.Lw Fl64 Md
theorem GK {T:Tb}{env:En}{pick:List Nat}{it:rT}{e:Ex}{l:List (Nat×Nat)}{R:List Nat}{g:Nat→Nat→Nat}(hit:fQ T it env = .ok (l.map fun q=>D.tup [.int (q.1:Int),.int (q.2:Int)],R)) (hl:l.length≤1000) (hg:∀ q∈l,aK T e (put (put (aL env 2 pick) 0 (.int (q.1:Int)) .own) 1 (.int (q.2:Int)) .own) (.int ((g q.1 q.2:Nat):Int))) (h0:1<(aL env 2 pick).length) :
  aK T (.comp 2 pick (.tp [0,1]) it .none e) env (.lst (gD (l.map fun q=>g q.1 q.2))):=by
 have key:∀(l:List (Nat×Nat)),(∀ q∈l,aK T e (put (put (aL env 2 pick) 0 (.int (q.1:Int)) .own) 1 (.int (q.2:Int)) .own) (.int ((g q.1 q.2:Nat):Int)))→∃ qs:List (D×Rt),dJ (fun d=>aX (aW [] (.tp [0,1]) d (aL env 2 pick)) (mQ T .none) (ev T e)) (l.map fun q=>D.tup [.int (q.1:Int),.int (q.2:Int)]) = .ok qs∧qs.map (·.1)=gD (l.map fun q=>g q.1 q.2)∧qs.all (fun q=>q.1.flat || eT q.2)=true:=by
  intro l
  induction l with
  |nil=>exact fun _=>⟨[],rfl,rfl,rfl⟩
  |cons a r ih =>
   intro h;obtain⟨qs,a1,a2,a3⟩:=ih fun b hb=>h b (aa _ hb)
   obtain⟨R',hR⟩:=h a ag;refine⟨(.int ((g a.1 a.2:Nat):Int),R')::qs,?_,?_,?_⟩
   ·have hb:aW [] (.tp [0,1]) (.tup [.int (a.1:Int),.int (a.2:Int)]) (aL env 2 pick)=some (put (put (aL env 2 pick) 0 (.int (a.1:Int)) .own) 1 (.int (a.2:Int)) .own):=by
     show bindM _ [0,1] [.int (a.1:Int),.int (a.2:Int)] (aL env 2 pick)=_;simp only[bindM];rw[if_pos (by omega),if_pos (by unfold Pc.put;rw[aq,aj];exact h0)];rfl
    have step:aX (aW [] (.tp [0,1]) (.tup [.int (a.1:Int),.int (a.2:Int)]) (aL env 2 pick)) (mQ T .none) (ev T e) = .ok (some (.int ((g a.1 a.2:Nat):Int),R')):=by
     simp only[hb,aX,mQ,aA,if_true,hR]
    rw[ax,dJ,step,aA,a1];rfl
   ·rw[ax,a2];rfl
   ·rw[dh,a3];rfl
 obtain⟨qs,a1,a2,a3⟩:=key l hg;rw[aK,ev,hit,aA,a1,aA];dsimp only;rw[if_pos (by rw[aj];exact cB hl),a2];exact⟨_,rfl⟩
theorem Vw.picked2 {env:En}{vs ws:List (Option D)}(h:Vw env vs) {pick:List Nat}(hw:∀(j:Nat) (d:D),ws[j]? = some (some d)→∃ i,pick[j]? = some i∧vs[i]? = some (some d)) (hl:ws.length=pick.length) (a b:D) :
  1<(aL env 2 pick).length∧Vw (Pc.put (Pc.put (aL env 2 pick) 0 a .own) 1 b .own) (some a::some b::ws):=by
 have hlen:(aL env 2 pick).length=ws.length+2:=by unfold aL;simp[hl]
 have V:Vw (aL env 2 pick) (none::none::ws):=by
  refine⟨by rw[hlen];simp,fun j d e=>?_⟩;cases j with
  |zero=>cases e
  |succ j=>cases j with
   |zero=>cases e
   |succ j =>
    have e:ws[j]? = some (some d):=e;obtain⟨i,p1,p2⟩:=hw j d e;refine⟨.sh [],?_⟩;unfold aL;rw[List.getElem?_append_right (by simp),List.length_replicate,show j+1+1 - 2=j by omega,List.getElem?_map,p1];obtain⟨t,q⟩:=h.2 i d p2;show some (match env[i]? with | some (some (d,_))=>some (d,Tg.sh []) | _=>none:Slot)=_;rw[q]
 exact⟨by omega,(V.put 0 a .own).put 1 b .own⟩
noncomputable def we (r:List Nat) (x:Nat):List Nat:=((r ++ [0]).zip (0::r)).map fun (q:Nat×Nat)=>q.1^^^tm x q.2
theorem qp (r:List Nat) (x:Nat):(we r x).length=r.length+1:=by simp[we]
theorem uw {r:List Nat}{x:Nat}(h:Gr r) (hx:x<64):Gr (we r x):=fun z hz=>by
 obtain⟨q,hq,rfl⟩:=List.mem_map.mp hz;have:=fw hq;refine aV ?_ (aY hx ?_)
 ·exact (h.append (show Gr [0] from .cons (by decide) .nil)) _ this.1
 ·exact (Co h) _ this.2
noncomputable def fO:Nat→Nat→List Nat→List Nat
 |0,_,r=>r
 |k+1,j,r=>fO k (j+1) (we r (pw 2 (j+1)))
theorem mq:∀(k j:Nat) (r:List Nat),(fO k j r).length=r.length+k
 |0,_,r=>rfl
 |k+1,j,r=>by rw[fO,mq k,qp];omega
theorem n8:∀(k j:Nat) {r:List Nat},Gr r→Gr (fO k j r)
 |0,_,_,h=>h
 |k+1,j,r,h=>n8 k (j+1) (uw h (bB (by decide) _))
noncomputable def MAok (T:Tb) (ma:Nat):Prop:=∀(r:List Nat) (c:Nat),Gr r→r.length+c≤100→∃ fr,T.cl ma [.lst (gD r),.int (c:Int)] = .ok (.lst (gD (fO c 0 r)),fr)
noncomputable def D3 (lt:Nat):bF:=(.cons (.asg (.nm 3) (.call lt (.cons (.var 3) (.cons (.cst (.int (2))) .nil))) false)
  (.cons (.asg (.nm 2) (.comp 2 [3] (.tp [0,1]) (.zip (.bin .Add (.var 2) (.lst (.cons (.cst (.int (0))) .nil))) (.bin .Add (.lst (.cons (.cst (.int (0))) .nil)) (.var 2))) .none (.bin .BitXor (.var 0) (.call lt (.cons (.var 2) (.cons (.var 1) .nil))))) false)
  .nil))
noncomputable def bMa (lt:Nat):bF:=(.cons (.asg (.nm 2) (.blt .list (.cons (.var 0) .nil)) false)
  (.cons (.asg (.nm 3) (.cst (.int (1))) false)
  (.cons (.forr (.nm 4) (.rng1 (.var 1)) (D3 lt))
  (.cons (.ret (.var 2))
  .nil))))
theorem zipV {T:Tb}{env:En}{a b:Ex}{l m:List Nat}(h:aK T a env (.lst (gD l))) (h':aK T b env (.lst (gD m))):∃ R,fQ T (.zip a b) env = .ok ((l.zip m).map fun q=>D.tup [.int (q.1:Int),.int (q.2:Int)],R):=by
 obtain⟨R,h⟩:=h;obtain⟨R',h'⟩:=h';refine⟨R.roots++R'.roots,?_⟩;rw[fQ,h,aA,h',aA];show (Rs.ok (gD l)).bind (fun l=>(Rs.ok (gD m)).bind fun m=>Rs.ok ((l.zip m).map fun z=>D.tup [z.1,z.2],R.roots++R'.roots))=_;rw[aA,aA,gD,gD,List.zip_map,bg];rfl
theorem aK.xor {T:Tb}{env:En}{a b:Ex}{x y:Nat}(h:aK T a env (.int (x:Int))) (h':aK T b env (.int (y:Int))):aK T (.bin .BitXor a b) env (.int ((x^^^y:Nat):Int)):=aK.bin h h' (by
 show some (D.int (Builtin.bitXor (x:Int) (y:Int)))=_;rw[cZ])
theorem aK.cat {T:Tb}{env:En}{a b:Ex}{x y:List Nat}(h:aK T a env (.lst (gD x))) (h':aK T b env (.lst (gD y))) (hl:x.length+y.length≤1000):aK T (.bin .Add a b) env (.lst (gD (x++y))):=aK.bin h h' (by
 show ck ((gD x).length+(gD y).length) (.lst (gD x++gD y))=_;unfold ck;rw[if_pos (by rw[aU,aU];exact cB hl),cY])
theorem CC {T:Tb}{lt:Nat}(ht:FN T lt) {r:List Nat}{c:Nat}(hr:Gr r) (hl:r.length+c≤100):∃ fr,Pc.ret (aC T (bMa lt) (aF [.lst (gD r),.int (c:Int)] 5)) = .ok (.lst (gD (fO c 0 r)),fr):=by
 have V0:Vw (aF [.lst (gD r),.int (c:Int)] 5) [lD r,nD c,none,none,none]:=Vw.start _ 5;obtain⟨e1,q1,V1⟩:=V0.asg (T:=T) (i:=2) (show (2:Nat)<5 by decide) (aK.blt1 (k:=.list) (V0.var (i:=0) rfl) (z:=.lst (gD r)) rfl);obtain⟨e2,q2,V2⟩:=V1.asg (T:=T) (i:=3) (show (3:Nat)<5 by decide) (aK.cst (.int 1));have V2:Vw e2 [lD r,nD c,lD r,nD 1,none]:=V2;obtain⟨e3,q3,⟨r',x4,g',l',e',V3⟩⟩:=rS (t:=.nm 4) (R:=[]) (b:=aC T (D3 lt)) (fun k env=>∃ r' v4,Gr r'∧r'.length+(c - k)=r.length+c∧(k≤c→fO (c - k) k r'=fO c 0 r)∧Vw env [lD r,nD c,lD r',nD (pw 2 k),v4]) ((List.range c).map fun (k:Nat)=>D.int (k:Int)) 0 e2 ⟨r,none,hr,by omega,fun _=>rfl,V2⟩ (fun i d e hd J=>by
  rw[List.getElem?_map] at hd;have hi':i<c:=by
   cases q:(List.range c)[i]? with
   |none=>rw[q] at hd;cases hd
   |some z=>have:=(List.getElem?_eq_some_iff.mp q).1;rwa [cg] at this
  rw[List.getElem?_range hi'] at hd;cases hd;rw[eo] at J ⊢;obtain⟨r',v4,g',l',e',V⟩:=J;obtain⟨d1,b1,W1⟩:=V.bind (i:=4) (show (4:Nat)<5 by decide) [] (.int (i:Int));have W1:Vw d1 [lD r,nD c,lD r',nD (pw 2 i),nD i]:=W1;have p64:pw 2 i<64:=bB (by decide) _;obtain⟨d2,b2,W2⟩:=W1.asg (T:=T) (i:=3) (show (3:Nat)<5 by decide) (aK.bP (W1.var (i:=3) rfl) (show aK T (.cst (.int 2)) d1 (.int ((2:Nat):Int)) from aK.cst _) (ht (pw 2 i) 2 p64 (by decide)));have W2:Vw d2 [lD r,nD c,lD r',nD (pw 2 (i+1)),nD i]:=W2;obtain⟨R,hz⟩:=zipV (T:=T) (aK.cat (y:=[0]) (W2.var (i:=2) rfl) (aK.lst1 (aK.cst (.int 0))) (by simp;omega)) (aK.cat (x:=[0]) (aK.lst1 (aK.cst (.int 0))) (W2.var (i:=2) rfl) (by simp;omega));have pk:∀(j:Nat) (d:D),[nD (pw 2 (i+1))][j]? = some (some d)→∃ i',[3][j]? = some i'∧[lD r,nD c,lD r',nD (pw 2 (i+1)),nD i][i']? = some (some d):=fun j d e=>by
   cases j with
   |zero=>exact⟨3,rfl,e⟩
   |succ j=>cases e
  have x64:pw 2 (i+1)<64:=bB (by decide) _;obtain⟨d3,b3,W3⟩:=W2.asg (T:=T) (i:=2) (show (2:Nat)<5 by decide) (GK (g:=fun a b=>a^^^tm (pw 2 (i+1)) b) hz (by simp;omega) (fun q hq=>by
   obtain⟨_,W⟩:=W2.picked2 (pick:=[3]) (ws:=[nD (pw 2 (i+1))]) pk rfl (.int (q.1:Int)) (.int (q.2:Int));have q2:q.2<64:=(Co g') _ (fw hq).2;exact aK.xor (W.var (i:=0) rfl) (aK.bP (W.var (i:=2) rfl) (W.var (i:=1) rfl) (ht _ _ x64 q2))) (W2.picked2 (pick:=[3]) (ws:=[nD (pw 2 (i+1))]) pk rfl .non .non).1)
  have W3:Vw d3 [lD r,nD c,lD (we r' (pw 2 (i+1))),nD (pw 2 (i+1)),nD i]:=W3;refine⟨d1,d3,b1,.inl ?_,we r' (pw 2 (i+1)),nD i,uw g' x64,by rw[qp];omega,fun _=>?_,W3⟩
  ·unfold D3;rw[aC,b2,aD,aC,b3,aD];rfl
  ·rw[←e' (by omega),show c - i=(c - (i+1))+1 by omega,fO])
 have q3':=cN (qw (V2.var (T:=T) (i:=1) rfl) (by omega)) q3;simp only[List.length_map,List.length_range,Nat.zero_add,Nat.sub_self] at e' V3;have e':=e' (au _);rw[fO] at e';unfold bMa;rw[aC,q1,aD,aC,q2,aD,aC,q3',aD,←e'];exact vB (V3.var (i:=2) rfl)
end Pc.Vw
end
section
namespace Pc.Vw
open PySem Pc Pc.Sm Pc.Gr Pc.Lw Fl64 Md
theorem oY:∀(l:List Nat) (i:Nat),(gD l).eraseIdx i=gD (l.eraseIdx i)
 |[],_=>rfl
 |a::l,0=>rfl
 | a::l,i+1=>by
  show D.int (a:Int)::(gD l).eraseIdx i=_;rw[oY l i];rfl
theorem E5 {l:List Nat}{i:Nat}(h:i<l.length) (hl:l.length≤1000):pX (gD l) [.int (i:Int)]=some (.int ((l.getD i 0:Nat):Int),gD (l.eraseIdx i)):=by
 have e:pX (gD l) [.int (i:Int)]=(jy (gD l).length (i:Int)).bind (kY (gD l)):=by
  unfold pX;exact if_pos ⟨Int.le_trans (by decide) (fi i),Int.lt_of_lt_of_le (Int.ofNat_lt.mpr (av h hl)) (by decide)⟩
 rw[e,gL (by rw[aU];exact h)];show kY (gD l) i=_;unfold kY;rw[zt h];dsimp only;rw[if_pos (show (D.int ((l.getD i 0:Nat):Int)).flat=true from rfl),oY]
theorem xx {T:Tb}{env:En}{x y:Nat}{e:Ex}{xs ys rest:List D}{d it:D}{R:Rt}(ht:Tame env) (hxy:y≠x) (hx:env[x]? = some (some (.lst xs,.own))) (hy:env[y]? = some (some (.lst ys,.own))) (h:ev T e env = .ok (d,R)) (hp:pX xs [d]=some (it,rest)) (lx:rest.length≤lim) (ly:(ys ++ [it]).length≤lim) :
  bE T (.apop y x (.cons e .nil)) env = .nx ((env.set x (some (.lst rest,.own))).set y (some (.lst (ys ++ [it]),.own))):=by
 have ox:ownAt env x=some (.lst xs):=by unfold ownAt;rw[hx]
 have hes:bK T (.cons e .nil) env = .ok [(d,R)]:=by rw[bK,h,aA,bK,aA]
 have m1:dF x none env (.lst xs) rest [] = .nx (env.set x (some (.lst rest,.own))):=by
  unfold dF;show (if (decide ([]:List Nat).Nodup&&bW env [] && !([]:List Nat).contains x&&decide (rest.length≤lim))=true then Fl.nx ((kill [x] env).set x (some (.lst rest,.own))) else .bad)=_;rw[if_pos (by rw[dq lx];rfl),i9 ht]
 have te1:Tame (env.set x (some (.lst rest,.own))):=ht.set (aB _) x;have oy:ownAt (env.set x (some (.lst rest,.own))) y=some (.lst ys):=by unfold ownAt;rw[List.getElem?_set_ne (cj hxy),hy]
 have m2:dF y none (env.set x (some (.lst rest,.own))) (.lst ys) (ys ++ [it]) [] = .nx ((env.set x (some (.lst rest,.own))).set y (some (.lst (ys ++ [it]),.own))):=by
  unfold dF;show (if (decide ([]:List Nat).Nodup&&bW (env.set x (some (.lst rest,.own))) [] && !([]:List Nat).contains y&&decide ((ys ++ [it]).length≤lim))=true then Fl.nx ((kill [y] (env.set x (some (.lst rest,.own)))).set y (some (.lst (ys ++ [it]),.own))) else .bad)=_;rw[if_pos (by rw[dq ly];rfl),i9 te1]
 rw[bE,if_neg hxy,ox];dsimp only[D.at1];rw[hes,aR,vS,hp];dsimp only;rw[m1];dsimp only[Fl.andThen];rw[oy];exact m2
theorem za {T:Tb}{env:En}{x y:Nat}{e:Ex}{xs ys:List Nat}{i:Nat}{R:Rt}(ht:Tame env) (hxy:y≠x) (hx:env[x]? = some (oG xs)) (hy:env[y]? = some (oG ys)) (h:ev T e env = .ok (.int (i:Int),R)) (hi:i<xs.length) (lx:xs.length≤1000) (ly:ys.length<1000) :
  bE T (.apop y x (.cons e .nil)) env = .nx ((env.set x (oG (xs.eraseIdx i))).set y (oG (ys ++ [xs.getD i 0]))):=by
 have ga:gD (ys ++ [xs.getD i 0])=gD ys ++ [D.int ((xs.getD i 0:Nat):Int)]:=cY _ _;have:=xx ht hxy hx hy h (E5 hi lx) (by rw[aU];exact cB (Nat.le_trans (List.length_eraseIdx_le ..) lx)) (by rw[←ga,aU];exact cB (by simp;omega));rw[this,←ga]
theorem zP:∀ l:List Nat,nJ (gD l)=some (gI l)
 |[]=>rfl
 | a::l=>by
  show (nJ (gD l)).map ((a:Int) :: ·)=_;rw[zP l];rfl
noncomputable def jU (l:List Nat):List Nat:=(eQ (gI l)).map Int.toNat
theorem jz (a:Int):∀ l:List Int,(insI a l).Perm (a::l)
 |[]=>.refl _
 | b::l=>by
  unfold insI;split
  ·exact .refl _
  ·exact ((jz a l).cons b).trans (.swap a b l)
theorem iQ:∀ l:List Int,(eQ l).Perm l
 |[]=>.refl _
 |a::l=>(jz a _).trans ((iQ l).cons a)
theorem oM (a:Int):∀{l:List Int},l.Pairwise (·≤·)→(insI a l).Pairwise (·≤·)
 |[],_=>List.pairwise_singleton _ _
 | b::l,h=>by
  have h':=List.pairwise_cons.mp h;unfold insI;split
  ·rename_i e;refine List.pairwise_cons.mpr ⟨fun x hx=>?_,h⟩;rcases et.mp hx with rfl | hx
   ·exact e
   ·exact Int.le_trans e (h'.1 x hx)
  ·rename_i e;refine List.pairwise_cons.mpr ⟨fun x hx=>?_,oM a h'.2⟩;rcases et.mp ((jz a l).mem_iff.mp hx) with rfl | hx
   ·omega
   ·exact h'.1 x hx
theorem lj:∀ l:List Int,(eQ l).Pairwise (·≤·)
 |[]=>.nil
 |a::l=>oM a (lj l)
theorem xA (l:List Nat):(gI l).map Int.toNat=l:=by
 rw[bg]
 conv=>rhs;rw[←List.map_id l]
 exact en fun a _=>bj a
theorem jA (l:List Nat):(jU l).Perm l:=by
 have:=(iQ (gI l)).map Int.toNat
 rwa [xA] at this
theorem zO (l:List Nat):(eQ (gI l)).map D.int=gD (jU l):=by
 unfold jU;rw[gD,bg];refine en fun z hz=>?_
 obtain⟨a,_,rfl⟩:=List.mem_map.mp ((iQ (gI l)).mem_iff.mp hz);show D.int (a:Int)=D.int (((a:Int).toNat:Nat):Int);rw[bj]
theorem vX {l:List Nat}(hn:l.Nodup):(jU l).Pairwise (· < ·):=by
 have h1:(jU l).Pairwise (·≤·):=by
  unfold jU;rw[h8];refine (lj (gI l)).imp fun h=>?_
  omega
 have h2:(jU l).Nodup:=(jA l).nodup_iff.mpr hn;exact (h1.and h2).imp fun ⟨a,b⟩=>by omega
theorem aK.sorted {T:Tb}{env:En}{a:Ex}{l:List Nat}(h:aK T a env (.lst (gD l))) (hl:l.length<64):aK T (.blt .sorted (.cons a .nil)) env (.lst (gD (jU l))):=aK.blt1 h (by
 show (match nJ (gD l) with
  |some ns=>if ns.length<64 then some (D.lst ((eQ ns).map .int)) else none
  |none=>none)=_
 rw[zP];dsimp only;rw[if_pos (by rw[aj];exact hl),zO])
theorem mL {α:Type}{a b:α}(h:Rs.ok a=Rs.ok b):a=b:=by cases h;rfl
theorem dE {α β:Type}{a:Rs α}{f:α→Rs β}{b:β}(h:a.bind f = .ok b):∃ x,a = .ok x∧f x = .ok b:=by
 cases a with
 |ok x=>exact⟨x,rfl,h⟩
 |exc e=>cases h
 |bad=>cases h
theorem Dh {T:Tb}{env:En}{d:D}{k:AZ}{es:lT}(h:aK T (.blt k es) env d) (hd:d.inner=true):ev T (.blt k es) env = .ok (d,.mv []):=by
 obtain⟨R,h⟩:=h;have h':=h;rw[ev] at h;obtain⟨p,_,h⟩:=dE h;obtain⟨z,_,h⟩:=dE h;have:=mL h;rw[fk] at this;obtain⟨rfl,e⟩:=this;rw[h',←e];unfold ji;rw[if_pos hd]
noncomputable def PLok (T:Tb) (pl:Nat):Prop:=∀(ns:List Int) (m s t:Nat),s≤m→m≤63→∃ ps:List Nat,ps.Pairwise (· < ·)∧ps.length=s∧(∀ p∈ps,p<m)∧T.cl pl [.lst (ns.map D.int),.int (m:Int),.int (s:Int),.int (t:Int)] = .ok (.lst (gD ps),true)
noncomputable def Bt (mx ce:Nat):bF:=(.cons (.asg (.nm 7) (.call mx (.cons (.call ce (.cons (.var 0) (.cons (.bin .Add (.var 6) (.var 3)) .nil))) (.cons (.bin .Add (.var 6) (.var 3)) .nil))) false)
  (.cons (.apop 5 4 (.cons (.bin .Mod (.bin .FloorDiv (.var 7) (.cst (.int (31)))) (.blt .len (.cons (.var 4) .nil))) .nil))
  .nil))
noncomputable def bPl (mx ce:Nat):bF:=(.cons (.asg (.nm 4) (.blt .lrng (.cons (.var 1) .nil)) false)
  (.cons (.asg (.nm 5) (.lst .nil) false)
  (.cons (.forr (.nm 6) (.rng1 (.var 2)) (Bt mx ce))
  (.cons (.ret (.blt .sorted (.cons (.var 5) .nil)))
  .nil))))
noncomputable abbrev EP (S:List D) (m s t:Nat) (L P:List Nat) (o6 o7:Slot):En:=[some (.lst S,.sh []),sN m,sN s,sN t,oG L,oG P,o6,o7]
theorem pB {S:List D}{m s t:Nat}{L P:List Nat}{o6 o7:Slot}(h6:cC o6) (h7:cC o7):Tame (EP S m s t L P o6 o7):=.cons (aH _) (.cons (aB _) (.cons (aB _) (.cons (aB _) (.cons (aB _) (.cons (aB _) (.cons h6 (.cons h7 .nil)))))))
theorem ni:∀{l:List Nat}{i:Nat},i<l.length→l.Perm (l.getD i 0::l.eraseIdx i)
 |[],i,h=>by cases h
 |a::l,0,h=>.refl _
 | a::l,i+1,h=>by
  have:=ni (l:=l) (i:=i) (by simpa using h);exact (this.cons a).trans (.swap _ _ _)
structure EW (m k:Nat) (L P:List Nat):Prop where
 nd:(L++P).Nodup
 lt:∀ p∈L++P,p<m
 lp:P.length=k
 ll:L.length+k=m
theorem EW.step {m k i:Nat}{L P:List Nat}(h:EW m k L P) (hi:i<L.length):EW m (k+1) (L.eraseIdx i) (P ++ [L.getD i 0]):=by
 have e:(L.eraseIdx i++(P ++ [L.getD i 0])).Perm (L++P):=by
  have h1:=ni hi;refine List.Perm.trans ?_ (h1.symm.append_right P);rw[←ek];refine (List.perm_append_comm).trans ?_;exact .refl _
 refine⟨e.nodup_iff.mpr h.nd,fun p hp=>h.lt p (e.mem_iff.mp hp),by simp[h.lp],?_⟩;have:=h.ll;rw[List.length_eraseIdx_of_lt hi];omega
theorem Bs {T:Tb}{mx ce:Nat}(hm:nu T mx) (hc:qM T ce) (ns:List Int) {m s t k:Nat}(hk:k<m) (hm63:m≤63) {L P:List Nat}(h:EW m k L P) {o6 o7:Slot}(h6:cC o6) (h7:cC o7) :
  ∃ o7' L' P',cC o7'∧EW m (k+1) L' P'∧aW [] (.nm 6) (.int (k:Int)) (EP (ns.map D.int) m s t L P o6 o7)=some (EP (ns.map D.int) m s t L P (sN k) o7)∧aC T (Bt mx ce) (EP (ns.map D.int) m s t L P (sN k) o7) = .nx (EP (ns.map D.int) m s t L' P' (sN k) o7'):=by
 have hL:L.length=m - k:=by have:=h.ll;omega
 have te1:Tame (EP (ns.map D.int) m s t L P (sN k) o7):=pB (aB _) h7;have v0:ev T (.var 0) (EP (ns.map D.int) m s t L P (sN k) o7) = .ok (.lst (ns.map D.int),.sh []):=rfl;have e1:ev T (.bin .Add (.var 6) (.var 3)) (EP (ns.map D.int) m s t L P (sN k) o7) = .ok (.int ((k+t:Nat):Int),.mv []):=by
  have v6:ev T (.var 6) (EP (ns.map D.int) m s t L P (sN k) o7) = .ok (.int (k:Int),.mv []):=aJ rfl rfl;have v3:ev T (.var 3) (EP (ns.map D.int) m s t L P (sN k) o7) = .ok (.int (t:Int),.mv []):=aJ rfl rfl;rw[ev,v6,aA,v3,aA,aO];show (gO (some (D.int ((k:Int)+(t:Int))))).bind _=_;rw[show (k:Int)+(t:Int)=((k+t:Nat):Int) by omega];rfl
 obtain⟨v,hv⟩:=hc ns (k+t);obtain⟨d,hd0,hd⟩:=hm v ((k+t:Nat):Int);have s1:bE T (.asg (.nm 7) (.call mx (.cons (.call ce (.cons (.var 0) (.cons (.bin .Add (.var 6) (.var 3)) .nil))) (.cons (.bin .Add (.var 6) (.var 3)) .nil))) false) (EP (ns.map D.int) m s t L P (sN k) o7) = .nx (EP (ns.map D.int) m s t L P (sN k) (sI d)) :=
  bU te1 (by simp) (Pc.Sm.bP (Pc.Sm.bP v0 e1 hv) e1 hd)
 have te2:Tame (EP (ns.map D.int) m s t L P (sN k) (sI d)):=pB (aB _) (aB _);let i:=(d / 31%(L.length:Int)).toNat;have hL0:(0:Int)<(L.length:Int):=by omega
 have hi0:0≤d / 31%(L.length:Int):=Int.emod_nonneg _ (by omega);have hi1:d / 31%(L.length:Int)<(L.length:Int):=Int.emod_lt_of_pos _ hL0;have e2:ev T (.bin .Mod (.bin .FloorDiv (.var 7) (.cst (.int (31)))) (.blt .len (.cons (.var 4) .nil))) (EP (ns.map D.int) m s t L P (sN k) (sI d)) = .ok (.int ((i:Nat):Int),.mv []):=by
  have v7:ev T (.var 7) (EP (ns.map D.int) m s t L P (sN k) (sI d)) = .ok (.int d,.mv []):=aJ rfl rfl;have f:ev T (.bin .FloorDiv (.var 7) (.cst (.int (31)))) (EP (ns.map D.int) m s t L P (sN k) (sI d)) = .ok (.int (d / 31),.mv []):=by
   rw[ev,v7,aA,ev,aA,aO];rfl
  rw[ev,f,aA,iC (T:=T) (env:=EP (ns.map D.int) m s t L P (sN k) (sI d)) (i:=4) (gs:=L) (t:=.own) rfl,aA,aO];show (gO ((if (0:Int)<(L.length:Int) then some (d / 31%(L.length:Int)) else none).map D.int)).bind _=_;rw[if_pos hL0,show d / 31%(L.length:Int)=((i:Nat):Int) by show _=(((d / 31%(L.length:Int)).toNat:Nat):Int);omega];rfl
 have hi:i<L.length:=by show (d / 31%(L.length:Int)).toNat<L.length;omega
 have s2:=za (T:=T) (x:=4) (y:=5) te2 (by decide) rfl rfl e2 hi (by omega) (by have:=h.lp;omega);refine⟨sI d,L.eraseIdx i,P ++ [L.getD i 0],aB _,h.step hi,fM (pB h6 h7) (by simp),?_⟩;unfold Bt;rw[aC,s1,aD,aC,s2,aD];rfl
theorem Dq {T:Tb}{mx ce:Nat}(hm:nu T mx) (hc:qM T ce) (ns:List Int) {m s t:Nat}(hs:s≤m) (hm63:m≤63):∃ ps:List Nat,ps.Pairwise (· < ·)∧ps.length=s∧(∀ p∈ps,p<m)∧Pc.ret (aC T (bPl mx ce) (aF [.lst (ns.map D.int),.int (m:Int),.int (s:Int),.int (t:Int)] 8)) = .ok (.lst (gD ps),true):=by
 have hst:aF [.lst (ns.map D.int),.int (m:Int),.int (s:Int),.int (t:Int)] 8=[some (.lst (ns.map D.int),.sh []),sN m,sN s,sN t,none,none,none,none]:=rfl;have te0:Tame [some (.lst (ns.map D.int),.sh []),sN m,sN s,sN t,none,none,none,none]:=.cons (aH _) (.cons (aB _) (.cons (aB _) (.cons (aB _) (.cons aG (.cons aG (.cons aG (.cons aG .nil)))))));have r1:ev T (.blt .lrng (.cons (.var 1) .nil)) [some (.lst (ns.map D.int),.sh []),sN m,sN s,sN t,none,none,none,none] = .ok (.lst (gD (List.range m)),.mv []):=by
  have h1:bK T (.cons (.var 1) .nil) [some (.lst (ns.map D.int),.sh []),sN m,sN s,sN t,none,none,none,none] = .ok [(.int (m:Int),.mv [])]:=rfl;rw[ev,h1,aA];show (gO (if fJ (m:Int)=true∧(m:Int)≤1000000 then some (D.lst (bC 0 1 (m:Int).toNat)) else none)).bind _=_;rw[if_pos ⟨qm (by omega),by omega⟩,bj,aM,aA];have:=eC m 0;rw[show ((0:Nat):Int)=0 from rfl] at this;rw[this,←List.range_eq_range',cV (fB _)]
 have s1:bE T (.asg (.nm 4) (.blt .lrng (.cons (.var 1) .nil)) false) [some (.lst (ns.map D.int),.sh []),sN m,sN s,sN t,none,none,none,none] = .nx [some (.lst (ns.map D.int),.sh []),sN m,sN s,sN t,oG (List.range m),none,none,none]:=bU te0 (by simp) r1;have s2:bE T (.asg (.nm 5) (.lst .nil) false) [some (.lst (ns.map D.int),.sh []),sN m,sN s,sN t,oG (List.range m),none,none,none] = .nx (EP (ns.map D.int) m s t (List.range m) [] none none):=by
  refine bU (.cons (aH _) (.cons (aB _) (.cons (aB _) (.cons (aB _) (.cons (aB _) (.cons aG (.cons aG (.cons aG .nil)))))))) (by simp) ?_;rw[ev,bK,aA];rfl
 obtain⟨e,q,⟨L,P,o6,o7,t6,t7,inv,rfl⟩⟩:=rS (t:=.nm 6) (R:=[]) (b:=aC T (Bt mx ce)) (fun k env=>∃ L P o6 o7,cC o6∧cC o7∧(k≤m→EW m k L P)∧env=EP (ns.map D.int) m s t L P o6 o7) ((List.range s).map fun (k:Nat)=>D.int (k:Int)) 0 (EP (ns.map D.int) m s t (List.range m) [] none none) ⟨_,_,none,none,aG,aG,fun _=>⟨by rw[List.append_nil];exact List.nodup_range,fun p hp=>by simpa using hp,rfl,by simp⟩,rfl⟩ (fun i d e hd J=>by
  rw[List.getElem?_map] at hd;have hi':i<s:=by
   cases q:(List.range s)[i]? with
   |none=>rw[q] at hd;cases hd
   |some z=>have:=(List.getElem?_eq_some_iff.mp q).1;rwa [cg] at this
  rw[List.getElem?_range hi'] at hd;cases hd;rw[eo] at J ⊢;obtain⟨L,P,o6,o7,t6,t7,inv,rfl⟩:=J;obtain⟨o7',L',P',t7',inv',b1,b2⟩:=Bs (T:=T) hm hc ns (s:=s) (t:=t) (show i<m by omega) hm63 (inv (by omega)) t6 t7;exact⟨_,_,b1,.inl b2,L',P',sN i,o7',aB _,t7',fun _=>inv',rfl⟩)
 have hit:fQ T (.rng1 (.var 2)) (EP (ns.map D.int) m s t (List.range m) [] none none) = .ok ((List.range s).map fun (k:Nat)=>D.int (k:Int),[]):=qw ⟨_,(aJ rfl rfl:ev T (.var 2) (EP (ns.map D.int) m s t (List.range m) [] none none) = .ok (.int (s:Int),.mv []))⟩ (by omega);have q':=cN hit q;simp only[List.length_map,List.length_range,Nat.zero_add] at inv;have inv:=inv hs;have nP:P.Nodup:=(eh.mp inv.nd).2.1;refine⟨jU P,vX nP,by rw[(jA P).length_eq,inv.lp],fun p hp=>inv.lt p (ao _ ((jA P).mem_iff.mp hp)),?_⟩;rw[hst];unfold bPl;rw[aC,s1,aD,aC,s2,aD,aC,q',aD];exact gN (Dh (aK.sorted ⟨_,(cO rfl rfl:ev T (.var 5) (EP (ns.map D.int) m s t L P o6 o7) = .ok (.lst (gD P),.mv [5]))⟩ (by rw[inv.lp];omega)) (fB _))
end Pc.Vw
end
section
namespace Pc.Vw
open PySem Pc Pc.Sm Pc.Gr Pc.Lw Fl64 Md
noncomputable def Be (mx ce:Nat):bF:=(.cons (.asg (.nm 6) (.bin .Add (.cst (.int (1))) (.bin .Mod (.bin .FloorDiv (.call mx (.cons (.call ce (.cons (.var 0) (.cons (.var 5) .nil))) (.cons (.bin .Add (.var 5) (.cst (.int (29)))) .nil))) (.cst (.int (11)))) (.cst (.int (63))))) false)
  (.cons (.setix 4 .none (.ix (.var 2) (.var 5)) (.bin .BitXor (.ix (.var 4) (.ix (.var 2) (.var 5))) (.var 6)))
  .nil))
noncomputable def z6 (mx ce:Nat):bF:=(.cons (.setix 4 .none (.ix (.var 3) (.var 5)) (.bin .Mod (.bin .FloorDiv (.call mx (.cons (.call ce (.cons (.var 0) (.cons (.var 5) .nil))) (.cons (.bin .Add (.var 5) (.cst (.int (37)))) .nil))) (.cst (.int (13)))) (.cst (.int (64)))))
  .nil)
noncomputable def bSp (mx ce:Nat):bF:=(.cons (.asg (.nm 4) (.blt .list (.cons (.var 1) .nil)) false)
  (.cons (.forr (.nm 5) (.rng1 (.blt .len (.cons (.var 2) .nil))) (Be mx ce))
  (.cons (.forr (.nm 5) (.rng1 (.blt .len (.cons (.var 3) .nil))) (z6 mx ce))
  (.cons (.ret (.var 4))
  .nil))))
noncomputable abbrev ES (S:List D) (row W M l:List Nat) (o5 o6:Slot):En:=[some (.lst S,.sh []),sG row,sG W,sG M,oG l,o5,o6]
theorem kh {S:List D}{row W M l:List Nat}{o5 o6:Slot}(h5:cC o5) (h6:cC o6):Tame (ES S row W M l o5 o6):=.cons (aH _) (.cons (aH _) (.cons (aH _) (.cons (aH _) (.cons (aB _) (.cons h5 (.cons h6 .nil))))))
theorem rP {T:Tb}{mx ce:Nat}(hm:nu T mx) (hc:qM T ce) (ns:List Int) {env:En}(v0:∃ R,ev T (.var 0) env = .ok (.lst (ns.map D.int),R)) {k:Nat}(v5:ev T (.var 5) env = .ok (.int (k:Int),.mv [])) (a b c:Int) (ha:0≤a) (hb:0<b) (hb':b<1073741824) (hc':0<c) :
  ∃ z:Nat,(z:Int)<c∧ev T (.bin .Mod (.bin .FloorDiv (.call mx (.cons (.call ce (.cons (.var 0) (.cons (.var 5) .nil))) (.cons (.bin .Add (.var 5) (.cst (.int a))) .nil))) (.cst (.int b))) (.cst (.int c))) env = .ok (.int (z:Int),.mv []):=by
 obtain⟨R0,v0⟩:=v0;obtain⟨v,hv⟩:=hc ns k;have e1:ev T (.bin .Add (.var 5) (.cst (.int a))) env = .ok (.int ((k:Int)+a),.mv []):=by
  rw[ev,v5,aA,ev,aA,aO];rfl
 obtain⟨d,hd0,hd⟩:=hm v ((k:Int)+a);have e2:=Pc.Sm.bP (Pc.Sm.bP v0 v5 hv) e1 hd;have e3:ev T (.bin .FloorDiv (.call mx (.cons (.call ce (.cons (.var 0) (.cons (.var 5) .nil))) (.cons (.bin .Add (.var 5) (.cst (.int a))) .nil))) (.cst (.int b))) env = .ok (.int (d / b),.mv []):=by
  rw[ev,e2,aA,ev,aA,aO];show (gO ((if 0<b∧b<1073741824 then some (d / b) else none).map D.int)).bind _=_;rw[if_pos ⟨hb,hb'⟩];rfl
 have h0:0≤d / b%c:=Int.emod_nonneg _ (by omega);have h1:d / b%c<c:=Int.emod_lt_of_pos _ hc';refine⟨(d / b%c).toNat,by omega,?_⟩;rw[ev,e3,aA,ev,aA,aO];show (gO ((if 0<c then some (d / b%c) else none).map D.int)).bind _=_;rw[if_pos hc',Int.toNat_of_nonneg h0];rfl
theorem gH {W:List Nat}{k p:Nat}(hk:k<W.length):p∈W.take (k+1)↔p∈W.take k∨p=W.getD k 0:=by
 rw[List.take_succ,List.getElem?_eq_getElem hk,iy,List.getD_eq_getElem?_getD,List.getElem?_eq_getElem hk];simp
theorem xo {W:List Nat}(hn:W.Nodup) {k:Nat}(hk:k<W.length):W.getD k 0∉W.take k:=fun h=>by
 rw[List.getD_eq_getElem?_getD,List.getElem?_eq_getElem hk] at h;have h:W[k]∈W.take k:=h;obtain⟨i,hi,e⟩:=List.mem_iff_getElem.mp h;rw[List.getElem_take] at e;have hi':i<k:=by rw[eg] at hi;omega
 exact (List.pairwise_iff_getElem.mp hn i k (by omega) hk hi') e
theorem jk {l:List Nat}{p q x:Nat}(h:q≠p):(l.set p x).getD q 0=l.getD q 0:=by
 rw[List.getD_eq_getElem?_getD,List.getElem?_set_ne (cj h),List.getD_eq_getElem?_getD]
theorem vR {l:List Nat}{p x:Nat}(h:p<l.length):(l.set p x).getD p 0=x:=by
 rw[List.getD_eq_getElem?_getD,List.getElem?_set_self h];rfl
theorem uh {l:List Nat}(h:Gr l) {p g:Nat}(hg:g<64):Gr (l.set p g):=fun z hz=>by
 rcases g9 hz with q | q
 ·exact h z q
 ·rw[q];exact hg
theorem DN {a e:Nat}(h:e≠0):a^^^e≠a:=fun q=>h (by
 have:a^^^(a^^^e)=a^^^a:=by rw[q]
 rwa [←bh,fm,cu] at this)
structure SpI (row:List Nat) (S:List Nat) (l:List Nat):Prop where
 gr:Gr l
 len:l.length=row.length
 ne:∀ p,p∈S→l.getD p 0≠row.getD p 0
 eq:∀ p,p∉S→l.getD p 0=row.getD p 0
theorem mem_getD {W:List Nat}{k:Nat}(hk:k<W.length):W.getD k 0∈W:=by
 rw[List.getD_eq_getElem?_getD,List.getElem?_eq_getElem hk];exact List.getElem_mem hk
theorem yd {T:Tb}{mx ce:Nat}(hm:nu T mx) (hc:qM T ce) (ns:List Int) {row W M l:List Nat}(hr:row.length≤63) (hn:W.Nodup) (hW:∀ p∈W,p<row.length) {k:Nat}(hk:k<W.length) (h:SpI row (W.take k) l) {o5 o6:Slot}(h5:cC o5) (h6:cC o6) :
  ∃ l' o6',cC o6'∧SpI row (W.take (k+1)) l'∧aW [] (.nm 5) (.int (k:Int)) (ES (ns.map D.int) row W M l o5 o6)=some (ES (ns.map D.int) row W M l (sN k) o6)∧aC T (Be mx ce) (ES (ns.map D.int) row W M l (sN k) o6) = .nx (ES (ns.map D.int) row W M l' (sN k) o6'):=by
 have te1:Tame (ES (ns.map D.int) row W M l (sN k) o6):=kh (aB _) h6;have v5:ev T (.var 5) (ES (ns.map D.int) row W M l (sN k) o6) = .ok (.int (k:Int),.mv []):=aJ rfl rfl;obtain⟨z,hz,ez⟩:=rP hm hc ns (env:=ES (ns.map D.int) row W M l (sN k) o6) ⟨_,rfl⟩ v5 29 11 63 (by decide) (by decide) (by decide) (by decide);have e1:ev T (.bin .Add (.cst (.int (1))) (.bin .Mod (.bin .FloorDiv (.call mx (.cons (.call ce (.cons (.var 0) (.cons (.var 5) .nil))) (.cons (.bin .Add (.var 5) (.cst (.int (29)))) .nil))) (.cst (.int (11)))) (.cst (.int (63))))) (ES (ns.map D.int) row W M l (sN k) o6) = .ok (.int ((1+z:Nat):Int),.mv []):=by
  have c1:ev T (.cst (.int (1))) (ES (ns.map D.int) row W M l (sN k) o6) = .ok (.int 1,.mv []):=rfl;rw[ev,c1,aA,ez,aA,aO];show (gO (some (D.int (1+(z:Int))))).bind _=_;rw[show 1+(z:Int)=((1+z:Nat):Int) by omega];rfl
 have s1:bE T (.asg (.nm 6) (.bin .Add (.cst (.int (1))) (.bin .Mod (.bin .FloorDiv (.call mx (.cons (.call ce (.cons (.var 0) (.cons (.var 5) .nil))) (.cons (.bin .Add (.var 5) (.cst (.int (29)))) .nil))) (.cst (.int (11)))) (.cst (.int (63))))) false) (ES (ns.map D.int) row W M l (sN k) o6) = .nx (ES (ns.map D.int) row W M l (sN k) (sN (1+z))):=bU te1 (by simp) e1;have te2:Tame (ES (ns.map D.int) row W M l (sN k) (sN (1+z))):=kh (aB _) (aB _);have w2:ev T (.var 2) (ES (ns.map D.int) row W M l (sN k) (sN (1+z))) = .ok (.lst (gD W),.sh []):=rfl;have w4:ev T (.var 4) (ES (ns.map D.int) row W M l (sN k) (sN (1+z))) = .ok (.lst (gD l),.mv [4]):=cO rfl rfl;have w5:ev T (.var 5) (ES (ns.map D.int) row W M l (sN k) (sN (1+z))) = .ok (.int (k:Int),.mv []):=aJ rfl rfl;have w6:ev T (.var 6) (ES (ns.map D.int) row W M l (sN k) (sN (1+z))) = .ok (.int ((1+z:Nat):Int),.mv []):=aJ rfl rfl;have hp:W.getD k 0<l.length:=by rw[h.len];exact hW _ (mem_getD hk)
 have i1:ev T (.ix (.var 2) (.var 5)) (ES (ns.map D.int) row W M l (sN k) (sN (1+z))) = .ok (.int ((W.getD k 0:Nat):Int),.mv []):=by
  rw[ev,w2,aA,w5,aA,kE hk,aM,aA];rfl
 have i2:ev T (.ix (.var 4) (.ix (.var 2) (.var 5))) (ES (ns.map D.int) row W M l (sN k) (sN (1+z))) = .ok (.int ((l.getD (W.getD k 0) 0:Nat):Int),.mv []):=by
  rw[ev,w4,aA,i1,aA,kE hp,aM,aA];rfl
 have i3:ev T (.bin .BitXor (.ix (.var 4) (.ix (.var 2) (.var 5))) (.var 6)) (ES (ns.map D.int) row W M l (sN k) (sN (1+z))) = .ok (.int ((l.getD (W.getD k 0) 0^^^(1+z):Nat):Int),.mv []):=by
  rw[ev,i2,aA,w6,aA,aO];show (gO (some (D.int (Builtin.bitXor ((l.getD (W.getD k 0) 0:Nat):Int) ((1+z:Nat):Int))))).bind _=_;rw[cZ];rfl
 have s2:=iF (T:=T) (x:=4) te2 rfl i1 (gL (n:=(gD l).length) (by rw[aU];exact hp)) i3 (by rw[aU];exact cB (by rw[h.len];omega));refine⟨l.set (W.getD k 0) (l.getD (W.getD k 0) 0^^^(1+z)),sN (1+z),aB _,⟨kM h.gr (by omega),by rw[List.length_set,h.len],fun p hp'=>?_,fun p hp'=>?_⟩,fM (kh h5 h6) (by simp),?_⟩
 ·by_cases e:p=W.getD k 0
  ·rw[e,vR hp,h.eq _ (xo hn hk)];exact DN (by omega)
  ·rw[jk e];exact h.ne p (((gH hk).mp hp').resolve_right e)
 ·have e:p≠W.getD k 0:=fun e=>hp' ((gH hk).mpr (.inr e))
  rw[jk e];exact h.eq p fun q=>hp' ((gH hk).mpr (.inl q))
 ·unfold Be;rw[aC,s1,aD,aC,s2,aD,jO];rfl
structure SqI (M l0 l:List Nat):Prop where
 gr:Gr l
 len:l.length=l0.length
 eq:∀ p,p∉M→l.getD p 0=l0.getD p 0
theorem zq {T:Tb}{mx ce:Nat}(hm:nu T mx) (hc:qM T ce) (ns:List Int) {row W M l0 l:List Nat}(hr:l0.length≤63) (hM:∀ p∈M,p<l0.length) {k:Nat}(hk:k<M.length) (h:SqI M l0 l) {o5 o6:Slot}(h5:cC o5) (h6:cC o6) :
  ∃ l',SqI M l0 l'∧aW [] (.nm 5) (.int (k:Int)) (ES (ns.map D.int) row W M l o5 o6)=some (ES (ns.map D.int) row W M l (sN k) o6)∧aC T (z6 mx ce) (ES (ns.map D.int) row W M l (sN k) o6) = .nx (ES (ns.map D.int) row W M l' (sN k) o6):=by
 have te1:Tame (ES (ns.map D.int) row W M l (sN k) o6):=kh (aB _) h6;have v5:ev T (.var 5) (ES (ns.map D.int) row W M l (sN k) o6) = .ok (.int (k:Int),.mv []):=aJ rfl rfl;have v3:ev T (.var 3) (ES (ns.map D.int) row W M l (sN k) o6) = .ok (.lst (gD M),.sh []):=rfl;obtain⟨z,hz,ez⟩:=rP hm hc ns (env:=ES (ns.map D.int) row W M l (sN k) o6) ⟨_,rfl⟩ v5 37 13 64 (by decide) (by decide) (by decide) (by decide);have hp:M.getD k 0<l.length:=by rw[h.len];exact hM _ (mem_getD hk)
 have i1:ev T (.ix (.var 3) (.var 5)) (ES (ns.map D.int) row W M l (sN k) o6) = .ok (.int ((M.getD k 0:Nat):Int),.mv []):=by
  rw[ev,v3,aA,v5,aA,kE hk,aM,aA];rfl
 have s2:=iF (T:=T) (x:=4) te1 rfl i1 (gL (n:=(gD l).length) (by rw[aU];exact hp)) ez (by rw[aU];exact cB (by rw[h.len];omega));refine⟨l.set (M.getD k 0) z,⟨uh h.gr (by omega),by rw[List.length_set,h.len],fun p hp'=>?_⟩,fM (kh h5 h6) (by simp),?_⟩
 ·rw[jk fun e=>hp' (by rw[e];exact mem_getD hk)];exact h.eq p hp'
 ·unfold z6;rw[aC,s2,aD,jO];rfl
theorem pF {n i:Nat}{d:D}(hd:((List.range n).map fun (k:Nat)=>D.int (k:Int))[i]? = some d):i<n∧d = .int (i:Int):=by
 rw[List.getElem?_map] at hd;have hi':i<n:=by
  cases q:(List.range n)[i]? with
  |none=>rw[q] at hd;cases hd
  |some z=>have:=(List.getElem?_eq_some_iff.mp q).1;rwa [cg] at this
 rw[List.getElem?_range hi'] at hd;cases hd;exact⟨hi',rfl⟩
theorem A9 {T:Tb}{mx ce:Nat}(hm:nu T mx) (hc:qM T ce) (ns:List Int) {row W M:List Nat}(hg:Gr row) (hr:row.length≤63) (hn:W.Nodup) (hW:∀ p∈W,p<row.length) (hM:∀ p∈M,p<row.length) (lW:W.length≤63) (lM:M.length≤63) :
  ∃ l,Gr l∧l.length=row.length∧(∀ p,p∉M→p∈W→l.getD p 0≠row.getD p 0)∧(∀ p,p∉M→p∉W→l.getD p 0=row.getD p 0)∧Pc.ret (aC T (bSp mx ce) (aF [.lst (ns.map D.int),.lst (gD row),.lst (gD W),.lst (gD M)] 7)) = .ok (.lst (gD l),true):=by
 have hst:aF [.lst (ns.map D.int),.lst (gD row),.lst (gD W),.lst (gD M)] 7=[some (.lst (ns.map D.int),.sh []),sG row,sG W,sG M,none,none,none]:=rfl;have te0:Tame [some (.lst (ns.map D.int),.sh []),sG row,sG W,sG M,none,none,none]:=.cons (aH _) (.cons (aH _) (.cons (aH _) (.cons (aH _) (.cons aG (.cons aG (.cons aG .nil))))));have c0:ev T (.blt .list (.cons (.var 1) .nil)) [some (.lst (ns.map D.int),.sh []),sG row,sG W,sG M,none,none,none] = .ok (.lst (gD row),.mv []):=by
  have h1:bK T (.cons (.var 1) .nil) [some (.lst (ns.map D.int),.sh []),sG row,sG W,sG M,none,none,none] = .ok [(.lst (gD row),.sh [])]:=rfl;rw[ev,h1,aA];show (Rs.ok (Pc.D.lst (gD row))).bind _=_;rw[aA,cV (fB _)]
 have s0:bE T (.asg (.nm 4) (.blt .list (.cons (.var 1) .nil)) false) [some (.lst (ns.map D.int),.sh []),sG row,sG W,sG M,none,none,none] = .nx (ES (ns.map D.int) row W M row none none):=bU te0 (by simp) c0;obtain⟨e1,q1,⟨l1,o5,o6,t5,t6,i1,rfl⟩⟩:=rS (t:=.nm 5) (R:=[]) (b:=aC T (Be mx ce)) (fun k env=>∃ l o5 o6,cC o5∧cC o6∧SpI row (W.take k) l∧env=ES (ns.map D.int) row W M l o5 o6) ((List.range W.length).map fun (k:Nat)=>D.int (k:Int)) 0 (ES (ns.map D.int) row W M row none none) ⟨row,none,none,aG,aG,⟨hg,rfl,fun p hp=>by simp at hp,fun _ _=>rfl⟩,rfl⟩ (fun i d e hd J=>by
  obtain⟨hi,rfl⟩:=pF hd;rw[eo] at J ⊢;obtain⟨l,o5,o6,t5,t6,inv,rfl⟩:=J;obtain⟨l',o6',t6',inv',b1,b2⟩:=yd (T:=T) (M:=M) hm hc ns hr hn hW hi inv t5 t6;exact⟨_,_,b1,.inl b2,l',sN i,o6',aB _,t6',inv',rfl⟩)
 have r1:=cN (qw ⟨_,iC (T:=T) (env:=ES (ns.map D.int) row W M row none none) (i:=2) (gs:=W) (t:=.sh []) rfl⟩ (by omega)) q1;simp only[List.length_map,List.length_range,Nat.zero_add,List.take_length] at i1;obtain⟨e2,q2,⟨l2,p5,p6,u5,u6,i2,rfl⟩⟩:=rS (t:=.nm 5) (R:=[]) (b:=aC T (z6 mx ce)) (fun k env=>∃ l o5 o6,cC o5∧cC o6∧SqI M l1 l∧env=ES (ns.map D.int) row W M l o5 o6) ((List.range M.length).map fun (k:Nat)=>D.int (k:Int)) 0 (ES (ns.map D.int) row W M l1 o5 o6) ⟨l1,o5,o6,t5,t6,⟨i1.gr,rfl,fun _ _=>rfl⟩,rfl⟩ (fun i d e hd J=>by
  obtain⟨hi,rfl⟩:=pF hd;obtain⟨l,o5,o6,t5,t6,inv,rfl⟩:=J;obtain⟨l',inv',b1,b2⟩:=zq (T:=T) (row:=row) (W:=W) hm hc ns (by rw[i1.len];exact hr) (fun p hp=>by rw[i1.len];exact hM p hp) hi inv t5 t6;exact⟨_,_,b1,.inl b2,l',sN i,o6,aB _,t6,inv',rfl⟩)
 have r2:=cN (qw ⟨_,iC (T:=T) (env:=ES (ns.map D.int) row W M l1 o5 o6) (i:=3) (gs:=M) (t:=.sh []) rfl⟩ (by omega)) q2;refine⟨l2,i2.gr,by rw[i2.len,i1.len],fun p h1 h2=>by rw[i2.eq p h1];exact i1.ne p h2,fun p h1 h2=>by rw[i2.eq p h1];exact i1.eq p h2,?_⟩;rw[hst];unfold bSp;rw[aC,s0,aD,aC,r1,aD,aC,r2,aD];rw[aC,bE,(cO rfl rfl:ev T (.var 4) (ES (ns.map D.int) row W M l2 p5 p6) = .ok (.lst (gD l2),.mv [4])),aR];rfl
noncomputable def FE (T:Tb) (sp:Nat):Prop:=∀(ns:List Int) (row W M:List Nat),Gr row→row.length≤63→W.Nodup→(∀ p∈W,p<row.length)→(∀ p∈M,p<row.length)→W.length≤63→M.length≤63→∃ l,Gr l∧l.length=row.length∧(∀ p,p∉M→p∈W→l.getD p 0≠row.getD p 0)∧(∀ p,p∉M→p∉W→l.getD p 0=row.getD p 0)∧T.cl sp [.lst (ns.map D.int),.lst (gD row),.lst (gD W),.lst (gD M)] = .ok (.lst (gD l),true)
end Pc.Vw
end
section
namespace Pc.Vw
open PySem Pc Pc.Sm Pc.Gr Pc.Lw Fl64 Md
section
variable {T:Tb}{env:En}{d:D}
theorem xB {op:Operator}{a b:Ex}(h:aK T (.bin op a b) env d) (hd:d.inner=true):ev T (.bin op a b) env = .ok (d,.mv []):=by
 obtain⟨R,h⟩:=h;have h':=h;rw[ev] at h;obtain⟨p,_,h⟩:=dE h;obtain⟨q,_,h⟩:=dE h;obtain⟨z,_,h⟩:=dE h;have:=mL h;rw[fk] at this;obtain⟨rfl,e⟩:=this;rw[h',←e];unfold ji;rw[if_pos hd]
theorem ixM {a i:Ex}(h:aK T (.ix a i) env d) (hd:d.flat=true):ev T (.ix a i) env = .ok (d,.mv []):=by
 obtain⟨R,h⟩:=h;have h':=h;rw[ev] at h;obtain⟨p,_,h⟩:=dE h;obtain⟨q,_,h⟩:=dE h;obtain⟨z,_,h⟩:=dE h;have:=mL h;rw[fk] at this;obtain⟨rfl,e⟩:=this;rw[h',←e];unfold r8;rw[if_pos hd]
theorem varM {i:Nat}(h:aK T (.var i) env d) (hd:d.flat=true):ev T (.var i) env = .ok (d,.mv []):=by
 obtain⟨R,h⟩:=h;cases q:env[i]? with
 |none=>rw[ev,q] at h;cases h
 |some o =>
  cases o with
  |none=>rw[ev,q] at h;cases h
  |some p =>
   obtain⟨d',t⟩:=p;rw[ev,q] at h;have:=mL h;rw[fk] at this;obtain⟨rfl,e⟩:=this;exact aJ q hd
theorem yh:∀{l:List (D×Rt)}{gs:List Nat},l.map (·.1)=gD gs→l.all (fun q=>q.1.flat || eT q.2)=true
 |[],_,_=>rfl
 |p::l,[],h=>by cases h
 | p::l,g::gs,h=>by
  have h1:p.1 = .int (g:Int):=(List.cons.inj h).1;have h2:l.map (·.1)=gD gs:=(List.cons.inj h).2;rw[dh,yh h2,h1];rfl
theorem B2 {o:Nat}{pick:List Nat}{t:lG}{it:rT}{c:nt}{e:Ex}{gs:List Nat}(h:aK T (.comp o pick t it c e) env (.lst (gD gs))):ev T (.comp o pick t it c e) env = .ok (.lst (gD gs),.mv []):=by
 obtain⟨R,h⟩:=h;have h':=h;rw[ev] at h;obtain⟨p,_,h⟩:=dE h;obtain⟨q,_,h⟩:=dE h;split at h
 ·have:=mL h;rw[fk] at this;obtain⟨e1,e2⟩:=this;have e1:q.map (·.1)=gD gs:=by injection e1
  rw[yh e1,if_pos rfl] at e2;rw[h',←e2]
 ·cases h
theorem pV (l:List Nat):(D.lst (gD l)).inner=true:=fB l
theorem aK.of {e:Ex}{R:Rt}(h:ev T e env = .ok (d,R)):aK T e env d:=⟨R,h⟩
theorem aK.lst2 {a b:Ex}{x y:D}(h:aK T a env x) (h2:aK T b env y):aK T (.lst (.cons a (.cons b .nil))) env (.lst [x,y]):=by
 obtain⟨R,h⟩:=h;obtain⟨R2,h2⟩:=h2;exact⟨_,by rw[ev,bK,h,aA,bK,h2,aA,bK,aA,aA,aA];exact if_pos (by show (2:Nat)≤lim;decide)⟩
theorem aK.call4 {f:Nat}{r:D}{fr:Bool}{a b c g:Ex}{x y z w:D}(h:aK T a env x) (h2:aK T b env y) (h3:aK T c env z) (h4:aK T g env w) (e:T.cl f [x,y,z,w] = .ok (r,fr)):aK T (.call f (.cons a (.cons b (.cons c (.cons g .nil))))) env r:=by
 obtain⟨R,h⟩:=h;obtain⟨R2,h2⟩:=h2;obtain⟨R3,h3⟩:=h3;obtain⟨R4,h4⟩:=h4;exact⟨_,by rw[ev,bK,h,aA,bK,h2,aA,bK,h3,aA,bK,h4,aA,bK,aA,aA,aA,aA,aA];show (T.cl f [x,y,z,w]).bind _=_;rw[e,aA]⟩
end
structure Tv (env:En) (vs:List (Option (D×Bool))):Prop where
 len:env.length=vs.length
 tm:Tame env
 at':∀(j:Nat) (d:D) (b:Bool),vs[j]? = some (some (d,b))→∃ t,env[j]? = some (some (d,t))∧(b=true→t = .own)
section
variable {T:Tb}{env:En}{vs:List (Option (D×Bool))}{d:D}
theorem Tv.vw (h:Tv env vs):Vw env (vs.map fun o=>o.map (·.1)):=by
 refine⟨by rw[aj];exact h.len,fun j d e=>?_⟩;rw[List.getElem?_map] at e;cases q:vs[j]? with
 |none=>rw[q] at e;cases e
 |some o =>
  cases o with
  |none=>rw[q] at e;cases e
  |some p =>
   rw[q] at e;cases e;obtain⟨t,a,_⟩:=h.at' j p.1 p.2 q;exact⟨t,a⟩
theorem Tv.own (h:Tv env vs) {i:Nat}(e:vs[i]? = some (some (d,true))):env[i]? = some (some (d,.own)):=by
 obtain⟨t,a,b⟩:=h.at' i d true e;rw[a,b rfl]
theorem Tv.var (h:Tv env vs) {i:Nat}{b:Bool}(e:vs[i]? = some (some (d,b))):aK T (.var i) env d:=by
 obtain⟨t,a,_⟩:=h.at' i d b e;rw[aK,ev,a];exact⟨_,rfl⟩
theorem Tv.set (h:Tv env vs) (i:Nat) (d:D) (t:Tg) (b:Bool) (ht:cC (some (d,t))) (hb:b=true→t = .own):Tv (env.set i (some (d,t))) (vs.set i (some (d,b))):=by
 refine⟨by rw[aq,aq];exact h.len,h.tm.set ht i,fun j x y e=>?_⟩;by_cases hj:i=j
 ·subst hj;have hl:i<vs.length:=by
   have:=(List.getElem?_eq_some_iff.mp e).1
   rwa [aq] at this
  rw[List.getElem?_set_self hl] at e;cases e;exact⟨t,List.getElem?_set_self (by rw[h.len];exact hl),hb⟩
 ·rw[List.getElem?_set_ne hj] at e;rw[List.getElem?_set_ne hj];exact h.at' j x y e
theorem Tv.asg (h:Tv env vs) {i:Nat}(hi:i<vs.length) {e:Ex}(he:ev T e env = .ok (d,.mv [])):∃ env',bE T (.asg (.nm i) e false) env = .nx env'∧Tv env' (vs.set i (some (d,true))) :=
 ⟨_,bU h.tm (by rw[h.len];exact hi) he,h.set i d .own true (aB _) fun _=>rfl⟩
theorem Tv.asgS (h:Tv env vs) {i:Nat}(hi:i<vs.length) {e:Ex}{R:Rt}(hR:R = .mv []∨R = .sh []) (he:ev T e env = .ok (d,R)):∃ env',bE T (.asg (.nm i) e false) env = .nx env'∧Tv env' (vs.set i (some (d,false))):=by
 rcases hR with rfl | rfl
 ·exact⟨_,bU h.tm (by rw[h.len];exact hi) he,h.set i d .own false (aB _) fun h=>by cases h⟩
 ·refine⟨_,?_,h.set i d (.sh []) false (aH _) fun h=>by cases h⟩;rw[bE,he,aR];show (if i<env.length then _ else _)=_;rw[if_pos (by rw[h.len];exact hi)];show Fl.nx (put env i d (.sh []))=_;rw[i8 h.tm]
theorem Tv.bindN (h:Tv env vs) {i:Nat}(hi:i<vs.length) (k:Int):∃ env',aW [] (.nm i) (.int k) env=some env'∧Tv env' (vs.set i (some (.int k,true))) :=
 ⟨_,fM h.tm (by rw[h.len];exact hi),h.set i _ .own true (aB _) fun _=>rfl⟩
theorem Tv.setg (h:Tv env vs) {x:Nat}{l:List Nat}(hx:vs[x]? = some (some (.lst (gD l),true))) {k e:Ex}{p z:Nat}(hk:aK T k env (.int (p:Int))) (hp:p<l.length) (hl:l.length≤1000) (he:ev T e env = .ok (.int (z:Int),.mv [])):∃ env',bE T (.setix x .none k e) env = .nx env'∧Tv env' (vs.set x (some (.lst (gD (l.set p z)),true))):=by
 obtain⟨R,hk⟩:=hk;have:=iF (T:=T) (x:=x) h.tm (h.own hx) hk (gL (n:=(gD l).length) (by rw[aU];exact hp)) he (by rw[aU];exact cB hl);rw[jO] at this;exact⟨_,this,h.set x _ .own true (aB _) fun _=>rfl⟩
theorem Tv.start (ds:List D) (n:Nat):Tv (aF ds n) (ds.map (fun d=>some (d,false))++List.replicate (n - ds.length) none):=by
 unfold aF;refine⟨by simp,fun s hs=>?_,fun j d b e=>?_⟩
 ·rcases iy.mp hs with q | q
  ·obtain⟨d,_,rfl⟩:=List.mem_map.mp q;unfold cG;split
   ·exact aB _
   ·exact aH _
  ·rw[List.eq_of_mem_replicate q];exact aG
 ·by_cases hj:j<ds.length
  ·rw[List.getElem?_append_left (by rw[aj];exact hj),List.getElem?_map] at e;rw[List.getElem?_append_left (by rw[aj];exact hj),List.getElem?_map];cases q:ds[j]? with
   |none=>rw[q] at e;cases e
   |some x=>rw[q] at e;cases e;exact⟨_,rfl,fun h=>by cases h⟩
  ·rw[List.getElem?_append_right (by rw[aj];omega),List.getElem?_replicate] at e;split at e<;>cases e
end
end Pc.Vw
end
section
namespace Pc.Vw
open PySem Pc Pc.Sm Pc.Gr Fl64 Md
theorem tV {T:Tb}{env:En}{a b c:Ex}{x y z:D}{f:Nat}{r:D}(h:aK T a env x) (h2:aK T b env y) (h3:aK T c env z) (e:T.cl f [x,y,z] = .ok (r,true)):ev T (.call f (.cons a (.cons b (.cons c .nil)))) env = .ok (r,.mv []):=by
 obtain⟨R,h⟩:=h;obtain⟨R2,h2⟩:=h2;obtain⟨R3,h3⟩:=h3;rw[ev,bK,h,aA,bK,h2,aA,bK,h3,aA,bK,aA,aA,aA,aA];show (T.cl f [x,y,z]).bind _=_;rw[e,aA];rfl
theorem z5 {T:Tb}{wa cn su ch:Nat}(hw:tw T wa) (hc:AH T cn) (hs:CS T su) (hch:D1 T ch) {env:En}{g mi:List Nat}{c:Nat}(gg:Gr g) (lg:g.length≤63) (lm:mi.length≤63) (lc:c≤62) (hm:∀ p∈mi,p<g.length) {b0 b1 b2:Bool}{w3 w4 w5 w6:Option (D×Bool)}(T0:Tv env [some (.lst (gD g),b0),some (.lst (gD mi),b1),some (.int (c:Int),b2),w3,w4,w5,w6]) :
  ∃ e,(∀ r,aC T (.cons (.asg (.nm 3) (.comp 1 [0] (.nm 0) (.seq (.call cn (.cons (.var 2) .nil))) .none (.call wa (.cons (.var 1) (.cons (.var 0) .nil)))) false)
  (.cons (.asg (.nm 4) (.bin .Add (.blt .list (.cons (.var 1) .nil)) (.call su (.cons (.var 3) (.cons (.var 1) (.cons (.blt .len (.cons (.var 0) .nil)) .nil))))) false)
  (.cons (.asg (.nm 5) (.call ch (.cons (.var 0) (.cons (.var 4) (.cons (.var 3) .nil)))) false)
  (.cons (.asg (.nm 6) (.comp 1 [0,5,1] (.nm 0) (.rng1 (.blt .len (.cons (.var 0) .nil))) (.some (.and (.cmp .NotIn (.var 0) (.var 3)) (.cmp .NotEq (.ix (.var 2) (.var 0)) (.ix (.var 1) (.var 0))))) (.var 0)) false) r)))) env=aC T r e)∧Tv e [some (.lst (gD g),b0),some (.lst (gD mi),b1),some (.int (c:Int),b2),some (.lst (gD (aT g c)),true),some (.lst (gD (sT g mi c)),true),some (.lst (gD (bQ g mi c)),true),some (.lst (gD (cD g (bQ g mi c) mi)),true)]:=by
 have V:Vw env [lD g,lD mi,nD c,w3.map (·.1),w4.map (·.1),w5.map (·.1),w6.map (·.1)]:=T0.vw;have gw:=hU gg c;have lw:=jK g c;obtain⟨R1,i1⟩:=Av (T:=T) (aK.lq (V.var (i:=2) rfl) (hc c (by omega)));have pk0:∀(j:Nat) (d:D),[lD g][j]? = some (some d)→∃ i,[0][j]? = some i∧[lD g,lD mi,nD c,w3.map (·.1),w4.map (·.1),w5.map (·.1),w6.map (·.1)][i]? = some (some d):=fun j d e=>by
  cases j with
  |zero=>exact⟨0,rfl,e⟩
  |succ j=>cases e
 have c1:aK T (.comp 1 [0] (.nm 0) (.seq (.call cn (.cons (.var 2) .nil))) .none (.call wa (.cons (.var 1) (.cons (.var 0) .nil)))) env (.lst (gD (aT g c))):=Cg i1 (by rw[jh];omega) (fun a ha=>by
  obtain⟨_,W⟩:=V.picked (pick:=[0]) (ws:=[lD g]) pk0 rfl (.int (a:Int));exact aK.bP (W.var (i:=1) rfl) (W.var (i:=0) rfl) (hw g a (jC c a ha))) (V.picked (pick:=[0]) (ws:=[lD g]) pk0 rfl .non).1
 obtain⟨e1,q1,T1⟩:=T0.asg (T:=T) (i:=3) (show (3:Nat)<7 by decide) (B2 c1);have V1:Vw e1 [lD g,lD mi,nD c,lD (aT g c),w4.map (·.1),w5.map (·.1),w6.map (·.1)]:=T1.vw;obtain⟨fr,h2⟩:=hs (aT g c) mi g.length gw (by omega) lm hm lg;have sl:=xG (aT g c) mi g.length;obtain⟨e2,q2,T2⟩:=T1.asg (T:=T) (i:=4) (show (4:Nat)<7 by decide) (xB (aK.bin (op:=.Add) (aK.blt1 (k:=.list) (V1.var (i:=1) rfl) (z:=.lst (gD mi)) rfl) (aK.call3 (V1.var (i:=3) rfl) (V1.var (i:=1) rfl) (V1.len (i:=0) rfl) h2) (z:=.lst (gD (sT g mi c))) (by
  show ck ((gD mi).length+(gD (susp (aT g c) mi g.length)).length) (.lst (gD mi++gD (susp (aT g c) mi g.length)))=_;unfold ck;rw[if_pos (by rw[aU,aU];exact cB (by omega)),cY])) (pV _))
 have V2:Vw e2 [lD g,lD mi,nD c,lD (aT g c),lD (sT g mi c),w5.map (·.1),w6.map (·.1)]:=T2.vw;obtain⟨e3,q3,T3⟩:=T2.asg (T:=T) (i:=5) (show (5:Nat)<7 by decide) (tV (V2.var (i:=0) rfl) (V2.var (i:=4) rfl) (V2.var (i:=3) rfl) (hch g (sT g mi c) (aT g c) gg gw lg (by rw[cz];omega) (by omega) (fun p hp=>(iy.mp hp).elim (hm p) zd)));have V3:Vw e3 [lD g,lD mi,nD c,lD (aT g c),lD (sT g mi c),lD (bQ g mi c),w6.map (·.1)]:=T3.vw;have pk3:∀(j:Nat) (d:D),[lD g,lD (bQ g mi c),lD mi][j]? = some (some d)→∃ i,[0,5,1][j]? = some i∧[lD g,lD mi,nD c,lD (aT g c),lD (sT g mi c),lD (bQ g mi c),w6.map (·.1)][i]? = some (some d):=fun j d e=>by
  cases j with
  |zero=>exact⟨0,rfl,e⟩
  |succ j=>cases j with
   |zero=>exact⟨5,rfl,e⟩
   |succ j=>cases j with
    |zero=>exact⟨1,rfl,e⟩
    |succ j=>cases e
 have tl:=kN g mi c;have c4:aK T (.comp 1 [0,5,1] (.nm 0) (.rng1 (.blt .len (.cons (.var 0) .nil))) (.some (.and (.cmp .NotIn (.var 0) (.var 3)) (.cmp .NotEq (.ix (.var 2) (.var 0)) (.ix (.var 1) (.var 0))))) (.var 0)) e3 (.lst (gD (cD g (bQ g mi c) mi))):=xy (l:=List.range g.length) (qw (V3.len (i:=0) rfl) (by omega)) (by rw[cg];omega) (fun a ha=>by
  obtain⟨_,W⟩:=V3.picked (pick:=[0,5,1]) (ws:=[lD g,lD (bQ g mi c),lD mi]) pk3 rfl (.int (a:Int));have al:=List.mem_range.mp ha;refine aK.and (k:=!mi.contains a) (aK.cmp (W.var (i:=0) rfl) (W.var (i:=3) rfl) (by show (inD _ _).map _=_;rw[xk];rfl)) (fun hk=>aK.cmp (aK.ix (W.var (i:=2) rfl) (W.var (i:=0) rfl) (kE (by omega))) (aK.ix (W.var (i:=1) rfl) (W.var (i:=0) rfl) (kE al)) ?_) (fun hk=>by rw[hk];rfl);rw[hk,ig];show some (!((((bQ g mi c).getD a 0:Nat):Int)==((g.getD a 0:Nat):Int)))=_;congr 1;rw[ey];simp only[Bool.not_eq_true',beq_eq_false_iff_ne,bne_iff_ne,ne_eq];omega) (V3.picked (pick:=[0,5,1]) (ws:=[lD g,lD (bQ g mi c),lD mi]) pk3 rfl .non).1
 obtain⟨e4,q4,T4⟩:=T3.asg (T:=T) (i:=6) (show (6:Nat)<7 by decide) (B2 c4);refine⟨e4,fun r=>?_,T4⟩;rw[aC,q1,aD,aC,q2,aD,aC,q3,aD,aC,q4,aD]
noncomputable def E4 (wa cn ic su ch:Nat):Rb:=.seq .nil A4 0 (.seq (bMDm wa cn su ch) (BK ic) 0 (.fin (.cons (.ret (.tup (.cons (.var 5) (.cons (.var 6) .nil)))) .nil)))
noncomputable def GV (wa cn ic su ch:Nat):bF:=(E4 wa cn ic su ch).ask
noncomputable def eK (g mi:List Nat) (c:Nat):D:=if c<mi.length∨vP g mi c=true then .non else z8 g mi c
theorem Bi {T:Tb}{wa cn ic su ch:Nat}(hw:tw T wa) (hc:AH T cn) (hi:D7 T ic) (hs:CS T su) (hch:D1 T ch) {g mi:List Nat}{c:Nat}(gg:Gr g) (lg:g.length≤63) (lm:mi.length≤63) (lc:c≤62) (hm:∀ p∈mi,p<g.length) :
  Pc.ret (aC T (GV wa cn ic su ch) (aF [.lst (gD g),.lst (gD mi),.int (c:Int)] 7)) = .ok (eK g mi c,true):=by
 have T0:Tv (aF [.lst (gD g),.lst (gD mi),.int (c:Int)] 7) [some (.lst (gD g),false),some (.lst (gD mi),false),some (.int (c:Int),false),none,none,none,none]:=Tv.start _ 7;have V0:Vw (aF [.lst (gD g),.lst (gD mi),.int (c:Int)] 7) [lD g,lD mi,nD c,none,none,none,none]:=T0.vw;obtain⟨e,q,TT⟩:=z5 hw hc hs hch gg lg lm lc hm T0;have V:Vw e [lD g,lD mi,nD c,lD (aT g c),lD (sT g mi c),lD (bQ g mi c),lD (cD g (bQ g mi c) mi)]:=TT.vw;show Pc.ret (aC T (.cons (.ite A4 (.cons .retN .nil) .nil) _) _)=_;rw[aC,jD (G7 V0)];by_cases h1:c<mi.length
 ·have e1:eK g mi c = .non:=if_pos (Or.inl h1);rw[dq h1,e1,if_pos rfl,aC,bE];rfl
 rw[de h1];simp only[Bool.false_eq_true,if_false];rw[aC,aD];refine (ij Pc.ret (q (.cons (.ite (BK ic) (.cons .retN .nil) .nil) (.cons (.ret (.tup (.cons (.var 5) (.cons (.var 6) .nil)))) .nil)))).trans ?_;rw[aC,jD (GQ hi lc V)];by_cases h2:vP g mi c=true
 ·have e1:eK g mi c = .non:=if_pos (Or.inr h2);rw[h2,e1,if_pos rfl,aC,bE];rfl
 rw[gq] at h2;rw[h2];simp only[Bool.false_eq_true,if_false];have e1:eK g mi c=z8 g mi c:=if_neg (by simp[h1,h2]);rw[aC,aD,e1];have o5:=TT.own (i:=5) rfl;have o6:=TT.own (i:=6) rfl;have f5:(D.lst (gD (bQ g mi c))).flat=false:=rfl;have f6:(D.lst (gD (cD g (bQ g mi c) mi))).flat=false:=rfl;have h:ev T (.tup (.cons (.var 5) (.cons (.var 6) .nil))) e = .ok (z8 g mi c,.mv [5,6]):=by
  rw[ev,bK,ev,o5];dsimp only;rw[aA,bK,ev,o6];dsimp only;rw[aA,bK,aA,aA,aA];rfl
 rw[aC,bE,h,aR];show Rs.ok (z8 g mi c,bW e [5,6])=_;have:bW e [5,6]=true:=by
  unfold bW;simp only[List.all_cons,List.all_nil,o5,o6];rfl
 rw[this]
end Pc.Vw
end
section
namespace Pc.Vw
open PySem Pc Pc.Sm Pc.Gr Pc.Lw Fl64 Md
theorem sq {T:Tb}{env e:En}{s:St}{r:bF}{x:Rs (D×Bool)}(h:bE T s env = .nx e) (h':Pc.ret (aC T r e)=x):Pc.ret (aC T (.cons s r) env)=x:=by
 rw[aC,h,aD];exact h'
theorem sqn {T:Tb}{env e:En}{s:St}{r:bF}{x:Fl}(h:bE T s env = .nx e) (h':aC T r e=x):aC T (.cons s r) env=x:=by
 rw[aC,h,aD];exact h'
theorem sQ {T:Tb}{env:En}:aC T .nil env = .nx env:=by rw[aC]
theorem lL {T:Tb}{env:En}{a:Ex}{x:Nat}(b:Nat) (hb:0<b) (hb':b<1073741824) (h:aK T a env (.int (x:Int))):aK T (.bin .FloorDiv a (.cst (.int (b:Int)))) env (.int ((x / b:Nat):Int)):=aK.bin h (aK.cst _) (by
 rw[aO];show ((if 0<(b:Int)∧(b:Int)<1073741824 then some ((x:Int) / (b:Int)) else none).map D.int)=_;rw[if_pos (by omega),Int.natCast_ediv];rfl)
theorem kR {T:Tb}{env:En}{a e:Ex}{x b:Nat}(hb:0<b) (h:aK T a env (.int (x:Int))) (h':aK T e env (.int (b:Int))):aK T (.bin .Mod a e) env (.int ((x%b:Nat):Int)):=aK.bin h h' (by
 rw[aO];show ((if 0<(b:Int) then some ((x:Int)%(b:Int)) else none).map D.int)=_;rw[if_pos (by omega),Int.natCast_emod];rfl)
theorem kI {T:Tb}{env:En}{a e:Ex}{x b:Nat}(h:aK T a env (.int (x:Int))) (h':aK T e env (.int (b:Int))):aK T (.bin .Add a e) env (.int ((x+b:Nat):Int)):=aK.bin h h' (by
 show some (D.int ((x:Int)+(b:Int)))=_;congr 2)
theorem Cy {T:Tb}{env:En}{a e:Ex}{x b:Nat}(hb:b≤x) (h:aK T a env (.int (x:Int))) (h':aK T e env (.int (b:Int))):aK T (.bin .Sub a e) env (.int ((x - b:Nat):Int)):=aK.bin h h' (by
 show some (D.int ((x:Int) - (b:Int)))=_;congr 2;omega)
theorem lit {T:Tb}{env:En}(b:Nat):aK T (.cst (.int (b:Int))) env (.int (b:Int)):=aK.cst _
theorem Vw.lock {env:En}{vs:List (Option D)}(V:Vw env vs) (R:List Nat):Vw (Pc.lock R env) vs:=by
 refine⟨by unfold Pc.lock;rw[List.length_mapIdx];exact V.1,fun j d e=>?_⟩;obtain⟨t,q⟩:=V.2 j d e;unfold Pc.lock;rw[List.getElem?_mapIdx,q];cases t with
 |own =>
  simp only[Option.map_some];split
  ·exact⟨_,rfl⟩
  ·exact⟨_,rfl⟩
 |sh R=>exact⟨_,rfl⟩
 |lk=>exact⟨_,rfl⟩
theorem Vw.unlock {e0 env:En}{vs:List (Option D)}(V:Vw env vs) (R:List Nat):Vw (Pc.unlock R e0 env) vs:=by
 refine⟨by unfold Pc.unlock;rw[List.length_mapIdx];exact V.1,fun j d e=>?_⟩;obtain⟨t,q⟩:=V.2 j d e;unfold Pc.unlock;rw[List.getElem?_mapIdx,q];cases t with
 |own=>exact⟨_,rfl⟩
 |sh R=>exact⟨_,rfl⟩
 |lk =>
  simp only[Option.map_some];split
  ·split
   ·exact⟨_,rfl⟩
   ·exact⟨_,rfl⟩
  ·exact⟨_,rfl⟩
theorem Ar {T:Tb}{t:lG}{it:rT}{b:bF}{env e:En}{l:List D}{R:List Nat}(hi:fQ T it env = .ok (l,R)) (h:bD t R (aC T b) l (Pc.lock R env) = .nx e):bE T (.forr t it b) env = .nx (Pc.unlock R env e):=by
 rw[bE,hi,aR];dsimp only;rw[h]
theorem kZ {g g' y mi:List Nat}(l:g.length=g'.length) (h:∀ p,p∉mi→g.getD p 0=g'.getD p 0):cD g y mi=cD g' y mi:=by
 unfold cD;rw[l];refine List.filter_congr fun p hp=>?_
 by_cases hm:p∈mi
 ·simp[hm]
 ·rw[h p hm]
theorem xK {g g' mi:List Nat}{c:Nat}(gg:Gr g) (gg':Gr g') (l:g.length=g'.length) (n63:g.length≤63) (c62:c≤62) (mn:mi.Nodup) (ml:∀ p∈mi,p<g.length) (h:∀ p,p∉mi→g.getD p 0=g'.getD p 0):eK g mi c=eK g' mi c:=by
 have key:∀{g g':List Nat},Gr g→Gr g'→g.length=g'.length→g.length≤63→(∀ p∈mi,p<g.length)→(∀ p,p∉mi→g.getD p 0=g'.getD p 0)→vP g mi c=false→bQ g' mi c=bQ g mi c∧vP g' mi c=false:=fun {g g'} gg gg' l n63 ml h hf=>by
  obtain⟨n1,n2,n3,n4⟩:=x9 gg hf;exact tJ gg' (by omega) c62 mn (fun p hp=>by rw[←l];exact ml p hp) ⟨n1,n2.trans l,n3,by rw[←kZ l h];exact n4⟩
 unfold eK;by_cases h1:c<mi.length
 ·rw[if_pos (.inl h1),if_pos (.inl h1)]
 by_cases h2:vP g mi c=true
 ·have h3:vP g' mi c=true:=Classical.byContradiction fun z=>by
   rw[gq] at z;obtain⟨_,q⟩:=key gg' gg l.symm (by omega) (fun p hp=>by rw[←l];exact ml p hp) (fun p hp=>(h p hp).symm) z;exact absurd (h2.symm.trans q) (by decide)
  rw[if_pos (.inr h2),if_pos (.inr h3)]
 ·rw[gq] at h2;obtain⟨e,q⟩:=key gg gg' l n63 ml h h2;rw[if_neg (by simp[h1,h2]),if_neg (by simp[h1,q]),z8,z8,e,kZ l h]
theorem xP {T:Tb}{env:En}{a b:Ex}{x y:D}{f:Nat}{r:D}(h:aK T a env x) (h2:aK T b env y) (e:T.cl f [x,y] = .ok (r,true)):ev T (.call f (.cons a (.cons b .nil))) env = .ok (r,.mv []):=by
 obtain⟨R,h⟩:=h;obtain⟨R2,h2⟩:=h2;rw[ev,bK,h,aA,bK,h2,aA,bK,aA,aA,aA];show (T.cl f [x,y]).bind _=_;rw[e,aA];rfl
theorem tW {T:Tb}{env:En}{a b c g:Ex}{x y z w:D}{f:Nat}{r:D}(h:aK T a env x) (h2:aK T b env y) (h3:aK T c env z) (h4:aK T g env w) (e:T.cl f [x,y,z,w] = .ok (r,true)):ev T (.call f (.cons a (.cons b (.cons c (.cons g .nil))))) env = .ok (r,.mv []):=by
 obtain⟨R,h⟩:=h;obtain⟨R2,h2⟩:=h2;obtain⟨R3,h3⟩:=h3;obtain⟨R4,h4⟩:=h4;rw[ev,bK,h,aA,bK,h2,aA,bK,h3,aA,bK,h4,aA,bK,aA,aA,aA,aA,aA];show (T.cl f [x,y,z,w]).bind _=_;rw[e,aA];rfl
theorem ED {T:Tb}{env:En}{a b:Ex}{x y:D}{f:Nat}{r:D}{fr:Bool}(h:ev T a env = .ok (x,.mv [])) (h2:ev T b env = .ok (y,.mv [])) (e:T.cl f [x,y] = .ok (r,fr)):∃ R:Rt,(R = .mv []∨R = .sh [])∧ev T (.call f (.cons a (.cons b .nil))) env = .ok (r,R):=by
 refine⟨if fr=true then .mv [] else .sh [],by cases fr;exact .inr rfl;exact .inl rfl,?_⟩;rw[ev,bK,h,aA,bK,h2,aA,bK,aA,aA,aA];show (T.cl f [x,y]).bind _=_;rw[e,aA];rfl
theorem zf {T:Tb}{mx ce:Nat}(hm:nu T mx) (hc:qM T ce) (ns:List Int) (j k:Nat):∃ d:Nat,∀{env:En},aK T (.var 0) env (.lst (ns.map D.int))→ev T (.call mx (.cons (.call ce (.cons (.var 0) (.cons (.cst (.int (j:Int))) .nil))) (.cons (.cst (.int (k:Int))) .nil))) env = .ok (.int (d:Int),.mv []):=by
 obtain⟨v,hv⟩:=hc ns j;obtain⟨z,h0,hz⟩:=hm v k;refine⟨z.toNat,fun {env} h=>?_⟩;have:=xP (aK.bP h (lit j) hv) (lit k) hz;rw[Int.toNat_of_nonneg h0];exact this
theorem FY {T:Tb}{env:En}{a b:Ex}{x y:D}(h:ev T a env = .ok (x,.mv [])) (h2:ev T b env = .ok (y,.mv [])):ev T (.lst (.cons a (.cons b .nil))) env = .ok (.lst [x,y],.mv []):=by
 rw[ev,bK,h,aA,bK,h2,aA,bK,aA,aA,aA];rfl
theorem Tv.app0 {T:Tb}{env:En}{vs:List (Option (D×Bool))}(h:Tv env vs) {x:Nat}{l l2:List Nat}(hx:vs[x]? = some (some (.lst [.lst (gD l),.lst (gD l2)],true))) (k:Nat) (hl:l.length≤900) :
  ∃ env',bE T (.mut x (.some (.cst (.int (0)))) .append (.cons (.cst (.int (k:Int))) .nil)) env = .nx env'∧Tv env' (vs.set x (some (.lst [.lst (gD (l ++ [k])),.lst (gD l2)],true))):=by
 have:=xD (T:=T) (p:=.cst (.int 0)) (e:=.cst (.int (k:Int))) (d:=.int (k:Int)) (R:=.mv []) (j:=0) h.tm (h.own hx) (by rw[ev]) rfl rfl (by rw[ev]) (by rw[aU];exact cB (by omega));refine⟨_,this,?_⟩;rw[cY];exact h.set x _ .own true (aB _) fun _=>rfl
theorem Tv.app1 {T:Tb}{env:En}{vs:List (Option (D×Bool))}(h:Tv env vs) {x:Nat}{l l2:List Nat}(hx:vs[x]? = some (some (.lst [.lst (gD l),.lst (gD l2)],true))) (k:Nat) (hl:l2.length≤900) :
  ∃ env',bE T (.mut x (.some (.cst (.int (1)))) .append (.cons (.cst (.int (k:Int))) .nil)) env = .nx env'∧Tv env' (vs.set x (some (.lst [.lst (gD l),.lst (gD (l2 ++ [k]))],true))):=by
 have:=xD (T:=T) (p:=.cst (.int 1)) (e:=.cst (.int (k:Int))) (d:=.int (k:Int)) (R:=.mv []) (j:=1) h.tm (h.own hx) (by rw[ev]) rfl rfl (by rw[ev]) (by rw[aU];exact cB (by omega));refine⟨_,this,?_⟩;rw[cY];exact h.set x _ .own true (aB _) fun _=>rfl
theorem yT {T:Tb}{env:En}{x:Nat}{p e:Ex}{xs ys:List D}{d:D}{i:Int}{j:Nat}{R:Rt}(ht:Tame env) (hx:env[x]? = some (some (.tup xs,.own))) (hp:ev T p env = .ok (.int i,R)) (hi:Pc.jy xs.length i=some j) (hj:xs[j]? = some (.lst ys)) (h:ev T e env = .ok (d,.mv [])) (hl:ys.length+1≤lim) :
  bE T (.mut x (.some p) .append (.cons e .nil)) env = .nx (env.set x (some (.tup (xs.set j (.lst (ys ++ [d]))),.own))):=by
 have ho:ownAt env x=some (.tup xs):=by unfold ownAt;rw[hx]
 have hs:bK T (.cons e .nil) env = .ok [(d,.mv [])]:=by
  rw[bK,h,aA];rfl
 have hat:D.at1 (.tup xs) (some i)=some ys:=by simp[D.at1,hi,hj]
 rw[bE,ho];simp only[mH,hp,aA,aR,hat,hs,List.map_cons,List.map_nil,yi,aZ,Rt.roots,List.flatten_cons,List.flatten_nil,List.append_nil,List.contains_nil,Bool.false_eq_true,if_false,rY.copies,dF,eM,Option.map_some];have:(ys ++ [d]).length≤lim:=by rw[cz];exact hl
 simp only[List.nodup_nil,decide_true,bW,List.all_nil,Bool.not_false,Bool.and_self,this,if_true,D.set1,hi,Bool.true_and];rw[i9 ht]
theorem Tv.tp0 {T:Tb}{env:En}{vs:List (Option (D×Bool))}(h:Tv env vs) {x:Nat}{l l2:List Nat}(hx:vs[x]? = some (some (.tup [.lst (gD l),.lst (gD l2)],true))) (k:Nat) (hl:l.length≤900) :
  ∃ env',bE T (.mut x (.some (.cst (.int (0)))) .append (.cons (.cst (.int (k:Int))) .nil)) env = .nx env'∧Tv env' (vs.set x (some (.tup [.lst (gD (l ++ [k])),.lst (gD l2)],true))):=by
 have:=yT (T:=T) (p:=.cst (.int 0)) (e:=.cst (.int (k:Int))) (d:=.int (k:Int)) (R:=.mv []) (j:=0) h.tm (h.own hx) (by rw[ev]) rfl rfl (by rw[ev]) (by rw[aU];exact cB (by omega));refine⟨_,this,?_⟩;rw[cY];exact h.set x _ .own true (aB _) fun _=>rfl
theorem Tv.tp1 {T:Tb}{env:En}{vs:List (Option (D×Bool))}(h:Tv env vs) {x:Nat}{l l2:List Nat}(hx:vs[x]? = some (some (.tup [.lst (gD l),.lst (gD l2)],true))) (k:Nat) (hl:l2.length≤900) :
  ∃ env',bE T (.mut x (.some (.cst (.int (1)))) .append (.cons (.cst (.int (k:Int))) .nil)) env = .nx env'∧Tv env' (vs.set x (some (.tup [.lst (gD l),.lst (gD (l2 ++ [k]))],true))):=by
 have:=yT (T:=T) (p:=.cst (.int 1)) (e:=.cst (.int (k:Int))) (d:=.int (k:Int)) (R:=.mv []) (j:=1) h.tm (h.own hx) (by rw[ev]) rfl rfl (by rw[ev]) (by rw[aU];exact cB (by omega));refine⟨_,this,?_⟩;rw[cY];exact h.set x _ .own true (aB _) fun _=>rfl
theorem yI (a b:List Nat):iU .Eq (.lst [.lst (gD a),.lst (gD b)]) (.lst [.lst (gD a),.lst (gD b)])=some true:=by
 show D.eqf 40 (.lst [.lst (gD a),.lst (gD b)]) (.lst [.lst (gD a),.lst (gD b)])=some true;have e:∀ a:List Nat,D.eqf 39 (.lst (gD a)) (.lst (gD a))=some true:=fun a=>by rw[tQ,vo 37];simp
 show (if (2:Nat)=2 then qz (D.eqf 39) [.lst (gD a),.lst (gD b)] [.lst (gD a),.lst (gD b)] else some false)=some true;rw[if_pos rfl,qz,e,qz,e,qz];rfl
theorem AJ (a b:List Nat):D.eqf 40 (.tup [.lst (gD a),.lst (gD b)]) (.tup [.lst (gD a),.lst (gD b)])=some true:=by
 have e:∀ a:List Nat,D.eqf 39 (.lst (gD a)) (.lst (gD a))=some true:=fun a=>by rw[tQ,vo 37];simp
 show (if (2:Nat)=2 then qz (D.eqf 39) [.lst (gD a),.lst (gD b)] [.lst (gD a),.lst (gD b)] else some false)=some true;rw[if_pos rfl,qz,e,qz,e,qz];rfl
theorem Dz (a b:List Nat):iU .NotEq (.lst [.lst (gD a),.lst (gD b)]) (.lst [.lst (gD a),.lst (gD b)])=some false:=by
 show (iU .Eq (.lst [.lst (gD a),.lst (gD b)]) (.lst [.lst (gD a),.lst (gD b)])).map _=_;rw[yI];rfl
theorem sk (g mi:List Nat) (c:Nat):iU .NotEq (eK g mi c) (eK g mi c)=some false:=by
 show (D.eqf 40 (eK g mi c) (eK g mi c)).map _=_;unfold eK;split
 ·rfl
 ·rw[z8,AJ];rfl
end Pc.Vw
end
section
namespace K19
open PySem Pc Pc.Sm Pc.Gr Pc.Lw Pc.Vw Fl64 Md
noncomputable def b0:bF:=tF 0 1
noncomputable def b1:bF:=bIN 0 2
noncomputable def b2:bF:=DQ 0
noncomputable def b3:bF:=EA 0
noncomputable def b4:bF:=bRP 0
noncomputable def b5:bF:=bRN 4
noncomputable def b6:bF:=bCN 2
noncomputable def b7:bF:=bIC 6 3
noncomputable def b8:bF:=bMD 3 6 7 10 15
noncomputable def b9:bF:=bLO 2
noncomputable def b10:bF:=bSU 3 4 5 9 11
noncomputable def b11:bF:=bSR 0 1 12 13 14
noncomputable def b12:bF:=bGP 0
noncomputable def b13:bF:=bSC 0
noncomputable def b14:bF:=bAD
noncomputable def b15:bF:=bCH 0 1 3 4 5 9 16
noncomputable def b16:bF:=bDP 0
noncomputable def b17:bF:=bLT
noncomputable def b18:bF:=bCe
noncomputable def b19:bF:=bMx
noncomputable def b20:bF:=bRw 19
noncomputable def b21:bF:=bMa 17
noncomputable def b22:bF:=bPl 19 18
noncomputable def b23:bF:=bSp 19 18
noncomputable def b24:bF:=GV 3 6 7 10 15
noncomputable def E3:bF:=(.cons (.asg (.nm 4) (.lst (.cons (.blt .list (.cons (.var 0) .nil)) (.cons (.blt .list (.cons (.var 1) .nil)) .nil))) false)
  (.cons (.asg (.nm 5) (.call 24 (.cons (.ix (.var 4) (.cst (.int (0)))) (.cons (.ix (.var 4) (.cst (.int (1)))) (.cons (.var 2) .nil)))) false)
  (.cons (.ite (.or (.cmp .NotEq (.var 4) (.lst (.cons (.var 0) (.cons (.var 1) .nil)))) (.cmp .NotEq (.var 5) (.var 3))) (.cons (.ret (.cst (.bl false)))
  .nil) .nil)
  (.cons (.ite (.cmp .Is (.var 5) (.cst .non)) (.cons (.ret (.cst (.bl true)))
  .nil) .nil)
  (.cons (.mut 4 (.some (.cst (.int (0)))) .append (.cons (.cst (.int (1))) .nil))
  (.cons (.mut 4 (.some (.cst (.int (1)))) .append (.cons (.cst (.int (99))) .nil))
  (.cons (.ite (.cmp .NotEq (.var 5) (.var 3)) (.cons (.ret (.cst (.bl false)))
  .nil) .nil)
  (.cons (.mut 5 (.some (.cst (.int (0)))) .append (.cons (.cst (.int (2))) .nil))
  (.cons (.mut 5 (.some (.cst (.int (1)))) .append (.cons (.cst (.int (2))) .nil))
  (.cons (.ret (.cmp .Eq (.var 4) (.lst (.cons (.bin .Add (.var 0) (.lst (.cons (.cst (.int (1))) .nil))) (.cons (.bin .Add (.var 1) (.lst (.cons (.cst (.int (99))) .nil))) .nil)))))
  .nil))))))))))
noncomputable def b26:bF:=(.cons (.asg (.nm 1) (.call 19 (.cons (.call 18 (.cons (.var 0) (.cons (.cst (.int (0))) .nil))) (.cons (.cst (.int (1))) .nil))) false)
  (.cons (.asg (.nm 2) (.bin .Add (.cst (.int (1))) (.bin .Mod (.var 1) (.cst (.int (10))))) false)
  (.cons (.asg (.nm 3) (.call 21 (.cons (.call 20 (.cons (.var 0) (.cons (.bin .Add (.cst (.int (1))) (.bin .Mod (.bin .FloorDiv (.var 1) (.cst (.int (10)))) (.cst (.int (12))))) .nil))) (.cons (.var 2) .nil))) false)
  (.cons (.asg (.nm 1) (.call 19 (.cons (.call 18 (.cons (.var 0) (.cons (.cst (.int (1))) .nil))) (.cons (.cst (.int (2))) .nil))) false)
  (.cons (.asg (.nm 4) (.bin .Add (.cst (.int (1))) (.bin .Mod (.var 1) (.var 2))) false)
  (.cons (.asg (.nm 5) (.bin .Mod (.bin .FloorDiv (.var 1) (.cst (.int (30)))) (.bin .Add (.bin .FloorDiv (.bin .Sub (.var 2) (.var 4)) (.cst (.int (2)))) (.cst (.int (2))))) false)
  (.cons (.ite (.cmp .Eq (.bin .Mod (.bin .FloorDiv (.var 1) (.cst (.int (1000)))) (.cst (.int (6)))) (.cst (.int (0)))) (.cons (.asg (.nm 4) (.cst (.int (0))) false)
  (.cons (.asg (.nm 5) (.cst (.int (0))) false)
  .nil)) .nil)
  (.cons (.asg (.nm 6) (.call 22 (.cons (.var 0) (.cons (.blt .len (.cons (.var 3) .nil)) (.cons (.var 4) (.cons (.cst (.int (5))) .nil))))) false)
  (.cons (.asg (.nm 7) (.call 22 (.cons (.var 0) (.cons (.blt .len (.cons (.var 3) .nil)) (.cons (.var 5) (.cons (.cst (.int (71))) .nil))))) false)
  (.cons (.asg (.nm 8) (.call 23 (.cons (.var 0) (.cons (.var 3) (.cons (.var 7) (.cons (.var 6) .nil))))) false)
  (.cons (.asg (.nm 9) (.blt .list (.cons (.var 8) .nil)) false)
  (.cons (.asg (.nm 10) (.blt .list (.cons (.var 8) .nil)) false)
  (.cons (.forr (.nm 11) (.rng1 (.blt .len (.cons (.var 6) .nil))) (.cons (.setix 9 .none (.ix (.var 6) (.var 11)) (.bin .BitXor (.ix (.var 8) (.ix (.var 6) (.var 11))) (.bin .Add (.cst (.int (1))) (.bin .Mod (.bin .Add (.var 1) (.var 11)) (.cst (.int (63)))))))
  (.cons (.setix 10 .none (.ix (.var 6) (.var 11)) (.ix (.var 3) (.ix (.var 6) (.var 11))))
  .nil)))
  (.cons (.asg (.nm 12) (.call 24 (.cons (.blt .list (.cons (.var 8) .nil)) (.cons (.blt .list (.cons (.var 6) .nil)) (.cons (.var 2) .nil)))) false)
  (.cons (.forr (.nm 13) (.seq (.lst (.cons (.var 9) (.cons (.var 10) .nil)))) (.cons (.ite (.cmp .NotEq (.call 24 (.cons (.blt .list (.cons (.var 13) .nil)) (.cons (.blt .list (.cons (.var 6) .nil)) (.cons (.var 2) .nil)))) (.var 12)) (.cons (.ret (.cst (.bl false)))
  .nil) .nil)
  .nil))
  (.cons (.ret (.call 25 (.cons (.var 8) (.cons (.var 6) (.cons (.var 2) (.cons (.var 12) .nil))))))
  .nil))))))))))))))))
noncomputable def fns:List Fn:=[⟨2,5,b0⟩,⟨1,1,b1⟩,⟨2,5,b2⟩,⟨2,4,b3⟩,⟨2,7,b4⟩,⟨1,3,b5⟩,⟨1,1,b6⟩,⟨2,2,b7⟩,⟨3,7,b8⟩,⟨2,2,b9⟩,⟨3,7,b10⟩,⟨1,8,b11⟩,⟨3,6,b12⟩,⟨2,2,b13⟩,⟨2,5,b14⟩,⟨3,9,b15⟩,⟨2,4,b16⟩,⟨2,4,b17⟩,⟨2,2,b18⟩,⟨2,3,b19⟩,⟨2,4,b20⟩,⟨2,5,b21⟩,⟨4,8,b22⟩,⟨4,7,b23⟩,⟨3,7,b24⟩,⟨4,6,E3⟩,⟨1,14,b26⟩]
noncomputable def gl:Nat→D
 |0=>.int 64
 |1=>.int 67
 |_=>.non
noncomputable abbrev T (n:Nat):Tb:=⟨Pc.run fns gl 1000 n,gl,1000⟩
theorem lC (n:Nat):(T n).cl=Pc.run fns gl 1000 n:=rfl
end K19
end
section
namespace K19
open PySem Pc Pc.Sm Pc.Gr Pc.Lw Pc.Vw Fl64 Md
theorem h0 (n:Nat):iW (T (n+1)) 0:=fun a b hb=>by
 rw[lC,bI (F:=⟨2,5,b0⟩) rfl rfl];exact ya (T:=T n) rfl rfl (by show 7≤1000;decide) a b hb
theorem h2 (n:Nat):Ak (T (n+2)) 2:=fun a k ha hk=>by
 rw[lC,bI (F:=⟨2,5,b2⟩) rfl rfl];exact CB (h0 n) (by show 41≤1000;decide) a k ha hk
theorem h1 (n:Nat):zG (T (n+3)) 1:=fun a ha h=>by
 rw[lC,bI (F:=⟨1,1,b1⟩) rfl rfl];exact GH (T:=T (n+2)) rfl (h2 n) ha h
theorem h3 (n:Nat):tw (T (n+2)) 3:=fun gs x hx=>by
 rw[lC,bI (F:=⟨2,4,b3⟩) rfl rfl];exact Dv (h0 n) gs x hx
theorem h4 (n:Nat):xi (T (n+2)) 4:=fun a b ha hb hb0 hl=>by
 rw[lC,bI (F:=⟨2,7,b4⟩) rfl rfl];exact F6 (h0 n) ha hb hb0 hl
theorem h5 (n:Nat):DX (T (n+3)) 5:=fun ns hn hl=>by
 rw[lC,bI (F:=⟨1,3,b5⟩) rfl rfl];exact FW (h4 n) hn hl
theorem h6 (n:Nat):AH (T (n+3)) 6:=fun c hc=>by
 rw[lC,bI (F:=⟨1,1,b6⟩) rfl rfl];exact FX (h2 n) c hc
theorem h7 (n:Nat):D7 (T (n+4)) 7:=fun gs c hc=>by
 rw[lC,bI (F:=⟨2,2,b7⟩) rfl rfl];exact Gm (h6 n) (h3 (n+1)) gs c hc
theorem h9 (n:Nat):C0 (T (n+3)) 9:=fun p m h hm=>by
 rw[lC,bI (F:=⟨2,2,b9⟩) rfl rfl];exact Fs (h2 n) h hm
theorem h12 (n:Nat):Dg (T (n+2)) 12:=fun r ns p a b c d=>by
 rw[lC,bI (F:=⟨3,6,b12⟩) rfl rfl];exact GX (h0 n) a b c d
theorem h13 (n:Nat):CM (T (n+2)) 13:=fun r f a b c=>by
 rw[lC,bI (F:=⟨2,2,b13⟩) rfl rfl];exact Fh (h0 n) a b c
theorem h14 (n:Nat):DL (T (n+1)) 14:=fun a b ha hb=>by
 rw[lC,bI (F:=⟨2,5,b14⟩) rfl rfl];exact Vw.Gj ha hb
theorem h11 (n:Nat):GI (T (n+4)) 11:=fun ns hn hl=>by
 obtain⟨fr,h⟩:=Eb (h0 (n+2)) (h1 n) (h12 (n+1)) (h13 (n+1)) (h14 (n+2)) hn hl;exact⟨fr,by rw[lC,bI (F:=⟨1,8,b11⟩) rfl rfl];exact h⟩
theorem h16 (n:Nat):EE (T (n+2)) 16:=fun x ls hx hl=>by
 rw[lC,bI (F:=⟨2,4,b16⟩) rfl rfl];exact Fe (h0 n) hx hl
theorem h10 (n:Nat):CS (T (n+5)) 10:=fun wo mi m a b c d e=>by
 obtain⟨fr,h⟩:=CJ (h3 (n+2)) (h4 (n+2)) (h5 (n+1)) (h9 (n+1)) (h11 n) a b c d e;exact⟨fr,by rw[lC,bI (F:=⟨3,7,b10⟩) rfl rfl];exact h⟩
theorem h15 (n:Nat):D1 (T (n+4)) 15:=fun g su wo a b c d e f=>by
 rw[lC,bI (F:=⟨3,9,b15⟩) rfl rfl];exact GA (h0 (n+2)) (h1 n) (h3 (n+1)) (h4 (n+1)) (h5 n) (h9 n) (h16 (n+1)) a b c d e f
theorem h17 (n:Nat):FN (T (n+1)) 17:=fun a b ha hb=>by
 rw[lC,bI (F:=⟨2,4,b17⟩) rfl rfl];exact Ft a b ha hb
theorem h18 (n:Nat):qM (T (n+1)) 18:=fun ns k=>by
 obtain⟨v,h⟩:=Fm (T:=T n) ns k;exact⟨v,by rw[lC,bI (F:=⟨2,2,b18⟩) rfl rfl];exact h⟩
theorem Gh (n:Nat):nu (T (n+1)) 19:=fun c k=>by
 obtain⟨v,h',h⟩:=G6 (T:=T n) c k;exact⟨v,h',by rw[lC,bI (F:=⟨2,3,b19⟩) rfl rfl];exact h⟩
theorem h20 (k:Nat) (ns:List Int) (hl:ns.length≤63) (n:Nat) (hn:0<n) (hn':n≤1000):∃ gs,Gr gs∧gs.length=n∧(T (k+2)).cl 20 [.lst (ns.map D.int),.int (n:Int)] = .ok (.lst (gD gs),true):=by
 obtain⟨gs,a,b,h⟩:=Gg (Gh k) ns hl n hn hn';exact⟨gs,a,b,by rw[lC,bI (F:=⟨2,4,b20⟩) rfl rfl];exact h⟩
theorem h21 (n:Nat):MAok (T (n+2)) 21:=fun r c hr hl=>by
 obtain⟨fr,h⟩:=CC (h17 n) hr hl;exact⟨fr,by rw[lC,bI (F:=⟨2,5,b21⟩) rfl rfl];exact h⟩
theorem h22 (n:Nat):PLok (T (n+2)) 22:=fun ns m s t hs hm=>by
 obtain⟨ps,a,b,c,h⟩:=Dq (Gh n) (h18 n) ns (t:=t) hs hm;exact⟨ps,a,b,c,by rw[lC,bI (F:=⟨4,8,b22⟩) rfl rfl];exact h⟩
theorem h23 (n:Nat):FE (T (n+2)) 23:=fun ns row W M a b c d e f g=>by
 obtain⟨l,x1,x2,x3,x4,h⟩:=A9 (Gh n) (h18 n) ns a b c d e f g;exact⟨l,x1,x2,x3,x4,by rw[lC,bI (F:=⟨4,7,b23⟩) rfl rfl];exact h⟩
theorem h24 (n:Nat) {g mi:List Nat}{c:Nat}(gg:Gr g) (lg:g.length≤63) (lm:mi.length≤63) (lc:c≤62) (hm:∀ p∈mi,p<g.length):(T (n+6)).cl 24 [.lst (gD g),.lst (gD mi),.int (c:Int)] = .ok (eK g mi c,true):=by
 rw[lC,bI (F:=⟨3,7,b24⟩) rfl rfl];exact Bi (h3 (n+3)) (h6 (n+2)) (h7 (n+1)) (h10 n) (h15 (n+1)) gg lg lm lc hm
end K19
end
section
namespace K19
open PySem Pc Pc.Sm Pc.Gr Pc.Lw Pc.Vw Fl64 Md
theorem By {g mi:List Nat}{c:Nat}:(∃ h:eK g mi c = .non,iU .Is (eK g mi c) .non=some true)∨(∃ h:eK g mi c=z8 g mi c,iU .Is (eK g mi c) .non=some false):=by
 unfold eK;split
 ·exact .inl ⟨rfl,rfl⟩
 ·exact .inr ⟨rfl,rfl⟩
theorem h25 (n:Nat) {g mi:List Nat}{c:Nat}(gg:Gr g) (lg:g.length≤63) (lm:mi.length≤63) (lc:c≤62) (hm:∀ p∈mi,p<g.length):∃ fr,(T (n+7)).cl 25 [.lst (gD g),.lst (gD mi),.int (c:Int),eK g mi c] = .ok (.bl true,fr):=by
 have T0:Tv (aF [.lst (gD g),.lst (gD mi),.int (c:Int),eK g mi c] 6) [some (.lst (gD g),false),some (.lst (gD mi),false),some (.int (c:Int),false),some (eK g mi c,false),none,none]:=Tv.start _ 6;have ls:∀{env:En}{i:Nat}{l:List Nat},aK (T (n+6)) (.var i) env (.lst (gD l))→ev (T (n+6)) (.blt .list (.cons (.var i) .nil)) env = .ok (.lst (gD l),.mv []):=fun h=>Dh (aK.blt1 (k:=.list) h (z:=.lst (gD _)) rfl) (pV _)
 obtain⟨e1,q1,T1⟩:=T0.asg (T:=T (n+6)) (i:=4) (show (4:Nat)<6 by decide) (FY (ls (T0.var (i:=0) rfl)) (ls (T0.var (i:=1) rfl)));obtain⟨e2,q2,T2⟩:=T1.asg (T:=T (n+6)) (i:=5) (show (5:Nat)<6 by decide) (tV (aK.ix (T1.var (i:=4) rfl) (aK.cst (.int 0)) (z:=.lst (gD g)) rfl) (aK.ix (T1.var (i:=4) rfl) (aK.cst (.int 1)) (z:=.lst (gD mi)) rfl) (T1.var (i:=2) rfl) (h24 n gg lg lm lc hm));have T2:Tv e2 [some (.lst (gD g),false),some (.lst (gD mi),false),some (.int (c:Int),false),some (eK g mi c,false),some (.lst [.lst (gD g),.lst (gD mi)],true),some (eK g mi c,true)]:=T2;have c3:aK (T (n+6)) (.or (.cmp .NotEq (.var 4) (.lst (.cons (.var 0) (.cons (.var 1) .nil)))) (.cmp .NotEq (.var 5) (.var 3))) e2 (.bl false):=aK.or (k:=false) (aK.cmp (T2.var (i:=4) rfl) (aK.lst2 (T2.var (i:=0) rfl) (T2.var (i:=1) rfl)) (Dz g mi)) (fun _=>aK.cmp (T2.var (i:=5) rfl) (T2.var (i:=3) rfl) (sk g mi c)) (fun h=>by cases h);rw[lC,bI (F:=⟨4,6,E3⟩) rfl rfl];show ∃ fr,Pc.ret (aC (T (n+6)) E3 _)=_;unfold E3;rcases By (g:=g) (mi:=mi) (c:=c) with ⟨e,h⟩ | ⟨e,h⟩
 ·have c4:aK (T (n+6)) (.cmp .Is (.var 5) (.cst .non)) e2 (.bl true):=aK.cmp (T2.var (i:=5) rfl) (aK.cst _) h;obtain⟨fr,hr⟩:=vB (T:=T (n+6)) (env:=e2) (aK.cst (.bl true));refine⟨true,sq q1 (sq q2 ?_)⟩;rw[aC,jD c3];simp only[Bool.false_eq_true,if_false];rw[aC,aD,aC,jD c4];simp only[if_true];rw[aC,bE,ev,aR];rfl
 ·have c4:aK (T (n+6)) (.cmp .Is (.var 5) (.cst .non)) e2 (.bl false):=aK.cmp (T2.var (i:=5) rfl) (aK.cst _) h;have tl:=kN g mi c;have wl:(cD g (bQ g mi c) mi).length≤63:=bu (gi _ _) (by rw[cg];omega);obtain⟨e5,q5,T5⟩:=T2.app0 (T:=T (n+6)) (x:=4) rfl 1 (by omega);obtain⟨e6,q6,T6⟩:=T5.app1 (T:=T (n+6)) (x:=4) rfl 99 (by omega);have T6:Tv e6 [some (.lst (gD g),false),some (.lst (gD mi),false),some (.int (c:Int),false),some (eK g mi c,false),some (.lst [.lst (gD (g ++ [1])),.lst (gD (mi ++ [99]))],true),some (z8 g mi c,true)]:=by
   rw[e] at T6 ⊢;exact T6
  have c7:aK (T (n+6)) (.cmp .NotEq (.var 5) (.var 3)) e6 (.bl false):=aK.cmp (T6.var (i:=5) rfl) (T6.var (i:=3) rfl) (by rw[←e];exact sk g mi c);obtain⟨e8,q8,T8⟩:=T6.tp0 (T:=T (n+6)) (x:=5) rfl 2 (by omega);obtain⟨e9,q9,T9⟩:=T8.tp1 (T:=T (n+6)) (x:=5) rfl 2 (by omega);have ad:∀{i:Nat}{l:List Nat}(k:Nat),l.length≤900→aK (T (n+6)) (.var i) e9 (.lst (gD l))→aK (T (n+6)) (.bin .Add (.var i) (.lst (.cons (.cst (.int (k:Int))) .nil))) e9 (.lst (gD (l ++ [k]))):=fun {i l} k hl h=>aK.bin h (aK.lst1 (aK.cst (.int (k:Int)))) (by
   show ck ((gD l).length+1) (.lst (gD l ++ [.int (k:Int)]))=_;unfold ck;rw[if_pos (by rw[aU];exact cB (by omega)),cY];rfl)
  obtain⟨fr,hr⟩:=vB (aK.cmp (T9.var (T:=T (n+6)) (i:=4) rfl) (aK.lst2 (ad 1 (by omega) (T9.var (i:=0) rfl)) (ad 99 (by omega) (T9.var (i:=1) rfl))) (yI (g ++ [1]) (mi ++ [99])));refine⟨fr,sq q1 (sq q2 ?_)⟩;rw[aC,jD c3];simp only[Bool.false_eq_true,if_false];rw[aC,aD,aC,jD c4];simp only[Bool.false_eq_true,if_false];rw[aC,aD];refine sq q5 (sq q6 ?_);rw[aC,jD c7];simp only[Bool.false_eq_true,if_false];rw[aC,aD];exact sq q8 (sq q9 hr)
end K19
end
section
namespace K19
open PySem Pc Pc.Sm Pc.Gr Pc.Lw Pc.Vw Fl64 Md
noncomputable abbrev N (k:Nat):Option (D×Bool):=some (.int (k:Int),true)
noncomputable abbrev L (l:List Nat) (b:Bool):Option (D×Bool):=some (.lst (gD l),b)
noncomputable def GZ:bF:=(.cons (.setix 9 .none (.ix (.var 6) (.var 11)) (.bin .BitXor (.ix (.var 8) (.ix (.var 6) (.var 11))) (.bin .Add (.cst (.int (1))) (.bin .Mod (.bin .Add (.var 1) (.var 11)) (.cst (.int (63)))))))
  (.cons (.setix 10 .none (.ix (.var 6) (.var 11)) (.ix (.var 3) (.ix (.var 6) (.var 11))))
  .nil))
structure Ot (mi sp o:List Nat):Prop where
 gr:Gr o
 len:o.length=sp.length
 eq:∀ p,p∉mi→sp.getD p 0=o.getD p 0
theorem Ot.set {mi sp o:List Nat}(h:Ot mi sp o) {p v:Nat}(hp:p∈mi) (hv:v<64):Ot mi sp (o.set p v) :=
 ⟨uh h.gr hv,by rw[aq,h.len],fun q hq=>by rw[jk (fun e=>hq (by rw[e];exact hp))];exact h.eq q hq⟩
theorem sM {ns:List Int}{d c lo ma:Nat}{row mi W sp:List Nat}(gr:Gr row) (gs:Gr sp) (l63:sp.length≤63) (lr:row.length=sp.length) (hm:∀ p∈mi,p<sp.length) (lm:mi.length≤63) {env:En}
  (V:Tv env [some (.lst (ns.map D.int),false),N d,N c,L row false,N lo,N ma,L mi true,L W true,L sp true,L sp true,L sp true,none,none,none]) :
  ∃ o r v11 e,Ot mi sp o∧Ot mi sp r∧bE (T 7) (.forr (.nm 11) (.rng1 (.blt .len (.cons (.var 6) .nil))) GZ) env = .nx e∧Tv e [some (.lst (ns.map D.int),false),N d,N c,L row false,N lo,N ma,L mi true,L W true,L sp true,L o true,L r true,v11,none,none]:=by
 obtain⟨e,q,⟨o,r,v11,io,ir,V'⟩⟩:=rS (t:=.nm 11) (R:=[]) (b:=aC (T 7) GZ) (fun _ env=>∃ o r v11,Ot mi sp o∧Ot mi sp r∧Tv env [some (.lst (ns.map D.int),false),N d,N c,L row false,N lo,N ma,L mi true,L W true,L sp true,L o true,L r true,v11,none,none]) ((List.range mi.length).map fun (k:Nat)=>D.int (k:Int)) 0 env
  ⟨sp,sp,none,⟨gs,rfl,fun _ _=>rfl⟩,⟨gs,rfl,fun _ _=>rfl⟩,V⟩ (fun i dd e hd J=>by
   obtain⟨hi,rfl⟩:=pF hd;obtain⟨o,r,v11,io,ir,V⟩:=J;obtain⟨e1,b1,V1⟩:=V.bindN (i:=11) (show (11:Nat)<14 by decide) (i:Int);have V1:Tv e1 [some (.lst (ns.map D.int),false),N d,N c,L row false,N lo,N ma,L mi true,L W true,L sp true,L o true,L r true,N i,none,none]:=V1;have pin:=mem_getD hi;have hp:=hm _ pin;have x1:∀{e:En}{o' r':List Nat},Tv e [some (.lst (ns.map D.int),false),N d,N c,L row false,N lo,N ma,L mi true,L W true,L sp true,L o' true,L r' true,N i,none,none]→aK (T 7) (.ix (.var 6) (.var 11)) e (.int ((mi.getD i 0:Nat):Int)):=fun V=>aK.ix (V.var (i:=6) rfl) (V.var (i:=11) rfl) (kE hi)
   have s64:sp.getD (mi.getD i 0) 0<64:=gs _ (mem_getD hp);have m63:(d+i)%63<63:=gj _ (by decide);obtain⟨e2,q2,V2⟩:=V1.setg (T:=T 7) (x:=9) (l:=o) rfl (x1 V1) (by rw[io.len];exact hp) (by rw[io.len];omega) (xB (aK.xor (aK.ix (V1.var (i:=8) rfl) (x1 V1) (kE hp)) (kI (lit 1) (kR (b:=63) (by decide) (kI (V1.var (i:=1) rfl) (V1.var (i:=11) rfl)) (lit 63)))) rfl);have V2:Tv e2 [some (.lst (ns.map D.int),false),N d,N c,L row false,N lo,N ma,L mi true,L W true,L sp true,L (o.set (mi.getD i 0) (sp.getD (mi.getD i 0) 0^^^(1+(d+i)%63))) true,L r true,N i,none,none]:=V2;obtain⟨e3,q3,V3⟩:=V2.setg (T:=T 7) (x:=10) (l:=r) rfl (x1 V2) (by rw[ir.len];exact hp) (by rw[ir.len];omega) (ixM (aK.ix (V2.var (i:=3) rfl) (x1 V2) (kE (by rw[lr];exact hp))) rfl);refine⟨e1,e3,b1,.inl ?_,_,_,N i,io.set pin (Nat.xor_lt_two_pow (n:=6) s64 (by omega)),ir.set pin (gr _ (mem_getD (by rw[lr];exact hp))),V3⟩;exact sqn q2 (sqn q3 sQ))
 exact⟨o,r,v11,e,io,ir,cN (qw (aK.blt1 (V.var (i:=6) rfl) (qv mi)) (by omega)) q,V'⟩
theorem law (ns:List Int) (hl:ns.length≤63):∃ fr,Pc.run fns gl 1000 8 26 [.lst (ns.map D.int)] = .ok (.bl true,fr):=by
 have V0:Tv (aF [.lst (ns.map D.int)] 14) [some (.lst (ns.map D.int),false),none,none,none,none,none,none,none,none,none,none,none,none,none]:=Tv.start _ 14;obtain⟨d1,hd1⟩:=zf (Gh 6) (h18 6) ns 0 1;obtain⟨e1,q1,V1⟩:=V0.asg (i:=1) (show (1:Nat)<14 by decide) (hd1 (V0.var (i:=0) rfl));obtain⟨e2,q2,V2⟩:=V1.asg (T:=T 7) (i:=2) (show (2:Nat)<14 by decide) (xB (kI (lit 1) (kR (b:=10) (by decide) (V1.var (i:=1) rfl) (lit 10))) rfl);have c1:d1%10<10:=gj _ (by decide);obtain⟨c,hc⟩:∃ c,c=1+d1%10:=⟨_,rfl⟩;have V2:Tv e2 [some (.lst (ns.map D.int),false),N d1,N c,none,none,none,none,none,none,none,none,none,none,none]:=by rw[hc];exact V2
 have m12:d1 / 10%12<12:=gj _ (by decide);obtain⟨gs,ggs,lgs,hgs⟩:=h20 5 ns hl (1+d1 / 10%12) (by omega) (by omega);obtain⟨fr3,h3'⟩:=h21 5 gs c ggs (by omega);obtain⟨R3,hR3,x3⟩:=ED (T:=T 7) (f:=21) (xP (V2.var (i:=0) rfl) (kI (lit 1) (kR (b:=12) (by decide) (lL 10 (by decide) (by decide) (V2.var (i:=1) rfl)) (lit 12))) hgs) (varM (V2.var (i:=2) rfl) rfl) h3';obtain⟨e3,q3,V3⟩:=V2.asgS (T:=T 7) (i:=3) (show (3:Nat)<14 by decide) hR3 x3;obtain⟨row,hrow⟩:∃ row,row=fO c 0 gs:=⟨_,rfl⟩;have grow:Gr row:=by rw[hrow];exact n8 c 0 ggs
 have lrow:row.length=gs.length+c:=by rw[hrow];exact mq c 0 gs
 obtain⟨d,hd⟩:=zf (Gh 6) (h18 6) ns 1 2;obtain⟨e4,q4,V4⟩:=V3.asg (i:=1) (show (1:Nat)<14 by decide) (hd (V3.var (i:=0) rfl));have V4:Tv e4 [some (.lst (ns.map D.int),false),N d,N c,L row false,none,none,none,none,none,none,none,none,none,none]:=by rw[hrow];exact V4
 have cp:0<c:=by omega
 have mc:d%c<c:=gj _ cp;obtain⟨e5,q5,V5⟩:=V4.asg (T:=T 7) (i:=4) (show (4:Nat)<14 by decide) (xB (kI (lit 1) (kR cp (V4.var (i:=1) rfl) (V4.var (i:=2) rfl))) rfl);obtain⟨e6,q6,V6⟩:=V5.asg (T:=T 7) (i:=5) (show (5:Nat)<14 by decide) (xB (kR (b:=(c - (1+d%c)) / 2+2) (by omega) (lL 30 (by decide) (by decide) (V5.var (i:=1) rfl)) (kI (lL 2 (by decide) (by decide) (Cy (by omega) (V5.var (i:=2) rfl) (V5.var (i:=4) rfl))) (lit 2))) rfl);have c7:aK (T 7) (.cmp .Eq (.bin .Mod (.bin .FloorDiv (.var 1) (.cst (.int (1000)))) (.cst (.int (6)))) (.cst (.int (0)))) e6 (.bl (((d / 1000%6:Nat):Int)==0)):=aK.cmp (kR (b:=6) (by decide) (lL 1000 (by decide) (by decide) (V6.var (i:=1) rfl)) (lit 6)) (aK.cst _) rfl;have mm:d / 30%((c - (1+d%c)) / 2+2)<(c - (1+d%c)) / 2+2:=gj _ (by omega);obtain⟨lo,ma,e7,q7,hlo,hma,V7⟩:∃ lo ma e7,bE (T 7) (.ite (.cmp .Eq (.bin .Mod (.bin .FloorDiv (.var 1) (.cst (.int (1000)))) (.cst (.int (6)))) (.cst (.int (0)))) (.cons (.asg (.nm 4) (.cst (.int (0))) false) (.cons (.asg (.nm 5) (.cst (.int (0))) false) .nil)) .nil) e6 = .nx e7∧lo≤c∧ma≤c+1∧Tv e7 [some (.lst (ns.map D.int),false),N d,N c,L row false,N lo,N ma,none,none,none,none,none,none,none,none]:=by
  rw[jD c7];split
  ·obtain⟨e,q,V⟩:=V6.asg (T:=T 7) (i:=4) (e:=.cst (.int 0)) (d:=.int ((0:Nat):Int)) (show (4:Nat)<14 by decide) (by rw[ev];rfl);obtain⟨e',q',V'⟩:=V.asg (T:=T 7) (i:=5) (e:=.cst (.int 0)) (d:=.int ((0:Nat):Int)) (show (5:Nat)<14 by decide) (by rw[ev];rfl);exact⟨0,0,e',sqn q (sqn q' sQ),dm _,dm _,V'⟩
  ·exact⟨1+d%c,d / 30%((c - (1+d%c)) / 2+2),e6,sQ,by omega,by omega,V6⟩
 obtain⟨mi,am,lm,ltm,hmi⟩:=h22 5 ns row.length lo 5 (by omega) (by omega);obtain⟨e8,q8,V8⟩:=V7.asg (T:=T 7) (i:=6) (show (6:Nat)<14 by decide) (tW (V7.var (i:=0) rfl) (aK.blt1 (V7.var (i:=3) rfl) (qv row)) (V7.var (i:=4) rfl) (lit 5) hmi);obtain⟨W,aw,lw,ltw,hW⟩:=h22 5 ns row.length ma 71 (by omega) (by omega);obtain⟨e9,q9,V9⟩:=V8.asg (T:=T 7) (i:=7) (show (7:Nat)<14 by decide) (tW (V8.var (i:=0) rfl) (aK.blt1 (V8.var (i:=3) rfl) (qv row)) (V8.var (i:=5) rfl) (lit 71) hW);obtain⟨sp,gsp,lsp,_,_,hsp⟩:=h23 5 ns row W mi grow (by omega) (aw.imp fun h=>by omega) ltw ltm (by omega) (by omega);obtain⟨e10,q10,V10⟩:=V9.asg (T:=T 7) (i:=8) (show (8:Nat)<14 by decide) (tW (V9.var (i:=0) rfl) (V9.var (i:=3) rfl) (V9.var (i:=7) rfl) (V9.var (i:=6) rfl) hsp);have ls:∀{env:En}{i:Nat}{l:List Nat},aK (T 7) (.var i) env (.lst (gD l))→ev (T 7) (.blt .list (.cons (.var i) .nil)) env = .ok (.lst (gD l),.mv []):=fun h=>Dh (aK.blt1 (k:=.list) h (z:=.lst (gD _)) rfl) (pV _)
 obtain⟨e11,q11,V11⟩:=V10.asg (T:=T 7) (i:=9) (show (9:Nat)<14 by decide) (ls (V10.var (i:=8) rfl));obtain⟨e12,q12,V12⟩:=V11.asg (T:=T 7) (i:=10) (show (10:Nat)<14 by decide) (ls (V11.var (i:=8) rfl));have ltm':∀ p∈mi,p<sp.length:=fun p hp=>by rw[lsp];exact ltm p hp
 have mnd:mi.Nodup:=am.imp fun h=>by omega
 obtain⟨o,r,v11,e13,io,ir,q13,V13⟩:=sM (ns:=ns) (d:=d) (c:=c) (lo:=lo) (ma:=ma) (W:=W) grow gsp (by omega) lsp.symm ltm' (by omega) V12;obtain⟨e14,q14,V14⟩:=V13.asg (T:=T 7) (i:=12) (show (12:Nat)<14 by decide) (tV (.of (ls (V13.var (i:=8) rfl))) (.of (ls (V13.var (i:=6) rfl))) (V13.var (i:=2) rfl) (h24 1 gsp (by omega) (by omega) (by omega) ltm'));have V14:Tv e14 [some (.lst (ns.map D.int),false),N d,N c,L row false,N lo,N ma,L mi true,L W true,L sp true,L o true,L r true,v11,some (eK sp mi c,true),none]:=V14;have W14:Vw e14 [some (.lst (ns.map D.int)),nD d,nD c,lD row,nD lo,nD ma,lD mi,lD W,lD sp,lD o,lD r,v11.map (·.1),some (eK sp mi c),none]:=V14.vw;obtain⟨R15,i15⟩:=Av (T:=T 7) (aK.lst2 (W14.var (i:=9) rfl) (W14.var (i:=10) rfl));obtain⟨e15,q15,⟨v13,W15⟩⟩:=rS (t:=.nm 13) (R:=R15) (b:=aC (T 7) (.cons (.ite (.cmp .NotEq (.call 24 (.cons (.blt .list (.cons (.var 13) .nil)) (.cons (.blt .list (.cons (.var 6) .nil)) (.cons (.var 2) .nil)))) (.var 12)) (.cons (.ret (.cst (.bl false)))
  .nil) .nil) .nil)) (fun _ env=>∃ v13,Vw env [some (.lst (ns.map D.int)),nD d,nD c,lD row,nD lo,nD ma,lD mi,lD W,lD sp,lD o,lD r,v11.map (·.1),some (eK sp mi c),v13]) [.lst (gD o),.lst (gD r)] 0 (Pc.lock R15 e14) ⟨none,W14.lock R15⟩ (fun i dd e hd J=>by
   obtain⟨v13,Wv⟩:=J;obtain⟨x,rfl,ix⟩:∃ x,dd = .lst (gD x)∧Ot mi sp x:=by
    match i,hd with
    |0,hd=>cases hd;exact⟨o,rfl,io⟩
    |1,hd=>cases hd;exact⟨r,rfl,ir⟩
   obtain⟨e1,b1,W1⟩:=Wv.bind (i:=13) (show (13:Nat)<14 by decide) R15 (.lst (gD x));have W1:Vw e1 [some (.lst (ns.map D.int)),nD d,nD c,lD row,nD lo,nD ma,lD mi,lD W,lD sp,lD o,lD r,v11.map (·.1),some (eK sp mi c),lD x]:=W1;have cx:aK (T 7) (.cmp .NotEq (.call 24 (.cons (.blt .list (.cons (.var 13) .nil)) (.cons (.blt .list (.cons (.var 6) .nil)) (.cons (.var 2) .nil)))) (.var 12)) e1 (.bl false):=aK.cmp (aK.call3 (.of (ls (W1.var (i:=13) rfl))) (.of (ls (W1.var (i:=6) rfl))) (W1.var (i:=2) rfl) (h24 1 ix.gr (by rw[ix.len];omega) (by omega) (by omega) (fun p hp=>by rw[ix.len];exact ltm' p hp))) (W1.var (i:=12) rfl) (by
    rw[←xK gsp ix.gr ix.len.symm (by omega) (by omega) mnd ltm' ix.eq];exact sk sp mi c)
   refine⟨e1,e1,b1,.inl ?_,lD x,W1⟩;rw[aC,jD cx];simp only[Bool.false_eq_true,if_false];rw[aC,aD,aC])
 have q15':=Ar i15 q15;have W16:=W15.unlock (e0:=e14) R15;obtain⟨fr25,h25'⟩:=h25 0 gsp (by omega) (mi:=mi) (by omega) (c:=c) (by omega) ltm';obtain⟨fr,hr⟩:=vB (aK.call4 (W16.var (T:=T 7) (i:=8) rfl) (W16.var (i:=6) rfl) (W16.var (i:=2) rfl) (W16.var (i:=12) rfl) h25');refine⟨fr,?_⟩;rw[bI (F:=⟨1,14,b26⟩) rfl rfl];show Pc.ret (aC (T 7) b26 _)=_;exact sq q1 (sq q2 (sq q3 (sq q4 (sq q5 (sq q6 (sq q7 (sq q8 (sq q9 (sq q10 (sq q11 (sq q12 (sq q13 (sq q14 (sq q15' hr))))))))))))))
end K19
end
section
namespace Pc.Hd
open PySem PySem.W L2
noncomputable def sv (x:String) (t:Tok):Value:=.str (Str.ofString x) t
noncomputable def kv (P:Params) (x:String) (t:Tok) (v:Value):DictEntry:=⟨PyData.keyHash P (Str.ofString x),sv x t,v⟩
noncomputable def zu:Stmt→Str
 |.FunctionDef n ..=>n
 |_=>Str.ofString ""
noncomputable def fo (a:Addr) (s:Stmt) (m c:Value):Addr×Obj:=(a,⟨.type "function",none,.func { name:=zu s,qualname:=zu s,params:=eE s,body:=.stmts (bM s),scope:=aE s,globals:=mainGlobals,closure:=[],defaults:=.none,kwdefaults:=.none,pyModule:=m,code:=c },#[]⟩)
noncomputable def co (a:Addr) (vs:Array Value):Addr×Obj:=(a,⟨.type "code",none,.fields vs,#[]⟩)
noncomputable def tu (a:Addr) (vs:Array Value):Addr×Obj:=(a,⟨.type "tuple",none,.seq vs 0,#[]⟩)
noncomputable def di (a:Addr) (es:Array DictEntry) (n:Nat):Addr×Obj:=(a,⟨.type "dict",none,.dict es n,#[]⟩)
end Pc.Hd
end
section
namespace K19
open PySem PySem.Spec PyProof.Rows L2 Pc
noncomputable abbrev st (i:Nat):Stmt:=PySem.Challenge.pw_patchsquare_k19_missing_grains.main.body.getD i (.Pass ⟨0,0,0,0⟩)
noncomputable def eU:List Str:=["range","len","list","sorted","all","enumerate","zip"]
noncomputable def wM:List Str:=["GRAINS","FOLD"]
noncomputable def df0:Df:=⟨"times_of",st 7,["a","b"],["a","b","product","doubled","left"],b0⟩
noncomputable def df1:Df:=⟨"inverse_of",st 8,["a"],["a"],b1⟩
noncomputable def df2:Df:=⟨"power_of",st 9,["a","k"],["a","k","power","squared","left"],b2⟩
noncomputable def df3:Df:=⟨"worth_at",st 10,["grains","x"],["grains","x","worth","grain"],b3⟩
noncomputable def df4:Df:=⟨"row_product",st 12,["first","second"],["first","second","product","place","grain","step","other"],b4⟩
noncomputable def df5:Df:=⟨"row_with_noughts",st 13,["noughts"],["noughts","row","nought"],b5⟩
noncomputable def df6:Df:=⟨"code_noughts",st 15,["count"],["count"],b6⟩
noncomputable def df7:Df:=⟨"is_code",st 16,["grains","count"],["grains","count"],b7⟩
noncomputable def df8:Df:=⟨"mended_row",st 18,["grains","missing","count"],["grains","missing","count","worths","suspects","mended","wrong"],b8⟩
noncomputable def df9:Df:=⟨"locator_of",st 19,["place","length"],["place","length"],b9⟩
noncomputable def df10:Df:=⟨"suspect_places",st 20,["worths","missing","length"],["worths","missing","length","gaps","freed","rule","others"],b10⟩
noncomputable def df11:Df:=⟨"shortest_rule",st 21,["numbers"],["numbers","rule","length","former","former_gap","place","gap","amended"],b11⟩
noncomputable def df12:Df:=⟨"gap_of_rule",st 22,["rule","numbers","place"],["rule","numbers","place","gap","back","factor"],b12⟩
noncomputable def df13:Df:=⟨"scaled_row",st 23,["row","factor"],["row","factor"],b13⟩
noncomputable def df14:Df:=⟨"added_rows",st 24,["first","second"],["first","second","added","place","grain"],b14⟩
noncomputable def df15:Df:=⟨"changed_row",st 25,["grains","suspects","worths"],["grains","suspects","worths","place","locators","heads","changed","locator","share"],b15⟩
noncomputable def df16:Df:=⟨"distances_product",st 26,["locator","locators"],["locator","locators","product","other"],b16⟩
noncomputable def df17:Df:=⟨"_law_times",st 28,["_law_a","_law_b"],["_law_a","_law_b","_law_wide","_law_k"],b17⟩
noncomputable def df18:Df:=⟨"_law_cell",st 29,["_law_script","_law_k"],["_law_script","_law_k"],b18⟩
noncomputable def df19:Df:=⟨"_law_mixed",st 30,["_law_cell_here","_law_k"],["_law_cell_here","_law_k","_law_once"],b19⟩
noncomputable def df20:Df:=⟨"_law_row",st 31,["_law_script","_law_many"],["_law_script","_law_many","_law_k","_law_row_here"],b20⟩
noncomputable def df21:Df:=⟨"_law_made",st 32,["_law_message","_law_count"],["_law_message","_law_count","_law_row_here","_law_x","_law_j"],b21⟩
noncomputable def df22:Df:=⟨"_law_places",st 33,["_law_script","_law_many","_law_some","_law_turn"],["_law_script","_law_many","_law_some","_law_turn","_law_left","_law_places_here","_law_k","_law_d"],b22⟩
noncomputable def df23:Df:=⟨"_law_spoilt",st 34,["_law_script","_law_row_here","_law_wrong","_law_missing"],["_law_script","_law_row_here","_law_wrong","_law_missing","_law_spoilt_here","_law_k","_law_change"],b23⟩
noncomputable def df24:Df:=⟨"_law_asked",st 35,["_law_row_here","_law_missing","_law_count"],["grains","missing","count","worths","suspects","mended","wrong"],b24⟩
noncomputable def df25:Df:=⟨"_law_apart",st 36,["_law_spoilt_here","_law_missing","_law_count","_law_kept"],["_law_spoilt_here","_law_missing","_law_count","_law_kept","_law_handed","_law_told"],E3⟩
noncomputable def FD:Df:=⟨"law",st 37,["_law_script"],["_law_script","_law_d","_law_count","_law_row_here","_law_lost","_law_many","_law_missing","_law_changed","_law_spoilt_here","_law_other","_law_right","_law_k","_law_kept","_law_grains"],b26⟩
noncomputable def p:Pg:=⟨[df0,df1,df2,df3,df4,df5,df6,df7,df8,df9,df10,df11,df12,df13,df14,df15,df16,df17,df18,df19,df20,df21,df22,df23,df24,df25,FD],wM,eU,gl,1000⟩
noncomputable def fgn:List Str:=["_law_asked"]
theorem ok:vD (Df.OkX p fgn) p.dfs:=by
 refine⟨?a0,?a1,?a2,?a3,?a4,?a5,?a6,?a7,?a8,?a9,?a10,?a11,?a12,?a13,?a14,?a15,?a16,?a17,?a18,?a19,?a20,?a21,?a22,?a23,?a24,?a25,?a26,trivial⟩
 case a0 | a2 | a3 | a4 | a7 | a9 | a13 | a14 | a16 | a17 | a18 | a19 | a20 | a21=>exact .inl (Df.ok_of (n:=60) (by decide +kernel) rfl (fun _ _ _ _ _ _ us hl=>@DJ (fun us=>bindArgs _ ⟨us,[]⟩=pure (List.zip _ us)) us hl (fun _ _=>rfl)))
 case a1 | a5 | a6 | a11 | a26=>exact .inl (Df.ok_of (n:=60) (by decide +kernel) rfl (fun _ _ _ _ _ _ us hl=>@Gc (fun us=>bindArgs _ ⟨us,[]⟩=pure (List.zip _ us)) us hl (fun _=>rfl)))
 case a8 | a10 | a12 | a15=>exact .inl (Df.ok_of (n:=60) (by decide +kernel) rfl (fun _ _ _ _ _ _ us hl=>@Du (fun us=>bindArgs _ ⟨us,[]⟩=pure (List.zip _ us)) us hl (fun _ _ _=>rfl)))
 case a22 | a23 | a25=>exact .inl (Df.ok_of (n:=60) (by decide +kernel) rfl (fun _ _ _ _ _ _ us hl=>@len4 (fun us=>bindArgs _ ⟨us,[]⟩=pure (List.zip _ us)) us hl (fun _ _ _ _=>rfl)))
 case a24=>exact .inr ⟨(fun _ _ _ _ _ _ us hl=>@Du (fun us=>bindArgs _ ⟨us,[]⟩=pure (List.zip _ us)) us hl (fun _ _ _=>rfl)),.head _⟩
theorem plaw (ns:List Int) (hl:ns.length≤63):∃ fr,p.run 8 26 [.lst (ns.map D.int)] = .ok (.bl true,fr):=law ns hl
noncomputable def dT:Df:=⟨"_law_asked",st 35,["_law_row_here","_law_missing","_law_count"],["_law_row_here","_law_missing","_law_count","_law_told"],.nil⟩
noncomputable def stI:Stmt:=match st 3 with
 |.ClassDef _ _ _ b ..=>b.getD 0 (.Pass ⟨0,0,0,0⟩)
 |s=>s
theorem FQ:yu (st 35) "_law_row_here" "_law_missing" "_law_count" "_law_told" "mended_row" "NoMend" :=
 ⟨⟨_,_,_,_,_,_,_,_,_,_,_,_,_,_,_,_,_,_,_,_,rfl⟩,md (p:=p) (d:=dT) (n:=60) (by decide +kernel),rfl,rfl,rfl,rfl,rfl,rfl,by decide⟩
theorem Gp:BW stI "SquareError" "block" :=
 ⟨⟨_,_,_,_,_,_,_,_,_,_,_,_,_,_,_,_,rfl,rfl,by decide,by decide⟩,md (p:=p) (d:=⟨"__init__",stI,["self","block"],["self","block"],.nil⟩) (n:=60) (by decide +kernel),rfl,rfl,rfl,by decide,by decide⟩
section
variable {P:Program}{w:World}{K:Frag}{mg:Str→Option Value}{base h:Heap}
theorem foreign (KX:K.In h) (G:h.Ns mainGlobals mg) (I:p.In K mg) (hH:wO w K) (hh:∃ C cS fI fd,mg "NoMend" = some (.ref C)∧wX K mg "SquareError" "block" "NoMend.__init__" C cS fI fd stI∧tU K C=true∧mw K C C=true):pN p fgn P w K mg base:=by
 obtain⟨C,cS,fI,fdI,hm,k,qB,qo⟩:=hh;intro n i d hd hn ih f fd F;have e24:∀ j,j<27→j≠24→∀ e,p.dfs[j]? = some e→e.nm≠("_law_asked" : Str):=by
  intro j h1 h2 e he;have:∀ j,j<27→j≠24→(p.dfs[j]?.all fun e=>e.nm != ("_law_asked" : Str))=true:=by decide +kernel
  have:=this j h1 h2;rw[he] at this;simpa using this
 have hi:i=24:=Classical.byContradiction fun z=>e24 i (List.getElem?_eq_some_iff.mp hd).1 z d hd (List.mem_singleton.mp hn)
 subst hi;cases hd;exact Bo (m:=60) (iM:=8) (dM:=df8) (rb:=Vw.E4 3 6 7 10 15) (gY ok) I hH ih rfl rfl rfl rfl rfl rfl (md (p:=p) (d:=df8) (n:=60) (by decide +kernel)) rfl rfl hm k (by decide) FQ qB qo F
end
theorem bdI (kV doc pm:Value) (an:Option Addr) (cdv ct:Value) (us:List Value) (hl:us.length=2):bindArgs (PySem.W.fnOf "__init__" "NoMend.__init__" (eE stI) (bM stI) (aE stI) .none kV doc pm an cdv ct) ⟨us,[]⟩=pure ([("self" : Str),"block"].zip us) :=
 @DJ (fun us=>bindArgs _ ⟨us,[]⟩=pure (List.zip _ us)) us hl (fun _ _=>rfl)
theorem nxI:typeLookup (.type "ValueError") "block" = pure none:=by rw[typeLookup_type,builtinLookup_eq_fast];kernel_rfl
end K19
namespace K19
open PySem PySem.W Pc.Hd
noncomputable def K (P:Params):Frag:=[(2,{ cls:=Value.none,data:=Data.dict #[] }),
 di 3 #[kv P "__name__" 165 (sv "law_patchsquare_k19_missing_grains" 412),kv P "__doc__" 166 .none,kv P "__package__" 167 .none,kv P "__loader__" 168 (.builtin "__main__.__loader__#opaque"),kv P "__spec__" 169 .none,kv P "__annotations__" 170 (.ref 6),kv P "__builtins__" 171 (.ref 4),kv P "__file__" 173 (sv "/claim/cut.py" 172),kv P "__cached__" 174 .none,kv P "SquareError" 206 (.ref 24),kv P "NoInverse" 222 (.ref 37),kv P "NoMend" 247 (.ref 56),kv P "GRAINS" 251 (.int 64 250),kv P "FOLD" 253 (.int 67 252),kv P "times_of" 264 (.ref 65),kv P "inverse_of" 271 (.ref 72),kv P "power_of" 282 (.ref 79),kv P "worth_at" 292 (.ref 86),kv P "row_product" 307 (.ref 93),kv P "row_with_noughts" 316 (.ref 100),kv P "code_noughts" 324 (.ref 105),kv P "is_code" 330 (.ref 110),kv P "mended_row" 338 (.ref 115),kv P "locator_of" 346 (.ref 122),kv P "suspect_places" 352 (.ref 127),kv P "shortest_rule" 366 (.ref 134),kv P "gap_of_rule" 378 (.ref 141),kv P "scaled_row" 384 (.ref 146),kv P "added_rows" 395 (.ref 153),kv P "changed_row" 401 (.ref 158),kv P "distances_product" 411 (.ref 165),kv P "_law_times" 423 (.ref 172),kv P "_law_cell" 431 (.ref 179),kv P "_law_mixed" 440 (.ref 186),kv P "_law_row" 446 (.ref 191),kv P "_law_made" 452 (.ref 196),kv P "_law_places" 466 (.ref 203),kv P "_law_spoilt" 479 (.ref 210),kv P "_law_asked" 489 (.ref 217),kv P "_law_apart" 501 (.ref 224),kv P "law" 521 (.ref 231)] 41,
 di 6 #[] 0,
 tu 15 #[(.type "ValueError")],
 tu 22 #[],
 di 23 #[kv P "__module__" 196 (sv "patchsquare.errors" 187),kv P "__firstlineno__" 200 (.int 2 199),kv P "__static_attributes__" 201 (.ref 22),kv P "__weakref__" 203 (.ref 25),kv P "__doc__" 204 .none] 3,
 (24,{ cls:=Value.type "type",data:=Data.cls { name:=Str.ofString "SquareError",bases:=[Value.type "ValueError"],mro:=[Value.ref 24,Value.type "ValueError",Value.type "Exception",Value.type "BaseException",Value.type "object"],ns:=23,qualname:=Str.ofString "SquareError",subclasses:=[Value.ref 37,Value.ref 56] },slots:=#[some (Value.ref 15),none,some (Value.str (Str.ofString "SquareError") 189),some (Value.str (Str.ofString "SquareError") 197),some (Value.builtin "ValueError.__new__"),some (Value.bool true)] }),
 (25,{ cls:=Value.type "getset_descriptor",data:=Data.fields #[Value.str (Str.ofString "__weakref__") 202,Value.ref 24,Value.builtin "ExceptionGroup.__weakref__",Value.none] }),
 tu 28 #[(.ref 24)],
 tu 35 #[],
 di 36 #[kv P "__module__" 214 (sv "patchsquare.errors" 187),kv P "__firstlineno__" 218 (.int 4 217),kv P "__static_attributes__" 219 (.ref 35),kv P "__doc__" 220 .none] 2,
 (37,{ cls:=Value.type "type",data:=Data.cls { name:=Str.ofString "NoInverse",bases:=[Value.ref 24],mro:=[Value.ref 37,Value.ref 24,Value.type "ValueError",Value.type "Exception",Value.type "BaseException",Value.type "object"],ns:=36,qualname:=Str.ofString "NoInverse" },slots:=#[some (Value.ref 28),none,some (Value.str (Str.ofString "NoInverse") 207),some (Value.str (Str.ofString "NoInverse") 215),some (Value.builtin "ValueError.__new__"),some (Value.bool true)] }),
 tu 40 #[(.ref 24)],
 co 52 #[(sv "__init__" 235),(sv "NoMend.__init__" 236),(sv "/claim/cut.py" 237),(.int 8 0),(.int 2 0),(.int 0 0),(.int 0 0),(.int 3 0),(.ref 47),(.bool true),(.int 181 0),(.ref 48),.none,(.ref 49),(.ref 50),(.ref 51),(.int 240 0),(.int 8 0),(sv "/claim/cut.py" 241)],
 (53,{ cls:=Value.type "function",data:=Data.func { name:=Str.ofString "__init__",qualname:=Str.ofString "NoMend.__init__",params:={ posonlyargs:=[],args:=[{ arg:=Str.ofString "self",annotation:=none,pos:={ line:=8,col:=17,endLine:=8,endCol:=21 } },{ arg:=Str.ofString "block",annotation:=none,pos:={ line:=8,col:=23,endLine:=8,endCol:=28 } }],vararg:=none,kwonlyargs:=[],kw_defaults:=[],kwarg:=none,defaults:=[] },body:=FuncBody.stmts [Stmt.Expr (((Expr.Name (Str.ofString "SquareError") { line:=9,col:=8,endLine:=9,endCol:=19 }).Attribute (Str.ofString "__init__") { line:=9,col:=8,endLine:=9,endCol:=28 }).Call [Expr.Name (Str.ofString "self") { line:=9,col:=29,endLine:=9,endCol:=33 },Expr.JoinedStr [Expr.Constant (Const.str (Str.ofString "block ")) 0 { line:=9,col:=37,endLine:=9,endCol:=43 },(Expr.Name (Str.ofString "block") { line:=9,col:=44,endLine:=9,endCol:=49 }).FormattedValue (-1) none { line:=9,col:=43,endLine:=9,endCol:=50 },Expr.Constant (Const.str (Str.ofString " can't be mended")) 0 { line:=9,col:=50,endLine:=9,endCol:=66 }] { line:=9,col:=35,endLine:=9,endCol:=67 }] [] { line:=9,col:=8,endLine:=9,endCol:=68 }) { line:=9,col:=8,endLine:=9,endCol:=68 },Stmt.Assign [(Expr.Name (Str.ofString "self") { line:=10,col:=8,endLine:=10,endCol:=12 }).Attribute (Str.ofString "block") { line:=10,col:=8,endLine:=10,endCol:=18 }] (Expr.Name (Str.ofString "block") { line:=10,col:=21,endLine:=10,endCol:=26 }) { line:=10,col:=8,endLine:=10,endCol:=26 }],scope:={ kind:=ScopeKind.function,names:=[(Str.ofString "self",NameKind.local),(Str.ofString "block",NameKind.local),(Str.ofString "SquareError",NameKind.globalImplicit)],isGenerator:=false,isCoroutine:=false },globals:=3,closure:=[],defaults:=Value.none,kwdefaults:=Value.none,pyModule:=Value.str (Str.ofString "patchsquare.errors") 187,code:=Value.ref 52 } }),
 tu 54 #[(sv "block" 243)],
 di 55 #[kv P "__module__" 230 (sv "patchsquare.errors" 187),kv P "__firstlineno__" 234 (.int 6 233),kv P "__init__" 242 (.ref 53),kv P "__static_attributes__" 244 (.ref 54),kv P "__doc__" 245 .none] 2,
 (56,{ cls:=Value.type "type",data:=Data.cls { name:=Str.ofString "NoMend",bases:=[Value.ref 24],mro:=[Value.ref 56,Value.ref 24,Value.type "ValueError",Value.type "Exception",Value.type "BaseException",Value.type "object"],ns:=55,qualname:=Str.ofString "NoMend" },slots:=#[some (Value.ref 40),none,some (Value.str (Str.ofString "NoMend") 223),some (Value.str (Str.ofString "NoMend") 231),some (Value.builtin "ValueError.__new__"),some (Value.bool true)] }),
 co 64 #[(sv "times_of" 254),(sv "times_of" 255),(sv "/claim/cut.py" 256),(.int 14 0),(.int 2 0),(.int 0 0),(.int 0 0),(.int 3 0),(.ref 59),(.bool true),(.int 181 0),(.ref 60),.none,(.ref 61),(.ref 62),(.ref 63),(.int 262 0),(.int 14 0),(sv "/claim/cut.py" 263)],
 fo 65 (st 7) (sv "patchsquare.field" 248) (.ref 64),
 co 71 #[(sv "inverse_of" 265),(sv "inverse_of" 266),(sv "/claim/cut.py" 267),(.int 26 0),(.int 1 0),(.int 0 0),(.int 0 0),(.int 3 0),(.ref 66),(.bool true),(.int 181 0),(.ref 67),.none,(.ref 68),(.ref 69),(.ref 70),(.int 269 0),(.int 26 0),(sv "/claim/cut.py" 270)],
 fo 72 (st 8) (sv "patchsquare.field" 248) (.ref 71),
 co 78 #[(sv "power_of" 272),(sv "power_of" 273),(sv "/claim/cut.py" 274),(.int 30 0),(.int 2 0),(.int 0 0),(.int 0 0),(.int 3 0),(.ref 73),(.bool true),(.int 181 0),(.ref 74),.none,(.ref 75),(.ref 76),(.ref 77),(.int 280 0),(.int 30 0),(sv "/claim/cut.py" 281)],
 fo 79 (st 9) (sv "patchsquare.field" 248) (.ref 78),
 co 85 #[(sv "worth_at" 283),(sv "worth_at" 284),(sv "/claim/cut.py" 285),(.int 40 0),(.int 2 0),(.int 0 0),(.int 0 0),(.int 3 0),(.ref 80),(.bool true),(.int 181 0),(.ref 81),.none,(.ref 82),(.ref 83),(.ref 84),(.int 290 0),(.int 40 0),(sv "/claim/cut.py" 291)],
 fo 86 (st 10) (sv "patchsquare.field" 248) (.ref 85),
 co 92 #[(sv "row_product" 295),(sv "row_product" 296),(sv "/claim/cut.py" 297),(.int 46 0),(.int 2 0),(.int 0 0),(.int 0 0),(.int 3 0),(.ref 87),(.bool true),(.int 181 0),(.ref 88),.none,(.ref 89),(.ref 90),(.ref 91),(.int 305 0),(.int 46 0),(sv "/claim/cut.py" 306)],
 fo 93 (st 12) (sv "patchsquare.rows" 293) (.ref 92),
 co 99 #[(sv "row_with_noughts" 308),(sv "row_with_noughts" 309),(sv "/claim/cut.py" 310),(.int 52 0),(.int 1 0),(.int 0 0),(.int 0 0),(.int 3 0),(.ref 94),(.bool true),(.int 181 0),(.ref 95),.none,(.ref 96),(.ref 97),(.ref 98),(.int 314 0),(.int 52 0),(sv "/claim/cut.py" 315)],
 fo 100 (st 13) (sv "patchsquare.rows" 293) (.ref 99),
 co 104 #[(sv "code_noughts" 319),(sv "code_noughts" 320),(sv "/claim/cut.py" 321),(.int 58 0),(.int 1 0),(.int 0 0),(.int 0 0),(.int 3 0),(.ref 101),(.bool true),(.int 181 0),(.ref 102),.none,.none,.none,(.ref 103),(.int 322 0),(.int 58 0),(sv "/claim/cut.py" 323)],
 fo 105 (st 15) (sv "patchsquare.checks" 317) (.ref 104),
 co 109 #[(sv "is_code" 325),(sv "is_code" 326),(sv "/claim/cut.py" 327),(.int 60 0),(.int 2 0),(.int 0 0),(.int 0 0),(.int 3 0),(.ref 106),(.bool true),(.int 181 0),(.ref 107),.none,.none,.none,(.ref 108),(.int 328 0),(.int 60 0),(sv "/claim/cut.py" 329)],
 fo 110 (st 16) (sv "patchsquare.checks" 317) (.ref 109),
 co 114 #[(sv "mended_row" 333),(sv "mended_row" 334),(sv "/claim/cut.py" 335),(.int 63 0),(.int 3 0),(.int 0 0),(.int 0 0),(.int 3 0),(.ref 111),(.bool true),(.int 181 0),(.ref 112),.none,.none,.none,(.ref 113),(.int 336 0),(.int 63 0),(sv "/claim/cut.py" 337)],
 fo 115 (st 18) (sv "patchsquare.mending" 331) (.ref 114),
 co 121 #[(sv "locator_of" 339),(sv "locator_of" 340),(sv "/claim/cut.py" 341),(.int 73 0),(.int 2 0),(.int 0 0),(.int 0 0),(.int 3 0),(.ref 116),(.bool true),(.int 181 0),(.ref 117),.none,(.ref 118),(.ref 119),(.ref 120),(.int 344 0),(.int 73 0),(sv "/claim/cut.py" 345)],
 fo 122 (st 19) (sv "patchsquare.mending" 331) (.ref 121),
 co 126 #[(sv "suspect_places" 347),(sv "suspect_places" 348),(sv "/claim/cut.py" 349),(.int 75 0),(.int 3 0),(.int 0 0),(.int 0 0),(.int 3 0),(.ref 123),(.bool true),(.int 181 0),(.ref 124),.none,.none,.none,(.ref 125),(.int 350 0),(.int 75 0),(sv "/claim/cut.py" 351)],
 fo 127 (st 20) (sv "patchsquare.mending" 331) (.ref 126),
 co 133 #[(sv "shortest_rule" 353),(sv "shortest_rule" 354),(sv "/claim/cut.py" 355),(.int 81 0),(.int 1 0),(.int 0 0),(.int 0 0),(.int 3 0),(.ref 128),(.bool true),(.int 181 0),(.ref 129),.none,(.ref 130),(.ref 131),(.ref 132),(.int 364 0),(.int 81 0),(sv "/claim/cut.py" 365)],
 fo 134 (st 21) (sv "patchsquare.mending" 331) (.ref 133),
 co 140 #[(sv "gap_of_rule" 367),(sv "gap_of_rule" 368),(sv "/claim/cut.py" 369),(.int 98 0),(.int 3 0),(.int 0 0),(.int 0 0),(.int 3 0),(.ref 135),(.bool true),(.int 181 0),(.ref 136),.none,(.ref 137),(.ref 138),(.ref 139),(.int 376 0),(.int 98 0),(sv "/claim/cut.py" 377)],
 fo 141 (st 22) (sv "patchsquare.mending" 331) (.ref 140),
 co 145 #[(sv "scaled_row" 379),(sv "scaled_row" 380),(sv "/claim/cut.py" 381),(.int 103 0),(.int 2 0),(.int 0 0),(.int 0 0),(.int 3 0),(.ref 142),(.bool true),(.int 181 0),(.ref 143),.none,.none,.none,(.ref 144),(.int 382 0),(.int 103 0),(sv "/claim/cut.py" 383)],
 fo 146 (st 23) (sv "patchsquare.mending" 331) (.ref 145),
 co 152 #[(sv "added_rows" 385),(sv "added_rows" 386),(sv "/claim/cut.py" 387),(.int 105 0),(.int 2 0),(.int 0 0),(.int 0 0),(.int 3 0),(.ref 147),(.bool true),(.int 181 0),(.ref 148),.none,(.ref 149),(.ref 150),(.ref 151),(.int 393 0),(.int 105 0),(sv "/claim/cut.py" 394)],
 fo 153 (st 24) (sv "patchsquare.mending" 331) (.ref 152),
 co 157 #[(sv "changed_row" 396),(sv "changed_row" 397),(sv "/claim/cut.py" 398),(.int 110 0),(.int 3 0),(.int 0 0),(.int 0 0),(.int 3 0),(.ref 154),(.bool true),(.int 181 0),(.ref 155),.none,.none,.none,(.ref 156),(.int 399 0),(.int 110 0),(sv "/claim/cut.py" 400)],
 fo 158 (st 25) (sv "patchsquare.mending" 331) (.ref 157),
 co 164 #[(sv "distances_product" 402),(sv "distances_product" 403),(sv "/claim/cut.py" 404),(.int 118 0),(.int 2 0),(.int 0 0),(.int 0 0),(.int 3 0),(.ref 159),(.bool true),(.int 181 0),(.ref 160),.none,(.ref 161),(.ref 162),(.ref 163),(.int 409 0),(.int 118 0),(sv "/claim/cut.py" 410)],
 fo 165 (st 26) (sv "patchsquare.mending" 331) (.ref 164),
 co 171 #[(sv "_law_times" 414),(sv "_law_times" 415),(sv "/claim/cut.py" 416),(.int 125 0),(.int 2 0),(.int 0 0),(.int 0 0),(.int 3 0),(.ref 166),(.bool true),(.int 181 0),(.ref 167),.none,(.ref 168),(.ref 169),(.ref 170),(.int 421 0),(.int 125 0),(sv "/claim/cut.py" 422)],
 fo 172 (st 28) (sv "law_patchsquare_k19_missing_grains" 412) (.ref 171),
 co 178 #[(sv "_law_cell" 424),(sv "_law_cell" 425),(sv "/claim/cut.py" 426),(.int 134 0),(.int 2 0),(.int 0 0),(.int 0 0),(.int 3 0),(.ref 173),(.bool true),(.int 181 0),(.ref 174),.none,(.ref 175),(.ref 176),(.ref 177),(.int 429 0),(.int 134 0),(sv "/claim/cut.py" 430)],
 fo 179 (st 29) (sv "law_patchsquare_k19_missing_grains" 412) (.ref 178),
 co 185 #[(sv "_law_mixed" 432),(sv "_law_mixed" 433),(sv "/claim/cut.py" 434),(.int 138 0),(.int 2 0),(.int 0 0),(.int 0 0),(.int 3 0),(.ref 180),(.bool true),(.int 181 0),(.ref 181),.none,(.ref 182),(.ref 183),(.ref 184),(.int 438 0),(.int 138 0),(sv "/claim/cut.py" 439)],
 fo 186 (st 30) (sv "law_patchsquare_k19_missing_grains" 412) (.ref 185),
 co 190 #[(sv "_law_row" 441),(sv "_law_row" 442),(sv "/claim/cut.py" 443),(.int 141 0),(.int 2 0),(.int 0 0),(.int 0 0),(.int 3 0),(.ref 187),(.bool true),(.int 181 0),(.ref 188),.none,.none,.none,(.ref 189),(.int 444 0),(.int 141 0),(sv "/claim/cut.py" 445)],
 fo 191 (st 31) (sv "law_patchsquare_k19_missing_grains" 412) (.ref 190),
 co 195 #[(sv "_law_made" 447),(sv "_law_made" 448),(sv "/claim/cut.py" 449),(.int 146 0),(.int 2 0),(.int 0 0),(.int 0 0),(.int 3 0),(.ref 192),(.bool true),(.int 181 0),(.ref 193),.none,.none,.none,(.ref 194),(.int 450 0),(.int 146 0),(sv "/claim/cut.py" 451)],
 fo 196 (st 32) (sv "law_patchsquare_k19_missing_grains" 412) (.ref 195),
 co 202 #[(sv "_law_places" 453),(sv "_law_places" 454),(sv "/claim/cut.py" 455),(.int 153 0),(.int 4 0),(.int 0 0),(.int 0 0),(.int 3 0),(.ref 197),(.bool true),(.int 181 0),(.ref 198),.none,(.ref 199),(.ref 200),(.ref 201),(.int 464 0),(.int 153 0),(sv "/claim/cut.py" 465)],
 fo 203 (st 33) (sv "law_patchsquare_k19_missing_grains" 412) (.ref 202),
 co 209 #[(sv "_law_spoilt" 467),(sv "_law_spoilt" 468),(sv "/claim/cut.py" 469),(.int 160 0),(.int 4 0),(.int 0 0),(.int 0 0),(.int 3 0),(.ref 204),(.bool true),(.int 181 0),(.ref 205),.none,(.ref 206),(.ref 207),(.ref 208),(.int 477 0),(.int 160 0),(sv "/claim/cut.py" 478)],
 fo 210 (st 34) (sv "law_patchsquare_k19_missing_grains" 412) (.ref 209),
 co 216 #[(sv "_law_asked" 480),(sv "_law_asked" 481),(sv "/claim/cut.py" 482),(.int 168 0),(.int 3 0),(.int 0 0),(.int 0 0),(.int 3 0),(.ref 211),(.bool true),(.int 181 0),(.ref 212),.none,(.ref 213),(.ref 214),(.ref 215),(.int 487 0),(.int 168 0),(sv "/claim/cut.py" 488)],
 fo 217 (st 35) (sv "law_patchsquare_k19_missing_grains" 412) (.ref 216),
 co 223 #[(sv "_law_apart" 490),(sv "_law_apart" 491),(sv "/claim/cut.py" 492),(.int 175 0),(.int 4 0),(.int 0 0),(.int 0 0),(.int 3 0),(.ref 218),(.bool true),(.int 181 0),(.ref 219),.none,(.ref 220),(.ref 221),(.ref 222),(.int 499 0),(.int 175 0),(sv "/claim/cut.py" 500)],
 fo 224 (st 36) (sv "law_patchsquare_k19_missing_grains" 412) (.ref 223),
 co 230 #[(sv "law" 502),(sv "law" 503),(sv "/claim/cut.py" 504),(.int 189 0),(.int 1 0),(.int 0 0),(.int 0 0),(.int 3 0),(.ref 225),(.bool true),(.int 181 0),(.ref 226),.none,(.ref 227),(.ref 228),(.ref 229),(.int 519 0),(.int 189 0),(sv "/claim/cut.py" 520)],
 fo 231 (st 37) (sv "law_patchsquare_k19_missing_grains" 412) (.ref 230)]
noncomputable def as:List Addr:=[2,3,6,15,22,23,24,25,28,35,36,37,40,52,53,54,55,56,64,65,71,72,78,79,85,86,92,93,99,100,104,105,109,110,114,115,121,122,126,127,133,134,140,141,145,146,152,153,157,158,164,165,171,172,178,179,185,186,190,191,195,196,202,203,209,210,216,217,223,224,230,231]
noncomputable def Q:Program:={ PySem.Challenge.pw_patchsquare_k19_missing_grains with main:={ PySem.Challenge.pw_patchsquare_k19_missing_grains.main with body:=[st 1,st 2,st 3,st 5,st 6,st 7,st 8,st 9,st 10,st 12,st 13,st 15,st 16,st 18,st 19,st 20,st 21,st 22,st 23,st 24,st 25,st 26,st 28,st 29,st 30,st 31,st 32,st 33,st 34,st 35,st 36,st 37] } }
noncomputable def H:Hook:=kHook K as (fun _=>rfl)
end K19
open PySem PySem.W PyProof.Rows
theorem K19.left:LeftO PySem.Challenge.pw_patchsquare_k19_missing_grains K19.Q [] (fun s=>xlAt K19.Q [] s&&recOk (RowW.records PySem.Challenge.rw_patchsquare_k19_missing_grains.row.toRowW) s) (Hook.obs K19.H) (Hook.val K19.H) 3234:=by
 intro w
 kernel_rfl
theorem PySem.Challenge.cw_patchsquare_k19_missing_grains_holds : PySem.Challenge.rw_patchsquare_k19_missing_grains.Holds := by
 refine holds_law (by decide +kernel) fun said=>?_
 refine holds_open (q:=K19.Q) (loose:=[]) (XP:=XL K19.Q []) (YP:=Hook.says K19.H) K19.left (Hook.of K19.H) (Hook.keeps K19.H) (fun s e=>xl_of s (Bool.and_eq_true_iff.mp e).1) XL.keeps (by rfl) (by rfl) (by rfl) (fun s e=>recFacts_of (Bool.and_eq_true_iff.mp e).2) (by rfl) said (by decide +kernel) ⟨rfl,rfl,rfl,rfl,rfl,by decide +kernel⟩ ?hw ?hc
 case hw=>w_witness2
 refine Pc.GS (l:=PySem.Challenge.rw_patchsquare_k19_missing_grains) K19.p K19.fgn 8 26 "_law_script" K19.FD rfl rfl (fun w h Y=>PySem.W.kIn_of Y) rfl rfl rfl ⟨rfl,by decide,by decide⟩ K19.ok ?st ?nl ?hh ?hf K19.plaw
 case nl=>intro w;rfl
 case hh=>intro w;exact Pc.Cp rfl
 case hf =>
  intro w mg h base KX G I;have F:L2.vk (K19.K w.params) "__init__" "NoMend.__init__" K19.stI 53 _:=⟨⟨_,_,_,_,_,_,_,_,_,rfl,rfl,rfl⟩,rfl⟩;exact K19.foreign KX G I (Pc.Cp rfl) ⟨56,24,53,_,PySem.W.mg_of KX G rfl,⟨PySem.W.mg_of KX G rfl,by kernel_rfl,rfl,by kernel_rfl,by kernel_rfl,by kernel_rfl,F,rfl,F.binds K19.bdI,K19.Gp,K19.nxI⟩,by kernel_rfl,by kernel_rfl⟩
 case st =>
  intro w;refine⟨⟨?d0,?d1,?d2,?d3,?d4,?d5,?d6,?d7,?d8,?d9,?d10,?d11,?d12,?d13,?d14,?d15,?d16,?d17,?d18,?d19,?d20,?d21,?d22,?d23,?d24,?d25,?d26,trivial⟩,Pc.AB ⟨?glb0,?glb1,trivial⟩,⟨?e0,?e1,?e2,?e3,?e4,?e5,?e6,trivial⟩⟩
  case d0 | d1 | d2 | d3 | d4 | d5 | d6 | d7 | d8 | d9 | d10 | d11 | d12 | d13 | d14 | d15 | d16 | d17 | d18 | d19 | d20 | d21 | d22 | d23 | d24 | d25 | d26=>refine' Pc.C8 ?a ?l ?c ?k;(case a=>rfl);(case l=>rfl);(case c=>rfl);(case k=>rfl)
  case glb0=>refine' Pc.gl_int (i:=64) ?ga0;(case ga0=>rfl)
  case glb1=>refine' Pc.gl_int (i:=67) ?ga1;(case ga1=>rfl)
  case e0 | e1 | e2 | e3 | e4 | e5 | e6=>dsimp only;rfl
end
