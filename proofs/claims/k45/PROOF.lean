import PyProof.Rows.All
import Wide.All
import OpenK.AllK
import Wide.FinOn
import Lean
import PyProof.EqAt
import PyProof.EqKinds
import PyProof.TupleCall
import PySem.Syntax
import PySem.Str
import PySem.Sem
import PySem.Builtin.Int.W1All
import PySem.Builtin.Str.Common
import PySem.Builtin.Range.Common
import KE.IntText
import KE.KSortAsk
import PyProof.IsRules
import PyProof.NeKinds
import PyProof.DictWalks
import PyProof.EnumMake
import PyProof.EnumFor
import PyProof.ZipIter
import PyProof.Rows.EnumRows
import PyProof.Rows.FactsT2
import KE.KRevIter
import PyProof.CompFree
import PyProof.CompUse
import PyProof.Cells
import PyProof.ConsumeWalk
import PyProof.IsInstanceH
import PyProof.IsiNone
import PyProof.SumWalkG
import PyProof.Rows.SumGenD
import KE.KDictList
import KE.KSortTup
import KE.KSorted
import KE.KSort
import PyProof.Draws
import PyProof.ListRange
import PyProof.MinMaxWalk
import PyProof.WalkInts
import PyProof.Conv_int_bool
import PyProof.Rows.CallKwBuiltin
import KE.KIntText
import PyProof.Rows.SeqMore
import PyProof.Rows.StrJoin2
import PyProof.Rows.StrSplitAre
import PyProof.Rows.StrSplitJoin
import PyProof.StrLawsTight
import PyProof.StrLawsChain
import OpenK.KOwn
import PyProof.RulesAs
import PyProof.RulesDel
import PyProof.ExcArgsOwn
import PyProof.ExcAttrAll.ValueError
import PyProof.Rows.RuleN_isinstance
import PyProof.IsiTuple
import PyProof.ExcInit
import PyProof.InstStoreFacts
import PyProof.ExcBaseAll.ValueError
import PyProof.FString
import PyProof.AssignAttr
import OpenK.KMore
import PySem.Challenge.RW_patchsquare_k45_no_picture
set_option Elab.async false
set_option linter.all false
set_option maxRecDepth 100000
set_option maxHeartbeats 0
abbrev aa:=@Option.map_eq_some_iff
abbrev ae:=@List.mem_cons_of_mem
abbrev ag:=@Option.bind_eq_some_iff
abbrev ah:=@Bool.and_eq_true
abbrev ai:=@List.mem_cons_self
abbrev aj:=@List.length_map
abbrev ak:=@List.mem_append_right
abbrev ao:=@List.size_toArray
abbrev aq:=@Nat.le_refl
abbrev au:=@Nat.lt_of_lt_of_le
abbrev av:=@Bool.false_ne_true
abbrev aw:=@List.length_append
abbrev ax:=@List.map_cons
abbrev ay:=@List.mem_append_left
abbrev az:=@List.append_nil
abbrev ba:=@Nat.ne_of_lt
abbrev bc:=@Nat.le_trans
abbrev be:=@List.length_cons
abbrev bg:=@List.not_mem_nil
abbrev bh:=@List.mem_of_getElem
abbrev bj:=@decide_eq_false
abbrev bo:=@List.nodup_nil
abbrev bp:=@List.length_singleton
abbrev bq:=@PySem.mem_of_lookup
abbrev br:=@Option.map_some
abbrev bt:=@List.all_eq_true
abbrev bu:=@Option.some.injEq
abbrev bw:=@List.mem_cons
abbrev bz:=@List.lookup_cons
abbrev cf:=@Option.some.inj
abbrev cg:=@if_true
abbrev cj:=@Ne.symm
abbrev cm:=@decide_eq_true_eq
abbrev cn:=@List.length_take
abbrev cq:=@List.contains_cons
abbrev cu:=@Bool.false_eq_true
abbrev cv:=@List.all_cons
abbrev cw:=@decide_eq_true
abbrev cx:=@Nat.zero_le
abbrev cy:=@List.flatten_cons
abbrev cz:=@List.replicate_succ
abbrev c8:=@List.length_drop
abbrev c9:=@List.map_append
abbrev de:=@Int.emod_nonneg
abbrev df:=@or_false
abbrev dg:=@List.append_assoc
abbrev dh:=@Nat.lt_irrefl
abbrev dk:=@beq_eq_false_iff_ne
abbrev dm:=@if_false
abbrev dn:=@List.length_replicate
abbrev dq:=@PyProof.Rows.callWith_type1
abbrev dr:=@Nat.le_succ_of_le
abbrev dt:=@Bool.not_eq_true'
abbrev du:=@Array.length_toList
abbrev dw:=@List.any_cons
abbrev dz:=@List.length_nil
abbrev ed:=@Bool.or_eq_true
abbrev eh:=@List.lookup_append
abbrev eo:=@Int.emod_lt_of_pos
abbrev et:=@List.take_of_length_le
abbrev eu:=@Bool.or_true
abbrev fb:=@beq_iff_eq
abbrev fe:=@Option.bind_some
abbrev fh:=@List.nil_sublist
abbrev fi:=@List.filterMap_cons
abbrev fk:=@congrArg
abbrev fm:=@List.drop_eq_getElem_cons
abbrev fq:=@List.nodup_append
abbrev fu:=@Int.toNat_natCast
abbrev fv:=@PySem.W.mg_of
abbrev fw:=@beq_self_eq_true
abbrev f9:=@PySem.F.plainAttrs_list
abbrev gb:=@Nat.min_le_right
abbrev gc:=@Nat.le_of_not_lt
abbrev gf:=@List.ext_getElem
abbrev gg:=@List.cons_append
abbrev gh:=@PySem.W.cellsFrom_some
abbrev gj:=@Nat.zero_add
abbrev gm:=@Nat.ne_of_gt
abbrev gn:=@List.map_map
abbrev gp:=@List.of_mem_zip
abbrev gq:=@List.nil_append
section
namespace L2
open PySem PySem.Spec PyProof.Rows
noncomputable abbrev Key:=Sum Int Str
noncomputable def jn:Key->Value->Bool
 |.inl k,v=>Value.isInt k v
 |.inr x,v=>Value.isStrOf x v
noncomputable def keyH (w:World):Key->Int
 |.inl k=>hashInt k
 |.inr x=>hashStr w x
theorem aZ:∀{k:Key}{v:Value},jn k v=true->(∃ i t,k=Sum.inl i/\v=Value.int i t)\/(∃ x t,k=Sum.inr x/\v=Value.str x t)
 | .inl i,v,h=>by
  obtain⟨t,e⟩:=Value.isInt_shape (k:=i) (v:=v) h;exact .inl ⟨i,t,rfl,e⟩
 | .inr x,v,h=>by
  obtain⟨t,e⟩:=Value.isStrOf_shape (x:=x) (v:=v) h;exact .inr ⟨x,t,rfl,e⟩
theorem qW (i:Int)(t:Tok):jn (.inl i) (.int i t)=true:=by simp[jn,Value.isInt]
theorem rL (x:Str)(t:Tok):jn (.inr x) (.str x t)=true:=by simp[jn,Value.isStrOf]
theorem Az (a b:Int):decide ((Sum.inl a:Key)=Sum.inl b)=(a==b):=by
 by_cases e:a=b
 ·subst e;simp
 ·have h:¬ (Sum.inl a:Key)=Sum.inl b:=fun q=>e (Sum.inl.inj q)
  rw[bj h];exact (dk.mpr e).symm
theorem Al (a b:Str):decide ((Sum.inr a:Key)=Sum.inr b)=decide (a=b):=by
 by_cases e:a=b
 ·subst e;simp
 ·have h:¬ (Sum.inr a:Key)=Sum.inr b:=fun q=>e (Sum.inr.inj q)
  rw[bj h,bj e]
theorem y6 (a:Int)(b:Str):decide ((Sum.inl a:Key)=Sum.inr b)=false:=bj (fun q=>nomatch q)
theorem AF (a:Str)(b:Int):decide ((Sum.inr a:Key)=Sum.inl b)=false:=bj (fun q=>nomatch q)
noncomputable def aM (prog:Program)(w:World):PySem.KeyKind prog w Key where
 is:=jn
 hash:=keyH w
 inj:=fun v a b ha hb=>by
  rcases aZ ha with ⟨i,t,rfl,rfl⟩ | ⟨x,t,rfl,rfl⟩
  ·rcases aZ hb with ⟨j,u,rfl,e⟩ | ⟨y,u,rfl,e⟩
   ·injection e with e1 _;rw[e1]
   ·exact nomatch e
  ·rcases aZ hb with ⟨j,u,rfl,e⟩ | ⟨y,u,rfl,e⟩
   ·exact nomatch e
   ·injection e with e1 _;rw[e1]
 byValue:=fun k v h=>by
  rcases aZ h with ⟨i,t,rfl,rfl⟩ | ⟨x,t,rfl,rfl⟩<;>rfl
 pyHash:=fun hv h=>by
  rcases aZ hv with ⟨i,t,rfl,rfl⟩ | ⟨x,t,rfl,rfl⟩
  ·exact wpAny_pyHash_int h
  ·exact wpAny_pyHash_str h
 eqBool:=fun hu hv h=>by
  rcases aZ hu with ⟨i,t,rfl,rfl⟩ | ⟨x,t,rfl,rfl⟩
  ·rcases aZ hv with ⟨j,u,rfl,rfl⟩ | ⟨y,u,rfl,rfl⟩
   ·rw[Az] at h;exact wpAny_eqBool_int h
   ·rw[y6] at h;exact SeqAt.EqAt.int_str i t y u _ _ _ _ h
  ·rcases aZ hv with ⟨j,u,rfl,rfl⟩ | ⟨y,u,rfl,rfl⟩
   ·rw[AF] at h;exact SeqAt.EqAt.str_int x t j u _ _ _ _ h
   ·rw[Al] at h;exact wpAny_eqBool_str h
 «strs»:=fun k x t v h=>by
  rcases aZ h with ⟨i,u,rfl,e⟩ | ⟨y,u,rfl,e⟩
  ·exact nomatch e
  ·injection e with e1 _
   subst e1;cases v<;>rfl
theorem dI (prog:Program)(w:World)(i:Int)(t:Tok):(aM prog w).is (.inl i) (.int i t)=true:=qW i t
theorem cL (prog:Program)(w:World)(x:Str)(t:Tok):(aM prog w).is (.inr x) (.str x t)=true:=rL x t
end L2
namespace L2
open PySem PySem.Spec PyProof.Rows
inductive V where
 | non | bl (b:Bool) | int (i:Int) | str (x:Str) | byt (b:Array UInt8) | flt (b:UInt64) | ref (a:Addr) | ty (n:String)
 deriving DecidableEq
noncomputable def RelV:V->Value->Prop
 |.non,u=>u=Value.none
 |.bl b,u=>u=Value.bool b
 |.int i,u=>∃ t,u=Value.int i t
 |.str x,u=>∃ t,u=Value.str x t
 |.byt b,u=>∃ t,u=Value.bytes b t
 |.flt b,u=>∃ t,u=Value.float b t
 |.ref a,u=>u=Value.ref a
 |.ty n,u=>u=Value.type n
noncomputable abbrev aK:List V->List Value->Prop:=Paired RelV
theorem aK.length {xs:List V}{us:List Value}(r:aK xs us):xs.length=us.length:=Paired.length r
theorem aK.get:∀{xs:List V}{us:List Value}{i:Nat}{x:V},aK xs us->xs[i]? = some x->∃ u,us[i]? = some u/\RelV x u
 |_,_,_,_,.nil,e=>by simp at e
 |_,_,0,_,.cons r _,e=>by simp at e;subst e;exact⟨_,rfl,r⟩
 | _,_,i+1,x,.cons _ t,e=>by
  obtain⟨u,h1,h2⟩:=aK.get (i:=i) (x:=x) t (by simpa using e);exact⟨u,by simpa using h1,h2⟩
theorem aK.append:∀{xs ys:List V}{us ws:List Value},aK xs us->aK ys ws->aK (xs++ys) (us++ws)
 |_,_,_,_,.nil,s=>s
 |_,_,_,_,.cons r t,s=>.cons r (aK.append t s)
theorem aK.take:∀{xs:List V}{us:List Value}(n:Nat),aK xs us->aK (xs.take n) (us.take n)
 |_,_,0,_=>.nil
 |_,_,_+1,.nil=>.nil
 |_,_,n+1,.cons r t=>.cons r (aK.take n t)
theorem aK.drop:∀{xs:List V}{us:List Value}(n:Nat),aK xs us->aK (xs.drop n) (us.drop n)
 |_,_,0,r=>r
 |_,_,_+1,.nil=>.nil
 |_,_,n+1,.cons _ t=>aK.drop n t
noncomputable def qN:Option V->Option Value->Prop
 |some v,some u=>RelV v u
 |none,none=>True
 |_,_=>False
def KV {κ:Type}:List (κ×V)->List (κ×Value)->Prop:=Paired fun (p:κ×V) (q:κ×Value)=>p.1=q.1/\RelV p.2 q.2
noncomputable def kV:Key->V
 |.inl i=>.int i
 |.inr x=>.str x
inductive HO where
 | lst (xs:List V)
 | tup (xs:List V)
 | dK (kvs:List (Key×V)) | dT (kvs:List (List Key×V))
 | set (S:Int->Bool) (n:Nat)
 | ins (C dx:Addr) (fs:List (Str×V))
 | own (x:Addr)
 | xd (fs:List (Str×V))
 | met (f x:Addr)
 | rng (lo hi:Int)
 | frz (o:Obj) (u:HO)
 | tbl (ps:Array Value)
 | ext (φ:Heap->Prop)
noncomputable abbrev Hp:=Addr->Option HO
noncomputable def upd (H:Hp)(a:Addr)(o:HO):Hp:=fun b=>if b=a then some o else H b
theorem aS {H:Hp}{a:Addr}{o:HO}:upd H a o a=some o:=by unfold upd;rw[if_pos rfl]
theorem aJ {H:Hp}{a b:Addr}{o:HO}(h:b≠a):upd H a o b=H b:=by unfold upd;rw[if_neg h]
theorem bO {H:Hp}{a b:Addr}{o:HO}(h:H a=some o)(h':H b=none):a≠b:=by
 intro e;subst e;rw[h] at h';cases h'
section
variable (P:Program)(w:World)
noncomputable def bX (H:Hp)(h:Heap)(a:Addr):HO->Prop
 |.lst xs=>xs.length<=sizeLine/\∃(its:List Value) (n:Nat),aK xs its/\h.get? a=some { cls:=.type "list",data:=.seq its.toArray n }
 |.tup xs=>xs.length<=sizeLine/\∃ its:List Value,aK xs its/\IsTup h a its.toArray
 |.dK kvs=>kvs.length<=sizeLine/\(a==sysModules)=false/\∃ vs,KV kvs vs/\h.DictOf (aM P w) a vs
 | .dT kvs=>kvs.length<=sizeLine/\(a==sysModules)=false/\∃ xs:List (List Key×Addr×Value),
   Paired (fun (p:List Key×V) (q:List Key×Addr×Value)=>p.1=q.1/\H q.2.1=some (.tup (p.1.map kV))/\RelV p.2 q.2.2) kvs xs /\
   ∃ o es ep,h.get? a=some o/\o.ExactDict/\o.data = .dict es ep/\es.toList=xs.map (entryOfKey (tupleKind (aM P w)))/\(xs.map (·.1)).Nodup
 |.set S n=>h.SetOf (intKind P w) a S n
 | .ins C dx fs=>H dx=some (.own a)/\fs.length<=1000/\dx≠a/\h.get? a=some (PySem.W.instObj C dx) /\
   ∃ mA,h.Ns1 dx mA/\(∀ f,qN (fs.lookup f) (mA f))/\PySem.Within mA (fs.map (·.1))
 |.own _=>∃ o,h.get? a=some o
 |.xd fs=>∃ mA,h.Ns1 a mA/\∀ f,qN (fs.lookup f) (mA f)
 |.rng lo hi=>∃ t u v,h.get? a=some { cls:=.type "range",data:=.fields #[.int lo t,.int hi u,.int 1 v] }
 |.frz o u=>h.get? a=some o/\bX H h a u
 |.tbl ps=>h.get? a=some { cls:=.none,data:=.fields ps }
 |.met f x=>h.get? a=some (PySem.W.methodObj (.ref f) (.ref x))
 |.ext φ=>φ h/\(∃ o,h.get? a=some o)/\∀ h1 h2:Heap,φ h1->(∀ o,h1.get? a=some o->h2.get? a=some o)->φ h2
def g9 (H:Hp)(h:Heap):Prop:=∀ a o,H a=some o->bX P w H h a o
end
section
variable {P:Program}{w:World}{H H':Hp}{h h':Heap}{a:Addr}{o:HO}
theorem bX.lt (x:bX P w H h a o):a<h.objs.size:=by
 cases o with
 |lst xs=>obtain⟨_,_,_,_,e⟩:=x;exact Heap.lt_size e
 |tup xs=>obtain⟨_,_,_,p⟩:=x;exact p.lt
 |dK kvs=>obtain⟨_,_,_,_,o,_,_,e,_⟩:=x;exact Heap.lt_size e
 |dT kvs=>obtain⟨_,_,_,_,o,_,_,e,_⟩:=x;exact Heap.lt_size e
 |set S n=>obtain⟨o,_,_,_,e,_⟩:=x;exact Heap.lt_size e
 |ins C dx fs=>obtain⟨_,_,_,e,_⟩:=x;exact Heap.lt_size e
 |own y=>obtain⟨_,e⟩:=x;exact Heap.lt_size e
 |xd fs=>obtain⟨_,⟨_,_,_,e,_⟩,_⟩:=x;exact Heap.lt_size e
 |rng lo hi=>obtain⟨_,_,_,e⟩:=x;exact Heap.lt_size e
 |frz ob u=>obtain⟨e,_⟩:=x;exact Heap.lt_size e
 |tbl ps=>exact Heap.lt_size (show h.get? a=some _ from x)
 |met f y=>exact Heap.lt_size (show h.get? a=some _ from x)
 |ext φ=>obtain⟨_,⟨_,e⟩,_⟩:=x;exact Heap.lt_size e
theorem Paired.mapP {α β:Type}{F G:α->β->Prop}:∀{l₁:List α}{l₂:List β},Paired F l₁ l₂->(∀ a b,F a b->G a b)->Paired G l₁ l₂
 |_,_,.nil,_=>.nil
 |_,_,.cons r t,f=>.cons (f _ _ r) (Paired.mapP t f)
theorem bX.stay (x:bX P w H h a o)(k:∀ b u,(b=a\/H b=some (.own a))->h.get? b=some u->h'.get? b=some u)
  (ho:∀ b,H b=some (.own a)->H' b=some (.own a)) (ht:∀ b xs,H b=some (.tup xs)->H' b=some (.tup xs)):bX P w H' h' a o:=by
 induction o with
 |lst xs=>obtain⟨z,its,n,r,e⟩:=x;exact⟨z,its,n,r,k _ _ (.inl rfl) e⟩
 |tup xs=>obtain⟨z,its,r,ob,e,c⟩:=x;exact⟨z,its,r,ob,k _ _ (.inl rfl) e,c⟩
 |dK kvs=>obtain⟨z,y,vs,r,ob,es,ep,e,c⟩:=x;exact⟨z,y,vs,r,ob,es,ep,k _ _ (.inl rfl) e,c⟩
 |dT kvs =>
  obtain⟨z,y,xs,r,ob,es,ep,e,c⟩:=x;exact⟨z,y,xs,Paired.mapP r fun p q z=>⟨z.1,ht _ _ z.2.1,z.2.2⟩,ob,es,ep,k _ _ (.inl rfl) e,c⟩
 |set S n=>obtain⟨ob,es,ep,t,e,c⟩:=x;exact⟨ob,es,ep,t,k _ _ (.inl rfl) e,c⟩
 |ins C dx fs =>
  obtain⟨d,z,ne,e,mA,⟨od,es,ep,e2,c⟩,r⟩:=x;exact⟨ho _ d,z,ne,k _ _ (.inl rfl) e,mA,⟨od,es,ep,k _ _ (.inr d) e2,c⟩,r⟩
 |own y=>obtain⟨ob,e⟩:=x;exact⟨ob,k _ _ (.inl rfl) e⟩
 |xd fs=>obtain⟨mA,⟨od,es,ep,e,c⟩,r⟩:=x;exact⟨mA,⟨od,es,ep,k _ _ (.inl rfl) e,c⟩,r⟩
 |rng lo hi=>obtain⟨t,u,v,e⟩:=x;exact⟨t,u,v,k _ _ (.inl rfl) e⟩
 |frz ob u ih=>obtain⟨e,q⟩:=x;exact⟨k _ _ (.inl rfl) e,ih q⟩
 |tbl ps =>
  have e:h.get? a=some { cls:=.none,data:=.fields ps }:=x;show h'.get? a=some { cls:=.none,data:=.fields ps };exact k a _ (.inl rfl) e
 |met f y =>
  have e:h.get? a=some (PySem.W.methodObj (.ref f) (.ref y)):=x;show h'.get? a=some (PySem.W.methodObj (.ref f) (.ref y));exact k a _ (.inl rfl) e
 |ext φ=>obtain⟨p,⟨o,e⟩,st⟩:=x;exact⟨st _ _ p fun o q=>k _ _ (.inl rfl) q,⟨o,k _ _ (.inl rfl) e⟩,st⟩
theorem g9.lt (x:g9 P w H h)(e:H a=some o):a<h.objs.size:=(x a o e).lt
theorem g9.fresh (x:g9 P w H h)(e:h.objs.size<=a):H a=none:=by
 cases q:H a with
 |none=>rfl
 |some u=>exact absurd (au (x.lt q) e) (dh _)
theorem g9.kept (x:g9 P w H h)(k:∀ b u,h.get? b=some u->h'.get? b=some u):g9 P w H h':=fun a o e =>
 (x a o e).stay (fun b u _ q=>k b u q) (fun _ q=>q) fun _ _ q=>q
theorem g9.laid (x:g9 P w H h)(k:∀ b u,h.get? b=some u->h'.get? b=some u)(hp:h.objs.size<=a)(new:bX P w (upd H a o) h' a o):g9 P w (upd H a o) h':=fun b u e=>by
 have hn:=x.fresh hp;by_cases hb:b=a
 ·subst hb;rw[aS] at e;cases e;exact new
 ·rw[aJ hb] at e;exact (x b u e).stay (fun c v _ q=>k c v q) (fun c q=>by rw[aJ (bO q hn)];exact q) fun c xs q=>by rw[aJ (bO q hn)];exact q
end
def Rd (H:Hp)(a:Addr)(u:HO):Prop:=H a=some u\/∃ o,H a=some (.frz o u)
theorem Rd.ok {P:Program}{w:World}{H:Hp}{h:Heap}{a:Addr}{u:HO}(r:Rd H a u)(x:g9 P w H h):bX P w H h a u:=by
 rcases r with r | ⟨o,r⟩
 ·exact x a u r
 ·obtain⟨_,q⟩:=x a _ r;exact q
noncomputable def pf:Option HO->Prop
 | some (.lst _)=>True
 | some (.dK _)=>True
 | some (.dT _)=>True
 | some (.set _ _)=>True
 | some (.ins _ _ _)=>True
 | some (.ext _)=>True
 |_=>False
section
variable {P:Program}{w:World}{H:Hp}{h h':Heap}{x e:Addr}{o':HO}
theorem g9.write (ok:g9 P w H h)(mu:pf (H x))(he:e=x\/H e=some (.own x))(k:∀ b u,b≠e->h.get? b=some u->h'.get? b=some u)(heo:∃ u,h'.get? e=some u)
  (new:bX P w (upd H x o') h' x o'):g9 P w (upd H x o') h':=fun b u q=>by
 have nown:∀ c y,H c=some (.own y)->c≠x:=fun c y r z=>by subst z;rw[r] at mu;exact mu
 have ntup:∀ c xs,H c=some (.tup xs)->c≠x:=fun c xs r z=>by subst z;rw[r] at mu;exact mu
 by_cases hb:b=x
 ·subst hb;rw[aS] at q;cases q;exact new
 ·rw[aJ hb] at q;by_cases hbe:b=e
  ·have q':H b=some (.own x):=by
    rcases he with z | z
    ·exact absurd (hbe.trans z) hb
    ·rw[hbe];exact z
   rw[q] at q';cases q';obtain⟨v,hv⟩:=heo;exact⟨v,by rw[hbe];exact hv⟩
  ·refine (ok b u q).stay (fun c v hc r=>k c v ?_ r) (fun c r=>by rw[aJ (nown c b r)];exact r) fun c xs r=>by rw[aJ (ntup c xs r)];exact r
   rcases hc with rfl | hc
   ·exact hbe
   ·rintro rfl;rcases he with z | z
    ·exact nown c b hc z
    ·rw[hc] at z;cases z;exact hb rfl
end
structure Un (fs ex:List Addr)(H H':Hp)(h h':Heap):Prop where
 keep:∀ b o,h.get? b=some o->H b=none->b∉fs->b∉ex->h'.get? b=some o
 slot:∀ b o,h.get? b=some o->H b=none->b∈fs->b∉ex->∃ sl,h'.get? b=some { o with slots:=sl }
 free:∀ b o,h.get? b=some o->H b=none->b∉ex->H' b=none
 there:∀ b o,h.get? b=some o->b∉ex->∃ o',h'.get? b=some o'
 tups:∀ b xs,H b=some (.tup xs)->H' b=some (.tup xs)
 frzs:∀ b o u,H b=some (.frz o u)->H' b=some (.frz o u)
 tbls:∀ b ps,H b=some (.tbl ps)->∃ more,H' b=some (.tbl (ps++more))
section
variable {fs fs' ex ex':List Addr}{H H1 H2:Hp}{h h1 h2 h':Heap}{a x e:Addr}{o:HO}
theorem Un.any (u:Un fs ex H H1 h h1){b:Addr}{ob:Obj}(q:h.get? b=some ob)(n:H b=none)(hx:b∉ex):∃ sl,h1.get? b=some { ob with slots:=sl }:=by
 by_cases hb:b∈fs
 ·exact u.slot b ob q n hb hx
 ·exact⟨ob.slots,u.keep b ob q n hb hx⟩
theorem Un.kept (k:∀ b u,h.get? b=some u->h'.get? b=some u):Un fs ex H H h h' :=
 ⟨fun b ob q _ _ _=>k b ob q,fun b ob q _ _ _=>⟨ob.slots,k b ob q⟩,fun _ _ _ n _=>n,fun b ob q _=>⟨ob,k b ob q⟩,fun _ _ q=>q,fun _ _ _ q=>q,fun _ ps q=>⟨#[],by rw[q];simp⟩⟩
theorem Un.refl:Un fs ex H H h h:=Un.kept fun _ _ q=>q
theorem Un.laid (k:∀ b u,h.get? b=some u->h'.get? b=some u)(hp:h.objs.size<=a)(hn:H a=none):Un fs ex H (upd H a o) h h' where
 keep:=fun b u q _ _ _=>k b u q
 slot:=fun b u q _ _ _=>⟨u.slots,k b u q⟩
 free:=fun b u q n _=>by rw[aJ (ba (au (Heap.lt_size q) hp))];exact n
 there:=fun b u q _=>⟨u,k b u q⟩
 tups:=fun b xs q=>by rw[aJ (bO q hn)];exact q
 frzs:=fun b u xs q=>by rw[aJ (bO q hn)];exact q
 tbls:=fun b ps q=>⟨#[],by rw[aJ (bO q hn),q];simp⟩
theorem Un.write (mu:pf (H x))(he:e=x\/H e=some (.own x))(k:∀ b u,b≠e->h.get? b=some u->h'.get? b=some u)(heo:∃ u,h'.get? e=some u):Un fs ex H (upd H x o) h h':=by
 have hx:∀ b,H b=none->b≠x:=fun b n z=>by subst z;rw[n] at mu;exact mu
 have hb:∀ b,H b=none->b≠e:=fun b n z=>by
  subst z;rcases he with r | r
  ·exact hx b n r
  ·rw[n] at r;cases r
 have hm:∀ b u,H b=some u->¬ pf (some u)->b≠x:=fun b u q nm z=>by subst z;rw[q] at mu;exact nm mu
 refine⟨fun b u q n _ _=>k b u (hb b n) q,fun b u q n _ _=>⟨u.slots,k b u (hb b n) q⟩,fun b u q n _=>by rw[aJ (hx b n)];exact n,fun b u q _=>?_,
  fun b xs q=>by rw[aJ (hm b _ q fun z=>z)];exact q,fun b u xs q=>by rw[aJ (hm b _ q fun z=>z)];exact q,fun b ps q=>⟨#[],by rw[aJ (hm b _ q fun z=>z),q];simp⟩⟩
 by_cases hbe:b=e
 ·subst hbe;exact heo
 ·exact⟨u,k b u hbe q⟩
end
noncomputable def trk (h:Heap)(H:Hp):List Addr:=(List.range h.objs.size).filter fun a=>(H a).isSome
noncomputable def lT (h:Heap)(H:Hp):Heap:=PySem.W.hideAll h (trk h H)
theorem rD (h:Heap)(H:Hp):(lT h H).objs.size=h.objs.size:=PySem.W.hideAll_size _ _
theorem uO {h:Heap}{H:Hp}{b:Addr}{o:Obj}(e:h.get? b=some o)(n:H b=none):(lT h H).get? b=some o :=
 PySem.W.hideAll_get _ e fun hm=>by
  have q:(H b).isSome=true:=(List.mem_filter.mp hm).2;rw[n] at q;simp at q
theorem wm {h:Heap}{H:Hp}{b:Addr}{o:Obj}(e:(lT h H).get? b=some o):h.get? b=some o/\H b=none:=by
 have e':h.get? b=some o:=PySem.W.of_hideAll (trk h H) e;refine⟨e',?_⟩;cases q:H b with
 |none=>rfl
 |some x =>
  have hm:b∈trk h H:=List.mem_filter.mpr ⟨List.mem_range.mpr (Heap.lt_size e'),by simp[q]⟩;have z:(lT h H).get? b=none:=PySem.W.hideAll_none (trk h H) hm;rw[z] at e;cases e
noncomputable def wA (g h:Heap)(L:Addr):List (Addr×Obj):=(List.range h.objs.size).filterMap fun a=>if a=L\/(g.get? a).isSome=true then none else (h.get? a).map fun o=>(a,o)
noncomputable def rest (g h:Heap)(L d:Addr):List (Addr×Obj):=(wA g h L).filter fun p=>decide (p.1≠d)
end L2
namespace L2
open PySem PySem.Spec PyProof.Rows
structure Mod (K:PySem.W.Frag)(mg:Str->Option Value)(base:Heap):Prop where
 kin:K.In base
 glob:base.Ns mainGlobals mg
 blt:∃ mb,base.Ns builtinsNs mb/\∀ x:Str,x≠"__name__"->mb x=bootBuiltins x
 nolimit:base.NoLimit
structure Cx where
 prog:Program
 w:World
 K:PySem.W.Frag
 mg:Str->Option Value
 base:Heap
 A:Around
 N:List Str
 s₀:Shared
 H₀:Hp
 env:Env
 outer:List Env
 stack:List Env
 ex:List Addr
 fn:Str->Bool
 calm:Bool
 pn:List (Addr×Obj)
 xe:Value->Shared->Prop
noncomputable def eN (l:List Env):List Addr:=l.filterMap (·.frame)
noncomputable abbrev Cx.fs (X:Cx):List Addr:=eN X.outer
def xY (sc:Scope)(x:Str):Prop:=sc.names.lookup x=some .local\/sc.names.lookup x=some .cell\/sc.names.lookup x=some .free
def Loc (sc:Scope)(x:Str):Prop:=sc.names.lookup x=some .local\/sc.names.lookup x=some .cell
noncomputable def Look (env:Env)(h:Heap)(m:Str->Option Value)(x:Str)(u:Value):Prop :=
 (env.kindOf x=some .local/\m x=some u)\/((env.kindOf x=some .cell\/env.kindOf x=some .free)/\∃ c,env.cells.lookup x=some c/\h.IsCell c (some u))
structure Cx.Ok (X:Cx):Prop where
 mod:Mod X.K X.mg X.base
 kind:X.env.scope.kind = .function
 glob:X.env.globals=mainGlobals
 blt:X.env.builtins=builtinsNs
 above:X.s₀.heap.objs.size<=X.env.locals
 inj:∀ x y c,X.env.cells.lookup x=some c->X.env.cells.lookup y=some c->x=y
 has:∀ x,(X.env.kindOf x=some .cell\/X.env.kindOf x=some .free)->∃ c,X.env.cells.lookup x=some c
 cab:∀ x c,X.fn x=true->X.env.cells.lookup x=some c->X.s₀.heap.objs.size<=c
 hd:X.calm=true->X.A.handled=none
 frames:X.A.frames=some X.stack
 stk:X.stack=X.outer\/(X.stack=X.env::X.outer/\X.env.frame=some X.env.locals)
 exf:∀ b∈X.ex,b≠X.env.locals/\∀ x c,X.env.cells.lookup x=some c->c≠b
 bs:∀ b o,X.base.get? b=some o->X.s₀.heap.get? b=some o/\X.H₀ b=none
 bsz:X.base.objs.size<=X.s₀.heap.objs.size
 noex:∀ b o,X.base.get? b=some o->b∉X.ex
 exfs:∀ b∈X.ex,b∉X.fs
 funs:X.s₀.heap.FunFrames X.base X.outer
 frf:∀ b∈X.fs,X.H₀ b=none
structure Inv (X:Cx)(pins:List (Addr×Obj))(σ:List (Option V))(H:Hp)(s:Shared):Prop where
 ok:X.Ok
 os:s.os=X.s₀.os
 bare:AllBare s.gens
 base:Un X.fs X.ex X.H₀ H X.s₀.heap s.heap
 loc:∃ m,s.heap.Ns X.env.locals m/\∀(i:Nat) (x:Str) (v:V),X.N[i]? = some x->σ[i]? = some (some v)->xY X.env.scope x->∃ u,RelV v u/\Look X.env s.heap m x u
 cell:∀ x c,X.env.cells.lookup x=some c->∃ v,s.heap.IsCell c v
 free:H X.env.locals=none
 freeC:∀ x c,X.env.cells.lookup x=some c->H c=none
 pin:∀ p∈X.pn++pins,s.heap.get? p.1=some p.2/\H p.1=none/\p.1≠X.env.locals/\p.1∉X.fs/\∀ v,p.2.data≠.cell v
 hok:g9 X.prog X.w H s.heap
 len:σ.length=X.N.length
section
variable {X:Cx}{pins:List (Addr×Obj)}{σ:List (Option V)}{H H':Hp}{s:Shared}{h':Heap}
theorem Cx.Ok.nofr (ok:X.Ok){b:Addr}{o:Obj}(e:X.base.get? b=some o):b∉X.fs:=fun hb=>by
 have:=(ok.funs.mem hb).1;rw[e] at this;cases this
theorem Inv.bs (I:Inv X pins σ H s):∀ b o,X.base.get? b=some o->s.heap.get? b=some o/\H b=none:=fun b o e =>
 ⟨I.base.keep b o (I.ok.bs b o e).1 (I.ok.bs b o e).2 (I.ok.nofr e) (I.ok.noex b o e),I.base.free b o (I.ok.bs b o e).1 (I.ok.bs b o e).2 (I.ok.noex b o e)⟩
theorem Inv.bk (I:Inv X pins σ H s):∀ b o,X.base.get? b=some o->s.heap.get? b=some o:=fun b o e=>(I.bs b o e).1
theorem Inv.mod (I:Inv X pins σ H s):Mod X.K X.mg X.base:=I.ok.mod
theorem Inv.kIn (I:Inv X pins σ H s):X.K.In s.heap:=I.ok.mod.kin.keeps I.bk
theorem Inv.lt (I:Inv X pins σ H s):X.env.locals<s.heap.objs.size:=let ⟨_,hn,_⟩:=I.loc;hn.lt
theorem Inv.sz (I:Inv X pins σ H s):X.s₀.heap.objs.size<=s.heap.objs.size:=bc I.ok.above (Nat.le_of_lt I.lt)
theorem Inv.nofs (I:Inv X pins σ H s){a:Addr}(h:s.heap.objs.size<=a):a∉X.fs:=fun hb=>by
 obtain⟨_,o,ho,_⟩:=I.ok.funs.mem hb;exact absurd (au (Heap.lt_size ho) (bc I.sz h)) (dh _)
theorem Inv.cne (I:Inv X pins σ H s):∀ x c,X.env.cells.lookup x=some c->c≠X.env.locals:=fun x c e z=>by
 obtain⟨v,o,ho,hd⟩:=I.cell x c e;obtain⟨m,⟨o',es,ep,ho',hd',_⟩,_⟩:=I.loc;rw[z,ho'] at ho;cases ho;rw[hd'] at hd;cases hd
theorem Inv.funs (I:Inv X pins σ H s):s.heap.FunFrames X.base X.outer:=by
 have all:∀(l:List Env),(∀ b∈eN l,b∈X.fs)->X.s₀.heap.FunFrames X.base l->s.heap.FunFrames X.base l:=by
  intro l
  induction l with
  |nil=>intro _ _;trivial
  |cons env r ih =>
   intro hs hl;obtain⟨hk,⟨L,o,hf,hn,ho,hd⟩,hr⟩:=hl;have hL:L∈X.fs:=hs L (by unfold eN;rw[fi,hf];exact ai);obtain⟨sl,e⟩:=I.base.slot L o ho (I.ok.frf L hL) hL fun z=>I.ok.exfs L z hL
   exact⟨hk,⟨L,_,hf,hn,e,hd⟩,ih (fun b hb=>hs b (by unfold eN;rw[fi,hf];exact ae _ hb)) hr⟩
 exact all X.outer (fun _ hb=>hb) I.ok.funs
theorem Inv.stack (I:Inv X pins σ H s):s.heap.FunFrames X.base X.stack:=by
 rcases I.ok.stk with e | ⟨e,hf⟩
 ·rw[e];exact I.funs
 ·rw[e];obtain⟨m,hn,_⟩:=I.loc;refine .cons (by rw[I.ok.kind];decide) hf hn ?_ I.funs;exact Heap.get?_none_of_le (bc I.ok.bsz I.ok.above)
theorem Inv.stkSub (I:Inv X pins σ H s):∀ b∈eN X.stack,b∈X.env.locals::X.fs:=fun b hb=>by
 rcases I.ok.stk with e | ⟨e,hf⟩
 ·rw[e] at hb;exact ae _ hb
 ·rw[e] at hb;unfold eN at hb;rw[fi,hf] at hb;exact hb
theorem Inv.stkFree (I:Inv X pins σ H s):∀ b∈eN X.stack,H b=none:=fun b hb=>by
 rcases bw.mp (I.stkSub b hb) with e | hb
 ·rw[e];exact I.free
 ·obtain⟨_,o,ho,_⟩:=I.ok.funs.mem hb;exact I.base.free b o ho (I.ok.frf b hb) fun z=>I.ok.exfs b z hb
theorem Inv.step {g':Array GenState}{t':Nat}{d':Drawn}{ch:List Addr}(I:Inv X pins σ H s)
  (hch:∀ b∈ch,(b∈X.ex\/X.s₀.heap.objs.size<=b)/\b≠X.env.locals/\(∀ x c,X.env.cells.lookup x=some c->c≠b)/\∀ p∈X.pn++pins,p.1≠b)
  (keep:∀ b o,b≠X.env.locals->b∉X.fs->b∉ch->s.heap.get? b=some o->H b=none->h'.get? b=some o)
  (slot:∀ b o,b≠X.env.locals->b∈X.fs->b∉ch->s.heap.get? b=some o->H b=none->∃ sl,h'.get? b=some { o with slots:=sl }) (free:∀ b o,b∉ch->s.heap.get? b=some o->H b=none->H' b=none)
  (there:∀ b o,b∉ch->s.heap.get? b=some o->∃ o',h'.get? b=some o')
  (tups:∀ b xs,H b=some (.tup xs)->H' b=some (.tup xs)) (frzs:∀ b o u,H b=some (.frz o u)->H' b=some (.frz o u)) (tbls:∀ b ps,H b=some (.tbl ps)->∃ more,H' b=some (.tbl (ps++more)))
  (ns:∀ m,s.heap.Ns X.env.locals m->h'.Ns X.env.locals m) (hok:g9 X.prog X.w H' h') (hg:AllBare g') :
  Inv X pins σ H' { s with heap:=h',gens:=g',drawn:=d',toks:=t' }:=by
 have neL:∀ b o,X.s₀.heap.get? b=some o->b≠X.env.locals:=fun b o e=>ba (au (Heap.lt_size e) I.ok.above)
 have neC:∀ b o,X.s₀.heap.get? b=some o->b∉X.ex->b∉ch:=fun b o e hx hb=>by
  rcases (hch b hb).1 with z | z
  ·exact hx z
  ·exact absurd (au (Heap.lt_size e) z) (dh _)
 have cellK:∀ x c,X.env.cells.lookup x=some c->∀ v,s.heap.IsCell c v->h'.IsCell c v:=fun x c e v ⟨o,ho,hd⟩=>by
  have nch:c∉ch:=fun z=>(hch c z).2.2.1 x c e rfl
  by_cases hc:c∈X.fs
  ·obtain⟨sl,q⟩:=slot c o (I.cne x c e) hc nch ho (I.freeC x c e);exact⟨_,q,hd⟩
  ·exact⟨o,keep c o (I.cne x c e) hc nch ho (I.freeC x c e),hd⟩
 refine⟨I.ok,I.os,hg,⟨fun b o e n hb hx=>?_,fun b o e n hb hx=>?_,fun b o e n hx=>?_,fun b o e hx=>?_,fun b xs e=>tups b xs (I.base.tups b xs e),fun b o xs e=>frzs b o xs (I.base.frzs b o xs e),fun b ps e=>?_⟩,?_,fun x c e=>?_,?_,fun x c e=>?_,fun p hp=>?_,hok,I.len⟩
 ·exact keep b o (neL b o e) hb (neC b o e hx) (I.base.keep b o e n hb hx) (I.base.free b o e n hx)
 ·obtain⟨sl,e1⟩:=I.base.slot b o e n hb hx;obtain⟨sl',e2⟩:=slot b _ (neL b o e) hb (neC b o e hx) e1 (I.base.free b o e n hx);exact⟨sl',e2⟩
 ·obtain⟨o',e1⟩:=I.base.there b o e hx;exact free b o' (neC b o e hx) e1 (I.base.free b o e n hx)
 ·obtain⟨o',e1⟩:=I.base.there b o e hx;exact there b o' (neC b o e hx) e1
 ·obtain⟨m1,e1⟩:=I.base.tbls b ps e;obtain⟨m2,e2⟩:=tbls b _ e1;exact⟨m1++m2,by rw[e2,Array.append_assoc]⟩
 ·obtain⟨m,hn,hl⟩:=I.loc;refine⟨m,ns m hn,fun i x v e1 e2 e3=>?_⟩;obtain⟨u,r,l⟩:=hl i x v e1 e2 e3;refine⟨u,r,?_⟩;rcases l with l | ⟨k,c,e,z⟩
  ·exact .inl l
  ·exact .inr ⟨k,c,e,cellK x c e _ z⟩
 ·obtain⟨v,z⟩:=I.cell x c e;exact⟨v,cellK x c e v z⟩
 ·obtain⟨m,⟨o,_,_,ho,_⟩,_⟩:=I.loc;exact free _ o (fun z=>(hch _ z).2.1 rfl) ho I.free
 ·obtain⟨v,o,ho,hd⟩:=I.cell x c e;exact free c o (fun z=>(hch c z).2.2.1 x c e rfl) ho (I.freeC x c e)
 ·obtain⟨e,n,ne,nf,d⟩:=I.pin p hp;have nch:p.1∉ch:=fun z=>(hch p.1 z).2.2.2 p hp rfl
  exact⟨keep p.1 p.2 ne nf nch e n,free p.1 p.2 nch e n,ne,nf,d⟩
theorem Inv.un {t':Nat}(I:Inv X pins σ H s)(u:Un X.fs [] H H' s.heap h')(hok:g9 X.prog X.w H' h'):Inv X pins σ H' { s with heap:=h',toks:=t' }:=by
 obtain⟨m,⟨o,es,ep,ho,r⟩,_⟩:=id I.loc;obtain⟨sl,hL⟩:=u.any ho I.free (by simp);exact I.step (g':=s.gens) (d':=s.drawn) (ch:=[]) (fun _ z=>nomatch z) (fun b o _ hb _ e n=>u.keep b o e n hb (by simp)) (fun b o _ hb _ e n=>u.slot b o e n hb (by simp)) (fun b o _ e n=>u.free b o e n (by simp)) (fun b o _ e=>u.there b o e (by simp)) u.tups u.frzs u.tbls (fun m' hm=>by
  obtain⟨o',es',ep',ho',r'⟩:=hm;rw[ho] at ho';cases ho';exact⟨_,es',ep',hL,r'⟩) hok I.bare
theorem Inv.call {g':Array GenState}{t':Nat}{d':Drawn}{ch:List Addr}(I:Inv X pins σ H s)(u:Un (eN X.stack) ch H H' s.heap h')(hok:g9 X.prog X.w H' h')(hg:AllBare g')
  (hch:∀ b∈ch,(b∈X.ex\/X.s₀.heap.objs.size<=b)/\b≠X.env.locals/\(∀ x c,X.env.cells.lookup x=some c->c≠b)/\∀ p∈X.pn++pins,p.1≠b) :
  Inv X pins σ H' { s with heap:=h',gens:=g',drawn:=d',toks:=t' }:=by
 obtain⟨m,⟨o,es,ep,ho,r⟩,_⟩:=id I.loc;obtain⟨sl,hL⟩:=u.any ho I.free fun z=>(hch _ z).2.1 rfl
 exact I.step (ch:=ch) hch (fun b o hL hb hc e n=>u.keep b o e n (fun z=>(bw.mp (I.stkSub b z)).elim hL hb) hc) (fun b o _ _ hc e n=>u.any e n hc) (fun b o hc e n=>u.free b o e n hc) (fun b o hc e=>u.there b o e hc) u.tups u.frzs u.tbls (fun m' hm=>by
  obtain⟨o',es',ep',ho',r'⟩:=hm;rw[ho] at ho';cases ho';exact⟨_,es',ep',hL,r'⟩) hok hg
theorem Inv.turned {t':Nat}{it:Addr}(I:Inv X pins σ H s)(k:∀ b o,b≠it->s.heap.get? b=some o->h'.get? b=some o)(hn:H it=none)(hL:it≠X.env.locals)
  (h1:it∈X.ex\/X.s₀.heap.objs.size<=it) (h2:∀ x c,X.env.cells.lookup x=some c->c≠it) (h3:∀ p∈X.pn++pins,p.1≠it):Inv X pins σ H { s with heap:=h',toks:=t' }:=by
 have nit:∀ b u,H b=some u->b≠it:=fun b u e z=>by rw[z,hn] at e;cases e
 refine I.step (g':=s.gens) (d':=s.drawn) (ch:=[it]) (fun b hb=>?_) (fun b o _ _ hc e _=>k b o (fun z=>hc (by simp[z])) e) (fun b o _ _ hc e _=>⟨o.slots,k b o (fun z=>hc (by simp[z])) e⟩) (fun _ _ _ _ n=>n)
  (fun b o hc e=>⟨o,k b o (fun z=>hc (by simp[z])) e⟩) (fun _ _ e=>e) (fun _ _ _ e=>e) (fun b ps e=>⟨#[],by rw[e];simp⟩) (fun m hm=>?_) (fun b u e=>?_) I.bare
 ·have e:b=it:=by simpa using hb
  subst e;exact⟨h1,hL,h2,h3⟩
 ·obtain⟨o,es,ep,ho,r⟩:=hm;exact⟨o,es,ep,k _ o (cj hL) ho,r⟩
 ·refine (I.hok b u e).stay (fun c v hc q=>k c v ?_ q) (fun _ q=>q) fun _ _ q=>q
  rcases hc with z | z
  ·rw[z];exact nit b u e
  ·exact nit c _ z
theorem Inv.tok (I:Inv X pins σ H s)(t:Nat):Inv X pins σ H { s with toks:=t }:=I.un (h':=s.heap) (t':=t) Un.refl I.hok
theorem Inv.kept {t':Nat}(I:Inv X pins σ H s)(k:∀ b u,s.heap.get? b=some u->h'.get? b=some u):Inv X pins σ H { s with heap:=h',toks:=t' }:=I.un (Un.kept k) (I.hok.kept k)
theorem Inv.laid {a:Addr}{o:HO}{t':Nat}(I:Inv X pins σ H s)(k:∀ b u,s.heap.get? b=some u->h'.get? b=some u)(hp:s.heap.objs.size<=a)(new:bX X.prog X.w (upd H a o) h' a o) :
  Inv X pins σ (upd H a o) { s with heap:=h',toks:=t' }:=I.un (Un.laid k hp (I.hok.fresh hp)) (I.hok.laid k hp new)
theorem Inv.write {x e:Addr}{o:HO}{t':Nat}(I:Inv X pins σ H s)(mu:pf (H x))(he:e=x\/H e=some (.own x))(k:∀ b u,b≠e->s.heap.get? b=some u->h'.get? b=some u)(heo:∃ u,h'.get? e=some u)
  (new:bX X.prog X.w (upd H x o) h' x o):Inv X pins σ (upd H x o) { s with heap:=h',toks:=t' }:=I.un (Un.write mu he k heo) (I.hok.write mu he k heo new)
theorem Inv.weak {σ':List (Option V)}(I:Inv X pins σ H s)(hl:σ'.length=σ.length)(w:∀(i:Nat) v,σ'[i]? = some (some v)->σ[i]? = some (some v)):Inv X pins σ' H s :=
 ⟨I.ok,I.os,I.bare,I.base,let ⟨m,hn,hl'⟩:=I.loc;⟨m,hn,fun i x v e1 e2 e3=>hl' i x v e1 (w i v e2) e3⟩,I.cell,I.free,I.freeC,I.pin,I.hok,hl.trans I.len⟩
theorem Inv.pins_of {pins':List (Addr×Obj)}(I:Inv X pins σ H s)(h:∀ p∈pins',s.heap.get? p.1=some p.2/\H p.1=none/\p.1≠X.env.locals/\p.1∉X.fs/\∀ v,p.2.data≠.cell v):Inv X pins' σ H s :=
 ⟨I.ok,I.os,I.bare,I.base,I.loc,I.cell,I.free,I.freeC,fun p hp=>(List.mem_append.mp hp).elim (fun z=>I.pin p (ay _ z)) (h p),I.hok,I.len⟩
theorem jL {N:List Str}(hN:N.Nodup){i j:Nat}{x:Str}(a:N[i]? = some x)(b:N[j]? = some x):i=j:=by
 obtain⟨h1,e1⟩:=List.getElem?_eq_some_iff.mp a;obtain⟨h2,e2⟩:=List.getElem?_eq_some_iff.mp b;exact (List.getElem_inj hN).mp (e1.trans e2.symm)
theorem rf {M:Model}{A:Around}{E:Value->Shared->Prop}{i:Nat}{x:Str}{v:V}{u:Value}{Q:Unit->Shared->Prop}(I:Inv X pins σ H s)(hN:X.N.Nodup)(hi:X.N[i]? = some x)(hx:Loc X.env.scope x)(r:RelV v u)
  (h:∀ s',Inv X pins (σ.set i (some v)) H s'->(∃ a,Heap.SameBut a s.heap s'.heap/\(a=X.env.locals\/X.env.cells.lookup x=some a))->Q () s') (hf:X.fn x=true\/X.env.scope.names.lookup x=some .local:=by first | exact .inl rfl | exact .inr rfl | assumption):wpAny M A (storeName X.env x u) Q E s:=by
 obtain⟨m,hn,hl⟩:=id I.loc;have hcls:(X.env.scope.kind == .class || (X.env.scope.kind == .module&&X.env.locals != X.env.globals))=false:=by rw[I.ok.kind];rfl
 have hiσ:i<σ.length:=by rw[I.len];exact (List.getElem?_eq_some_iff.mp hi).1
 have cne:=I.cne;have tracked:∀{a:Addr}{h':Heap},(∃ o,s.heap.get? a=some o/\H a=none)->Heap.SameBut a s.heap h'->g9 X.prog X.w H h':=fun {a h'} ha hs b ob e=>by
  obtain⟨_,_,hfree⟩:=ha;refine (I.hok b ob e).stay (fun c w' hc q=>(hs.2 c ?_).trans q) (fun _ q=>q) fun _ _ q=>q
  rintro rfl;rcases hc with rfl | hc
  ·rw[hfree] at e;cases e
  ·rw[hfree] at hc;cases hc
 rcases hx with hk | hk
 ·refine wpAny_storeName_local hk hn (fun h' hn' hs=>?_) hcls;obtain⟨oL,_,_,hoL,_⟩:=id hn;refine h _ ⟨I.ok,I.os,I.bare,⟨fun b o e n hb hx=>?_,fun b o e n hb hx=>?_,I.base.free,fun b o e hx=>?_,I.base.tups,I.base.frzs,I.base.tbls⟩,⟨_,hn',fun j y v' e1 e2 e3=>?_⟩,fun y c e=>?_,I.free,I.freeC,fun p hp=>?_,tracked ⟨oL,hoL,I.free⟩ hs,by simpa using I.len⟩ ⟨_,hs,.inl rfl⟩
  ·exact (hs.2 b (ba (au (Heap.lt_size e) I.ok.above))).trans (I.base.keep b o e n hb hx)
  ·obtain⟨sl,e1⟩:=I.base.slot b o e n hb hx;exact⟨sl,(hs.2 b (ba (au (Heap.lt_size e) I.ok.above))).trans e1⟩
  ·obtain⟨o',e1⟩:=I.base.there b o e hx;exact⟨o',(hs.2 b (ba (au (Heap.lt_size e) I.ok.above))).trans e1⟩
  ·by_cases hj:j=i
   ·subst hj;rw[hi] at e1;cases e1;rw[List.getElem?_set_self hiσ] at e2;cases e2;exact⟨u,r,.inl ⟨hk,by simp⟩⟩
   ·rw[List.getElem?_set_ne (cj hj)] at e2;obtain⟨u',r',q⟩:=hl j y v' e1 e2 e3;refine⟨u',r',?_⟩;rcases q with ⟨k,e⟩ | ⟨k,c,e,z⟩
    ·refine .inl ⟨k,?_⟩;have:y≠x:=fun e=>hj (jL hN e1 (e ▸ hi))
     simp[this,e]
    ·exact .inr ⟨k,c,e,z.sameBut hs (cne y c e)⟩
  ·obtain⟨w',z⟩:=I.cell y c e;exact⟨w',z.sameBut hs (cne y c e)⟩
  ·obtain⟨e,n,ne,nf,d⟩:=I.pin p hp;exact⟨(hs.2 p.1 ne).trans e,n,ne,nf,d⟩
 ·have hfn:X.fn x=true:=by
   rcases hf with z | z
   ·exact z
   ·rw[z] at hk;cases hk
  obtain⟨c,hc⟩:=I.ok.has x (.inl hk);obtain⟨w',z⟩:=I.cell x c hc;refine wpAny_storeName_cell I.ok.kind hk hc z (fun h' hc' hs=>?_);obtain⟨oc,hoc,hocd⟩:=id z;refine h { s with heap:=h' } ⟨I.ok,I.os,I.bare,⟨fun b o e n hb hx=>?_,fun b o e n hb hx=>?_,I.base.free,fun b o e hx=>?_,I.base.tups,I.base.frzs,I.base.tbls⟩,⟨m,hn.sameBut hs (Ne.symm (cne x c hc)),fun j y v' e1 e2 e3=>?_⟩,fun y c' e=>?_,I.free,I.freeC,fun p hp=>?_,tracked ⟨oc,hoc,I.freeC x c hc⟩ hs,by simpa using I.len⟩ ⟨c,hs,.inr hc⟩
  ·exact (hs.2 b (ba (au (Heap.lt_size e) (I.ok.cab x c hfn hc)))).trans (I.base.keep b o e n hb hx)
  ·obtain⟨sl,e1⟩:=I.base.slot b o e n hb hx;exact⟨sl,(hs.2 b (ba (au (Heap.lt_size e) (I.ok.cab x c hfn hc)))).trans e1⟩
  ·obtain⟨o',e1⟩:=I.base.there b o e hx;exact⟨o',(hs.2 b (ba (au (Heap.lt_size e) (I.ok.cab x c hfn hc)))).trans e1⟩
  ·by_cases hj:j=i
   ·subst hj;rw[hi] at e1;cases e1;rw[List.getElem?_set_self hiσ] at e2;cases e2;exact⟨u,r,.inr ⟨.inl hk,c,hc,hc'⟩⟩
   ·rw[List.getElem?_set_ne (cj hj)] at e2;obtain⟨u',r',q⟩:=hl j y v' e1 e2 e3;refine⟨u',r',?_⟩;rcases q with q | ⟨k,c',e,z'⟩
    ·exact .inl q
    ·refine .inr ⟨k,c',e,z'.sameBut hs ?_⟩;rintro rfl;exact hj (jL hN e1 (I.ok.inj _ _ _ e hc ▸ hi))
  ·by_cases hcc:c'=c
   ·subst hcc;exact⟨_,hc'⟩
   ·obtain⟨w2,z2⟩:=I.cell y c' e;exact⟨w2,z2.sameBut hs hcc⟩
  ·obtain⟨e,n,ne,nf,d⟩:=I.pin p hp;refine⟨(hs.2 p.1 ?_).trans e,n,ne,nf,d⟩;intro q;rw[q,hoc] at e;have q':oc=p.2:=cf e;exact d w' (by rw[<-q'];exact hocd)
theorem gw {M:Model}{A:Around}{E:Value->Shared->Prop}{i:Nat}{x:Str}{v:V}{u:Value}{Q:Unit->Shared->Prop}(I:Inv X pins σ H s)(hN:X.N.Nodup)(hi:X.N[i]? = some x)(hx:Loc X.env.scope x)(r:RelV v u)
  (h:∀ s',Inv X pins (σ.set i (some v)) H s'->Q () s') (hf:X.fn x=true\/X.env.scope.names.lookup x=some .local:=by first | exact .inl rfl | exact .inr rfl | assumption):wpAny M A (storeName X.env x u) Q E s :=
 rf I hN hi hx r (fun s' I' _=>h s' I') hf
theorem Inv.call' {s':Shared}{ch:List Addr}(I:Inv X pins σ H s)(ho:s'.os=s.os)(u:Un (eN X.stack) ch H H' s.heap s'.heap)(hok:g9 X.prog X.w H' s'.heap)(hg:AllBare s'.gens)
  (hch:∀ b∈ch,(b∈X.ex\/X.s₀.heap.objs.size<=b)/\b≠X.env.locals/\(∀ x c,X.env.cells.lookup x=some c->c≠b)/\∀ p∈X.pn++pins,p.1≠b):Inv X pins σ H' s':=by
 obtain⟨h',g',d',t',o'⟩:=s';have e:o'=s.os:=ho;subst e;exact I.call (g':=g') (t':=t') (d':=d') u hok hg hch
end
noncomputable abbrev XK:=Value->Option Addr->Hp->Prop
noncomputable abbrev St:=List (Option V)
noncomputable abbrev VK:=V->Hp->Prop
noncomputable abbrev TE:=St->Hp->VK->Prop
noncomputable abbrev TT:=St->Hp->(Bool->Hp->Prop)->Prop
noncomputable abbrev TA:=St->Hp->(List V->Hp->Prop)->Prop
structure Ends where
 nx:St->Hp->Prop
 rt:VK
 bk:St->Hp->Prop:=fun _ _=>False
 ct:St->Hp->Prop:=fun _ _=>False
noncomputable abbrev TS:=Ends->St->Hp->Prop
def EP (X:Cx)(pins:List (Addr×Obj))(σ:St)(Q:VK)(u:Value)(s':Shared):Prop:=∃ v H',Inv X pins σ H' s'/\RelV v u/\Q v H'
def TP (X:Cx)(pins:List (Addr×Obj))(σ:St)(Q:Bool->Hp->Prop)(b:Bool)(s':Shared):Prop:=∃ H',Inv X pins σ H' s'/\Q b H'
def AP (X:Cx)(pins:List (Addr×Obj))(σ:St)(Q:List V->Hp->Prop)(us:List Value)(s':Shared):Prop:=∃ vs H',Inv X pins σ H' s'/\aK vs us/\Q vs H'
noncomputable def SP (X:Cx)(pins:List (Addr×Obj))(D:Ends)(f:Flow)(s':Shared):Prop :=
 match f with
 |.next=>∃ σ' H',Inv X pins σ' H' s'/\D.nx σ' H'
 |.brk=>∃ σ' H',Inv X pins σ' H' s'/\D.bk σ' H'
 |.cont=>∃ σ' H',Inv X pins σ' H' s'/\D.ct σ' H'
 |.ret u=>∃ v σ' H',Inv X pins σ' H' s'/\RelV v u/\D.rt v H'
noncomputable def PE (X:Cx)(e:Expr)(t:TE):Prop :=
 ∀(pins:List (Addr×Obj)) (s:Shared) (σ:St) (H:Hp) (Q:VK),Inv X pins σ H s->t σ H Q->wpAny (model X.prog X.w) X.A (eval e X.env) (EP X pins σ Q) X.xe s
noncomputable def PT (X:Cx)(e:Expr)(t:TT):Prop :=
 ∀(pins:List (Addr×Obj)) (s:Shared) (σ:St) (H:Hp) (Q:Bool->Hp->Prop),Inv X pins σ H s->t σ H Q->wpAny (model X.prog X.w) X.A (isTrue e X.env (eval e X.env)) (TP X pins σ Q) X.xe s
noncomputable def PW (X:Cx)(e:Expr)(t:TT):Prop :=
 ∀(whole:Sem Value) (pins:List (Addr×Obj)) (s:Shared) (σ:St) (H:Hp) (Q:Bool->Hp->Prop),Inv X pins σ H s->t σ H Q->wpAny (model X.prog X.w) X.A (isTrue e X.env whole) (TP X pins σ Q) X.xe s
theorem PW.pt {X:Cx}{e:Expr}{t:TT}(h:PW X e t):PT X e t:=h _
noncomputable def PA (X:Cx)(es:List Expr)(t:TA):Prop :=
 ∀(pos:Pos) (pins:List (Addr×Obj)) (s:Shared) (σ:St) (H:Hp) (Q:List V->Hp->Prop),Inv X pins σ H s->t σ H Q->wpAny (model X.prog X.w) X.A (spliced (backTo pos (starEach es X.env))) (AP X pins σ Q) X.xe s
noncomputable def PS (X:Cx)(st:Stmt)(t:TS):Prop :=
 ∀(pins:List (Addr×Obj)) (s:Shared) (σ:St) (H:Hp) (D:Ends),Inv X pins σ H s->t D σ H->wpAny (model X.prog X.w) X.A (exec st X.env) (SP X pins D) X.xe s
noncomputable def ip (X:Cx)(st:List Stmt)(t:TS):Prop :=
 ∀(pins:List (Addr×Obj)) (s:Shared) (σ:St) (H:Hp) (D:Ends),Inv X pins σ H s->t D σ H->wpAny (model X.prog X.w) X.A (execs st X.env) (SP X pins D) X.xe s
theorem cN {α:Type}{t:Sem α}{Q Q':α->Shared->Prop}{M:Model}{A:Around}{E:Value->Shared->Prop}{s:Shared}(h:wpAny M A t Q E s)(hQ:∀ a s,Q a s->Q' a s):wpAny M A t Q' E s:=wpAny_mono h hQ fun _ _ x=>x
end L2
namespace L2
open PySem PySem.Spec PyProof.Rows
section
variable {X:Cx}
def sO (i:Nat):TE:=fun σ H Q=>∃ v,σ[i]? = some (some v)/\Q v H
def tC (v:V):TE:=fun _ H Q=>Q v H
theorem jY {i:Nat}{x:Str}{pos:Pos}(hN:X.N[i]? = some x)(hv:xY X.env.scope x)(hd:(x==("__debug__" : Str))=false:=by decide) (hcd:(x==("__classdict__" : Str))=false:=by decide):PE X (.Name x pos) (sO i):=by
 intro pins s σ H Q I h;obtain⟨v,e,h⟩:=h;obtain⟨m,hn,hl⟩:=I.loc;obtain⟨u,r,l⟩:=hl i x v hN e hv;have fin:EP X pins σ Q u s:=⟨v,H,I,r,h⟩;rcases l with ⟨hk,hm⟩ | ⟨hk,c,hc,hcell⟩
 ·exact wpAny_Name (wpAny_loadName_local I.ok.kind hk hn hm fin) hd
 ·rcases hk with hk | hk
  ·exact wpAny_Name (wpAny_loadName_cell I.ok.kind hk hc hcell fin) hd
  ·exact wpAny_Name (wpAny_loadName_free I.ok.kind hk hc hcell fin hcd) hd
theorem vb {i j pos}:PE X (.Constant (.int i) j pos) (tC (.int i)):=fun _ _ _ H _ I h=>wpAny_Constant_int ⟨.int i,H,I.tok _,⟨_,rfl⟩,h⟩
theorem yO {b j pos}:PE X (.Constant (.bool b) j pos) (tC (.bl b)):=fun _ _ _ H _ I h=>Constant_bool ⟨.bl b,H,I,rfl,h⟩
theorem pH {j pos}:PE X (.Constant .none j pos) (tC .non):=fun _ _ _ H _ I h=>Constant_none ⟨.non,H,I,rfl,h⟩
theorem uo {x j pos}:PE X (.Constant (.str x) j pos) (tC (.str x)):=fun _ _ _ H _ I h=>Calls.Constant_str ⟨.str x,H,I.tok _,⟨_,rfl⟩,h⟩
def Gl (X:Cx)(x:Str):Prop:=X.env.kindOf x=some .globalImplicit
theorem gY {E:Value->Shared->Prop}{pins:List (Addr×Obj)}{s:Shared}{σ:St}{H:Hp}{x:Str}{u:Value}{pos:Pos}{Q:Value->Shared->Prop}(I:Inv X pins σ H s)(hg:Gl X x)(hm:X.mg x=some u)(h:Q u s)
  (hd:(x==("__debug__" : Str))=false:=by decide):wpAny (model X.prog X.w) X.A (eval (.Name x pos) X.env) Q E s :=
 Calls.Name_function_global I.ok.kind hg (Calls.loadGlobal_global (by rw[I.ok.glob];exact I.mod.glob.keeps I.bk) hm h) hd
theorem i0 {E:Value->Shared->Prop}{pins:List (Addr×Obj)}{s:Shared}{σ:St}{H:Hp}{x:Str}{u:Value}{pos:Pos}{Q:Value->Shared->Prop}(I:Inv X pins σ H s)(hg:Gl X x)(hm:X.mg x=none)(hv:bootBuiltins x=some u)(h:Q u s)
  (hn:x≠"__name__":=by decide) (hd:(x==("__debug__" : Str))=false:=by decide):wpAny (model X.prog X.w) X.A (eval (.Name x pos) X.env) Q E s:=by
 obtain⟨mb,h1,h2⟩:=I.mod.blt;exact Calls.Name_function_global I.ok.kind hg (Calls.loadGlobal_builtin (by rw[I.ok.glob];exact I.mod.glob.keeps I.bk) hm (by rw[I.ok.blt];exact h1.keeps I.bk) ((h2 x hn).trans hv) h) hd
theorem md {x:Str}{v:V}{u:Value}{pos:Pos}(hg:Gl X x)(hm:X.mg x=some u)(r:RelV v u)(hd:(x==("__debug__" : Str))=false:=by decide):PE X (.Name x pos) (tC v) :=
 fun _ _ _ H _ I h=>gY I hg hm ⟨v,H,I,r,h⟩ hd
theorem qv {x:Str}{v:V}{u:Value}{pos:Pos}(hg:Gl X x)(hm:X.mg x=none)(hv:bootBuiltins x=some u)(r:RelV v u)(hn:x≠"__name__":=by decide) (hd:(x==("__debug__" : Str))=false:=by decide):PE X (.Name x pos) (tC v) :=
 fun _ _ _ H _ I h=>i0 I hg hm hv ⟨v,H,I,r,h⟩ hn hd
variable {a b:Expr}{ta tb:TE}{pos:Pos}
def tB (t:TE):TT:=fun σ H Q=>t σ H fun x H1=>∃ c,x = .bl c/\Q c H1
variable {tA x9:TT}{rest:List Expr}
def tAnd (t u:TT):TT:=fun σ H Q=>t σ H fun c H1=>if c=true then u σ H1 Q else Q false H1
def tOr (t u:TT):TT:=fun σ H Q=>t σ H fun c H1=>if c=true then Q true H1 else u σ H1 Q
def tNot (t:TT):TT:=fun σ H Q=>t σ H fun c H1=>Q (!c) H1
theorem xQ (ha:PT X a tA):PW X (.BoolOp .And [a] pos) tA:=by
 intro wh pins s σ H Q I h;refine isTrue_and (cN (ha pins s σ H Q I h) fun c s1 e=>?_);cases c with
 |true=>exact isTrue_and_nil e
 |false=>exact e
theorem zO (ha:PT X a tA):PW X (.BoolOp .Or [a] pos) tA:=by
 intro wh pins s σ H Q I h;refine isTrue_or (cN (ha pins s σ H Q I h) fun c s1 e=>?_);cases c with
 |false=>exact isTrue_or_nil e
 |true=>exact e
theorem zr (ha:PT X a tA)(hb:PW X (.BoolOp .And (b::rest) pos) x9):PW X (.BoolOp .And (a::b::rest) pos) (tAnd tA x9):=by
 intro wh pins s σ H Q I h;refine isTrue_and (cN (ha pins s σ H _ I h) fun c s1 ⟨H1,I1,q1⟩=>?_);cases c with
 |true=>exact hb wh pins s1 σ H1 Q I1 q1
 |false=>exact⟨H1,I1,q1⟩
theorem Cs (ha:PT X a tA)(hb:PW X (.BoolOp .Or (b::rest) pos) x9):PW X (.BoolOp .Or (a::b::rest) pos) (tOr tA x9):=by
 intro wh pins s σ H Q I h;refine isTrue_or (cN (ha pins s σ H _ I h) fun c s1 ⟨H1,I1,q1⟩=>?_);cases c with
 |true=>exact⟨H1,I1,q1⟩
 |false=>exact hb wh pins s1 σ H1 Q I1 q1
theorem zQ (ha:PT X a tA):PT X (.UnaryOp .Not a pos) (tNot tA):=by
 intro pins s σ H Q I h;exact isTrue_not (ha pins s σ H (fun c H1=>Q (!c) H1) I h)
def Bu (ta tb:TE):TE:=fun σ H Q=>ta σ H fun x H1=>∃ c,x = .bl c/\if c=true then tb σ H1 Q else Q (.bl false) H1
def tOrV (ta tb:TE):TE:=fun σ H Q=>ta σ H fun x H1=>∃ c,x = .bl c/\if c=true then Q (.bl true) H1 else tb σ H1 Q
def CC (ta:TE):TE:=fun σ H Q=>ta σ H fun x H1=>∃ c,x = .bl c/\Q (.bl (!c)) H1
theorem zg {op}{t:TE}(h:PE X a t):PE X (.BoolOp op [a] pos) t:=fun pins s σ H Q I hw=>BoolOp_one (h pins s σ H Q I hw)
theorem zq (ha:PE X a ta)(hb:PE X (.BoolOp .And (b::rest) pos) tb):PE X (.BoolOp .And (a::b::rest) pos) (Bu ta tb):=by
 intro pins s σ H Q I h;refine BoolOp_and (cN (ha pins s σ H _ I h) fun v s1 ⟨x,H1,I1,r1,q1⟩=>?_);obtain⟨c,rfl,q1⟩:=q1;cases r1;refine wpAny_truthy_bool ?_;cases c with
 |true=>exact hb pins s1 σ H1 Q I1 q1
 |false=>exact⟨.bl false,H1,I1,rfl,q1⟩
theorem BR (ha:PE X a ta)(hb:PE X (.BoolOp .Or (b::rest) pos) tb):PE X (.BoolOp .Or (a::b::rest) pos) (tOrV ta tb):=by
 intro pins s σ H Q I h;refine BoolOp_or (cN (ha pins s σ H _ I h) fun v s1 ⟨x,H1,I1,r1,q1⟩=>?_);obtain⟨c,rfl,q1⟩:=q1;cases r1;refine wpAny_truthy_bool ?_;cases c with
 |false=>exact hb pins s1 σ H1 Q I1 q1
 |true=>exact⟨.bl true,H1,I1,rfl,q1⟩
theorem Ai (ha:PE X a ta):PE X (.UnaryOp .Not a pos) (CC ta):=by
 intro pins s σ H Q I h;refine UnaryOp_ (cN (ha pins s σ H _ I h) fun v s1 ⟨x,H1,I1,r1,q1⟩=>?_);obtain⟨c,rfl,q1⟩:=q1;cases r1;exact not_of (wpAny_truthy_bool ⟨.bl (!c),H1,I1,rfl,q1⟩)
def tIf (t:TT)(ta tb:TE):TE:=fun σ H Q=>t σ H fun c H1=>if c=true then ta σ H1 Q else tb σ H1 Q
theorem vn {c:Expr}(hc:PT X c tA)(ha:PE X a ta)(hb:PE X b tb):PE X (.IfExp c a b pos) (tIf tA ta tb):=by
 intro pins s σ H Q I h;refine wpAny_IfExp (cN (hc pins s σ H _ I h) fun d s1 ⟨H1,I1,q1⟩=>?_);cases d with
 |true=>exact ha pins s1 σ H1 Q I1 q1
 |false=>exact hb pins s1 σ H1 Q I1 q1
end
end L2
namespace L2
open PySem PySem.Spec PyProof.Rows
noncomputable def ig (K:PySem.W.Frag)(H:Hp)(a:Addr)(xs:List V):Prop :=
 Rd H a (.lst xs) \/
  ∃(o:Obj) (its:Array Value) (n:Nat),K.lookup a=some o/\o.cls = .type "list"/\o.dict=none/\o.data = .seq its n/\its.size<=sizeLine/\aK xs its.toList
noncomputable def il (K:PySem.W.Frag)(H:Hp)(a:Addr)(xs:List V):Prop :=
 Rd H a (.tup xs) \/
  ∃(o:Obj) (its:Array Value) (n:Nat),K.lookup a=some o/\o.cls = .type "tuple"/\o.data = .seq its n/\its.size<=sizeLine/\aK xs its.toList
noncomputable def absV:Value->Option V
 |.none=>some .non
 |.bool b=>some (.bl b)
 |.int i _=>some (.int i)
 |.str x _=>some (.str x)
 |.bytes b _=>some (.byt b)
 |.float b _=>some (.flt b)
 |.ref a=>some (.ref a)
 |.type n=>some (.ty n)
 |_=>none
theorem RelV.abs {x:V}{u:Value}(r:RelV x u):absV u=some x:=by
 cases x with
 |non=>cases r;rfl
 |bl _=>cases r;rfl
 |int _=>obtain⟨t,rfl⟩:=r;rfl
 |str _=>obtain⟨t,rfl⟩:=r;rfl
 |byt _=>obtain⟨t,rfl⟩:=r;rfl
 |flt _=>obtain⟨t,rfl⟩:=r;rfl
 |ref _=>cases r;rfl
 |ty _=>cases r;rfl
theorem RelV.inj {x y:V}{u:Value}(r:RelV x u)(q:RelV y u):x=y:=cf (r.abs.symm.trans q.abs)
theorem aK.inj:∀{xs ys:List V}{us:List Value},aK xs us->aK ys us->xs=ys
 |_,_,_,.nil,.nil=>rfl
 |_,_,_,.cons r t,.cons r' t'=>by rw[r.inj r',aK.inj t t']
section
variable {X:Cx}{pins:List (Addr×Obj)}{σ:St}{H:Hp}{s:Shared}{a:Addr}{xs ys:List V}
theorem Inv.list (I:Inv X pins σ H s)(h:ig X.K H a xs):∃ its:List Value,aK xs its/\PlainL s.heap a its.toArray/\xs.length<=sizeLine:=by
 rcases h with h | ⟨o,its,n,hk,hc,hd,hs,hz,r⟩
 ·obtain⟨z,its,n,r,e⟩:=h.ok I.hok;exact⟨its,r,⟨_,n,e,rfl,rfl,rfl⟩,z⟩
 ·refine⟨its.toList,r,⟨o,n,I.kIn a o hk,hc,hd,by simpa using hs⟩,?_⟩;have e:=r.length;simp only[Array.length_toList] at e;omega
theorem Inv.tuple (I:Inv X pins σ H s)(h:il X.K H a xs):∃ its:List Value,aK xs its/\IsTup s.heap a its.toArray/\xs.length<=sizeLine:=by
 rcases h with h | ⟨o,its,n,hk,hc,hs,hz,r⟩
 ·obtain⟨z,its,r,p⟩:=h.ok I.hok;exact⟨its,r,p,z⟩
 ·refine⟨its.toList,r,⟨o,I.kIn a o hk,hc,n,by simpa using hs⟩,?_⟩;have e:=r.length;simp only[Array.length_toList] at e;omega
theorem Inv.list_inj (I:Inv X pins σ H s)(h:ig X.K H a xs)(h':ig X.K H a ys):xs=ys:=by
 obtain⟨its,r,⟨o,n,e,_,_,d⟩,_⟩:=I.list h;obtain⟨its',r',⟨o',n',e',_,_,d'⟩,_⟩:=I.list h';rw[e] at e';cases e';rw[d] at d';injection d' with d1 _
 have:its=its':=by simpa using congrArg Array.toList d1
 subst this;exact r.inj r'
theorem Inv.tuple_inj (I:Inv X pins σ H s)(h:il X.K H a xs)(h':il X.K H a ys):xs=ys:=by
 obtain⟨its,r,⟨o,e,_,n,d⟩,_⟩:=I.tuple h;obtain⟨its',r',⟨o',e',_,n',d'⟩,_⟩:=I.tuple h';rw[e] at e';cases e';rw[d] at d';injection d' with d1 _
 have:its=its':=by simpa using congrArg Array.toList d1
 subst this;exact r.inj r'
end
noncomputable abbrev Cx.wish (X:Cx)(E:Value->Shared->Prop):Cx:={ X with xe:=E }
noncomputable abbrev Cx.nox (X:Cx):Cx:=X.wish fun _ _=>False
theorem Cx.Ok.wish {X:Cx}(ok:X.Ok)(E:Value->Shared->Prop):(X.wish E).Ok :=
 ⟨ok.mod,ok.kind,ok.glob,ok.blt,ok.above,ok.inj,ok.has,ok.cab,ok.hd,ok.frames,ok.stk,ok.exf,ok.bs,ok.bsz,ok.noex,ok.exfs,ok.funs,ok.frf⟩
theorem Cx.Ok.unwish {X:Cx}{E:Value->Shared->Prop}(ok:(X.wish E).Ok):X.Ok :=
 ⟨ok.mod,ok.kind,ok.glob,ok.blt,ok.above,ok.inj,ok.has,ok.cab,ok.hd,ok.frames,ok.stk,ok.exf,ok.bs,ok.bsz,ok.noex,ok.exfs,ok.funs,ok.frf⟩
section
variable {X:Cx}{pins:List (Addr×Obj)}{σ:St}{H:Hp}{s:Shared}{E:Value->Shared->Prop}
theorem Inv.wish (I:Inv X pins σ H s)(E:Value->Shared->Prop):Inv (X.wish E) pins σ H s:=⟨I.ok.wish E,I.os,I.bare,I.base,I.loc,I.cell,I.free,I.freeC,I.pin,I.hok,I.len⟩
theorem Inv.unwish (I:Inv (X.wish E) pins σ H s):Inv X pins σ H s:=⟨I.ok.unwish,I.os,I.bare,I.base,I.loc,I.cell,I.free,I.freeC,I.pin,I.hok,I.len⟩
theorem SP.unwish {D:Ends}{f:Flow}{s':Shared}(h:SP (X.wish E) pins D f s'):SP X pins D f s':=by
 cases f with
 |next=>obtain⟨σ',H',I,q⟩:=h;exact⟨σ',H',I.unwish,q⟩
 |brk=>obtain⟨σ',H',I,q⟩:=h;exact⟨σ',H',I.unwish,q⟩
 |cont=>obtain⟨σ',H',I,q⟩:=h;exact⟨σ',H',I.unwish,q⟩
 |ret u=>obtain⟨v,σ',H',I,r,q⟩:=h;exact⟨v,σ',H',I.unwish,r,q⟩
theorem PT.nox {e:Expr}{t:TT}(h:PT X.nox e t):PT X e t:=fun pins s σ H Q I hw =>
 wpAny_mono (h pins s σ H Q (I.wish _) hw) (fun _ _ ⟨H',I',q⟩=>⟨H',I'.unwish,q⟩) fun _ _ z=>False.elim z
theorem ip.nox {st:List Stmt}{t:TS}(h:ip X.nox st t):ip X st t:=fun pins s σ H D I hw =>
 wpAny_mono (h pins s σ H D (I.wish _) hw) (fun _ _ q=>q.unwish) fun _ _ z=>False.elim z
end
section
variable {X:Cx}{st:Stmt}{rest:List Stmt}{t u:TS}{e:Expr}{te:TE}{pos:Pos}
def sY:TS:=fun D σ H=>D.nx σ H
def BM (t u:TS):TS:=fun D σ H=>t { D with nx:=u D } σ H
theorem mn:ip X [] sY:=fun _ _ σ H _ I h=>wpAny_execs_nil ⟨σ,H,I,h⟩
theorem eM (h1:PS X st t)(h2:ip X rest u):ip X (st::rest) (BM t u):=by
 intro pins s σ H D I h;refine wpAny_execs_cons (cN (h1 pins s σ H { D with nx:=u D } I h) fun f s1 q=>?_);cases f with
 |next =>
  obtain⟨σ',H',I',q⟩:=q;exact h2 pins s1 σ' H' D I' q
 |ret v=>exact q
 |brk=>exact q
 |cont=>exact q
theorem iO (h1:PS X st t):ip X [st] t:=by
 intro pins s σ H D I h;refine wpAny_execs_cons (cN (h1 pins s σ H D I h) fun f s1 q=>?_);cases f with
 |next=>exact wpAny_execs_nil q
 |ret v=>exact q
 |brk=>exact q
 |cont=>exact q
theorem wy:PS X (.Pass pos) sY:=fun _ _ σ H _ I h=>wpAny_Pass ⟨σ,H,I,h⟩
theorem Inv.quiet {pins:List (Addr×Obj)}{σ:St}{H:Hp}{s:Shared}(I:Inv X pins σ H s):interactive X.env=false:=by simp[interactive,I.ok.kind]
theorem Aa {x j pos pos'}:PS X (.Expr (.Constant (.str x) j pos) pos') sY:=fun _ s σ H _ I h=>wpAny_Expr (Calls.Constant_str (show SP X _ _ .next { s with toks:=s.toks+1 } from ⟨σ,H,I.tok _,h⟩)) I.quiet
def uy (te:TE):TS:=fun D σ H=>te σ H fun _ H1=>D.nx σ H1
theorem jC (he:PE X e te)(hs:swapsWith e none pos.line X.env=pure false:=by rfl):PS X (.Expr e pos) (uy te):=by
 intro pins s σ H D I h;exact wpAny_Expr_any (cN (he pins s σ H _ I h) fun v s1 ⟨x,H1,I1,r1,q1⟩=>⟨σ,H1,I1,q1⟩) I.quiet hs
def tRet (te:TE):TS:=fun D σ H=>te σ H D.rt
theorem oU (he:PE X e te):PS X (.Return (some e) pos) (tRet te):=by
 intro pins s σ H D I h;exact wpAny_Return_some (cN (he pins s σ H _ I h) fun v s1 ⟨x,H1,I1,r1,q1⟩=>⟨x,σ,H1,I1,r1,q1⟩)
def Br:TS:=fun D _ H=>D.rt .non H
theorem xf:PS X (.Return none pos) Br:=fun _ _ σ H _ I h=>wpAny_Return_none ⟨.non,σ,H,I,rfl,h⟩
def tIfS (c:TT)(t u:TS):TS:=fun D σ H=>c σ H fun b H1=>if b=true then t D σ H1 else u D σ H1
theorem yL {c:Expr}{a b:List Stmt}{tc:TT}(hc:PT X c tc)(ha:ip X a t)(hb:ip X b u):PS X (.If c a b pos) (tIfS tc t u):=by
 intro pins s σ H D I h;refine wpAny_If (cN (hc pins s σ H _ I h) fun d s1 ⟨H1,I1,q1⟩=>?_);cases d with
 |true=>exact ha pins s1 σ H1 D I1 q1
 |false=>exact hb pins s1 σ H1 D I1 q1
end
noncomputable abbrev TG:=V->St->Hp->(St->Hp->Prop)->Prop
noncomputable abbrev yk:=List V->St->Hp->(St->Hp->Prop)->Prop
noncomputable def PG (X:Cx)(target:Expr)(t:TG):Prop :=
 ∀(pins:List (Addr×Obj)) (s:Shared) (σ:St) (H:Hp) (v:V) (u:Value) (Q:St->Hp->Prop),Inv X pins σ H s->RelV v u->t v σ H Q ->
  wpAny (model X.prog X.w) X.A (assign target X.env u) (fun _ s'=>∃ σ' H',Inv X pins σ' H' s'/\Q σ' H') X.xe s
noncomputable def Bv (X:Cx)(ts:List Expr)(t:yk):Prop :=
 ∀(pins:List (Addr×Obj)) (s:Shared) (σ:St) (H:Hp) (vs:List V) (us:List Value) (Q:St->Hp->Prop),Inv X pins σ H s->aK vs us->t vs σ H Q ->
  wpAny (model X.prog X.w) X.A (assignInOrder ((assignEach ts X.env).map (·.2)) us) (fun _ s'=>∃ σ' H',Inv X pins σ' H' s'/\Q σ' H') X.xe s
section
variable {X:Cx}{pos:Pos}
noncomputable def iB (i:Nat):TG:=fun v σ H Q=>Q (σ.set i (some v)) H
theorem qf {i:Nat}{x:Str}(hN:X.N.Nodup)(hi:X.N[i]? = some x)(hx:Loc X.env.scope x)(hf:X.fn x=true\/X.env.scope.names.lookup x=some .local:=by first | exact .inl rfl | exact .inr rfl | assumption):PG X (.Name x pos) (iB i):=by
 intro pins s σ H v u Q I r h;exact wpAny_assign_Name (gw I hN hi hx r (fun s' I'=>⟨_,H,I',h⟩) hf)
noncomputable def Dd:yk:=fun vs σ H Q=>vs=[]/\Q σ H
noncomputable def yo (t:TG)(u:yk):yk:=fun vs σ H Q=>∃ v r,vs=v::r/\t v σ H fun σ' H'=>u r σ' H' Q
theorem xU:Bv X [] Dd:=by
 intro pins s σ H vs us Q I r h;obtain⟨e,h⟩:=h;subst e;cases r;exact assignInOrder_nil ⟨σ,H,I,h⟩
theorem uQ {e:Expr}{es:List Expr}{t:TG}{u:yk}(h1:PG X e t)(h2:Bv X es u)
  (hs:(assignEach (e::es) X.env).map (·.2)=assign e X.env::(assignEach es X.env).map (·.2):=by rfl):Bv X (e::es) (yo t u):=by
 intro pins s σ H vs us Q I r h;obtain⟨v,vr,e1,h⟩:=h;subst e1;cases r with
 |cons r rr =>
  rw[hs];refine assignInOrder_cons (cN (h1 pins s σ H _ _ _ I r h) fun _ s1 ⟨σ1,H1,I1,q1⟩=>?_);exact h2 pins s1 σ1 H1 _ _ Q I1 rr q1
noncomputable def tN (K:PySem.W.Frag)(n:Nat)(t:yk):TG:=fun v σ H Q=>∃ a xs,v = .ref a/\il K H a xs/\xs.length=n/\t xs σ H Q
theorem vq {es:List Expr}{k:Nat}{t:yk}{n:Nat}(hc:X.calm=true)(h:Bv X es t)
  (hn:(assignEach es X.env).length=n:=by rfl) (hst:(assignEach es X.env).findIdx? (·.1)=none:=by rfl):PG X (.Tuple es k pos) (tN X.K n t):=by
 intro pins s σ H v u Q I r hw;obtain⟨a,xs,e1,hq,hl,hw⟩:=hw;subst e1;cases r;obtain⟨its,rv,ht,hz⟩:=I.tuple hq;refine assign_Tuple_tuple (I.ok.hd hc) ht (by simp[hn,<-hl,rv.length]) hst fun h' hx=>?_
 have I1:Inv X pins σ H { s with heap:=h' }:=I.kept (t':=s.toks) fun b o e=>hx b o (ba (Heap.lt_size e)) e
 exact h pins _ σ H xs _ Q I1 (by simpa using rv) hw
def rH (te:TE)(g:TG):TS:=fun D σ H=>te σ H fun x H1=>g x σ H1 D.nx
theorem zC {tg e:Expr}{te:TE}{g:TG}(he:PE X e te)(hg:PG X tg g)(hs:swapsWithSole [tg] e pos.line X.env=pure false:=by rfl)(hw:swappedStores [tg] e X.env=pure none:=by rfl)
  (h1:(assignEach [tg] X.env).map (·.2)=[assign tg X.env]:=by rfl):PS X (.Assign [tg] e pos) (rH te g):=by
 intro pins s σ H D I h;refine wpAny_Assign_stores (cN (he pins s σ H _ I h) fun v s1 ⟨x,H1,I1,r1,q1⟩=>?_) hs hw;rw[h1];exact cN (hg pins s1 σ H1 x v _ I1 r1 q1) fun _ s2 q=>q
theorem jb {i:Nat}{x:Str}{e:Expr}{te:TE}{pos':Pos}(hN:X.N.Nodup)(hi:X.N[i]? = some x)(hx:Loc X.env.scope x)(he:PE X e te)(hs:swapsWith e (some (.Name x pos')) pos.line X.env=pure false:=by rfl)(hf:X.fn x=true\/X.env.scope.names.lookup x=some .local:=by first | exact .inl rfl | exact .inr rfl | assumption) :
  PS X (.Assign [.Name x pos'] e pos) (rH te (iB i)):=by
 intro pins s σ H D I h;refine wpAny_Assign_Name (cN (he pins s σ H _ I h) fun v s1 ⟨y,H1,I1,r1,q1⟩=>?_) hs;exact gw I1 hN hi hx r1 (fun s2 I2=>⟨_,H1,I2,q1⟩) hf
end
section
variable {X:Cx}{pos:Pos}
end
structure It where
 go:Nat->Hp->Prop
 yld:Nat->Hp->V->Hp->Prop
 stop:Nat->Hp->Prop
noncomputable def gJ (X:Cx)(pins:List (Addr×Obj))(H:Hp)(b:Addr):Prop :=
 H b=none/\b≠X.env.locals/\b∉X.fs/\(b∈X.ex\/X.s₀.heap.objs.size<=b)/\(∀ x c,X.env.cells.lookup x=some c->c≠b)/\∀ p∈X.pn++pins,p.1≠b
theorem Inv.fpOk {X:Cx}{pins:List (Addr×Obj)}{σ:St}{H H':Hp}{s:Shared}{b:Addr}(I:Inv X pins σ H s)(hb:s.heap.objs.size<=b)(hn:H' b=none):gJ X pins H' b:=by
 refine⟨hn,gm (au I.lt hb),I.nofs hb,.inr (bc I.sz hb),fun x c e z=>?_,fun p hp z=>?_⟩
 ·obtain⟨v,q⟩:=I.cell x c e;exact absurd (au q.lt (by rw[z];exact hb)) (dh _)
 ·exact absurd (au (Heap.lt_size (I.pin p hp).1) (by rw[z];exact hb)) (dh _)
structure Turn (P:Program)(w:World)(K:PySem.W.Frag)(tg:Expr)(J:It)(fp:List Addr)(it:Addr)(tn:Nat->Heap->Prop):Prop where
 mem:it∈fp
 obj:∀ i h,tn i h->∀ b∈fp,∃ o,h.get? b=some o/\∀ v,o.data≠.cell v
 keep:∀ i h h',tn i h->(∀ b∈fp,∀ o,h.get? b=some o->h'.get? b=some o)->tn i h'
 item:∀(X:Cx),X.prog=P->X.w=w->X.K=K->X.calm=true->∀(i:Nat) (pins:List (Addr×Obj)) (s:Shared) (σ:St) (H:Hp) (E:Value->Shared->Prop),Inv X pins σ H s->(∀ b∈fp,gJ X pins H b)->tn i s.heap->J.go i H ->
  wpAny (model P w) X.A (pyNext (.ref it)) (fun r s1=>∃ u,r=some u /\
   wpAny (model P w) X.A (letOwnedTupleGo tg (.ref it) u) (fun _ s2=>∃ x H',Inv X pins σ H' s2/\RelV x u/\J.yld i H x H'/\tn (i+1) s2.heap/\∀ b∈fp,H' b=none) E s1) E s
 done:∀(X:Cx),X.prog=P->X.w=w->X.K=K->X.calm=true->∀(i:Nat) (pins:List (Addr×Obj)) (s:Shared) (σ:St) (H:Hp) (E:Value->Shared->Prop),Inv X pins σ H s->(∀ b∈fp,gJ X pins H b)->tn i s.heap->J.stop i H ->
  wpAny (model P w) X.A (pyNext (.ref it)) (fun r s1=>r=none/\Inv X pins σ H s1) E s
 self:∀(A:Around) (i:Nat) (s:Shared) (Q:Value->Shared->Prop) (E:Value->Shared->Prop),tn i s.heap->Q (.ref it) s->wpAny (model P w) A (pyIter (.ref it)) Q E s
noncomputable abbrev TI:=St->Hp->(It->Hp->Prop)->Prop
noncomputable def yM (X:Cx)(pins:List (Addr×Obj))(σ:St)(tg:Expr)(R:It->Hp->Prop)(itv:Value)(s2:Shared):Prop :=
 ∃(it:Addr) (fp:List Addr) (tn:Nat->Heap->Prop) (J:It) (H':Hp),itv = .ref it/\Inv X pins σ H' s2/\Turn X.prog X.w X.K tg J fp it tn/\tn 0 s2.heap/\(∀ b∈fp,gJ X pins H' b)/\R J H'
noncomputable def PI (X:Cx)(tg iter:Expr)(wi:TI):Prop :=
 ∀(pins:List (Addr×Obj)) (s:Shared) (σ:St) (H:Hp) (R:It->Hp->Prop),Inv X pins σ H s->wi σ H R ->
  wpAny (model X.prog X.w) X.A (eval iter X.env) (fun v s1=>wpAny (model X.prog X.w) X.A (pyIter v) (yM X pins σ tg R) X.xe s1) X.xe s
theorem pZ {M:Model}{A:Around}{E:Value->Shared->Prop}{s:Shared}{tg:Expr}{it:Addr}{u:Value}{o:Obj}{n:String}{vs:Array Value}{Q:Unit->Shared->Prop}(ho:s.heap.get? it=some o)(hc:o.cls = .type n)(hd:o.data = .fields vs)
  (hn:["enumerate","zip","dict_itemiterator","dict_reverseitemiterator","odict_iterator","itertools.zip_longest","itertools.pairwise"].contains n=false) (hQ:Q () s):wpAny M A (letOwnedTupleGo tg (.ref it) u) Q E s:=by
 unfold letOwnedTupleGo;cases tg<;>first
  | exact wpAny_pure hQ
  | (cases u<;>first
    | exact wpAny_pure hQ
    | (refine wpAny_bind (wpAny_load ho ?_)
       rw[hc,hd];show wpAny M A (if (["enumerate","zip","dict_itemiterator","dict_reverseitemiterator","odict_iterator","itertools.zip_longest","itertools.pairwise"].contains n&&vs[0]?==some (rawInt _))=true then _ else _) Q E s;rw[if_neg (by intro h;rw[hn,Bool.false_and] at h;cases h)];exact wpAny_pure hQ))
noncomputable def Itl (K:PySem.W.Frag)(a:Addr):It :=
 ⟨fun i H=>∃ xs x,ig K H a xs/\xs[i]? = some x,fun i H x H'=>H'=H/\∀ xs,ig K H a xs->xs[i]? = some x,fun i H=>∃ xs,ig K H a xs/\xs.length<=i⟩
noncomputable def Itt (K:PySem.W.Frag)(a:Addr):It :=
 ⟨fun i H=>∃ xs x,il K H a xs/\xs[i]? = some x,fun i H x H'=>H'=H/\∀ xs,il K H a xs->xs[i]? = some x,fun i H=>∃ xs,il K H a xs/\xs.length<=i⟩
theorem rZ {P:Program}{w:World}{K:PySem.W.Frag}{tg:Expr}(a it:Addr):Turn P w K tg (Itl K a) [it] it (fun i h=>h.IsListIter it a i) where
 mem:=by simp
 obj:=fun i h st b hb=>by
  have e:b=it:=by simpa using hb
  subst e;obtain⟨o,e,c,d⟩:=st;exact⟨o,e,fun v z=>by rw[d] at z;cases z⟩
 keep:=fun i h h' st k=>st.at fun o e=>k it (by simp) o e
 item:=by
  intro X hP hw hK hc i pins s σ H E I hf st hg;subst hP hw hK;obtain⟨xs,x,hq,hx⟩:=hg;obtain⟨its,rv,p,hz⟩:=I.list hq;obtain⟨u,hu,ru⟩:=rv.get hx;obtain⟨f0,f1,f2,f3,f4,f5⟩:=hf it (by simp);refine wpAny_pyNext_list_item st p.isList (x:=u) (by simpa using hu) fun h' st' sb=>?_
  have I1:Inv X pins σ H { s with heap:=h' }:=I.turned (t':=s.toks) (fun b o hb e=>(sb.2 b hb).trans e) f0 f1 f3 f4 f5;obtain⟨o,e,c,d⟩:=id st';exact⟨u,rfl,pZ (s:={ s with heap:=h' }) e c d (by decide) ⟨x,H,I1,ru,⟨rfl,fun ys hy=>by rw[I.list_inj hy hq];exact hx⟩,st',fun b hb=>(hf b hb).1⟩⟩
 done:=by
  intro X hP hw hK hc i pins s σ H E I hf st hg;subst hP hw hK;obtain⟨xs,hq,hx⟩:=hg;obtain⟨its,rv,p,hz⟩:=I.list hq;obtain⟨f0,f1,f2,f3,f4,f5⟩:=hf it (by simp);have hl:=rv.length;exact wpAny_pyNext_list_end (I.ok.hd hc) st p.isList (by simp;omega) fun h' eb=>⟨rfl,I.turned (t':=s.toks) (fun b o hb e=>eb b o hb e) f0 f1 f3 f4 f5⟩
 self:=fun _ _ _ _ _ st h=>wpAny_pyIter_listiter st h
theorem pj {P:Program}{w:World}{K:PySem.W.Frag}{tg:Expr}(a it:Addr):Turn P w K tg (Itt K a) [it] it (fun i h=>h.IsTupleIter it a i) where
 mem:=by simp
 obj:=fun i h st b hb=>by
  have e:b=it:=by simpa using hb
  subst e;obtain⟨o,e,c,d⟩:=st;exact⟨o,e,fun v z=>by rw[d] at z;cases z⟩
 keep:=fun i h h' st k=>st.at fun o e=>k it (by simp) o e
 item:=by
  intro X hP hw hK hc i pins s σ H E I hf st hg;subst hP hw hK;obtain⟨xs,x,hq,hx⟩:=hg;obtain⟨its,rv,p,hz⟩:=I.tuple hq;obtain⟨u,hu,ru⟩:=rv.get hx;obtain⟨f0,f1,f2,f3,f4,f5⟩:=hf it (by simp);refine wpAny_pyNext_tuple_item st (show s.heap.IsTuple a its.toArray from p) (x:=u) (by simpa using hu) fun h' st' sb=>?_
  have I1:Inv X pins σ H { s with heap:=h' }:=I.turned (t':=s.toks) (fun b o hb e=>(sb.2 b hb).trans e) f0 f1 f3 f4 f5;obtain⟨o,e,c,d⟩:=id st';exact⟨u,rfl,pZ (s:={ s with heap:=h' }) e c d (by decide) ⟨x,H,I1,ru,⟨rfl,fun ys hy=>by rw[I.tuple_inj hy hq];exact hx⟩,st',fun b hb=>(hf b hb).1⟩⟩
 done:=by
  intro X hP hw hK hc i pins s σ H E I hf st hg;subst hP hw hK;obtain⟨xs,hq,hx⟩:=hg;obtain⟨its,rv,p,hz⟩:=I.tuple hq;obtain⟨f0,f1,f2,f3,f4,f5⟩:=hf it (by simp);have hl:=rv.length;exact wpAny_pyNext_tuple_end (I.ok.hd hc) st (show s.heap.IsTuple a its.toArray from p) (by simp;omega) fun h' eb=>⟨rfl,I.turned (t':=s.toks) (fun b o hb e=>eb b o hb e) f0 f1 f3 f4 f5⟩
 self:=fun _ _ _ _ _ st h=>wpAny_pyIter_tupleiter st h
end L2
namespace L2
open PySem PySem.Spec PyProof.Rows
section
variable {X:Cx}{tg:Expr}
def tFor (wi:TI)(g:TG)(tb:TS):TS:=fun D σ H=>wi σ H fun J H1=>∃ W:Nat->Nat->St->Hp->Prop,(∃ m,W 0 m σ H1)/\∀ i m σ H,W i m σ H ->
 (J.stop i H/\D.nx σ H)\/(J.go i H/\∃ N:St->Hp->Prop,(∀ σ' H',N σ' H'->∃ m',m'<m/\W (i+1) m' σ' H')/\∀ x H',J.yld i H x H'->g x σ H' fun σ2 H2=>tb { D with nx:=N,ct:=N,bk:=D.nx } σ2 H2)
noncomputable def jV (fp:List Addr)(h:Heap):List (Addr×Obj):=fp.filterMap fun b=>(h.get? b).map fun o=>(b,o)
theorem eJ {fp:List Addr}{h:Heap}{b:Addr}{o:Obj}(hb:b∈fp)(e:h.get? b=some o):(b,o)∈jV fp h:=List.mem_filterMap.mpr ⟨b,hb,by rw[e];rfl⟩
theorem rB {fp:List Addr}{h:Heap}{p:Addr×Obj}(hp:p∈jV fp h):p.1∈fp/\h.get? p.1=some p.2:=by
 obtain⟨b,hb,e⟩:=List.mem_filterMap.mp hp;cases q:h.get? b with
 |none=>rw[q] at e;cases e
 |some o =>
  rw[q] at e;have e':(b,o)=p:=cf e;subst e';exact⟨hb,q⟩
theorem Inv.pinned {pins:List (Addr×Obj)}{σ:St}{H:Hp}{s:Shared}{fp:List Addr}(I:Inv X pins σ H s)(hf:∀ b∈fp,gJ X pins H b)(ho:∀ b∈fp,∃ o,s.heap.get? b=some o/\∀ v,o.data≠.cell v):Inv X (pins++jV fp s.heap) σ H s :=
 I.pins_of fun p hp=>(List.mem_append.mp hp).elim (fun z=>I.pin p (ak _ z)) fun z=>by
  obtain⟨hb,e⟩:=rB z;obtain⟨f0,f1,f2,_⟩:=hf p.1 hb;obtain⟨o,e',d⟩:=ho p.1 hb;rw[e] at e';cases e';exact⟨e,f0,f1,f2,d⟩
theorem Inv.unpinned {pins pl:List (Addr×Obj)}{σ:St}{H:Hp}{s:Shared}(I:Inv X (pins++pl) σ H s):Inv X pins σ H s:=I.pins_of fun p hp=>I.pin p (ak _ (ay _ hp))
theorem tX {iter:Expr}{body:List Stmt}{wi:TI}{g:TG}{tb:TS}{pos:Pos}(hp:PassesOwn (model X.prog X.w) X.A X.env X.xe)(hc:X.calm=true)(hi:PI X tg iter wi)(hg:PG X tg g)(hb:ip X body tb)
  (hs:∀ x,foldedSetIterable iter X.env x=pure x:=by intro _;rfl):PS X (.For tg iter body [] pos) (tFor wi g tb):=by
 intro pins s σ H D I h;refine wpAny_For (cN (hi pins s σ H _ I h) fun v s1 h1=>cN h1 fun itv s2 h2=>?_) hs;obtain⟨it,fp,tn,J,H2,e,I2,T,st2,f2,W,⟨m0,w0⟩,turn⟩:=h2;subst e;have stat:∀{H':Hp},(∀ b∈fp,H' b=none)->∀ b∈fp,gJ X pins H' b:=fun hn b hb=>⟨hn b hb,(f2 b hb).2⟩
 refine codeAny_forLoop_any (fun n s'=>∃ i σ' H',Inv X pins σ' H' s'/\tn i s'.heap/\(∀ b∈fp,H' b=none)/\W i n σ' H') ?_ m0 ⟨0,σ,H2,I2,st2,fun b hb=>(f2 b hb).1,w0⟩;rintro n s3 ⟨i,σ3,H3,I3,st3,fr3,w3⟩;rcases turn i n σ3 H3 w3 with ⟨stop,qn⟩ | ⟨go,N,hN,step⟩
 ·refine wpAny_passesOwn hp (cN (T.done X rfl rfl rfl hc i pins s3 σ3 H3 X.xe I3 (stat fr3) st3 stop) fun r s4 ⟨hr,I4⟩=>?_);subst hr;exact wpAny_execs_nil ⟨σ3,H3,I4,qn⟩
 ·refine wpAny_passesOwn hp (cN (T.item X rfl rfl rfl hc i pins s3 σ3 H3 X.xe I3 (stat fr3) st3 go) fun r s4 ⟨u,hr,h4⟩=>?_);subst hr;refine wpAny_passesOwn hp (cN h4 fun _ s5 ⟨x,H5,I5,r5,y5,st5,fr5⟩=>?_);have I5':=I5.pinned (stat fr5) (T.obj _ _ st5);refine wpAny_passesOwn hp (cN (hg _ s5 σ3 H5 x u _ I5' r5 (step x H5 y5)) fun _ s6 ⟨σ6,H6,I6,q6⟩=>?_);refine wpAny_passesOwn hp (cN (hb _ s6 σ6 H6 _ I6 q6) fun f s7 q7=>?_);have again:∀{σ7:St}{H7:Hp},Inv X (pins++jV fp s5.heap) σ7 H7 s7->N σ7 H7->∃ m,m<n/\∃ i σ' H',Inv X pins σ' H' s7/\tn i s7.heap/\(∀ b∈fp,H' b=none)/\W i m σ' H':=fun {σ7 H7} I7 n7=>by
   obtain⟨m',hm,w7⟩:=hN σ7 H7 n7;refine⟨m',hm,i+1,σ7,H7,I7.unpinned,T.keep _ _ _ st5 fun b hb o e=>(I7.pin (b,o) (ak _ (ak _ (eJ hb e)))).1,fun b hb=>?_,w7⟩;obtain⟨o,e,d⟩:=T.obj _ _ st5 b hb;exact (I7.pin (b,o) (ak _ (ak _ (eJ hb e)))).2.1
  cases f with
  |next=>obtain⟨σ7,H7,I7,n7⟩:=q7;exact again I7 n7
  |cont=>obtain⟨σ7,H7,I7,n7⟩:=q7;exact again I7 n7
  |brk=>obtain⟨σ7,H7,I7,q7⟩:=q7;exact⟨σ7,H7,I7.unpinned,q7⟩
  |ret v=>obtain⟨x7,σ7,H7,I7,r7,q7⟩:=q7;exact⟨x7,σ7,H7,I7.unpinned,r7,q7⟩
end
end L2
namespace L2
open PySem PySem.Spec PyProof.Rows
noncomputable abbrev R2:=V->V->Hp->VK->Prop
noncomputable def gv (X:Cx)(f:Value->Value->Sem Value)(r:R2):Prop :=
 ∀(pins:List (Addr×Obj)) (s:Shared) (σ:St) (H:Hp) (x y:V) (v u:Value) (Q:VK),Inv X pins σ H s->RelV x v->RelV y u->r x y H Q ->
  wpAny (model X.prog X.w) X.A (f v u) (EP X pins σ Q) X.xe s
noncomputable def UnR (X:Cx)(f:Value->Sem Value)(r:V->Hp->VK->Prop):Prop :=
 ∀(pins:List (Addr×Obj)) (s:Shared) (σ:St) (H:Hp) (x:V) (v:Value) (Q:VK),Inv X pins σ H s->RelV x v->r x H Q ->
  wpAny (model X.prog X.w) X.A (f v) (EP X pins σ Q) X.xe s
noncomputable def fL (X:Cx)(f:Value)(r:List V->Hp->VK->Prop):Prop :=
 ∀(pins:List (Addr×Obj)) (s:Shared) (σ:St) (H:Hp) (xs:List V) (us:List Value) (Q:VK),Inv X pins σ H s->aK xs us->r xs H Q ->
  wpAny (model X.prog X.w) X.A (call f us) (EP X pins σ Q) X.xe s
noncomputable def TruR (X:Cx)(r:V->Hp->(Bool->Hp->Prop)->Prop):Prop :=
 ∀(pins:List (Addr×Obj)) (s:Shared) (σ:St) (H:Hp) (x:V) (v:Value) (Q:Bool->Hp->Prop),Inv X pins σ H s->RelV x v->r x H Q ->
  wpAny (model X.prog X.w) X.A (truthy v) (TP X pins σ Q) X.xe s
def Bg (r:R2)(ta tb:TE):TE:=fun σ H Q=>ta σ H fun x H1=>tb σ H1 fun y H2=>r x y H2 Q
def tUn (r:V->Hp->VK->Prop)(ta:TE):TE:=fun σ H Q=>ta σ H fun x H1=>r x H1 Q
noncomputable def rI (C:Int->Int->Prop)(g:Int->Int->V):R2:=fun x y H Q=>∃ i j,x = .int i/\y = .int j/\C i j/\Q (g i j) H
noncomputable def sf (g:Int->Int->V):R2:=fun x y H Q=>∃ i j,x = .int i/\y = .int j/\Q (g i j) H
def rU (g:Int->V):V->Hp->VK->Prop:=fun x H Q=>∃ i,x = .int i/\Q (g i) H
section
variable {X:Cx}{a b c:Expr}{ta tb tc:TE}{pos:Pos}
theorem A7 (ha:PE X a ta)(hb:PE X b tb){pins:List (Addr×Obj)}{s:Shared}{σ:St}{H:Hp}{R:V->V->Hp->Prop}(I:Inv X pins σ H s)
  (h:ta σ H fun x H1=>tb σ H1 fun y H2=>R x y H2) {Q:Value->Shared->Prop}{f:Value->Value->Sem Value}
  (hf:∀ v u s2 x y H2,Inv X pins σ H2 s2->RelV x v->RelV y u->R x y H2->wpAny (model X.prog X.w) X.A (f v u) Q X.xe s2) :
  wpAny (model X.prog X.w) X.A (eval a X.env) (fun v s₁=>wpAny (model X.prog X.w) X.A (eval b X.env) (fun u s₂=>wpAny (model X.prog X.w) X.A (f v u) Q X.xe s₂) X.xe s₁) X.xe s:=by
 refine cN (ha pins s σ H _ I h) fun v s1 ⟨x,H1,I1,r1,q1⟩=>?_
 refine cN (hb pins s1 σ H1 _ I1 q1) fun u s2 ⟨y,H2,I2,r2,q2⟩=>?_
 exact hf v u s2 x y H2 I2 r1 r2 q2
theorem yu {op:Operator}{r:R2}(ho:gv X (binaryOp op) r)(ha:PE X a ta)(hb:PE X b tb):PE X (.BinOp a op b pos) (Bg r ta tb):=by
 intro pins s σ H Q I h;exact wpAny_BinOp (A7 ha hb I h fun v u s2 x y H2 I2 rx ry q=>ho pins s2 σ H2 x y v u Q I2 rx ry q)
theorem CO {op:UnaryOp}{r:V->Hp->VK->Prop}(ho:UnR X (unaryOp op) r)(ha:PE X a ta):PE X (.UnaryOp op a pos) (tUn r ta):=by
 intro pins s σ H Q I h;exact UnaryOp_ (cN (ha pins s σ H _ I h) fun v s1 ⟨x,H1,I1,r1,q1⟩=>ho pins s1 σ H1 x v Q I1 r1 q1)
theorem Bm {f:Value->Value->Sem Value}{C:Int->Int->Prop}{g:Int->Int->Int}
  (rule:∀(i j:Int) (t u:Tok) (s:Shared) (Q:Value->Shared->Prop) (E:Value->Shared->Prop),C i j->Q (.int (g i j) s.toks) { s with toks:=s.toks+1 }->wpAny (model X.prog X.w) X.A (f (.int i t) (.int j u)) Q E s) :
  gv X f (rI C fun i j=>.int (g i j)):=by
 intro pins s σ H x y v u Q I rx ry h;obtain⟨i,j,rfl,rfl,hc,q⟩:=h;obtain⟨t,rfl⟩:=rx;obtain⟨t',rfl⟩:=ry;exact rule i j t t' s _ _ hc ⟨.int (g i j),H,I.tok _,⟨_,rfl⟩,q⟩
theorem uS {f:Value->Value->Sem Value}{g:Int->Int->Int}
  (rule:∀(i j:Int) (t u:Tok) (s:Shared) (Q:Value->Shared->Prop) (E:Value->Shared->Prop),Q (.int (g i j) s.toks) { s with toks:=s.toks+1 }->wpAny (model X.prog X.w) X.A (f (.int i t) (.int j u)) Q E s) :
  gv X f (sf fun i j=>.int (g i j)):=by
 intro pins s σ H x y v u Q I rx ry h;obtain⟨i,j,rfl,rfl,q⟩:=h;obtain⟨t,rfl⟩:=rx;obtain⟨t',rfl⟩:=ry;exact rule i j t t' s _ _ ⟨.int (g i j),H,I.tok _,⟨_,rfl⟩,q⟩
theorem wJ {f:Value->Value->Sem Value}{g:Int->Int->Bool}
  (rule:∀(i j:Int) (t u:Tok) (s:Shared) (Q:Value->Shared->Prop) (E:Value->Shared->Prop),Q (.bool (g i j)) s->wpAny (model X.prog X.w) X.A (f (.int i t) (.int j u)) Q E s) :
  gv X f (sf fun i j=>.bl (g i j)):=by
 intro pins s σ H x y v u Q I rx ry h;obtain⟨i,j,rfl,rfl,q⟩:=h;obtain⟨t,rfl⟩:=rx;obtain⟨t',rfl⟩:=ry;exact rule i j t t' s _ _ ⟨.bl (g i j),H,I,rfl,q⟩
def CDiv (i j:Int):Prop:=0<j/\j<1073741824
def Bz (i j:Int):Prop:=0<=j/\j<=1000000/\i.natAbs<2 ^ 64
def Ar (i j:Int):Prop:=(-(2 ^ 64)<i/\i<2 ^ 64)\/(-(2 ^ 64)<j/\j<2 ^ 64)
theorem Ar.ok {i j:Int}(h:Ar i j):IntMulOk i j:=by
 rcases h with ⟨h1,h2⟩ | ⟨h1,h2⟩
 ·exact .of_left (intBits_le_64 h1 h2)
 ·exact .of_right (intBits_le_64 h1 h2)
theorem oN (k:Nat):(0:Int)<=2 ^ k:=by
 rw[two_pow_cast];exact Int.natCast_nonneg _
theorem zu:gv X (binaryOp .Add) (sf fun i j=>.int (i+j)):=uS fun _ _ _ _ _ _ _ q=>add_int q
theorem zH:gv X (binaryOp .Sub) (sf fun i j=>.int (i - j)):=uS fun _ _ _ _ _ _ _ q=>sub_int q
theorem A5:gv X (binaryOp .Mult) (rI Ar fun i j=>.int (i*j)):=Bm fun _ _ _ _ _ _ _ hc q=>mul_int q hc.ok
theorem wB:gv X (binaryOp .FloorDiv) (rI CDiv fun i j=>.int (i / j)):=Bm fun i j _ _ _ _ _ hc q=>by
 have h1:(0:Int)<j:=hc.1;have h2:j<1073741824:=hc.2;exact floordiv_int (by omega) (by rw[Int.fdiv_eq_ediv_of_nonneg i (by omega)];exact q) (.inl (PyProof.noPylong_small (by omega)))
theorem zS:gv X (binaryOp .Mod) (rI (fun _ j=>0<j) fun i j=>.int (i%j)):=Bm fun i j _ _ _ _ _ hc q=>by
 have h1:(0:Int)<j:=hc;exact mod_int' (by omega) (by rw[Int.fmod_eq_emod_of_nonneg i (by omega)];exact q)
theorem zh:gv X (binaryOp .Pow) (rI Bz fun i j=>.int (i ^ j.toNat)):=Bm fun _ _ _ _ _ _ _ hc q=>pow_int_small hc.1 hc.2.1 hc.2.2 q
theorem AR:gv X (binaryOp .LShift) (rI Bz fun i j=>.int (i*2 ^ j.toNat)):=Bm fun _ _ _ _ _ _ _ hc q=>lshift_int_small hc.1 hc.2.1 hc.2.2 q
theorem AH:gv X (binaryOp .RShift) (rI (fun _ j=>0<=j) fun i j=>.int (i / 2 ^ j.toNat)):=Bm fun i j _ _ _ _ _ hc q =>
 rshift_int hc (by rw[Int.fdiv_eq_ediv_of_nonneg i (oN _)];exact q)
theorem AW:gv X (binaryOp .BitAnd) (sf fun i j=>.int (Builtin.bitAnd i j)):=uS fun _ _ _ _ _ _ _ q=>and_int q
theorem CN:gv X (binaryOp .BitOr) (sf fun i j=>.int (Builtin.bitOr i j)):=uS fun _ _ _ _ _ _ _ q=>or_int q
theorem zT:gv X (binaryOp .BitXor) (sf fun i j=>.int (Builtin.bitXor i j)):=uS fun _ _ _ _ _ _ _ q=>xor_int q
theorem unI {f:Value->Sem Value}{g:Int->Int}
  (rule:∀(i:Int) (t:Tok) (s:Shared) (Q:Value->Shared->Prop) (E:Value->Shared->Prop),Q (.int (g i) s.toks) { s with toks:=s.toks+1 }->wpAny (model X.prog X.w) X.A (f (.int i t)) Q E s) :
  UnR X f (rU fun i=>.int (g i)):=by
 intro pins s σ H x v Q I rx h;obtain⟨i,rfl,q⟩:=h;obtain⟨t,rfl⟩:=rx;exact rule i t s _ _ ⟨.int (g i),H,I.tok _,⟨_,rfl⟩,q⟩
theorem AY:UnR X (unaryOp .USub) (rU fun i=>.int (-i)):=unI fun _ _ _ _ _ q=>neg_int q
end
noncomputable def fC:V->V->Bool
 |.non,.non=>true | .non,.int _=>true | .int _,.non=>true | .non,.bl _=>true | .bl _,.non=>true | .non,.str _=>true | .str _,.non=>true
 |.int _,.int _=>true | .bl _,.bl _=>true | .str _,.str _=>true | .byt _,.byt _=>true
 |.int _,.str _=>true | .str _,.int _=>true | .bl _,.str _=>true | .str _,.bl _=>true
 |_,_=>false
section
variable {X:Cx}{a b c:Expr}{ta tb tc:TE}{pos:Pos}
theorem oV {pins:List (Addr×Obj)}{σ:St}{H:Hp}{s:Shared}{Q:VK}{k k':Bool}(I:Inv X pins σ H s)(q:Q (.bl k) H)(e:k=k'):EP X pins σ Q (.bool k') s:=by
 subst e;exact⟨.bl k,H,I,rfl,q⟩
theorem BP:gv X (compareOp .Lt) (sf fun i j=>.bl (decide (i<j))):=wJ fun _ _ _ _ _ _ _ q=>lt_int q
theorem BD:gv X (compareOp .LtE) (sf fun i j=>.bl (decide (i<=j))):=wJ fun _ _ _ _ _ _ _ q=>le_int q
theorem CV:gv X (compareOp .Gt) (sf fun i j=>.bl (decide (j<i))):=wJ fun _ _ _ _ _ _ _ q=>gt_int q
theorem B6:gv X (compareOp .GtE) (sf fun i j=>.bl (decide (j<=i))):=wJ fun _ _ _ _ _ _ _ q=>ge_int q
theorem rg:gv X (compareOp .In) (fun x y H Q=>∃ i j,x = .str i/\y = .str j/\Q (.bl (!(Builtin.Str.occurrences j i 0 j.length 1).isEmpty)) H):=by
 intro pins s σ H x y v u Q I rx ry h;obtain⟨i,j,rfl,rfl,q⟩:=h;obtain⟨t,rfl⟩:=rx;obtain⟨t',rfl⟩:=ry;exact in_str (oV I q rfl)
theorem zj:gv X (compareOp .Is) (fun x y H Q=>y = .non/\Q (.bl (decide (x = .non))) H):=by
 intro pins s σ H x y v u Q I rx ry h;obtain⟨rfl,q⟩:=h;cases ry;refine is_none_gen (oV I q ?_);cases x<;>first
  | (cases rx;rfl)
  | (obtain⟨t,rfl⟩:=rx;rfl)
theorem xu:gv X (compareOp .IsNot) (fun x y H Q=>y = .non/\Q (.bl (!decide (x = .non))) H):=by
 intro pins s σ H x y v u Q I rx ry h;obtain⟨rfl,q⟩:=h;cases ry;refine isnot_none_gen (oV I q ?_);cases x<;>first
  | (cases rx;rfl)
  | (obtain⟨t,rfl⟩:=rx;rfl)
theorem xb {op:CmpOp}{r:R2}(ho:gv X (compareOp op) r)(ha:PE X a ta)(hb:PE X b tb)(hm:behindInMarks op b=false):PE X (.Compare a [op] [b] pos) (Bg r ta tb):=by
 intro pins s σ H Q I h;exact wpAny_Compare1 (A7 ha hb I h fun v u s2 x y H2 I2 rx ry q=>ho pins s2 σ H2 x y v u Q I2 rx ry q) hm
def BB (t:TE):TT:=fun σ H Q=>t σ H fun x H'=>∃ k,x = .bl k/\Q k H'
theorem vX {op:CmpOp}{r:R2}(ho:gv X (compareOp op) r)(ha:PE X a ta)(hb:PE X b tb)(hm:behindInMarks op b=false):PT X (.Compare a [op] [b] pos) (BB (Bg r ta tb)):=by
 intro pins s σ H Q I h;refine wpAny_isTrue_Compare1 (cN (ha pins s σ H _ I h) fun v s1 ⟨x,H1,I1,r1,q1⟩=>cN (hb pins s1 σ H1 _ I1 q1) fun u s2 ⟨y,H2,I2,r2,q2⟩ =>
  cN (ho pins s2 σ H2 x y v u _ I2 r1 r2 q2) fun c s3 ⟨z,H3,I3,r3,k,e,q3⟩=>?_) hm
 subst e;cases r3;exact wpAny_truthy_bool ⟨H3,I3,q3⟩
noncomputable def zR (K:PySem.W.Frag)(x:V)(H:Hp)(k:Bool):Prop :=
 match x with
 |.non=>k=false
 |.bl b=>k=b
 |.int i=>k=(i != 0)
 |.str y=>y.length<=sizeLine/\k=((y.length:Int) != 0)
 |.byt y=>y.size<=sizeLine/\k=((y.size:Int) != 0)
 |.ref p=>(∃ xs,ig K H p xs/\k = !xs.isEmpty)\/(∃ xs,il K H p xs/\k = !xs.isEmpty)\/∃ kvs,H p=some (.dK kvs)/\k = !kvs.isEmpty
 |_=>False
theorem oK {κ:Type}{kvs:List (κ×V)}{vs:List (κ×Value)}(r:KV kvs vs):(!vs.isEmpty) = !kvs.isEmpty:=by
 cases r<;>rfl
theorem jJ {xs:List V}{its:List Value}(r:aK xs its):(!its.toArray.isEmpty) = !xs.isEmpty:=by
 cases r<;>simp
theorem iY:(sizeLine:Nat)<2 ^ 63:=by rw[sizeLine_eq];decide
theorem ze:TruR X (fun x H Q=>∃ k,zR X.K x H k/\Q k H):=by
 intro pins s σ H x v Q I rx h;obtain⟨k,e,q⟩:=h;have hl:=iY;have hs:sizeLine=16777216:=sizeLine_eq;cases x with
 |non =>
  cases rx;have e':k=false:=e;subst e';exact truthy_none ⟨H,I,q⟩
 |bl b =>
  cases rx;have e':k=b:=e;subst e';exact wpAny_truthy_bool ⟨H,I,q⟩
 |int i =>
  obtain⟨t,rfl⟩:=rx;have e':k=(i != 0):=e;subst e';exact PySem.P.truthy_int ⟨H,I,q⟩
 |str y =>
  obtain⟨t,rfl⟩:=rx;obtain⟨hy,e'⟩:y.length<=sizeLine/\k=((y.length:Int) != 0):=e;subst e';exact PySem.P.truthy_str (by omega) ⟨H,I.tok _,q⟩
 |byt y =>
  obtain⟨t,rfl⟩:=rx;obtain⟨hy,e'⟩:y.size<=sizeLine/\k=((y.size:Int) != 0):=e;subst e';exact PySem.W.truthy_bytes (by omega) ⟨H,I.tok _,q⟩
 |ref p =>
  cases rx;have e':(∃ xs,ig X.K H p xs/\k = !xs.isEmpty)\/(∃ xs,il X.K H p xs/\k = !xs.isEmpty)\/∃ kvs,H p=some (.dK kvs)/\k = !kvs.isEmpty:=e;rcases e' with ⟨xs,hx,e'⟩ | ⟨xs,hx,e'⟩ | ⟨kvs,hx,e'⟩
  ·subst e';obtain⟨its,r,pl,hz⟩:=I.list hx;have hlen:=r.length;exact wpAny_truthy_list pl.isList (by simp only[List.size_toArray];omega) ⟨H,I.tok _,by rw[jJ r];exact q⟩
  ·subst e';obtain⟨its,r,pl,hz⟩:=I.tuple hx;have hlen:=r.length;exact truthy_tuple pl (by simp only[List.size_toArray];omega) ⟨H,I.tok _,by rw[jJ r];exact q⟩
  ·subst e';obtain⟨hz,hS,vs,r,m⟩:kvs.length<=sizeLine/\(p==sysModules)=false/\∃ vs,KV kvs vs/\s.heap.DictOf (aM X.prog X.w) p vs:=I.hok p _ hx;have hlen:kvs.length=vs.length:=Paired.length r;exact wpAny_truthy_dict hS m (by omega) ⟨H,I.tok _,by rw[oK r];exact q⟩
 |_=>exact (show False from e).elim
theorem uk (ha:PE X a ta)(he:∀ whole,isTrue a X.env whole=(do let v <- whole;standAt a.pos;holding [v] (truthy v))) :
  PT X a (fun σ H Q=>ta σ H fun x H'=>∃ k,zR X.K x H' k/\Q k H'):=by
 intro pins s σ H Q I h;exact isTrue_plain (cN (ha pins s σ H _ I h) fun v s1 ⟨x,H1,I1,r1,q1⟩=>ze pins s1 σ H1 x v Q I1 r1 q1) (he _)
theorem pe:gv X (binaryOp .Add) (fun x y H Q=>∃ i j,x = .str i/\y = .str j/\i.length+j.length<=sizeLine/\Q (.str (i++j)) H):=by
 intro pins s σ H x y v u Q I rx ry h;obtain⟨i,j,rfl,rfl,hz,q⟩:=h;obtain⟨t,rfl⟩:=rx;obtain⟨t',rfl⟩:=ry;exact add_str (fun t' tk=>⟨.str (i++j),H,I.tok _,⟨_,rfl⟩,q⟩) hz
theorem vals1 {x:V}{us:List Value}(r:aK [x] us):∃ u,us=[u]/\RelV x u:=by
 cases r with
 |cons r1 r2=>cases r2;exact⟨_,rfl,r1⟩
end
end L2
namespace L2
open PySem PySem.Spec PyProof.Rows
structure ObjM (h:Heap)(x dx C:Addr)(mA:Str->Option Value):Prop where
 obj:h.get? x=some (PySem.W.instObj C dx)
 ns:h.Ns1 dx mA
 ne:dx≠x
section
variable {prog:Program}{w:World}{A:Around}{E:Value->Shared->Prop}{s:Shared}{K:PySem.W.Frag}{x dx C f:Addr}{mA:Str->Option Value}{name:Str}{v:Value}
end
section
variable {P:Program}{w:World}{H H':Hp}{h h':Heap}{a C dx:Addr}{fs fs':List (Str×V)}
end
structure Cls (K:PySem.W.Frag)(C:Addr):Prop where
 pg:PySem.W.plainGet K C Str.empty=true
 hd:PySem.W.hasDictIn K C=true
 po:PySem.W.plainOver K C=true
 sa:PySem.W.findIn K (.ref C) "__setattr__" = some (some (.builtin "object.__setattr__"))
structure Con (K:PySem.W.Frag)(C:Addr)(f:Str)(v:V)(u:Value):Prop where
 at_:PySem.W.findIn K (.ref C) f=some (some u)
 rel:RelV v u
 get:PySem.W.specialIn K u "__get__" = some none
 cp:PySem.W.copiedNames.contains f=false
structure Meth (K:PySem.W.Frag)(C:Addr)(m:Str)(f:Addr):Prop where
 at_:PySem.W.findIn K (.ref C) m=some (some (.ref f))
 fn:PySem.W.isFn K (.ref f)=true
 kp:PySem.W.keepIn K (.ref f)=true
section
variable {X:Cx}{pins:List (Addr×Obj)}{σ:St}{H:Hp}{s:Shared}{a C dx:Addr}{fs:List (Str×V)}{f:Str}{v:V}{A:Around}{E:Value->Shared->Prop}
end
section
variable {X:Cx}{o e value:Expr}{f:Str}{pos pos' tpos:Pos}{ta tv:TE}
end
section
variable {X:Cx}{pins:List (Addr×Obj)}{σ:St}{H:Hp}{s:Shared}{A:Around}{E:Value->Shared->Prop}{Q:Value->Shared->Prop}{c:Value}{b:Bool}
inductive jO (K:PySem.W.Frag) (H:Hp):V->Value->Prop where
 | non:jO K H .non (.type "NoneType")
 | bl (x:Bool):jO K H (.bl x) (.type "bool")
 | int (i:Int):jO K H (.int i) (.type "int")
 | str (x:Str):jO K H (.str x) (.type "str")
 | flt (x:UInt64):jO K H (.flt x) (.type "float")
 | lst {a:Addr}{xs:List V}(e:H a=some (.lst xs)):jO K H (.ref a) (.type "list")
 | frz {a:Addr}{o:Obj}{xs:List V}(e:H a=some (.frz o (.lst xs))):jO K H (.ref a) (.type "list")
 | tup {a:Addr}{xs:List V}(e:H a=some (.tup xs)):jO K H (.ref a) (.type "tuple")
 | dK {a:Addr}{kvs:List (Key×V)}(e:H a=some (.dK kvs)):jO K H (.ref a) (.type "dict")
 | dT {a:Addr}{kvs:List (List Key×V)}(e:H a=some (.dT kvs)):jO K H (.ref a) (.type "dict")
 | ins {a C dx:Addr}{fs:List (Str×V)}(e:H a=some (.ins C dx fs)) (cl:Cls K C) (ha:PySem.W.findIn K (.ref C) "__class__" = some (some (.builtin "object.__class__")))
   (hn:PySem.W.specialIn K (.builtin "object.__class__") "__get__" = some (some (.builtin "getset_descriptor.__get__"))) (htk:PySem.W.takesIn K (.builtin "object.__class__")=some true)
   (hm:PySem.W.mroIn K C (.type "object")=some true):jO K H (.ref a) (.ref C)
end
end L2
namespace L2
open PySem PySem.Spec PyProof.Rows
structure eE (k:Nat)(A:Around):Prop where
 hd:A.handled=none
 dp:A.depth+3*k+5<recursionLimit
 un:A.units+16*k+200<cLine
theorem eE.deeper {k:Nat}{A:Around}(r:eE (k+1) A)(env:Env):eE k (A.deeper env) :=
 ⟨r.hd,by have:=r.dp;show A.depth+1+3*k+5<_;omega,by have:=r.un;show A.units+3+16*k+200<_;omega⟩
theorem eE.depth {k:Nat}{A:Around}(r:eE k A):A.depth<recursionLimit:=by have:=r.dp;omega
theorem eE.units {k:Nat}{A:Around}(r:eE k A):A.units+64<cLine:=by have:=r.un;omega
def qU:TA:=fun _ H Q=>Q [] H
def hU (ta:TE)(tr:TA):TA:=fun σ H Q=>ta σ H fun x H1=>tr σ H1 fun xs H2=>Q (x::xs) H2
section
variable {X:Cx}{e:Expr}{es:List Expr}{te:TE}{t:TA}{pos:Pos}
theorem fA:PA X [] qU:=fun _ _ _ _ H Q I h=>Calls.spliced_nil ⟨[],H,I,.nil,h⟩
theorem bR (ha:PE X e te)(hr:PA X es t)(hs:starEach (e::es) X.env=(false,eval e X.env)::starEach es X.env:=by rfl):PA X (e::es) (hU te t):=by
 intro pos pins s σ H Q I h;rw[hs];show wpAny _ _ (spliced ((false,eval e X.env)::backTo pos (starEach es X.env))) _ _ s;refine Calls.spliced_cons (cN (ha pins s σ H _ I h) fun u s1 ⟨x,H1,I1,r1,q1⟩=>?_);exact cN (hr pos pins s1 σ H1 _ I1 q1) fun us s2 ⟨xs,H2,I2,r2,q2⟩=>⟨x::xs,H2,I2,.cons r1 r2,q2⟩
def tTup (t:TA):TE:=fun σ H Q=>t σ H fun xs H1=>xs.length<=sizeLine/\∀ p,H1 p=none->Q (.ref p) (upd H1 p (.tup xs))
def zA (t:TA):TE:=fun σ H Q=>t σ H fun xs H1=>xs.length<=sizeLine/\∀ p,H1 p=none->Q (.ref p) (upd H1 p (.lst xs))
theorem zd {x1}(h:PA X es t):PE X (.Tuple es x1 pos) (tTup t):=by
 intro pins s σ H Q I hq;refine wpAny_Tuple_spliced (cN (h pos pins s σ H _ I hq) fun us s1 ⟨xs,H1,I1,r,z,q⟩=>⟨by rw[<-r.length];exact z,?_⟩);have hf:H1 s1.heap.objs.size=none:=I1.hok.fresh (aq _);refine⟨.ref s1.heap.objs.size,upd H1 s1.heap.objs.size (.tup xs),I1.laid (t':=s1.toks) (fun b u e=>Heap.get?_push_of_some _ e) (aq _) ?_,rfl,q _ hf⟩;exact⟨z,us,r,⟨_,Heap.get?_push_size _ rfl,rfl,_,rfl⟩⟩
theorem mf (h:PA X es t):PE X (.List es pos) (zA t):=by
 intro pins s σ H Q I hq;refine wpAny_List_spliced (cN (h pos pins s σ H _ I hq) fun us s1 ⟨xs,H1,I1,r,z,q⟩=>⟨by rw[<-r.length];exact z,?_⟩);have hf:H1 s1.heap.objs.size=none:=I1.hok.fresh (aq _);refine⟨.ref s1.heap.objs.size,upd H1 s1.heap.objs.size (.lst xs),I1.laid (t':=s1.toks) (fun b u e=>Heap.get?_push_of_some _ e) (aq _) ?_,rfl,q _ hf⟩;exact⟨z,us,0,r,Heap.get?_push_size _ rfl⟩
end
noncomputable abbrev Sp:=List V->Hp->VK->XK->Prop
noncomputable abbrev nz:=List Env->Hp->Shared->XK->Value->Shared->Prop
structure t6 (P:Program)(w:World)(K:PySem.W.Frag)(mg:Str->Option Value)(base:Heap)(A:Around)(outer:List Env)(s:Shared)(H:Hp):Prop where
 frames:A.frames=some outer
 mod:Mod K mg base
 bs:∀ b o,base.get? b=some o->s.heap.get? b=some o/\H b=none
 bsz:base.objs.size<=s.heap.objs.size
 funs:s.heap.FunFrames base outer
 frf:∀ b∈eN outer,H b=none
 hok:g9 P w H s.heap
 bare:AllBare s.gens
noncomputable def CE (outer:List Env)(P:Program)(w:World)(H:Hp)(s:Shared)(Q:VK)(u:Value)(s':Shared):Prop :=
 ∃ v H',s'.os=s.os/\AllBare s'.gens/\Un (eN outer) [] H H' s.heap s'.heap/\g9 P w H' s'.heap/\RelV v u/\Q v H'
noncomputable def CR (CX:nz)(outer:List Env)(P:Program)(w:World)(H:Hp)(s:Shared)(Q:VK)(E:XK)(r:Result)(s':Shared):Prop :=
 match r with
 | .ok (.ret u)=>CE outer P w H s Q u s'
 |.ok _=>False
 |.error e=>CX outer H s E e s'
structure i8 (P:Program)(w:World)(K:PySem.W.Frag)(mg:Str->Option Value)(base:Heap)(CX:nz)(k:Nat)(f:Addr)(fd:FuncData)(ps:List Str)(sp:Sp):Prop where
 len:∀ vs H Q E,sp vs H Q E->vs.length=ps.length
 run:∀(A:Around) (outer:List Env) (s:Shared) (H:Hp) (args:Args) (us:List Value) (vs:List V) (Q:VK) (E:XK),eE k A->t6 P w K mg base A outer s H->BindsTo s fd args (ps.zip us)->aK vs us->sp vs H Q E ->
  codeAny (model P w) A (.call (.ref f) args) (CR CX outer P w H s Q E) s
section
variable {X:Cx}{pins:List (Addr×Obj)}{σ:St}{H:Hp}{s s':Shared}
theorem Inv.env0 (I:Inv X pins σ H s):t6 X.prog X.w X.K X.mg X.base X.A X.stack s H :=
 ⟨I.ok.frames,I.ok.mod,I.bs,bc I.ok.bsz I.sz,I.stack,I.stkFree,I.hok,I.bare⟩
theorem Inv.after {Q:VK}{u:Value}(I:Inv X pins σ H s)(h:CE X.stack X.prog X.w H s Q u s'):EP X pins σ Q u s':=by
 obtain⟨v,H',os,bare,un,hok,r,q⟩:=h;obtain⟨hh,g,d,t,os'⟩:=s';obtain rfl:os'=s.os:=os;exact⟨v,H',I.call (h':=hh) (g':=g) (d':=d) (t':=t) (ch:=[]) un hok bare (fun b z=>absurd z (by simp)),r,q⟩
end
def ui (sp:Sp)(dvs:List V)(E:XK)(t:TA):TE:=fun σ H Q=>t σ H fun vs H1=>sp (vs++dvs) H1 Q E
noncomputable def Binds (K:PySem.W.Frag)(fd:FuncData)(ps:List Str)(ds:List Value):Prop :=
 ∀(s:Shared) (us:List Value),K.In s.heap->(us++ds).length=ps.length->BindsTo s fd ⟨us,[]⟩ (ps.zip (us++ds))
theorem Binds.all {K:PySem.W.Frag}{fd:FuncData}{ps:List Str}(h:∀ us:List Value,us.length=ps.length->bindArgs fd ⟨us,[]⟩=pure (ps.zip us)):Binds K fd ps []:=fun s us _ hl=>by
 rw[az] at hl ⊢;exact .of_eq (h us hl)
def mj (CX:nz)(X:Cx)(E:XK):Prop:=∀(pins:List (Addr×Obj)) (σ:St) (H:Hp) (s:Shared) (e:Value) (s':Shared),Inv X pins σ H s->CX X.stack H s E e s'->X.xe e s'
section
variable {X:Cx}{CX:nz}{k:Nat}{f C:Addr}{fd:FuncData}{ps:List Str}{sp:Sp}{dvs:List V}{ds:List Value}{E:XK}{x m:Str}{p pos apos:Pos}{e o:Expr}{es:List Expr}{ta:TE}{t:TA}
theorem uC {pins:List (Addr×Obj)}{σ:St}{H:Hp}{s:Shared}{Q:VK}{us:List Value}{vs:List V}(F:i8 X.prog X.w X.K X.mg X.base CX k f fd ps sp)(hr:eE k X.A)(hb:Binds X.K fd ps ds)(hd:aK dvs ds)(hx:mj CX X E)
  (I:Inv X pins σ H s) (r:aK vs us) (h:sp (vs++dvs) H Q E):wpAny (model X.prog X.w) X.A (call (.ref f) us) (EP X pins σ Q) X.xe s:=by
 have r2:aK (vs++dvs) (us++ds):=r.append hd;have hl:(us++ds).length=ps.length:=by rw[<-r2.length];exact F.len _ _ _ _ h
 refine wpAny_call (codeAny_mono (F.run X.A X.stack s H ⟨us,[]⟩ (us++ds) (vs++dvs) Q E hr I.env0 (hb s us I.kIn hl) r2 h) fun r s' hq=>?_);cases r with
 |error e=>exact hx pins σ H s e s' I hq
 |ok fl =>
  cases fl with
  |ret u=>exact I.after hq
  |next=>exact False.elim hq
  |brk=>exact False.elim hq
  |cont=>exact False.elim hq
theorem vT (F:i8 X.prog X.w X.K X.mg X.base CX k f fd ps sp)(hr:eE k X.A)(hg:Gl X x)(hm:X.mg x=some (.ref f))(hk:PySem.W.keepIn X.K (.ref f)=true)(hb:Binds X.K fd ps ds)(hd:aK dvs ds)(hx:mj CX X E)
  (ha:PA X (e::es) t) (hdb:(x==("__debug__" : Str))=false:=by decide) (he:starEach (e::es) X.env=(false,eval e X.env)::starEach es X.env:=by rfl) (hpl:(backTo pos (starEach es X.env)).any (·.1)=false:=by rfl) :
  PE X (.Call (.Name x p) (e::es) [] pos) (ui sp dvs E t):=by
 intro pins s σ H Q I h;refine wpAny_Call_Name_kw (gY I hg hm ?_ hdb);refine PySem.W.callWith_K (h₀:=X.base) I.ok.mod.kin hk (cN (ha pos pins s σ H _ I h) fun us s1 ⟨vs,H1,I1,r,q⟩=>⟨I1.kIn,?_⟩) he hpl;exact uC F hr hb hd hx I1 r q
theorem uZ (F:i8 X.prog X.w X.K X.mg X.base CX k f fd ps sp)(hr:eE k X.A)(hg:Gl X x)(hm:X.mg x=some (.ref f))(hk:PySem.W.keepIn X.K (.ref f)=true)(hb:Binds X.K fd ps ds)(hd:aK dvs ds)(hx:mj CX X E)
  (hdb:(x==("__debug__" : Str))=false:=by decide):PE X (.Call (.Name x p) [] [] pos) (ui sp dvs E qU):=by
 intro pins s σ H Q I h;refine wpAny_Call_Name_kw (gY I hg hm ?_ hdb);exact PySem.W.callWith_K0 I.kIn hk (uC (us:=[]) F hr hb hd hx I .nil h)
structure Mk (K:PySem.W.Frag)(C f:Addr):Prop where
 makes:PySem.W.makesIn K C=true
 init:PySem.W.findIn K (.ref C) "__init__" = some (some (.ref f))
 fn:PySem.W.isFn K (.ref f)=true
 kp:PySem.W.keepIn K (.ref C)=true
end
section
variable {X:Cx}{CX:nz}{k:Nat}{f C:Addr}{fd:FuncData}{ps ks:List Str}{sp:Sp}{E:XK}{x m:Str}{p pos apos kpos:Pos}{e o:Expr}{es:List Expr}{kws:List Keyword}{te ta:TE}{t tk:TA}{nm:Option Str}
structure KBinds (K:PySem.W.Frag)(fd:FuncData)(ps ks:List Str)(g:List Value->List Value->List Value)(gV:List V->List V->List V):Prop where
 to:∀(s:Shared) (us ws:List Value),K.In s.heap->(g us ws).length=ps.length->BindsTo s fd ⟨us,ks.zip ws⟩ (ps.zip (g us ws))
 rel:∀{vs:List V}{us:List Value}{zs:List V}{ws:List Value},aK vs us->aK zs ws->aK (gV vs zs) (g us ws)
variable {g:List Value->List Value->List Value}{gV:List V->List V->List V}
end
structure cH (N P:List Str)(sc:Scope):Prop where
 kind:sc.kind = .function
 co:sc.isCoroutine=false
 gen:sc.isGenerator=false
 nd:N.Nodup
 pre:N.take P.length=P
 par:∀ x∈P,sc.names.lookup x=some .local\/sc.names.lookup x=some .cell
 nofree:∀ y∈sc.names,y.2≠.free
theorem lr {kindOf:Str->Option NameKind}{x:Str}:∀{binds:List (Str×Value)}{m:Str->Option Value},(∀ v,(x,v)∉binds)->bindL kindOf binds m x=m x
 |[],_,_=>rfl
 | (n,v)::r,m,h=>by
  unfold bindL;rw[lr fun w hw=>h w (ae _ hw)];split
  ·have:x≠n:=by rintro rfl;exact h v ai
   simp[this]
  ·rfl
theorem lh {kindOf:Str->Option NameKind}{x:Str}:∀{binds:List (Str×Value)}{m:Str->Option Value},(∀ v,(x,v)∉binds)->bindC kindOf binds m x=m x
 |[],_,_=>rfl
 | (n,v)::r,m,h=>by
  unfold bindC;rw[lh fun w hw=>h w (ae _ hw)];split
  ·rfl
  ·have:x≠n:=by rintro rfl;exact h v ai
   simp[this]
theorem gU {kindOf:Str->Option NameKind}{x:Str}{v:Value}:∀{P:List Str}{vs:List Value}{i:Nat}{m:Str->Option Value},P.Nodup->P[i]? = some x->vs[i]? = some v->kindOf x=some .local ->
  bindL kindOf (P.zip vs) m x=some v
 |[],_,_,_,_,h,_,_=>by simp at h
 |_::_,[],_,_,_,_,h,_=>by simp at h
 | p::P,w::vs,0,m,nd,h1,h2,hk=>by
  simp at h1 h2;subst h1;subst h2;show bindL kindOf ((p,w)::P.zip vs) m p=_;unfold bindL;rw[lr fun v hv=>(List.nodup_cons.mp nd).1 (gp hv).1,if_pos hk];simp
 | p::P,w::vs,i+1,m,nd,h1,h2,hk=>by
  show bindL kindOf ((p,w)::P.zip vs) m x=_;unfold bindL;exact gU (i:=i) (List.nodup_cons.mp nd).2 (by simpa using h1) (by simpa using h2) hk
theorem kM {kindOf:Str->Option NameKind}{x:Str}{v:Value}:∀{P:List Str}{vs:List Value}{i:Nat}{m:Str->Option Value},P.Nodup->P[i]? = some x->vs[i]? = some v->kindOf x≠some .local ->
  bindC kindOf (P.zip vs) m x=some v
 |[],_,_,_,_,h,_,_=>by simp at h
 |_::_,[],_,_,_,_,h,_=>by simp at h
 | p::P,w::vs,0,m,nd,h1,h2,hk=>by
  simp at h1 h2;subst h1;subst h2;show bindC kindOf ((p,w)::P.zip vs) m p=_;unfold bindC;rw[lh fun v hv=>(List.nodup_cons.mp nd).1 (gp hv).1,if_neg hk];simp
 | p::P,w::vs,i+1,m,nd,h1,h2,hk=>by
  show bindC kindOf ((p,w)::P.zip vs) m x=_;unfold bindC;exact kM (i:=i) (List.nodup_cons.mp nd).2 (by simpa using h1) (by simpa using h2) hk
noncomputable def start (N:List Str)(vs:List V):St:=vs.map some++List.replicate (N.length - vs.length) none
noncomputable def dG (CX:nz)(P:Program)(w:World)(K:PySem.W.Frag)(mg:Str->Option Value)(base:Heap)(N:List Str)(qual:Str)(scope:Scope)(f:Addr)(cd:Value)(A:Around)(outer:List Env)(s:Shared)(H:Hp)(E:XK):Cx where
 prog:=P
 w:=w
 K:=K
 mg:=mg
 base:=base
 A:=A.deeper (envOfC qual scope s.heap.objs.size f cd)
 N:=N
 s₀:=s
 H₀:=H
 env:=envOfC qual scope s.heap.objs.size f cd
 outer:=outer
 stack:=envOfC qual scope s.heap.objs.size f cd::outer
 ex:=[]
 calm:=true
 fn:=fun _=>true
 pn:=[]
 xe:=fun e s'=>wpAny (model P w) (A.deeper (envOfC qual scope s.heap.objs.size f cd)) (leaving (envOfC qual scope s.heap.objs.size f cd) e) (fun _ s''=>CX outer H s E e s'') (fun e' s''=>CX outer H s E e' s'') s'
theorem nD {sc:Scope}{n:Nat}{x:Str}(h:sc.names.lookup x=some .cell):∃ c,(cellsFrom n sc.names []).lookup x=some c:=by
 have q:=gh sc.names n [] (.inl h);exact Option.isSome_iff_exists.mp q
theorem kU {CX:nz}{P:Program}{w:World}{K:PySem.W.Frag}{mg:Str->Option Value}{base:Heap}{N ps:List Str}{qual:Str}{scope:Scope}{f:Addr}{cd:Value}{A:Around}{outer:List Env}{s s1:Shared}{H:Hp}{E:XK}{us:List Value}{vs:List V}
  (S:cH N ps scope) (hd:A.handled=none) (e0:t6 P w K mg base A outer s H) (hl:vs.length=ps.length) (r:aK vs us)
  (x:InCallC s s.heap.objs.size (bindL (envOfC qual scope s.heap.objs.size f cd).kindOf (ps.zip us) fun _=>none) (cellsFrom (s.heap.objs.size+1) scope.names []) (bindC (envOfC qual scope s.heap.objs.size f cd).kindOf (ps.zip us) fun _=>none) s1) :
  Inv (dG CX P w K mg base N qual scope f cd A outer s H E) [] (start N vs) H s1:=by
 have hpl:ps.length<=N.length:=by have:=fk List.length S.pre;rw[cn] at this;omega
 obtain⟨h1,tk,rfl,hk⟩:=x.done;have noA:∀ b:Addr,b∉(dG CX P w K mg base N qual scope f cd A outer s H E).ex:=fun b z=>absurd (show b∈([]:List Addr) from z) (by simp)
 refine⟨⟨e0.mod,S.kind,rfl,rfl,aq _,fun y z c h1 h2=>?_,fun y hy=>?_,fun y c _ h=>?_,fun _=>hd,Around.frames_deeper e0.frames,.inr ⟨rfl,rfl⟩,fun b z=>absurd z (noA b),e0.bs,e0.bsz,fun b _ _=>noA b,fun b z=>absurd z (noA b),e0.funs,e0.frf⟩,
  rfl,e0.bare,Un.kept hk,⟨_,x.toInCall.ns,fun i y v h1 h2 h3=>?_⟩,fun y c h=>⟨_,x.cell y c h⟩,e0.hok.fresh (Nat.le_refl _),fun y c h=>?_,fun p hp=>absurd (show p∈([]:List (Addr×Obj)) from hp) (by simp),e0.hok.kept hk,?_⟩
 ·exact name_of_addr x.apart (bq h1) (bq h2)
 ·have hy:scope.names.lookup y=some .cell\/scope.names.lookup y=some .free:=hy;rcases hy with hy | hy
  ·exact nD hy
  ·exact absurd rfl (S.nofree _ (bq hy))
 ·exact Nat.le_of_lt (x.above y c (bq h))
 ·have hi:i<vs.length:=by
   unfold start at h2;by_cases hi:i<vs.length
   ·exact hi
   ·rw[List.getElem?_append_right (by simpa using hi)] at h2;rw[List.getElem?_replicate] at h2;split at h2<;>cases h2
  have ha:vs[i]? = some v:=by
   unfold start at h2;rw[List.getElem?_append_left (by simpa using hi),List.getElem?_map] at h2;cases e:vs[i]? with
   |none=>rw[e] at h2;cases h2
   |some a=>rw[e] at h2;cases h2;rfl
  obtain⟨u,hu,rv⟩:=r.get ha;have hp:ps[i]? = some y:=by
   rw[<-S.pre,List.getElem?_take_of_lt (by omega)];exact h1
  have ndP:ps.Nodup:=by rw[<-S.pre];exact S.nd.sublist (List.take_sublist _ _)
  refine⟨u,rv,?_⟩;rcases S.par y (List.mem_of_getElem? hp) with k | k
  ·exact .inl ⟨k,gU ndP hp hu k⟩
  ·obtain⟨c,e⟩:=nD (n:=s.heap.objs.size+1) k;refine .inr ⟨.inl k,c,e,?_⟩;have q:=x.cell y c e;rw[kM ndP hp hu (by show scope.names.lookup y≠_;rw[k];decide)] at q;exact q
 ·exact e0.hok.fresh (Nat.le_of_lt (x.above y c (bq h)))
 ·unfold start;show _=N.length;rw[aw,aj,dn];omega
theorem BY {CX:nz}{P:Program}{w:World}{K:PySem.W.Frag}{mg:Str->Option Value}{base:Heap}{k:Nat}{f:Addr}{name qual:Str}{params:Arguments}{body:List Stmt}{scope:Scope}{dV kV doc pm cdv ct oc:Value}{an od:Option Addr}
  {osl:Array (Option Value)}{N ps:List Str}{sp:Sp}(lk:K.lookup f=some ⟨oc,od,.func (PySem.W.fnOf name qual params body scope dV kV doc pm an cdv ct),osl⟩) (hcd:PySem.W.codeIn K cdv qual=true) (S:cH N ps scope)
  (len:∀ vs H Q E,sp vs H Q E->vs.length=ps.length)
  (hbody:∀(A:Around) (outer:List Env) (s:Shared) (H:Hp) (vs:List V) (Q:VK) (E:XK),eE k (A.deeper (envOfC qual scope s.heap.objs.size f cdv))->sp vs H Q E ->
   ∃ t,ip (dG CX P w K mg base N qual scope f cdv A outer s H E) body t/\t { nx:=fun _ H'=>Q .non H',rt:=Q } (start N vs) H) :
  i8 P w K mg base CX (k+1) f (PySem.W.fnOf name qual params body scope dV kV doc pm an cdv ct) ps sp:=by
 refine⟨len,fun A outer s H args us vs Q E hr e0 hb r hsp=>?_⟩;have hl:=len _ _ _ _ hsp;have KX:K.In s.heap:=e0.mod.kin.keeps fun b o e=>(e0.bs b o e).1
 have lim:s.heap.NoLimit:=e0.mod.nolimit.keeps fun b o e=>(e0.bs b o e).1
 have hkind:∀ y∈ps.zip us,scope.names.lookup y.1=some .local\/(scope.names.lookup y.1=some .cell/\((cellsFrom (s.heap.objs.size+1) scope.names []).lookup y.1).isSome=true):=fun ⟨n,v⟩ hy=>by
  rcases S.par n (gp hy).1 with q | q
  ·exact .inl q
  ·exact .inr ⟨q,gh _ _ _ (.inl q)⟩
 refine codeAny_call_function hr.depth (KX _ _ lk) rfl S.co S.gen rfl (PySem.W.codeRec_of KX hcd) (hb _ _ _ _ ?_);refine wpAny_newFunctionEnv_cells S.kind hkind fun env he s1 x=>?_
 subst he;refine⟨lim.keeps x.toInCall.keep,codeAny_func ?_⟩;obtain⟨t,ht,hq⟩:=hbody A outer s H vs Q E (hr.deeper _) hsp;have I:Inv (dG CX P w K mg base N qual scope f cdv A outer s H E) [] (start N vs) H s1:=kU S hr.hd e0 hl r x;refine wpAny_mono (ht [] s1 (start N vs) H _ I hq) (fun fl s' hs=>?_) fun e s' hs=>hs
 have fin:∀{σ':St}{H':Hp}{v:V}{u:Value},Inv (dG CX P w K mg base N qual scope f cdv A outer s H E) [] σ' H' s'->RelV v u->Q v H'->CE outer P w H s Q u s' :=
  fun {σ' H' v u} J rv q=>⟨v,H',J.os,J.bare,J.base,J.hok,rv,q⟩
 cases fl with
 |ret u =>
  obtain⟨v,σ',H',J,rv,q⟩:=hs;exact fin J rv q
 |next =>
  obtain⟨σ',H',J,q⟩:=hs;exact fin (v:=V.non) (u:=Value.none) J rfl q
 |brk =>
  obtain⟨_,_,_,q⟩:=hs;exact False.elim q
 |cont =>
  obtain⟨_,_,_,q⟩:=hs;exact False.elim q
end L2
namespace L2
open PySem PySem.Spec PyProof.Rows
section
variable {X:Cx}{x:Str}{p pos:Pos}{e:Expr}{es:List Expr}{t:TA}{id T:String}{r:List V->Hp->VK->Prop}
def CB (r:List V->Hp->VK->Prop)(t:TA):TE:=fun σ H Q=>t σ H fun vs H1=>r vs H1 Q
theorem gE (hc:fL X (.builtin id) r)(hg:Gl X x)(hm:X.mg x=none)(hv:bootBuiltins x=some (.builtin id))(ha:PA X (e::es) t)(hn:x≠"__name__":=by decide) (hdb:(x==("__debug__" : Str))=false:=by decide)
  (he:starEach (e::es) X.env=(false,eval e X.env)::starEach es X.env:=by rfl) (hpl:(backTo pos (starEach es X.env)).any (·.1)=false:=by rfl):PE X (.Call (.Name x p) (e::es) [] pos) (CB r t):=by
 intro pins s σ H Q I h;refine wpAny_Call_Name_kw (i0 I hg hm hv ?_ hn hdb);exact PyProof.Rows.callWith_builtin1 (cN (ha pos pins s σ H _ I h) fun us s1 ⟨vs,H1,I1,r1,q1⟩=>hc pins s1 σ H1 vs us Q I1 r1 q1) he hpl
theorem qT (hc:fL X (.type T) r)(hg:Gl X x)(hm:X.mg x=none)(hv:bootBuiltins x=some (.type T))(ha:PA X (e::es) t)(hn:x≠"__name__":=by decide) (hdb:(x==("__debug__" : Str))=false:=by decide)
  (he:starEach (e::es) X.env=(false,eval e X.env)::starEach es X.env:=by rfl) (hpl:(backTo pos (starEach es X.env)).any (·.1)=false:=by rfl):PE X (.Call (.Name x p) (e::es) [] pos) (CB r t):=by
 intro pins s σ H Q I h;refine wpAny_Call_Name_kw (i0 I hg hm hv ?_ hn hdb);exact dq (cN (ha pos pins s σ H _ I h) fun us s1 ⟨vs,H1,I1,r1,q1⟩=>hc pins s1 σ H1 vs us Q I1 r1 q1) he hpl
end
end L2
namespace HT
open PySem PyProof.Rows
theorem tq (A:Around)(s:Shared)(a:Int)(t:Tok)(c:Int)(u:Tok):∃ e,SeqAt.EqAt A s (.int a t) (.int c u) e/\(e=true↔a=c) :=
 ⟨(a==c),SeqAt.EqAt.int_int a t c u,by simp⟩
section
open PySem.SeqAt
open PySem.AutoSeq1 (wpAny_loadPart')
open PySem.MeetsSeq PySem.MeetsSeq2 PySem.MeetsSeq3
end
section
variable {prog:Program}{w:World}{A:Around}{E:Value->Shared->Prop}{s:Shared}
theorem vZ {t b:Addr}{vs ws:List Value}{Q:Value->Shared->Prop}(ht:IsTup s.heap t vs.toArray)(hb:IsTup s.heap b ws.toArray)(hv:vs≠[])
  (h1:ws=[]->Q (.ref t) s) (h2:ws≠[]->Q (.ref s.heap.objs.size) { s with heap:=s.heap.push { cls:=.type "tuple",data:=.seq (vs++ws).toArray } })
  (hsz:vs.length+ws.length<=sizeLine):wpAny (model prog w) A (binaryOp .Add (.ref t) (.ref b)) Q E s:=by
 obtain⟨⟨cls,dd,data,sl⟩,ho,hc,n,hd⟩:=id ht;obtain⟨⟨cls2,dd2,data2,sl2⟩,ho2,hc2,n2,hd2⟩:=id hb;simp only at hc hd hc2 hd2;subst hc hd hc2 hd2;have e:vs.toArray++ws.toArray=(vs++ws).toArray:=by simp
 by_cases hw:ws=[]
 ·exact concat_meets ⟨_,ho,rfl⟩ ⟨_,ho2,rfl⟩ noFill_tuple_add seq_tuple_add PySem.F.slot_tuple_add PySem.F.entry_tuple_add (PySem.F.args_tuple_add_2 _ _)
   (tuple_addW1 t b vs.toArray ws.toArray n n2 dd dd2 sl sl2 (by simpa using hv) (by simp[hw])) ⟨ho,ho2,h1 hw⟩
 ·refine concat_meets ⟨_,ho,rfl⟩ ⟨_,ho2,rfl⟩ noFill_tuple_add seq_tuple_add PySem.F.slot_tuple_add PySem.F.entry_tuple_add (PySem.F.args_tuple_add_2 _ _)
   (tuple_addW2 t b vs.toArray ws.toArray n n2 dd dd2 sl sl2 (by simpa using hv) (by simpa using hw) (by rw[List.size_toArray,List.size_toArray];exact hsz)) ⟨ho,ho2,?_⟩
  rw[e];exact h2 hw
noncomputable def bI (n d:Nat):Option Int->Nat
 |none=>d
 |some v=>if v<0 then (v+(n:Int)).toNat else min v.toNat n
theorem mh (n d:Nat)(hd:d<=n)(o:Option Int):bI n d o<=n:=by
 cases o with
 |none=>exact hd
 |some v =>
  show (if v<0 then (v+(n:Int)).toNat else min v.toNat n)<=n;by_cases hv:v<0
  ·rw[if_pos hv];omega
  ·rw[if_neg hv];exact gb _ _
theorem qp (v:Int)(n d:Nat):(if v<0 then max (v+(n:Int)) 0 else min v (n:Int))=((bI n d (some v):Nat):Int):=by
 show (if v<0 then max (v+(n:Int)) 0 else min v (n:Int))=(((if v<0 then (v+(n:Int)).toNat else min v.toNat n):Nat):Int);by_cases hv:v<0
 ·simp only[if_pos hv];omega
 ·simp only[if_neg hv];omega
theorem pE (lo hi:Option Int)(n:Nat):Builtin.Slice.sliceAdjust lo hi 1 (n:Int)=(((bI n 0 lo:Nat):Int),((bI n n hi:Nat):Int)):=by
 have h1:¬ ((1:Int)<0):=by omega
 unfold Builtin.Slice.sliceAdjust;simp only[h1,if_false];refine Prod.ext ?_ ?_
 ·cases lo with
  |none=>rfl
  |some v=>exact qp v n 0
 ·cases hi with
  |none=>rfl
  |some v=>exact qp v n n
theorem oZ (i j:Nat):Builtin.Slice.slicePlaces (i:Int) (j:Int) 1=j - i:=by
 unfold Builtin.Slice.slicePlaces;have h1:(1:Int) > 0:=by omega
 simp only[h1,if_true,Int.ediv_one];split<;>omega
theorem jR {v:Value}{o:Option Int}{Q:Option Int->Shared->Prop}(p:IsPart v o)(h:Q o s):wpAny (model prog w) A (Builtin.Slice.slicePartIndex v) Q E s:=by
 cases p with
 |none=>exact slicePart_none h
 |int i t=>exact slicePart_int h
theorem i9 {sl:Addr}{vl vu:Value}{lo hi:Option Int}{n:Nat}{Q:Int×Int×Nat->Shared->Prop}(hs:s.heap.IsSliceOf sl vl vu .none)(pl:IsPart vl lo)(pu:IsPart vu hi)
  (h:Q (((bI n 0 lo:Nat):Int),1,bI n n hi - bI n 0 lo) s):wpAny (model prog w) A (Builtin.Slice.sliceApplied (.ref sl) (pure (n:Int))) Q E s:=by
 obtain⟨os,hos,hcs,hds⟩:=id hs;unfold Builtin.Slice.sliceApplied Builtin.Slice.sliceFields;refine wpAny_bind (wpAny_bind (wpAny_field hos hds (x:=vl) rfl (wpAny_bind (wpAny_field hos hds (x:=vu) rfl (wpAny_bind (wpAny_field hos hds (x:=.none) rfl (wpAny_pure ?_)))))));refine wpAny_bind (slicePart_none ?_);show wpAny _ _ (if ((1:Int)==0)=true then _ else _) _ _ s;rw[if_neg (by decide)];refine wpAny_bind (jR pl (wpAny_bind (jR pu (wpAny_bind (wpAny_pure ?_)))));show wpAny _ _ (match Builtin.Slice.sliceAdjust lo hi 1 (n:Int) with | (lo,hi)=>pure (lo,(1:Int),Builtin.Slice.slicePlaces lo hi 1)) _ _ s;rw[pE lo hi n];show wpAny _ _ (pure (((bI n 0 lo:Nat):Int),(1:Int),Builtin.Slice.slicePlaces ((bI n 0 lo:Nat):Int) ((bI n n hi:Nat):Int) 1)) _ _ s;rw[oZ];exact wpAny_pure h
theorem vo (xs:Array Value)(i k:Nat):((List.range k).filterMap fun (m:Nat)=>xs[((i:Int)+(m:Int)*1).toNat]?).toArray=((xs.toList.drop i).take k).toArray:=by
 have e:(fun (m:Nat)=>xs[((i:Int)+(m:Int)*1).toNat]?)=fun m=>xs[i+m]?:=by
  funext m;have:((i:Int)+(m:Int)*1).toNat=i+m:=by omega
  rw[this]
 rw[e];have:=pick_run xs i k;rw[List.filterMap_map] at this;have e2:((fun x=>xs[x]?)∘fun x=>i+x)=fun m=>xs[i+m]?:=rfl
 rw[e2] at this;rw[this]
theorem iA {t sl:Addr}{items:Array Value}{vl vu:Value}{lo hi:Option Int}{Q:Value->Shared->Prop}(ht:IsTup s.heap t items)(hs:s.heap.IsSliceOf sl vl vu .none)(pl:IsPart vl lo)(pu:IsPart vu hi)
  (hw:¬ (bI items.size 0 lo=0/\bI items.size items.size hi=items.size))
  (h:Q (.ref s.heap.objs.size) { s with heap:=s.heap.push { cls:=.type "tuple",data:=.seq ((items.toList.drop (bI items.size 0 lo)).take (bI items.size items.size hi - bI items.size 0 lo)).toArray } })
  (hsz:items.size<=sizeLine):wpAny (model prog w) A (getItem (.ref t) (.ref sl)) Q E s:=by
 have htake:sizeOk (.seq ((items.toList.drop (bI items.size 0 lo)).take (bI items.size items.size hi - bI items.size 0 lo)).toArray):=by
  show ((items.toList.drop (bI items.size 0 lo)).take (bI items.size items.size hi - bI items.size 0 lo)).toArray.size<=sizeLine;rw[ao,cn,c8,du];omega
 have hj:bI items.size items.size hi<=items.size:=mh _ _ (aq _) hi;obtain⟨os,hos,hcs,hds⟩:=id hs;have hTs:s.TypeIs (.ref sl) "slice":=⟨os,hos,hcs⟩;unfold getItem
 try with_reducible refine wpAny_holding ?_
 first | refine wpAny_bind (wpAny_pure ?_) | skip
 refine wpAny_bind (wpAny_sequenceKey ht.typeIs (by decide) ?_);refine wpAny_bind (wpAny_callSpecial?_slot (name:=Str.ofString "__getitem__") ht.typeIs PyProof.Rows.slot_tuple_getitem
  (wpAny_call_entry PyProof.Rows.slot_tuple_getitem ht.typeIs entry_tuple_getitem ?_ (args_tuple_getitem _ _)))
 show wpAny _ _ (Builtin.Tuple.tupleItemsOf (.ref t) >>= _) _ _ s;refine wpAny_bind (tupleItemsOf_ ht ?_);refine wpAny_bind (wpAny_typeOf hTs ?_);rw[if_pos (by decide)];refine wpAny_bind (i9 hs pl pu ?_);have hno:¬ ((((bI items.size 0 lo:Nat):Int)==0&&(1:Int)==1&&(bI items.size items.size hi - bI items.size 0 lo)==items.size)=true):=by
  intro q;rw[ah,ah] at q;have q1:((bI items.size 0 lo:Nat):Int)=0:=eq_of_beq q.1.1;have q2:bI items.size items.size hi - bI items.size 0 lo=items.size:=eq_of_beq q.2;exact hw ⟨by omega,by omega⟩
 show wpAny _ _ (if (((bI items.size 0 lo:Nat):Int)==0&&(1:Int)==1&&(bI items.size items.size hi - bI items.size 0 lo)==items.size)=true then _ else _) _ _ s;rw[if_neg hno,vo]
 first
  | exact wpAny_bind (m:=Builtin.Tuple.tupleExact _) (wpAny_newObj_type (wpAny_pure ⟨_,rfl,wpAny_pure h⟩) htake)
  | exact wpAny_bind (m:=Builtin.Tuple.tupleExact _) (wpAny_newObj_type (wpAny_bind (wpAny_pure (wpAny_pure ⟨_,rfl,wpAny_pure h⟩))) htake)
  | exact wpAny_bind (wpAny_bind (m:=Builtin.Tuple.tupleExact _) (wpAny_newObj_type (wpAny_pure (wpAny_pure ⟨_,rfl,wpAny_pure h⟩)) htake))
  | exact wpAny_bind (wpAny_bind (m:=Builtin.Tuple.tupleExact _) (wpAny_newObj_type (wpAny_pure ⟨_,rfl,wpAny_pure h⟩) htake))
end
end HT
namespace L2
open PySem PySem.Spec PyProof.Rows
noncomputable abbrev TO:=St->Hp->(Option Int->Hp->Prop)->Prop
noncomputable def PO (X:Cx)(e:Option Expr)(t:TO):Prop :=
 ∀(pins:List (Addr×Obj)) (s:Shared) (σ:St) (H:Hp) (Q:Option Int->Hp->Prop),Inv X pins σ H s->t σ H Q ->
  wpAny (model X.prog X.w) X.A (evalPart e X.env) (fun u s'=>∃ o H',Inv X pins σ H' s'/\IsPart u o/\Q o H') X.xe s
noncomputable def wZ:TO:=fun _ H Q=>Q none H
noncomputable def B8 (t:TE):TO:=fun σ H Q=>t σ H fun x H1=>∃ i,x = .int i/\Q (some i) H1
section
variable {X:Cx}{e:Expr}{te:TE}{lo hi:Option Expr}{tl th:TO}{pos p2:Pos}
theorem wI:PO X none wZ:=by
 intro pins s σ H Q I h;rw[evalPart_none];exact wpAny_pure ⟨none,H,I,.none,h⟩
theorem xh (h:PE X e te):PO X (some e) (B8 te):=by
 intro pins s σ H Q I hw;rw[evalPart_some];refine cN (h pins s σ H _ I hw) fun u s1 ⟨x,H1,I1,r1,q1⟩=>?_
 obtain⟨i,rfl,q⟩:=q1;obtain⟨t,rfl⟩:=r1;exact⟨some i,H1,I1,.int i t,q⟩
noncomputable def yz (X:Cx)(r:V->Option Int->Option Int->Hp->VK->Prop):Prop :=
 ∀(pins:List (Addr×Obj)) (s:Shared) (σ:St) (H:Hp) (x:V) (v vl vu:Value) (lo hi:Option Int) (sl:Addr) (Q:VK),Inv X pins σ H s->RelV x v->s.heap.IsSliceOf sl vl vu .none->IsPart vl lo->IsPart vu hi->r x lo hi H Q ->
  ∃ T id,typeLookup (.type T) "__getitem__" = pure (some (.builtin id))/\s.TypeIs v T/\wpAny (model X.prog X.w) X.A (getItem v (.ref sl)) (EP X pins σ Q) X.xe s
theorem yz.or {r r':V->Option Int->Option Int->Hp->VK->Prop}(h:yz X r)(h':yz X r'):yz X (fun x lo hi H Q=>r x lo hi H Q\/r' x lo hi H Q):=by
 intro pins s σ H x v vl vu lo hi sl Q I rx hs pl pu q;rcases q with q | q
 ·exact h pins s σ H x v vl vu lo hi sl Q I rx hs pl pu q
 ·exact h' pins s σ H x v vl vu lo hi sl Q I rx hs pl pu q
def tSl (r:V->Option Int->Option Int->Hp->VK->Prop)(te:TE)(tl th:TO):TE:=fun σ H Q=>te σ H fun x H1=>tl σ H1 fun l H2=>th σ H2 fun u H3=>r x l u H3 Q
theorem uG {r:V->Option Int->Option Int->Hp->VK->Prop}(hr:yz X r)(he:PE X e te)(hl:PO X lo tl)(hu:PO X hi th):PE X (.Subscript e (.Slice lo hi none p2) pos) (tSl r te tl th):=by
 intro pins s σ H Q I h;refine Subscript_ (cN (he pins s σ H _ I h) fun v s1 ⟨x,H1,I1,r1,q1⟩=>?_);refine wpAny_Slice (cN (hl pins s1 σ H1 _ I1 q1) fun vl s2 ⟨l,H2,I2,pl,q2⟩=>cN (hu pins s2 σ H2 _ I2 q2) fun vu s3 ⟨u,H3,I3,pu,q3⟩=>?_);rw[evalPart_none];refine wpAny_pure ?_;have I4:Inv X pins σ H3 { s3 with heap:=s3.heap.push { cls:=.type "slice",data:=.fields #[vl,vu,.none] } }:=I3.kept (t':=s3.toks) fun b ob q=>Heap.get?_push_of_some _ q
 obtain⟨T,id,hT,ht,hg⟩:=hr pins { s3 with heap:=s3.heap.push { cls:=.type "slice",data:=.fields #[vl,vu,.none] } } σ H3 x v vl vu l u s3.heap.objs.size Q I4 r1 (Heap.IsSliceOf.new ..) pl pu q3;show wpAny (model X.prog X.w) X.A (subscriptTail e (.Slice lo hi none p2) v (.ref s3.heap.objs.size)) (EP X pins σ Q) X.xe { s3 with heap:=s3.heap.push { cls:=.type "slice",data:=.fields #[vl,vu,.none] } };exact tail_any (ops:=[.ref s3.heap.objs.size,v]) ht hT hg (by with_unfolding_all rfl)
noncomputable def kB (xs:List V)(lo hi:Option Int):List V:=(xs.drop (HT.bI xs.length 0 lo)).take (HT.bI xs.length xs.length hi - HT.bI xs.length 0 lo)
theorem jl (xs:List V)(lo hi:Option Int):(kB xs lo hi).length<=xs.length:=by
 unfold kB;rw[cn,c8];omega
def rSlT (K:PySem.W.Frag):V->Option Int->Option Int->Hp->VK->Prop:=fun x lo hi H Q=>∃ a xs,x = .ref a/\il K H a xs /\
 ¬ (HT.bI xs.length 0 lo=0/\HT.bI xs.length xs.length hi=xs.length)/\∀ p,H p=none->Q (.ref p) (upd H p (.tup (kB xs lo hi)))
theorem AE:yz X (rSlT X.K):=by
 intro pins s σ H x v vl vu lo hi sl Q I rx hs pl pu h;obtain⟨a,xs,rfl,hx,hw,q⟩:=h;cases rx;obtain⟨its,r,ht,hz⟩:=I.tuple hx;have hlen:its.toArray.size=xs.length:=by rw[ao];exact r.length.symm
 refine⟨"tuple",_,PyProof.Rows.slot_tuple_getitem.lookup,ht.typeIs,?_⟩;refine HT.iA ht hs pl pu (by rw[hlen];exact hw) ?_ (by rw[hlen];exact hz);rw[hlen];refine⟨.ref s.heap.objs.size,_,I.laid (t':=s.toks) (o:=.tup (kB xs lo hi)) (fun b ob q=>Heap.get?_push_of_some _ q) (aq _) ?_,rfl,q _ (I.hok.fresh (aq _))⟩;exact⟨bc (jl xs lo hi) hz,_,(r.drop (HT.bI xs.length 0 lo)).take (HT.bI xs.length xs.length hi - HT.bI xs.length 0 lo),IsTup.new _ _⟩
noncomputable def BW (K:PySem.W.Frag):R2:=fun x y H Q=>∃ a b xs ys,x = .ref a/\y = .ref b/\il K H a xs/\il K H b ys/\xs≠[]/\xs.length+ys.length<=sizeLine /\
 (ys=[]->Q (.ref a) H)/\(ys≠[]->∀ p,H p=none->Q (.ref p) (upd H p (.tup (xs++ys))))
theorem aK.nil_iff {xs:List V}{us:List Value}(r:aK xs us):us=[]↔xs=[]:=by
 cases r with
 |nil=>simp
 |cons _ _=>simp
theorem xw:gv X (binaryOp .Add) (BW X.K):=by
 intro pins s σ H x y v u Q I rx ry h;obtain⟨a,b,xs,ys,rfl,rfl,ha,hb,hx,hz,q1,q2⟩:=h;cases rx;cases ry;obtain⟨its,r1,p1,_⟩:=I.tuple ha;obtain⟨its2,r2,p2,_⟩:=I.tuple hb;refine HT.vZ p1 p2 (fun z=>hx (r1.nil_iff.mp z)) (fun z=>⟨.ref a,H,I,rfl,q1 (r2.nil_iff.mp z)⟩) (fun z=>?_) (by rw[<-r1.length,<-r2.length];exact hz);refine⟨.ref s.heap.objs.size,_,I.laid (t':=s.toks) (o:=.tup (xs++ys)) (fun b ob q=>Heap.get?_push_of_some _ q) (aq _) ?_,rfl,q2 (fun w=>z (r2.nil_iff.mpr w)) _ (I.hok.fresh (aq _))⟩;exact⟨by rw[aw];exact hz,_,r1.append r2,IsTup.new _ _⟩
end
end L2
namespace L2
open PySem PySem.Spec PyProof.Rows
noncomputable def jv (n:Nat)(i:Int):Option Nat:=if 0<=i then (if i<n then some i.toNat else none) else if -(n:Int)<=i then some (i+n).toNat else none
noncomputable def zX {α:Type}(xs:List α)(i:Int):Option α:=(jv xs.length i).bind fun j=>xs[j]?
theorem xK {n:Nat}{i:Int}{j:Nat}(h:jv n i=some j):seqIndex? i n=some j/\j<n/\-(n:Int)<=i/\i<n:=by
 unfold jv at h;by_cases h0:0<=i
 ·rw[if_pos h0] at h;by_cases h1:i<n
  ·rw[if_pos h1] at h;have e:i.toNat=j:=cf h;exact⟨by rw[seqIndex_of h0 h1,e],by omega,by omega,h1⟩
  ·rw[if_neg h1] at h;cases h
 ·rw[if_neg h0] at h;by_cases h1 : -(n:Int)<=i
  ·rw[if_pos h1] at h;have e:(i+n).toNat=j:=cf h;exact⟨by rw[seqIndex_neg (by omega) h1,e],by omega,h1,by omega⟩
  ·rw[if_neg h1] at h;cases h
theorem mE {α:Type}{xs:List α}{i:Int}{v:α}(h:zX xs i=some v):∃ j,seqIndex? i xs.length=some j/\xs[j]? = some v/\j<xs.length/\-(xs.length:Int)<=i/\i<xs.length:=by
 unfold zX at h;cases e:jv xs.length i with
 |none=>rw[e] at h;cases h
 |some j =>
  rw[e] at h;obtain⟨h1,h2,h3,h4⟩:=xK e;exact⟨j,h1,h,h2,h3,h4⟩
def mF (b:Expr):Prop:=∀ o i,subscripted b false o i=operate [o,i] (getItem o i)
noncomputable def Bc (X:Cx)(r:R2):Prop :=
 ∀(value slice:Expr) (pins:List (Addr×Obj)) (s:Shared) (σ:St) (H:Hp) (x y:V) (v u:Value) (Q:VK),Inv X pins σ H s->RelV x v->RelV y u->r x y H Q ->
  subscripted slice false v u=operate [v,u] (getItem v u)->wpAny (model X.prog X.w) X.A (subscriptTail value slice v u) (EP X pins σ Q) X.xe s
noncomputable def Bj (X:Cx)(id:String)(r:V->List V->Hp->VK->Prop):Prop :=
 ∀(pins:List (Addr×Obj)) (s:Shared) (σ:St) (H:Hp) (x:V) (xs:List V) (v:Value) (us:List Value) (Q:VK),Inv X pins σ H s->RelV x v->aK xs us->r x xs H Q ->
  wpAny (model X.prog X.w) X.A (call (.builtin id) (v::us)) (EP X pins σ Q) X.xe s
section
variable {X:Cx}{a b:Expr}{ta tb:TE}{pos:Pos}
theorem BO {r:R2}(hr:Bc X r)(ha:PE X a ta)(hb:PE X b tb)(hs:mF b):PE X (.Subscript a b pos) (Bg r ta tb):=by
 intro pins s σ H Q I h;exact Subscript_ (A7 ha hb I h fun v u s2 x y H2 I2 rx ry q=>hr a b pins s2 σ H2 x y v u Q I2 rx ry q (hs _ _))
noncomputable def rIxL (K:PySem.W.Frag):R2:=fun x y H Q=>∃ p xs i v,x = .ref p/\y = .int i/\ig K H p xs/\zX xs i=some v/\Q v H
noncomputable def rIxT (K:PySem.W.Frag):R2:=fun x y H Q=>∃ p xs i v,x = .ref p/\y = .int i/\il K H p xs/\zX xs i=some v/\Q v H
noncomputable def rIxS:R2:=fun x y H Q=>∃ z i c,x = .str z/\y = .int i/\z.length<=sizeLine/\zX z.cps.toList i=some c/\Q (.str ⟨#[c]⟩) H
theorem xm:Bc X (rIxL X.K):=by
 intro value slice pins s σ H x y v u Q I rx ry h hs;obtain⟨p,xs,i,z,rfl,rfl,hq,he,q⟩:=h;cases rx;obtain⟨t,rfl⟩:=ry;obtain⟨its,r,pl,hz⟩:=I.list hq;obtain⟨j,h1,h2,h3,h4,h5⟩:=mE he;obtain⟨w,ew,rw'⟩:=r.get h2;have hl:=r.length;have hn:=iY;have fin:EP X pins σ Q w s:=⟨z,H,I,rw',q⟩;by_cases h0:0<=i
 ·have hj:i.toNat=j:=by
   rw[seqIndex_of h0 h5] at h1;exact cf h1
  exact item_listR pl.isList h0 (by omega) (by rw[hj];simpa using ew) fin hs
 ·have hj:(i+(its.toArray.size:Int)).toNat=j:=by
   rw[seqIndex_neg (by omega) h4] at h1;rw[ao,<-hl];exact cf h1
  exact subscriptTail_builtinR (x:=w) pl.isList.typeIs slot_list_getitem.lookup
   (wpAny_getItem_list_neg (Q:=fun r s'=>r=w/\EP X pins σ Q r s') pl.isList (by omega) (by rw[List.size_toArray]<;>omega) (by omega) (by rw[hj];simpa using ew) ⟨rfl,fin⟩) hs
theorem Ax:Bc X (rIxT X.K):=by
 intro value slice pins s σ H x y v u Q I rx ry h hs;obtain⟨p,xs,i,z,rfl,rfl,hq,he,q⟩:=h;cases rx;obtain⟨t,rfl⟩:=ry;obtain⟨its,r,pl,hz⟩:=I.tuple hq;obtain⟨j,h1,h2,h3,h4,h5⟩:=mE he;obtain⟨w,ew,rw'⟩:=r.get h2;have hl:=r.length;have hn:=iY;have fin:EP X pins σ Q w s:=⟨z,H,I,rw',q⟩;exact subscriptTail_builtinR (x:=w) pl.typeIs slot_tuple_getitem.lookup
  (getItem_tuple (j:=j) (Q:=fun r s'=>r=w/\EP X pins σ Q r s') pl (by omega) (by omega) (by rw[List.size_toArray,<-hl];exact h1) (by simpa using ew) ⟨rfl,fin⟩) hs
theorem lQ:Bc X rIxS:=by
 intro value slice pins s σ H x y v u Q I rx ry h hs;obtain⟨z,i,c,rfl,rfl,hz,he,q⟩:=h;obtain⟨t,rfl⟩:=rx;obtain⟨t',rfl⟩:=ry;obtain⟨j,h1,h2,h3,h4,h5⟩:=mE he;have hl:z.cps.toList.length=z.length:=by simp[Str.length]
 rw[hl] at h1 h4 h5;have hn:=iY;exact tail_any (typeIs_str s z t) slot_str_getitem.lookup (getItem_str (c:=c) (by
  have e1:decide (i < -(2 ^ 63:Int))=false:=bj (by omega);have e2:decide (i ≥ 2 ^ 63)=false:=bj (by omega);rw[e1,e2,Bool.or_false]) (by rw[h1];simpa using h2) ⟨.str ⟨#[c]⟩,H,I.tok _,⟨_,rfl⟩,q⟩) hs
theorem ml (lo hi:Option Int)(n:Nat):(sliceBounds lo hi none n).1=((HT.bI n 0 lo:Nat):Int)/\(sliceBounds lo hi none n).2.1=((HT.bI n n hi:Nat):Int)/\(sliceBounds lo hi none n).2.2=1:=by
 refine⟨?_,?_,rfl⟩
 ·cases lo with
  |none=>simp[sliceBounds,HT.bI]
  |some i =>
   simp only[sliceBounds,HT.bI,Option.getD_none,show (1:Int) > 0 by decide,if_true];by_cases h:i<0
   ·simp only[h,if_true]<;>omega
   ·simp only[h,if_false]<;>omega
 ·cases hi with
  |none=>simp[sliceBounds,HT.bI]
  |some i =>
   simp only[sliceBounds,HT.bI,Option.getD_none,show (1:Int) > 0 by decide,if_true];by_cases h:i<0
   ·simp only[h,if_true]<;>omega
   ·simp only[h,if_false]<;>omega
theorem kD (its:List Value)(lo hi:Option Int):slicePick its.toArray lo hi none=((its.drop (HT.bI its.length 0 lo)).take (HT.bI its.length its.length hi - HT.bI its.length 0 lo)).toArray:=by
 obtain⟨h1,h2,h3⟩:=ml lo hi its.toArray.size;unfold slicePick;rw[h1,h2,h3];simp only[sliceRange_one,pick_run,List.size_toArray]<;>rfl
def rSlL (K:PySem.W.Frag):V->Option Int->Option Int->Hp->VK->Prop:=fun x lo hi H Q=>∃ a xs,x = .ref a/\ig K H a xs/\∀ p,H p=none->Q (.ref p) (upd H p (.lst (kB xs lo hi)))
theorem wW:yz X (rSlL X.K):=by
 intro pins s σ H x v vl vu lo hi sl Q I rx hs pl pu h;obtain⟨a,xs,rfl,hx,q⟩:=h;cases rx;obtain⟨its,r,ht,hz⟩:=I.list hx;have hlen:=r.length;refine⟨"list",_,slot_list_getitem.lookup,ht.isList.typeIs,?_⟩;refine wpAny_getItem_list_slice ht.isList hs pl pu .none (by simp) ?_ (by rw[List.size_toArray]<;>omega);rw[kD,<-hlen];refine⟨.ref s.heap.objs.size,_,I.laid (t':=s.toks) (o:=.lst (kB xs lo hi)) (fun b ob q=>Heap.get?_push_of_some _ q) (aq _) ?_,rfl,q _ (I.hok.fresh (aq _))⟩;exact⟨bc (jl xs lo hi) hz,_,0,(r.drop (HT.bI xs.length 0 lo)).take (HT.bI xs.length xs.length hi - HT.bI xs.length 0 lo),Heap.get?_push_size _ rfl⟩
noncomputable def gI:V->Bool
 |.non=>true
 |.bl _=>true
 |.int _=>true
 |.str _=>true
 |_=>false
noncomputable def vI:V->V->Bool
 |.non,.non=>true
 |.bl a,.bl b=>a==b
 |.bl a,.int b=>(if a then 1 else 0)==b
 |.int a,.bl b=>a==(if b then 1 else 0)
 |.int a,.int b=>a==b
 |.str a,.str b=>a==b
 |_,_=>false
theorem AS {A:Around}{s:Shared}{y x:V}{u v:Value}(ry:RelV y u)(rx:RelV x v)(fy:gI y=true)(fx:gI x=true):SeqAt.EqAt A s u v (vI y x):=by
 cases y with
 |non =>
  cases ry;cases x with
  |non=>cases rx;exact SeqAt.EqAt.same _
  |bl b=>cases rx;exact SeqAt.EqAt.none_bool b
  |int b=>obtain⟨t,rfl⟩:=rx;exact SeqAt.EqAt.none_int b t
  |str b=>obtain⟨t,rfl⟩:=rx;exact SeqAt.EqAt.none_str b t
  |_=>exact absurd (show false=true from fx) av
 |bl a =>
  cases ry;cases x with
  |non=>cases rx;exact SeqAt.EqAt.bool_none a
  |bl b=>cases rx;exact SeqAt.EqAt.bool_bool a b
  |int b=>obtain⟨t,rfl⟩:=rx;exact SeqAt.EqAt.bool_int a b t
  |str b=>obtain⟨t,rfl⟩:=rx;exact SeqAt.EqAt.bool_str a b t
  |_=>exact absurd (show false=true from fx) av
 |int a =>
  obtain⟨t',rfl⟩:=ry;cases x with
  |non=>cases rx;exact SeqAt.EqAt.int_none a t'
  |bl b=>cases rx;exact SeqAt.EqAt.int_bool a t' b
  |int b=>obtain⟨t,rfl⟩:=rx;exact SeqAt.EqAt.int_int a t' b t
  |str b=>obtain⟨t,rfl⟩:=rx;exact SeqAt.EqAt.int_str a t' b t
  |_=>exact absurd (show false=true from fx) av
 |str a =>
  obtain⟨t',rfl⟩:=ry;cases x with
  |non=>cases rx;exact SeqAt.EqAt.str_none a t'
  |bl b=>cases rx;exact SeqAt.EqAt.str_bool a t' b
  |int b=>obtain⟨t,rfl⟩:=rx;exact SeqAt.EqAt.str_int a t' b t
  |str b=>obtain⟨t,rfl⟩:=rx;exact SeqAt.EqAt.str_str a t' b t
  |_=>exact absurd (show false=true from fx) av
 |_=>exact absurd (show false=true from fy) av
noncomputable def oY (x:V)(u:Value):Bool:=match u with
 |.none=>vI .non x
 |.bool b=>vI (.bl b) x
 |.int i _=>vI (.int i) x
 |.str z _=>vI (.str z) x
 |_=>false
theorem vf {x y:V}{u:Value}(r:RelV y u)(f:gI y=true):oY x u=vI y x:=by
 cases y with
 |non=>cases r;rfl
 |bl b=>cases r;rfl
 |int i=>obtain⟨t,rfl⟩:=r;rfl
 |str z=>obtain⟨t,rfl⟩:=r;rfl
 |_=>exact absurd (show false=true from f) av
theorem iI {x:V}:∀{xs:List V}{us:List Value},aK xs us->xs.all gI=true->us.any (oY x)=xs.any fun y=>vI y x
 |_,_,.nil,_=>rfl
 | y::xs,u::us,.cons r t,f=>by
  rw[cv,ah] at f;rw[dw,dw,vf r f.1,iI t f.2]
theorem gy {A:Around}{s:Shared}{x:V}{v:Value}(rx:RelV x v)(fx:gI x=true):∀{xs:List V}{us:List Value},aK xs us->xs.all gI=true->∀ u∈us,SeqAt.EqAt A s u v (oY x u)
 |_,_,.nil,_=>fun u hu=>by cases hu
 | y::xs,u::us,.cons r t,f=>fun u' hu=>by
  rw[cv,ah] at f;rcases bw.mp hu with rfl | hu
  ·rw[vf r f.1];exact AS r rx f.1 fx
  ·exact gy rx fx t f.2 u' hu
noncomputable def inV (x:V)(xs:List V):Bool:=xs.any fun y=>vI y x
noncomputable def rIn (K:PySem.W.Frag)(neg:Bool):R2:=fun x y H Q=>∃ p xs,y = .ref p/\(ig K H p xs\/il K H p xs)/\gI x=true/\xs.all gI=true/\Q (.bl (if neg then !inV x xs else inV x xs)) H
theorem kO:gv X (compareOp .In) (rIn X.K false):=by
 intro pins s σ H x y v u Q I rx ry h;obtain⟨p,xs,rfl,hq,fx,fs,q⟩:=h;cases ry;rcases hq with hq | hq
 ·obtain⟨its,r,pl,hz⟩:=I.list hq;refine SeqAt.in_listAt (oY x) pl.isList (fun w hw=>gy rx fx r fs w (by simpa using hw)) ⟨.bl _,H,I,rfl,?_⟩;rw[show its.toArray.any (oY x)=its.any (oY x) by simp,iI r fs];exact q
 ·obtain⟨its,r,pl,hz⟩:=I.tuple hq;refine SeqAt.in_tupleAt (oY x) pl (fun w hw=>gy rx fx r fs w (by simpa using hw)) ⟨.bl _,H,I,rfl,?_⟩;rw[show its.toArray.any (oY x)=its.any (oY x) by simp,iI r fs];exact q
theorem iQ:gv X (compareOp .NotIn) (rIn X.K true):=by
 intro pins s σ H x y v u Q I rx ry h;obtain⟨p,xs,rfl,hq,fx,fs,q⟩:=h;cases ry;rcases hq with hq | hq
 ·obtain⟨its,r,pl,hz⟩:=I.list hq;refine SeqAt.notIn_listAt (oY x) pl.isList (fun w hw=>gy rx fx r fs w (by simpa using hw)) ⟨.bl _,H,I,rfl,?_⟩;rw[show its.toArray.any (oY x)=its.any (oY x) by simp,iI r fs];exact q
 ·obtain⟨its,r,pl,hz⟩:=I.tuple hq;refine SeqAt.notIn_tupleAt (oY x) pl (fun w hw=>gy rx fx r fs w (by simpa using hw)) ⟨.bl _,H,I,rfl,?_⟩;rw[show its.toArray.any (oY x)=its.any (oY x) by simp,iI r fs];exact q
theorem mG:gv X (compareOp .NotIn) (fun x y H Q=>∃ i j,x = .str i/\y = .str j/\Q (.bl (!(!(Builtin.Str.occurrences j i 0 j.length 1).isEmpty))) H):=by
 intro pins s σ H x y v u Q I rx ry h;obtain⟨i,j,rfl,rfl,q⟩:=h;obtain⟨t,rfl⟩:=rx;obtain⟨t',rfl⟩:=ry;exact notIn_str ⟨.bl _,H,I,rfl,q⟩
theorem iJ:fL X (.builtin "len") (fun xs H Q=>∃ p ys,xs=[.ref p]/\(ig X.K H p ys\/il X.K H p ys)/\Q (.int ys.length) H):=by
 intro pins s σ H xs us Q I r h;obtain⟨p,ys,rfl,hq,q⟩:=h;obtain⟨u,rfl,rx⟩:=vals1 r;cases rx;have hn:=iY;rcases hq with hq | hq
 ·obtain⟨its,r',pl,hz⟩:=I.list hq;have hlen:=r'.length;exact Calls.call_len_list pl.isList (by simp only[List.size_toArray]<;>omega) ⟨.int ys.length,H,I.tok _,⟨s.toks+1,by rw[List.size_toArray,hlen]⟩,q⟩
 ·obtain⟨its,r',pl,hz⟩:=I.tuple hq;have hlen:=r'.length;exact len_tuple pl (by simp only[List.size_toArray]<;>omega) ⟨.int ys.length,H,I.tok _,⟨s.toks+1,by rw[List.size_toArray,hlen]⟩,q⟩
theorem mS:fL X (.builtin "len") (fun xs H Q=>∃ z,xs=[.str z]/\z.length<=sizeLine/\Q (.int z.length) H):=by
 intro pins s σ H xs us Q I r h;obtain⟨z,rfl,hz,q⟩:=h;obtain⟨u,rfl,t,rfl⟩:=vals1 r;have hn:=iY;exact len_str (by omega) ⟨.int z.length,H,I.tok _,⟨_,rfl⟩,q⟩
theorem iM:fL X (.type "list") (fun xs H Q=>∃ p ys,xs=[.ref p]/\(ig X.K H p ys\/il X.K H p ys)/\∀ l,H l=none->Q (.ref l) (upd H l (.lst ys))):=by
 intro pins s σ H xs us Q I r h;obtain⟨p,ys,rfl,hq,q⟩:=h;obtain⟨u,rfl,rx⟩:=vals1 r;cases rx;have fin:∀(its:List Value),aK ys its->ys.length<=sizeLine->∀(h':Heap) (c':Nat),(∀ b o',s.heap.get? b=some o'->h'.get? b=some o') ->
   h'.get? s.heap.objs.size=some { cls:=.type "list",dict:=none,data:=.seq its.toArray c',slots:=#[] }->EP X pins σ Q (.ref s.heap.objs.size) { s with heap:=h' }:=fun its r' hz h' c' kp e =>
  ⟨.ref s.heap.objs.size,_,I.laid (t':=s.toks) kp (aq _) (show bX X.prog X.w _ h' _ (.lst ys) from ⟨hz,its,c',r',e⟩),rfl,q _ (I.hok.fresh (aq _))⟩
 rcases hq with hq | hq
 ·obtain⟨its,r',pl,hz⟩:=I.list hq;have hlen:=r'.length;obtain⟨o,ho,hc,n,hd⟩:=pl.isList;exact call_list_seq p (.inl rfl) ho hc hd (fun h' c' kp e=>fin its r' hz h' c' kp e) (by simp only[List.size_toArray]<;>omega)
 ·obtain⟨its,r',pl,hz⟩:=I.tuple hq;have hlen:=r'.length;obtain⟨o,ho,hc,n,hd⟩:=pl;exact call_list_seq p (.inr rfl) ho hc hd (fun h' c' kp e=>fin its r' hz h' c' kp e) (by simp only[List.size_toArray]<;>omega)
def tyV (K:PySem.W.Frag)(T:String)(x:V)(H:Hp):Prop:=match x with
 |.str _=>T = "str"
 |.int _=>T = "int"
 | .ref p=>(T = "list"/\∃ xs,ig K H p xs)\/(T = "tuple"/\∃ o,K.lookup p=some o/\o.cls = .type "tuple"/\o.dict=none) \/
   (T = "dict"/\((∃ kvs,H p=some (.dK kvs))\/∃ kvs,H p=some (.dT kvs)))\/(T = "set"/\∃ S n,H p=some (.set S n))
 |_=>False
theorem vd {pins:List (Addr×Obj)}{σ:St}{H:Hp}{s:Shared}{T:String}{x:V}{v:Value}(I:Inv X pins σ H s)(r:RelV x v)(ty:tyV X.K T x H) :
  s.TypeIs v T/\∀ a,v = .ref a->∃ ob,s.heap.get? a=some ob/\ob.dict=none:=by
 cases x with
 |str z =>
  obtain⟨t,rfl⟩:=r;cases (show T = "str" from ty);exact⟨typeIs_str s z t,fun _ e=>nomatch e⟩
 |int i =>
  obtain⟨t,rfl⟩:=r;cases (show T = "int" from ty);exact⟨typeIs_int s i t,fun _ e=>nomatch e⟩
 |ref p =>
  cases r;rcases ty with ⟨rfl,xs,hq⟩ | ⟨rfl,o,hk,hc,hd⟩ | ⟨rfl,hk⟩ | ⟨rfl,S,n,hk⟩
  ·obtain⟨its,_,pl,_⟩:=I.list hq;refine⟨pl.isList.typeIs,fun a e=>?_⟩;cases e;obtain⟨o,n,e,c,hd,_⟩:=pl;exact⟨o,e,hd⟩
  ·refine⟨⟨o,I.kIn p o hk,hc⟩,fun a e=>?_⟩;cases e;exact⟨o,I.kIn _ o hk,hd⟩
  ·have z:∃ o,s.heap.get? p=some o/\o.ExactDict:=by
    rcases hk with ⟨kvs,hk⟩ | ⟨kvs,hk⟩
    ·obtain⟨_,_,_,_,o,_,_,e,ex,_⟩:=I.hok p _ hk;exact⟨o,e,ex⟩
    ·obtain⟨_,_,_,_,o,_,_,e,ex,_⟩:=I.hok p _ hk;exact⟨o,e,ex⟩
   obtain⟨o,e,ex⟩:=z;refine⟨⟨o,e,ex.1⟩,fun a e2=>?_⟩;cases e2;exact⟨o,e,ex.2.1⟩
  ·obtain⟨o,_,_,_,e,ex,_⟩:=I.hok p _ hk;refine⟨⟨o,e,ex.1⟩,fun a e2=>?_⟩;cases e2;exact⟨o,e,ex.2.1⟩
 |_=>exact False.elim ty
def By (K:PySem.W.Frag)(T:String)(r:V->List V->Hp->VK->Prop)(to:TE):TE:=fun σ H Q=>to σ H fun x H1=>tyV K T x H1/\r x [] H1 Q
def tBM (K:PySem.W.Frag)(T:String)(r:V->List V->Hp->VK->Prop)(to:TE)(t:TA):TE:=fun σ H Q=>to σ H fun x H1=>tyV K T x H1/\t σ H1 fun xs H2=>r x xs H2 Q
variable {o e:Expr}{es:List Expr}{to:TE}{t:TA}{name:Str}{apos cpos:Pos}{T id:String}{r:V->List V->Hp->VK->Prop}
theorem zN (pa:PlainAttrs T)(slot:Slot T name id)(hty:typeOf (.builtin id)=pure (.type "method_descriptor")) (hm:Bj X id r) (ho:PE X o to)
  (hbase:attributeBase o name X.env (eval o X.env)=eval o X.env:=by rfl) (hline:(apos.endLine==cpos.line)=true:=by rfl):PE X (.Call (.Attribute o name apos) [] [] cpos) (By X.K T r to):=by
 intro pins s σ H Q I h;refine wpAny_Call_method0_late hbase hline (cN (ho pins s σ H _ I h) fun v s1 ⟨x,H1,I1,r1,ty,q1⟩=>?_);obtain⟨h1,h2⟩:=vd I1 r1 ty;exact⟨T,id,pa,slot,hty,h1,h2,Calls.callWith_builtin rfl (PySem.evalArgs_none (hm pins s1 σ H1 x [] v [] Q I1 r1 .nil q1))⟩
theorem qb (pa:PlainAttrs T)(slot:Slot T name id)(hty:typeOf (.builtin id)=pure (.type "method_descriptor")) (hm:Bj X id r) (ho:PE X o to) (ha:PA X (e::es) t)
  (hbase:attributeBase o name X.env (eval o X.env)=eval o X.env:=by rfl)
  (hfew:((backTo cpos (starEach (e::es) X.env)).all (fun x=>!x.1)&&(backToKw cpos (keywordEach [] X.env)).all (fun x=>x.1.isSome)
   && decide ((e::es).length+([]:List Keyword).length+(if ([]:List Keyword).isEmpty then 0 else 1)<30))=true:=by rfl)
  (hline:(apos.endLine==cpos.line)=true:=by rfl) (hs:starEach (e::es) X.env=(false,eval e X.env)::starEach es X.env:=by rfl) (hplain:(backTo cpos (starEach es X.env)).any (·.1)=false:=by rfl) :
  PE X (.Call (.Attribute o name apos) (e::es) [] cpos) (tBM X.K T r to t):=by
 intro pins s σ H Q I h;refine wpAny_Call_method_late hbase hfew hline rfl (cN (ho pins s σ H _ I h) fun v s1 ⟨x,H1,I1,r1,ty,q1⟩=>?_);obtain⟨h1,h2⟩:=vd I1 r1 ty;refine⟨T,id,pa,slot,hty,h1,h2,?_⟩;have hA:=ha cpos pins s1 σ H1 _ I1 q1;rw[hs] at hA ⊢;refine Calls.callWith_builtin (by show (false || (backTo cpos (starEach es X.env)).any (·.1))=false;rw[hplain]<;>rfl) (Calls.evalArgs_plain ?_);exact cN hA fun us s2 ⟨vs,H2,I2,r2,q2⟩=>hm pins s2 σ H2 x vs v us Q I2 r1 r2 q2
end
end L2
namespace L2
open PySem PySem.Spec PyProof.Rows
noncomputable def MtM (X:Cx)(id:String)(r:V->List V->Hp->VK->Prop):Prop :=
 ∀(pins:List (Addr×Obj)) (s:Shared) (σ:St) (H:Hp) (x:V) (xs:List V) (v:Value) (us:List Value) (Q:VK),Inv X pins σ H s->RelV x v->aK xs us->r x xs H Q ->
  wpAny (model X.prog X.w) X.A (call (.builtin id) (v::us)) (EP X pins σ Q) X.xe s
theorem aK.one:∀{x:V}{us:List Value},aK [x] us->∃ u,us=[u]/\RelV x u
 |_,_,.cons r .nil=>⟨_,rfl,r⟩
theorem aK.two:∀{x y:V}{us:List Value},aK [x,y] us->∃ u v,us=[u,v]/\RelV x u/\RelV y v
 | _,_,_,.cons r (.cons q .nil)=>⟨_,_,rfl,r,q⟩
theorem aK.rep {xs:List V}{us:List Value}(h:aK xs us):∀ k:Nat,aK (List.replicate k xs).flatten (List.replicate k us).flatten
 |0=>.nil
 | k+1=>by
  rw[cz,cz,cy,cy];exact aK.append h (aK.rep h k)
theorem foldl_rep (its:List Value):∀(k:Nat) (acc:List Value),
  List.foldl (fun x1 x2=>x1++x2) acc.toArray (List.replicate k its.toArray)=(acc++(List.replicate k its).flatten).toArray
 |0,acc=>by simp
 | k+1,acc=>by
  have e:acc.toArray++its.toArray=(acc++its).toArray:=by simp
  have e2:(acc++its)++(List.replicate k its).flatten=acc++(List.replicate (k+1) its).flatten:=by
   rw[cz,cy,dg]
  rw[<-e2,<-foldl_rep its k (acc++its),<-e,cz,List.foldl_cons]
section
variable {X:Cx}{pins:List (Addr×Obj)}{σ:St}{H:Hp}{s:Shared}{l b:Addr}{xs ys zs:List V}
theorem Inv.lset {its its':List Value}{n:Nat}{f:Array Value->Array Value}{t':Nat}(I:Inv X pins σ H s)(hH:H l=some (.lst xs))
  (e:s.heap.get? l=some { cls:=.type "list",data:=.seq its.toArray n }) (hf:f its.toArray=its'.toArray) (hv:aK ys its') (hz:ys.length<=sizeLine) :
  Inv X pins σ (upd H l (.lst ys)) { s with heap:=s.heap.update l (Obj.mapSeq f),toks:=t' }:=by
 have q:=PySem.IsL.update e f;rw[hf] at q;refine I.write (x:=l) (e:=l) (by rw[hH];exact trivial) (.inl rfl) (fun b' u hb hu=>(Heap.get?_update_other s.heap (Obj.mapSeq f) (cj hb)).trans hu) ⟨_,q⟩ ?_;exact⟨hz,its',_,hv,q⟩
theorem Inv.lnew {its:List Value}{t':Nat}(I:Inv X pins σ H s)(hv:aK ys its)(hz:ys.length<=sizeLine) :
  Inv X pins σ (upd H s.heap.objs.size (.lst ys)) { s with heap:=s.heap.push { cls:=.type "list",data:=.seq its.toArray },toks:=t' } :=
 I.laid (fun _ _ q=>Heap.get?_push_of_some _ q) (aq _) ⟨hz,its,0,hv,Heap.get?_push_size _ rfl⟩
theorem Inv.fresh (I:Inv X pins σ H s):H s.heap.objs.size=none:=I.hok.fresh (aq _)
theorem Inv.lstM (I:Inv X pins σ H s)(hH:H l=some (.lst xs)):xs.length<=sizeLine/\∃(its:List Value) (n:Nat),aK xs its/\xs.length=its.length/\s.heap.get? l=some { cls:=.type "list",data:=.seq its.toArray n }:=by
 obtain⟨z,its,n,r,e⟩:=I.hok l _ hH;exact⟨z,its,n,r,r.length,e⟩
theorem tZ {n:Nat}(h:n<=sizeLine):Builtin.List.listTooLong n=false:=by
 unfold Builtin.List.listTooLong;exact bj (by omega)
end
section
variable {X:Cx}
def wo:V->List V->Hp->VK->Prop:=fun x vs H Q=>∃ l xs y,x = .ref l/\vs=[y]/\H l=some (.lst xs)/\xs.length<sizeLine/\Q .non (upd H l (.lst (xs ++ [y])))
theorem kQ:MtM X "list.append" wo:=by
 intro pins s σ H x vs v us Q I rx rv h;obtain⟨l,xs,y,rfl,rfl,hH,hz,q⟩:=h;cases rx;obtain⟨u,rfl,ru⟩:=rv.one;obtain⟨z,its,n,r,hl,e⟩:=I.lstM hH;refine call_meets F.slot_list_append ⟨_,e,rfl⟩ F.entry_list_append (F.args_list_append_2 _ _) (PySem.list_append l its.toArray n u (by rw[ao];omega)) ⟨e,?_⟩;refine⟨.non,_,I.lset (its':=its ++ [u]) hH e (by simp) (r.append (.cons ru .nil)) ?_,rfl,q⟩;rw[aw,bp];omega
theorem len_rep {α:Type}(xs:List α)(k:Nat):(List.replicate k xs).flatten.length=k*xs.length:=by
 induction k with
 |zero=>simp
 |succ k ih=>rw[cz,cy,aw,ih,Nat.succ_mul,Nat.add_comm]
end
section
variable {prog:Program}{w:World}{A:Around}{E:Value->Shared->Prop}{s:Shared}
end
section
variable {X:Cx}
end
end L2
namespace xA
open PySem PySem.W PySem.Calls PyProof.Rows
theorem ju {P:Params}{h:Heap}:∀(ns:List Int) (vs:List Value),WellAll P h vs (ns.map WData.int)->IntsAre vs ns:=by
 intro ns
 induction ns with
 |nil =>
  intro vs w;rw[List.map_nil] at w;cases w;exact .nil
 |cons n ns ih =>
  intro vs w;rw[ax] at w;cases w with
  |cons a b =>
   cases a;exact .cons _ _ (ih _ b)
theorem rQ {l:OpenLaw}{n:Nat}(hn:l.most=some n){P:Params}{h:Heap}{args:List WData}{vals:List Value}
  (hpre:l.row.toRowW.claim.pre args=true) (hwl:WellAll P h vals args) :
  ∃ a vs ns,vals=[Value.ref a]/\args=[WData.list (ns.map WData.int)]/\h.get? a=some { cls:=.type "list",data:=.seq vs.toArray }/\IntsAre vs ns/\ns.length<=n:=by
 have hsh:WShape.hasAll [] args [.list .int]=true:=(pre_splitW hpre).1;have hc:l.pre.holds [] { args:=args }=true:=(pre_splitW hpre).2;obtain⟨d,r,rfl,h1,h2⟩:=hasAllW_cons hsh;obtain rfl:=hasAllW_nil h2;obtain⟨xs,rfl,h3⟩:=hasW_list h1;obtain⟨ns,rfl⟩:=items_int h3;have hlen:ns.length<=n:=by
  unfold OpenLaw.pre at hc;have h4:(WTm.not (.lt (.lit (.int (n:Int))) (.len (.arg 0)))).holds [] { args:=[.list (ns.map .int)] }=true:=by
   have h4:=(holds_andW hc).1;rw[hn] at h4;exact h4
  have h5:=condW_of h4 (w_not (w_lt w_lit (w_len_list (w_arg rfl))));rw[aj] at h5;refine gc fun q=>?_
  have q':(n:Int)<((ns.length:Nat):Int):=by omega
  first
   | (rw[cw q'] at h5;exact absurd h5 (by decide))
   | (simp at h5;omega)
 cases hwl with
 |cons w1 w2 =>
  cases w2;cases w1 with
  |list ho hall=>exact⟨_,_,ns,rfl,rfl,ho,ju ns _ hall,hlen⟩
theorem rP (l:OpenLaw)(args:List WData):l.row.toRowW.claim.post args (.bool true) args=true :=
 postW_of (r:=l.row.toRowW) (X:=(true==true))
  (show WShape.has [] (.bool true) .bool=true by first | rfl | decide | simp[WShape.has,WShape.arms,WShape.armsAll])
  (show (WTm.eq .res (.lit (.bool true))).value [] { args:=args,res:=some (.bool true),after:=args }=some (.bool (true==true)) from w_eq_bool (w_res rfl) w_lit) rfl
theorem m8 {l:OpenLaw}{n:Nat}{q:Program}{loose:List Str}{XP:(Str->Option Value)->Heap->Prop}{YP:World->Heap->Prop}{d:DefRec}
  (hn:l.most=some n) (hdf:d.params.defaults=[])
  (call:∀(w:World) (s₀ s₁:Shared) (mg mb:Str->Option Value) (fa:Addr) (o:Obj) (pm cd doc:Value) (a:Addr) (vs:List Value) (ns:List Int),
   Ground q loose [] XP w s₀ mg mb s₁.heap->YP w s₁.heap ->
   s₁.heap.get? fa=some o->o.data = .func (docDef d.name d.params d.body d.scope pm cd doc)->s₁.heap.CodeRec cd d.name->mg d.name=some (.ref fa) ->
   s₁.heap.get? a=some { cls:=.type "list",data:=.seq vs.toArray }->IntsAre vs ns->ns.length<=n->s₁.gens = #[] ->
   codeAny (model l.prog w) callerA (.call (.ref fa) ⟨[.ref a],[]⟩) (fun r s'=>r = .ok (.ret (.bool true))/\OldK s₁.heap s'.heap/\s'.os=s₁.os/\AllBare s'.gens) s₁) :
  WalkO q loose XP YP l.row.toRowW d [] (fun f vs=>PySem.call f vs):=by
 intro w s₀ s₁ mg mb G Y fa o pm cd doc dV kV ho hd hcd hD hmg hg args vals as hpre hlay hrd hwl hlo;obtain rfl:dV = .none:=Dflts.none hD hdf;obtain rfl:kV = .none:=Dflts.noKw hD;obtain⟨a,vs,ns,rfl,rfl,hobj,hints,hlen⟩:=rQ hn hpre hwl;refine enter_call (codeAny_mono (call w s₀ s₁ mg mb fa o pm cd doc a vs ns G Y ho (fd_plain hd) hcd hmg hobj hints hlen hg) fun r s' hq=>?_);obtain⟨rfl,h2,h3,h4⟩:=hq;exact⟨.inl ⟨.bool true,.bool true,[],rfl,fun _=>rfl,.bool true,rP l _,fun _=>⟨List.Pairwise.nil,fun _ hm=>(nomatch hm)⟩⟩,h2,h3,h4⟩
section
variable {prog:Program}{w:World}{A:Around}{E:Value->Shared->Prop}{s:Shared}{K:Frag}
noncomputable def mi (h:Heap):Heap:={ h with objs:=#[] }
theorem kg (h:Heap)(b:Addr):(mi h).get? b=none:=by
 cases e:(mi h).get? b with
 |none=>rfl
 |some o=>exact absurd (Heap.lt_size e) (Nat.not_lt_zero _)
noncomputable def ledger (h:Heap)(L d:Addr):List (Addr×Obj):=(List.range h.objs.size).filterMap fun a=>if a=L\/a=d then none else (h.get? a).map fun o=>(a,o)
theorem jQ {h:Heap}{L d a:Addr}{o:Obj}:(a,o)∈ledger h L d↔a≠L/\a≠d/\h.get? a=some o:=by
 unfold ledger;rw[List.mem_filterMap];constructor
 ·rintro⟨b,_,e⟩;split at e
  ·cases e
  ·rename_i hb;obtain⟨o',ho,e'⟩:=aa.mp e;cases e';exact⟨fun q=>hb (.inl q),fun q=>hb (.inr q),ho⟩
 ·rintro⟨n1,n2,ho⟩;refine⟨a,List.mem_range.mpr (Heap.lt_size ho),?_⟩;rw[if_neg (show ¬ (a=L\/a=d) from fun q=>q.elim n1 n2),ho]<;>rfl
theorem zk {h:Heap}{L:Addr}{m:Str->Option Value}(n:h.Ns L m):Fr (mi h) L h m :=
 ⟨n,fun b o e=>(by rw[kg] at e;cases e),cx _⟩
end
end xA
namespace L2
open PySem PySem.Spec PyProof.Rows
theorem kP:∀{vs:List Value}{ns:List Int},IntsAre vs ns->aK (ns.map V.int) vs
 |_,_,.nil=>.nil
 |_,_,.cons n t h=>.cons ⟨t,rfl⟩ (kP h)
def zy (H:Hp):Prop:=∀ b,H b=none\/∃ o xs,H b=some (.frz o (.lst xs))
theorem tH {P:Program}{w:World}{K:PySem.W.Frag}{mg mb:Str->Option Value}{CX:nz}{k:Nat}{fa a:Addr}{fd:FuncData}{x:Str}{sp:Sp}{s₁:Shared}{vs:List Value}{ns:List Int}
  (KX:K.In s₁.heap) (hns:s₁.heap.Ns mainGlobals mg) (hb:s₁.heap.Ns builtinsNs mb) (hbb:∀ x:Str,x≠"__name__"->mb x=bootBuiltins x) (hlim:s₁.heap.NoLimit) (hg:s₁.gens = #[])
  (ha:s₁.heap.get? a=some { cls:=.type "list",data:=.seq vs.toArray }) (hi:IntsAre vs ns) (hl:ns.length<=sizeLine) (hr:eE k callerA)
  (F:∀ base:Heap,K.In base->base.Ns mainGlobals mg->i8 P w K mg base CX k fa fd [x] sp) (hbind:∀(s:Shared) (u:Value),BindsTo s fd ⟨[u],[]⟩ [(x,u)])
  (hsp:∀ H:Hp,zy H->ig K H a (ns.map V.int)->sp [.ref a] H (fun v _=>v = .bl true) fun _ _ _=>False)
  (hCX:∀ H e s',CX [] H s₁ (fun _ _ _=>False) e s'->False) :
  codeAny (model P w) callerA (.call (.ref fa) ⟨[.ref a],[]⟩) (fun r s'=>r = .ok (.ret (.bool true))/\OldK s₁.heap s'.heap/\s'.os=s₁.os/\AllBare s'.gens) s₁:=by
 have rv:=kP hi;have lenV:=hi.length;have core:∀ H:Hp,zy H->ig K H a (ns.map V.int)->g9 P w H s₁.heap->(∀ b,H b≠none->b=a)->(H a≠none->K.lookup a=none) ->
   codeAny (model P w) callerA (.call (.ref fa) ⟨[.ref a],[]⟩) (fun r s'=>r = .ok (.ret (.bool true))/\OldK s₁.heap s'.heap/\s'.os=s₁.os/\AllBare s'.gens) s₁:=by
  intro H hO hS hok hA hK;have base_of:∀{b:Addr}{o:Obj},s₁.heap.get? b=some o->H b=none->(lT s₁.heap H).get? b=some o:=fun e n=>uO e n
  have noA:∀{b:Addr}{o:Obj}{es:Array DictEntry}{ep:Nat},s₁.heap.get? b=some o->o.data = .dict es ep->H b=none:=fun {b o es ep} e d=>by
   cases q:H b with
   |none=>rfl
   |some u =>
    have e':b=a:=hA b (by rw[q];simp);subst e';rw[ha] at e;cases e;have d':Data.seq vs.toArray _=Data.dict es ep:=d;cases d'
  have nsK:∀{b:Addr}{m:Str->Option Value},s₁.heap.Ns b m->(lT s₁.heap H).Ns b m:=fun {b m} ⟨o,es,ep,e,d,r⟩=>⟨o,es,ep,base_of e (noA e d),d,r⟩
  have hKb:K.In (lT s₁.heap H):=fun b o e=>base_of (KX b o e) (by
   cases q:H b with
   |none=>rfl
   |some u =>
    have e':b=a:=hA b (by rw[q];simp);subst e';rw[hK (by rw[q];simp)] at e;cases e)
  have hM:Mod K mg (lT s₁.heap H):=⟨hKb,nsK hns,⟨mb,nsK hb,hbb⟩,let ⟨mc,h1,h2⟩:=hlim;⟨mc,nsK h1,h2⟩⟩;have e0:t6 P w K mg (lT s₁.heap H) callerA [] s₁ H:=⟨rfl,hM,fun b o e=>wm e,Nat.le_of_eq (rD _ _),trivial,fun b hb=>absurd (show b∈([]:List Addr) from hb) (by simp),hok,.of_eq hg⟩;refine codeAny_mono ((F _ hKb (nsK hns)).run callerA [] s₁ H ⟨[.ref a],[]⟩ [.ref a] [.ref a] _ _ hr e0 (hbind s₁ (.ref a)) (.cons rfl .nil) (hsp H hO hS)) fun r s' h=>?_
  cases r with
  |error e=>exact (hCX H e s' h).elim
  |ok fl =>
   cases fl with
   |next=>exact False.elim h
   |brk=>exact False.elim h
   |cont=>exact False.elim h
   |ret u =>
    obtain⟨v,H',os,bare,un,hok',r',q⟩:=h;have q':v = .bl true:=q;subst q';obtain rfl:u=Value.bool true:=r';refine⟨rfl,OldK.of_keep fun b o e=>?_,os,bare⟩;cases q:H b with
    |none=>exact un.keep b o e q (by intro z;exact absurd (show b∈([]:List Addr) from z) (by simp)) (by simp)
    |some u =>
     rcases hO b with z | ⟨ob,xs,z⟩
     ·rw[q] at z;cases z
     ·have z2:=un.frzs b ob _ z;obtain⟨e1,_⟩:=hok b _ z;obtain⟨e2,_⟩:=hok' b _ z2;rw[e] at e1;cases e1;exact e2
 cases hk:K.lookup a with
 |some o =>
  have e:=KX a o hk;rw[ha] at e;cases e;refine core (fun _=>none) (fun _=>.inl rfl) (.inr ⟨_,vs.toArray,_,hk,rfl,rfl,rfl,by rw[List.size_toArray,lenV];exact hl,by simpa using rv⟩) (fun b u z=>by have z':(none:Option HO)=some u:=z;cases z') (fun b z=>absurd rfl z) fun z=>absurd rfl z
 |none =>
  refine core (fun b=>if b=a then some (.frz { cls:=.type "list",data:=.seq vs.toArray } (.lst (ns.map V.int))) else none) (fun b=>?_) (.inl (.inr ⟨{ cls:=.type "list",data:=.seq vs.toArray },if_pos rfl⟩)) (fun b u z=>?_) (fun b z=>?_) fun _=>hk
  ·by_cases hb:b=a
   ·exact .inr ⟨_,_,if_pos hb⟩
   ·exact .inl (if_neg hb)
  ·by_cases hb:b=a
   ·have z':=(if_pos hb).symm.trans z;cases z';subst hb;exact⟨ha,by rw[aj];exact hl,vs,_,rv,ha⟩
   ·have z':=(if_neg hb).symm.trans z;cases z'
  ·by_cases hb:b=a
   ·exact hb
   ·exact absurd (if_neg hb) z
end L2
namespace L2
open PySem PySem.Spec PyProof.Rows
theorem wg {l:PySem.W.OpenLaw}{n k:Nat}{q:Program}{loose:List Str}{XP:(Str->Option Value)->Heap->Prop}{YP:World->Heap->Prop}{d:DefRec}{K:Params->PySem.W.Frag}{CX:World->nz}{sp:World->Sp}{x:Str}
  (hn:l.most=some n) (hn2:n<=sizeLine) (hdf:d.params.defaults=[]) (hr:eE k callerA)
  (hY:∀(w:World) (h:Heap),YP w h->(K w.params).In h)
  (F:∀(w:World) (mg:Str->Option Value) (fa:Addr) (h:Heap),(K w.params).In h->h.Ns mainGlobals mg->mg d.name=some (.ref fa) ->
   ∃ fd:FuncData,(∀(s:Shared) (u:Value),BindsTo s fd ⟨[u],[]⟩ [(x,u)]) /\
    ∀ base:Heap,(K w.params).In base->base.Ns mainGlobals mg->i8 l.prog w (K w.params) mg base (CX w) k fa fd [x] (sp w))
  (hsp:∀(w:World) (H:Hp) (a:Addr) (ns:List Int),ns.length<=n->zy H->ig (K w.params) H a (ns.map V.int)->sp w [.ref a] H (fun v _=>v = .bl true) fun _ _ _=>False)
  (hCX:∀(w:World) (H:Hp) (s:Shared) (e:Value) (s':Shared),CX w [] H s (fun _ _ _=>False) e s'->False) :
  PySem.W.WalkO q loose XP YP l.row.toRowW d [] (fun f vs=>PySem.call f vs):=by
 refine xA.m8 hn hdf fun w s₀ s₁ mg mb fa o pm cd doc a vs ns G Y ho hd hcd hmg hobj hints hlen hg=>?_
 have KX:=hY w _ Y;obtain⟨fd,hb,hF⟩:=F w mg fa _ KX G.T.g hmg;exact tH KX G.T.g G.T.b G.T.builtins G.T.nolimit hg hobj hints (bc hlen hn2) hr hF hb (fun H hO hS=>hsp w H a ns hlen hO hS) fun H e s'=>hCX w H s₁ e s'
end L2
namespace L2
open PySem PySem.Spec PyProof.Rows
noncomputable def cU (s:Stmt):Arguments:=match s with
 |.FunctionDef _ a _ _ _ _ _ _ _ _=>a
 |_=>{ posonlyargs:=[],args:=[],vararg:=none,kwonlyargs:=[],kw_defaults:=[],kwarg:=none,defaults:=[] }
noncomputable def aY (s:Stmt):List Stmt:=match s with
 |.FunctionDef _ _ b _ _ _ _ _ _ _=>b
 |_=>[]
noncomputable def aB (s:Stmt):Scope:=match s with
 |.FunctionDef _ _ _ _ _ _ sc _ _ _=>sc
 |_=>{ kind:=.function,names:=[],isGenerator:=false,isCoroutine:=false }
noncomputable abbrev nT:nz:=fun _ _ _ _ _ _=>False
noncomputable abbrev E0:XK:=fun _ _ _=>False
theorem yy {X:Cx}:mj nT X E0:=fun _ _ _ _ _ _ _ h=>h.elim
structure qJ (K:PySem.W.Frag)(x qual:Str)(st:Stmt)(f:Addr)(fd:FuncData):Prop where
 ex:∃(oc:Value) (od:Option Addr) (kV doc pm:Value) (an:Option Addr) (cdv ct:Value) (osl:Array (Option Value)),
  fd=PySem.W.fnOf x qual (cU st) (aY st) (aB st) .none kV doc pm an cdv ct/\K.lookup f=some ⟨oc,od,.func fd,osl⟩/\PySem.W.codeIn K cdv qual=true
 kp:PySem.W.keepIn K (.ref f)=true
section
variable {P:Program}{w:World}{K:PySem.W.Frag}{mg:Str->Option Value}{base:Heap}
theorem qJ.ok {x qual:Str}{st:Stmt}{f:Addr}{fd:FuncData}{N ps:List Str}{k:Nat}{sp:Sp}(F:qJ K x qual st f fd)(S:cH N ps (aB st))(len:∀ vs H Q E,sp vs H Q E->vs.length=ps.length)
  (hbody:∀(cdv:Value) (A:Around) (outer:List Env) (s:Shared) (H:Hp) (vs:List V) (Q:VK) (E:XK),eE k (A.deeper (envOfC qual (aB st) s.heap.objs.size f cdv))->sp vs H Q E ->
   ∃ t,ip (dG nT P w K mg base N qual (aB st) f cdv A outer s H E).nox (aY st) t/\t { nx:=fun _ H'=>Q .non H',rt:=Q } (start N vs) H):i8 P w K mg base nT (k+1) f fd ps sp:=by
 obtain⟨oc,od,kV,doc,pm,an,cdv,ct,osl,rfl,lk,hcd⟩:=F.ex;refine BY lk hcd S len fun A outer s H vs Q E hr hsp=>?_
 obtain⟨t,h,q⟩:=hbody cdv A outer s H vs Q E hr hsp;exact⟨t,h.nox,q⟩
theorem qJ.binds {x qual:Str}{st:Stmt}{f:Addr}{fd:FuncData}{ps:List Str}(F:qJ K x qual st f fd)
  (h:∀(kV doc pm:Value) (an:Option Addr) (cdv ct:Value) (us:List Value),us.length=ps.length->bindArgs (PySem.W.fnOf x qual (cU st) (aY st) (aB st) .none kV doc pm an cdv ct) ⟨us,[]⟩=pure (ps.zip us)):Binds K fd ps []:=by
 obtain⟨oc,od,kV,doc,pm,an,cdv,ct,osl,rfl,lk,hcd⟩:=F.ex;exact .all (h kV doc pm an cdv ct)
theorem z9 {x qual:Str}{st:Stmt}{f:Addr}{oc:Value}{od an:Option Addr}{osl:Array (Option Value)}{kV doc pm cdv ct:Value}(l:K.lookup f=some ⟨oc,od,.func (PySem.W.fnOf x qual (cU st) (aY st) (aB st) .none kV doc pm an cdv ct),osl⟩)
  (c:PySem.W.codeIn K cdv qual=true) (k:PySem.W.keepIn K (.ref f)=true):qJ K x qual st f (PySem.W.fnOf x qual (cU st) (aY st) (aB st) .none kV doc pm an cdv ct):=⟨⟨oc,od,kV,doc,pm,an,cdv,ct,osl,rfl,l,c⟩,k⟩
end
section
variable {X:Cx}
theorem pv (i:Nat){x:Str}{pos:Pos}(hN:X.N[i]? = some x:=by rfl)(hv:xY X.env.scope x:=by first | exact Or.inl rfl | exact Or.inr (Or.inl rfl) | exact Or.inr (Or.inr rfl))(hd:(x==("__debug__" : Str))=false:=by decide)
  (hcd:(x==("__classdict__" : Str))=false:=by decide):PE X (.Name x pos) (sO i):=jY hN hv hd hcd
end
def aG (H H':Hp):Prop:=∀ b o,H b=some o->H' b=some o
theorem aG.refl (H:Hp):aG H H:=fun _ _ h=>h
theorem aG.trans {H H1 H2:Hp}(a:aG H H1)(b:aG H1 H2):aG H H2:=fun c o h=>b c o (a c o h)
section
variable {κ:Type}[DecidableEq κ]
noncomputable def ij (kvs:List (κ×V))(k:κ):Option V:=(kvs.find? fun kv=>decide (kv.1=k)).map (·.2)
theorem iv {p:κ×V}{r:List (κ×V)}{k:κ}(e:p.1=k):ij (p::r) k=some p.2:=by simp[ij,List.find?_cons,e]
theorem iP {p:κ×V}{r:List (κ×V)}{k:κ}(e:¬ p.1=k):ij (p::r) k=ij r k:=by simp[ij,List.find?_cons,e]
theorem iz (k:κ):∀ kvs:List (κ×V),(kvs.any fun kv=>decide (kv.1=k))=(ij kvs k).isSome
 |[]=>rfl
 | p::r=>by
  rw[dw];by_cases e:p.1=k
  ·simp only[iv e,decide_eq_true e,Bool.true_or,Option.isSome_some]
  ·rw[iP e,bj e,Bool.false_or];exact iz k r
theorem qN.isSome_eq {o:Option V}{u:Option Value}(r:qN o u):o.isSome=u.isSome:=by
 cases o with
 |none=>cases u with
  |none=>rfl
  |some _=>exact (show False from r).elim
 |some _=>cases u with
  |none=>exact (show False from r).elim
  |some _=>rfl
theorem KV.val {kvs:List (κ×V)}{vs:List (κ×Value)}(r:KV kvs vs)(k:κ):qN (ij kvs k) (valueAt vs k):=by
 unfold KV at r
 induction r with
 |nil=>exact True.intro
 |@cons p q ps qs h t ih =>
  obtain⟨h1,h2⟩:=h;by_cases e:p.1=k
  ·have e':q.1=k:=h1.symm.trans e;have b:valueAt (q::qs) k=some q.2:=by simp[valueAt,List.find?_cons,e']
   rw[iv e,b];exact h2
  ·have e':¬ q.1=k:=fun z=>e (h1.trans z)
   have b:valueAt (q::qs) k=valueAt qs k:=by simp[valueAt,List.find?_cons,e']
   rw[iP e,b];exact ih
theorem KV.keys {kvs:List (κ×V)}{vs:List (κ×Value)}(r:KV kvs vs):kvs.map (·.1)=vs.map (·.1):=by
 unfold KV at r
 induction r with
 |nil=>rfl
 |cons h t ih=>rw[ax,ax,ih,h.1]
theorem KV.length {kvs:List (κ×V)}{vs:List (κ×Value)}(r:KV kvs vs):kvs.length=vs.length:=Paired.length r
end
theorem uH {P:Program}{w:World}{k:Key}{u:Value}(r:RelV (kV k) u):(aM P w).is k u=true:=by
 cases k with
 |inl i=>obtain⟨t,e⟩:=(show ∃ t,u=Value.int i t from r);subst e;exact dI P w i t
 |inr x=>obtain⟨t,e⟩:=(show ∃ t,u=Value.str x t from r);subst e;exact cL P w x t
theorem iX {P:Program}{w:World}:∀{ks:List Key}{us:List Value},aK (ks.map kV) us->ItemsAre (aM P w) ks us
 |[],_,r=>by rw[List.map_nil] at r;cases r;exact .nil
 | k::ks,_,r=>by
  rw[ax] at r;cases r with
  |cons h t=>exact .cons (uH h) (iX t)
noncomputable abbrev KT (H:Hp):List (List Key×V)->List (List Key×Addr×Value)->Prop:=Paired fun p q=>p.1=q.1/\H q.2.1=some (.tup (p.1.map kV))/\RelV p.2 q.2.2
theorem KT.val {H:Hp}{kvs:List (List Key×V)}{xs:List (List Key×Addr×Value)}(r:KT H kvs xs)(k:List Key):qN (ij kvs k) ((atKey xs k).map (·.2)):=by
 induction r with
 |nil=>exact True.intro
 |@cons p q ps qs h t ih =>
  obtain⟨h1,_,h2⟩:=h;by_cases e:p.1=k
  ·have e':q.1=k:=h1.symm.trans e;have b:atKey (q::qs) k=some q.2:=by simp[atKey,List.find?_cons,e']
   rw[iv e,b];exact h2
  ·have e':¬ q.1=k:=fun z=>e (h1.trans z)
   have b:atKey (q::qs) k=atKey qs k:=by simp[atKey,List.find?_cons,e']
   rw[iP e,b];exact ih
section
variable {P:Program}{w:World}{H:Hp}{h:Heap}{a:Addr}
theorem yi {u:HO}(ok:g9 P w H h)(e:Rd H a u):bX P w H h a u:=e.ok ok
theorem j7 {kvs:List (Key×V)}(ok:g9 P w H h)(e:Rd H a (.dK kvs)):kvs.length<=sizeLine/\(a==sysModules)=false/\∃ vs,KV kvs vs/\h.DictOf (aM P w) a vs :=
 show bX P w H h a (.dK kvs) from yi ok e
theorem oA {ks:List Key}(ok:g9 P w H h)(e:H a=some (.tup (ks.map kV))):(tupleKind (aM P w)).is h ks a:=by
 obtain⟨_,its,r,o,h1,h2,n,h3⟩:=(show bX P w H h a (.tup (ks.map kV)) from ok a _ e);exact⟨o,its.toArray,n,h1,h2,h3,by simpa using iX r⟩
theorem qt {kvs:List (List Key×V)}(ok:g9 P w H h)(e:Rd H a (.dT kvs)):kvs.length<=sizeLine/\(a==sysModules)=false /\
  ∃ xs,KT H kvs xs/\h.DictOfH (tupleKind (aM P w)) a xs:=by
 obtain⟨z,y,xs,r,o,es,ep,h1,h2,h3,h4,h5⟩:=(show bX P w H h a (.dT kvs) from yi ok e);refine⟨z,y,xs,r,o,es,ep,h1,h2,h3,h4,fun x hx=>?_,h5⟩;have all:∀{l:List (List Key×V)}{m:List (List Key×Addr×Value)},KT H l m->∀ x∈m,(tupleKind (aM P w)).is h x.1 x.2.1:=by
  intro l m q
  induction q with
  |nil=>intro x hx;exact nomatch hx
  |@cons p q ps qs hq t ih =>
   intro x hx;rcases bw.mp hx with e | hx
   ·subst e;exact oA ok (by rw[<-hq.1];exact hq.2.1)
   ·exact ih x hx
 exact all r x hx
end
noncomputable def xk (H:Hp)(a:Addr)(y:V)(r:Option V):Prop :=
 (∃ kvs k,Rd H a (.dK kvs)/\y=kV k/\r=ij kvs k)\/∃ kvs k b,Rd H a (.dT kvs)/\y = .ref b/\H b=some (.tup (k.map kV))/\r=ij kvs k
section
variable {X:Cx}{pins:List (Addr×Obj)}{σ:St}{H:Hp}{s:Shared}{a:Addr}{y v:V}{u r:Value}{o:Option V}{A:Around}{E:Value->Shared->Prop}
theorem C2 {Q:Value->Shared->Prop}(hu:A.units+1<cLine)(I:Inv X pins σ H s)(g:xk H a y o)(ry:RelV y u)(h:∀ s',Inv X pins σ H s'->Q (.bool o.isSome) s') :
  wpAny (model X.prog X.w) A (compareOp .In u (.ref a)) Q E s:=by
 rcases g with ⟨kvs,k,e,ey,l⟩ | ⟨kvs,k,b,e,ey,eb,l⟩
 ·subst ey;obtain⟨z,hd,vs,rel,dd⟩:=j7 I.hok e;refine wpAny_in_of (uH ry) hd dd.mapOf ?_;rw[<-(rel.val k).isSome_eq,<-l];exact h _ (I.tok _)
 ·subst ey;cases (show u=Value.ref b from ry);obtain⟨z,hd,xs,rel,dd⟩:=qt I.hok e;refine wpAny_in_heap (tupleKind_room_in1 hu) (oA I.hok eb) hd dd ?_;have q:=(rel.val k).isSome_eq;rw[Option.isSome_map] at q;rw[<-q,<-l];exact h _ (I.tok _)
theorem pU {Q:Value->Shared->Prop}(hu:A.units+1<cLine)(I:Inv X pins σ H s)(g:xk H a y o)(ry:RelV y u)(h:∀ s',Inv X pins σ H s'->Q (.bool (!o.isSome)) s') :
  wpAny (model X.prog X.w) A (compareOp .NotIn u (.ref a)) Q E s:=by
 rcases g with ⟨kvs,k,e,ey,l⟩ | ⟨kvs,k,b,e,ey,eb,l⟩
 ·subst ey;obtain⟨z,hd,vs,rel,dd⟩:=j7 I.hok e;refine wpAny_notIn_of (uH ry) hd dd.mapOf ?_;rw[<-(rel.val k).isSome_eq,<-l];exact h _ (I.tok _)
 ·subst ey;cases (show u=Value.ref b from ry);obtain⟨z,hd,xs,rel,dd⟩:=qt I.hok e;refine wpAny_notIn_heap (tupleKind_room_in1 hu) (oA I.hok eb) hd dd ?_;have q:=(rel.val k).isSome_eq;rw[Option.isSome_map] at q;rw[<-q,<-l];exact h _ (I.tok _)
end
section
variable {X:Cx}{pins:List (Addr×Obj)}{σ:St}{H:Hp}{s:Shared}{a:Addr}{kvs:List (Key×V)}{k:Key}{u:Value}{A:Around}{E:Value->Shared->Prop}
end
section
variable {X:Cx}{o i e value:Expr}{pos pos' tpos:Pos}{td ty tv:TE}
end
section
variable {X:Cx}{pos:Pos}
end
end L2
end
section
namespace Pc
open PySem
inductive MV where
 | tr | int (i:Int) | tup (is:List Int)
deriving Inhabited,DecidableEq
inductive D where
 | non | bl (b:Bool) | int (i:Int) | str (s:Str) | lst (xs:List D) | tup (xs:List D)
 | dct (kvs:List ((Int ⊕ Str)×Option Int))
 | mpi (ks:List (Int×MV)) | mpt (ks:List (List Int))
 | mpz (ks:List (Int×MV))
deriving Inhabited
mutual
noncomputable def D.flat:D->Bool
 |.lst _=>false
 |.tup xs=>D.flats xs
 |.non=>true
 |.bl _=>true
 |.int _=>true
 |.str _=>true
 |.dct _=>true
 |.mpi _=>false
 |.mpt _=>false
 |.mpz _=>true
noncomputable def D.flats:List D->Bool
 |[]=>true
 |x::xs=>D.flat x&&D.flats xs
end
noncomputable def AI (f:D->D->Option Bool):List D->List D->Option Bool
 |[],[]=>some true
 |x::xs,y::ys=>(f x y).bind fun a=>(AI f xs ys).map fun b=>a&&b
 |_,_=>none
noncomputable def D.eqf:Nat->D->D->Option Bool
 |0,_,_=>none
 |_+1,.non,.non=>some true
 |_+1,.bl a,.bl b=>some (a==b)
 |_+1,.int a,.int b=>some (a==b)
 |_+1,.bl a,.int b=>some ((if a then (1:Int) else 0)==b)
 |_+1,.int a,.bl b=>some (a==(if b then (1:Int) else 0))
 |_+1,.str a,.str b=>some (a==b)
 |n+1,.lst a,.lst b=>if a.length=b.length then AI (D.eqf n) a b else some false
 |n+1,.tup a,.tup b=>if a.length=b.length then AI (D.eqf n) a b else none
 |_+1,.dct _,_=>none
 |_+1,_,.dct _=>none
 |_+1,.mpi _,_=>none
 |_+1,_,.mpi _=>none
 |_+1,.mpt _,_=>none
 |_+1,_,.mpt _=>none
 |_+1,.mpz _,_=>none
 |_+1,_,.mpz _=>none
 |_+1,_,_=>some false
noncomputable def D.fC:D->Bool
 |.lst _=>false
 |.tup _=>false
 |.dct _=>false
 |.mpi _=>false
 |.mpt _=>false
 |.mpz _=>false
 |_=>true
noncomputable def D.eqs:D->D->Bool
 |.non,.non=>true
 |.bl a,.bl b=>a==b
 |.int a,.int b=>a==b
 |.str a,.str b=>a==b
 |.bl a,.int b=>(if a then (1:Int) else 0)==b
 |.int a,.bl b=>a==(if b then (1:Int) else 0)
 |_,_=>false
structure Exc where
 cls:Str
 fs:List (Str×D)
deriving Inhabited
inductive Rs (α:Type) where
 | ok (a:α) | exc (e:Exc) | bad
noncomputable def Rs.bind {α β:Type}(x:Rs α)(f:α->Rs β):Rs β:=match x with
 |.ok a=>f a
 |.exc e=>.exc e
 |.bad=>.bad
inductive Rt where
 | mv (R:List Nat)
 | sh (R:List Nat)
noncomputable def Rt.roots:Rt->List Nat
 |.mv R=>R
 |.sh R=>R
inductive Tg where
 | own | lk | sh (R:List Nat)
noncomputable abbrev Slot:=Option (D×Tg)
noncomputable abbrev En:=List Slot
noncomputable def lim:Nat:=1000000
inductive iT where
 | nm (i:Nat) | tp (is:List Nat)
inductive Ad where
 | len | list | tuple | int | str | abs | min2 | max2 | all | any | sum | isi (T:String) | sorted | bool | lrev | lrng | divm | maxd
inductive Mth where
 | sfind | sindex | sjoin | ssplit | lindex | lcount | szfill | scount | sstarts
inductive pf where
 | append | extend | insert | pop | uD | reverse | clear
mutual
inductive Ex where
 | var (i:Nat)
 | cst (d:D)
 | glb (k:Nat)
 | bin (op:Operator) (a b:Ex)
 | neg (a:Ex)
 | cmp (op:CmpOp) (a b:Ex)
 | chn (op op':CmpOp) (a b c:Ex)
 | and (a b:Ex)
 | or (a b:Ex)
 | not (a:Ex)
 | ite (c a b:Ex)
 | lst (es:kz)
 | tup (es:kz)
 | ix (a i:Ex)
 | sl (a:Ex) (lo hi:kx)
 | call (f:Nat) (es:kz)
 | blt (b:Ad) (es:kz)
 | mth (m:Mth) (o:Ex) (es:kz)
 | comp (own:Nat) (pick:List Nat) (t:iT) (it:ou) (c:kx) (e:Ex)
 | dnew
inductive kz where
 | nil | cons (e:Ex) (es:kz)
inductive kx where
 | none | some (e:Ex)
inductive ou where
 | seq (e:Ex) | rng1 (a:Ex) | rng2 (a b:Ex) | rng3 (a b c:Ex) | enum (e:Ex) | zip (a b:Ex) | rev (e:Ex)
end
mutual
inductive St where
 | asg (t:iT) (e:Ex) (mv:Bool)
 | mut (x:Nat) (path:kx) (m:pf) (es:kz)
 | setix (x:Nat) (path:kx) (i:Ex) (e:Ex)
 | putd (x:Nat) (i v:Ex)
 | aug (x:Nat) (op:Operator) (e:Ex)
 | popa (y x:Nat) (es:kz)
 | apop (y x:Nat) (es:kz)
 | frzd (x:Nat) (s:St)
 | expr (e:Ex)
 | ite (c:Ex) (a b:bP)
 | forr (t:iT) (it:ou) (b:bP)
 | forw (x:Nat) (e:Ex) (b:bP)
 | whl (c:Ex) (b:bP)
 | ret (e:Ex)
 | retN | brk | cnt | pass
inductive bP where
 | nil | cons (s:St) (r:bP)
end
noncomputable def ck (n:Nat)(d:D):Option D:=if n<=lim then some d else none
noncomputable def small (i:Int):Bool:=decide (-(2 ^ 64)<i/\i<2 ^ 64)
noncomputable def binI:Operator->Int->Int->Option Int
 |.Add,i,j=>some (i+j)
 |.Sub,i,j=>some (i - j)
 |.Mult,i,j=>if small i || small j then some (i*j) else none
 |.FloorDiv,i,j=>if 0<j/\j<1073741824 then some (i / j) else none
 |.Mod,i,j=>if 0<j then some (i%j) else none
 |.Pow,i,j=>if 0<=j/\j<=1000000/\i.natAbs<2 ^ 64 then some (i ^ j.toNat) else none
 |.LShift,i,j=>if 0<=j/\j<=1000000/\i.natAbs<2 ^ 64 then some (i*2 ^ j.toNat) else none
 |.RShift,i,j=>if 0<=j then some (i / 2 ^ j.toNat) else none
 |.BitAnd,i,j=>some (Builtin.bitAnd i j)
 |.BitOr,i,j=>some (Builtin.bitOr i j)
 |.BitXor,i,j=>some (Builtin.bitXor i j)
 |_,_,_=>none
noncomputable def gr:Operator->D->D->Option D
 |op,.int i,.int j=>(binI op i j).map .int
 |.Add,.str a,.str b=>ck (a.length+b.length) (.str (a++b))
 |.Add,.lst a,.lst b=>ck (a.length+b.length) (.lst (a++b))
 |.Add,.tup a,.tup b=>if a.isEmpty then none else ck (a.length+b.length) (.tup (a++b))
 |.Mult,.lst a,.int k=>if -(2 ^ 63)<=k/\k<2 ^ 63 then (if D.flats a then ck (a.length*k.toNat) (.lst (List.replicate k.toNat a).flatten) else none) else none
 |_,_,_=>none
noncomputable def vOf:Option Int->D
 |none=>.non
 |some i=>.int i
noncomputable def o8 (kvs:List ((Int ⊕ Str)×Option Int))(k:Int ⊕ Str):Option (Option Int):=(kvs.find? fun q=>decide (q.1=k)).map (·.2)
noncomputable def inS (x y:Str):Bool:=!(Builtin.Str.occurrences y x 0 y.length 1).isEmpty
noncomputable def addK {α:Type}[BEq α](ks:List α)(k:α):List α:=if ks.contains k then ks else ks ++ [k]
noncomputable def putV (kvs:List (Int×MV))(k:Int)(m:MV):List (Int×MV):=if (kvs.any fun q=>decide (q.1=k))=true then kvs.map (fun q=>if q.1=k then (q.1,m) else q) else kvs ++ [(k,m)]
noncomputable def jq:List D->Option (List Int)
 |[]=>some []
 |.int i::r=>(jq r).map (i :: ·)
 |_::_=>none
noncomputable def mvD:MV->D
 |.tr=>.bl true
 |.int i=>.int i
 |.tup is=>.tup (is.map .int)
noncomputable def mvOf:D->Option MV
 |.bl true=>some .tr
 |.int i=>some (.int i)
 |.tup xs=>(jq xs).map .tup
 |_=>none
noncomputable def Ci:D->Bool
 |.bl true=>true
 |_=>false
noncomputable def putM:D->D->D->Option D
 |.mpi ks,.int k,v=>if ks.length<lim then (mvOf v).map fun m=>.mpi (putV ks k m) else none
 |.mpi [],.tup [.int i,.int j],v=>if Ci v then some (.mpt [[i,j]]) else none
 |.mpt ks,.tup [.int i,.int j],v=>if Ci v&&decide (ks.length<lim) then some (.mpt (addK ks [i,j])) else none
 |_,_,_=>none
noncomputable def inD (x:D):D->Option Bool
 |.lst ys=>if x.fC&&ys.all D.fC then some (ys.any fun y=>D.eqs y x) else none
 |.tup ys=>if x.fC&&ys.all D.fC then some (ys.any fun y=>D.eqs y x) else none
 |.str y=>match x with
  |.str z=>some (inS z y)
  |_=>none
 | .dct ((.inr z,v)::kvs)=>match x with
  |.str s=>some (o8 ((.inr z,v)::kvs) (.inr s)).isSome
  |_=>none
 |.mpi ks=>match x with
  |.int k=>some (ks.any fun q=>decide (q.1=k))
  |.tup [.int _,.int _]=>if ks.isEmpty then some false else none
  |_=>none
 |.mpz ks=>match x with
  |.int k=>some (ks.any fun q=>decide (q.1=k))
  |_=>none
 |.mpt ks=>match x with
  |.tup [.int i,.int j]=>some (ks.contains [i,j])
  |_=>none
 |_=>none
noncomputable def jS:List Int->List Int->Bool
 |[],_=>true
 |_::_,[]=>false
 |a::x,b::y=>if a=b then jS x y else decide (a<=b)
noncomputable def pY:D->Bool
 |.non=>true
 |_=>false
noncomputable def eY:CmpOp->D->D->Option Bool
 |.Lt,.int i,.int j=>some (decide (i<j))
 |.LtE,.int i,.int j=>some (decide (i<=j))
 |.LtE,.tup xs,.tup ys=>(jq xs).bind fun a=>(jq ys).map fun b=>jS a b
 |.Gt,.int i,.int j=>some (decide (j<i))
 |.GtE,.int i,.int j=>some (decide (j<=i))
 |.Eq,x,y=>D.eqf 40 x y
 |.NotEq,x,y=>(D.eqf 40 x y).map (!·)
 |.In,x,y=>inD x y
 |.NotIn,x,y=>(inD x y).map (!·)
 |.Is,x,.non=>some (pY x)
 |.IsNot,x,.non=>some (!pY x)
 |.Is,.bl a,.bl b=>some (a==b)
 |.IsNot,.bl a,.bl b=>some (!(a==b))
 |_,_,_=>none
noncomputable def truth:D->Option Bool
 |.bl b=>some b
 |.int i=>some (i != 0)
 |.str s=>if s.length<=lim then some ((s.length:Int) != 0) else none
 |.lst xs=>some (!xs.isEmpty)
 |.tup xs=>some (!xs.isEmpty)
 |.non=>some false
 |.dct _=>none
 |.mpi _=>none
 |.mpt _=>none
 |.mpz _=>none
noncomputable def jv (n:Nat)(i:Int):Option Nat:=if 0<=i then (if i<n then some i.toNat else none) else if -(n:Int)<=i then some (i+n).toNat else none
noncomputable def bI (n d:Nat):Option Int->Nat
 |none=>d
 |some v=>if v<0 then (v+(n:Int)).toNat else min v.toNat n
noncomputable def cut {α:Type}(xs:List α)(lo hi:Option Int):List α :=
 let a:=bI xs.length 0 lo
 (xs.drop a).take (bI xs.length xs.length hi - a)
noncomputable def o6:D->D->Option D
 |.lst xs,.int i=>(jv xs.length i).bind fun j=>xs[j]?
 |.tup xs,.int i=>(jv xs.length i).bind fun j=>xs[j]?
 |.str s,.int i=>if s.length<=lim then ((jv s.cps.toList.length i).bind fun j=>s.cps.toList[j]?).map fun c=>.str ⟨#[c]⟩ else none
 |.dct kvs,.int i=>(o8 kvs (.inl i)).map vOf
 |.dct kvs,.str s=>(o8 kvs (.inr s)).map vOf
 |.mpi ks,.int k=>(ks.find? fun q=>decide (q.1=k)).map fun q=>mvD q.2
 |.mpz ks,.int k=>(ks.find? fun q=>decide (q.1=k)).map fun q=>mvD q.2
 |_,_=>none
noncomputable def slD:D->Option Int->Option Int->Option D
 |.lst xs,lo,hi=>some (.lst (cut xs lo hi))
 |.tup xs,lo,hi=>if bI xs.length 0 lo=0/\bI xs.length xs.length hi=xs.length then none else some (.tup (cut xs lo hi))
 |.str s,lo,hi=>if s.length<=lim then some (.str ⟨(cut s.cps.toList lo hi).toArray⟩) else none
 |_,_,_=>none
noncomputable def D.inner:D->Bool
 |.lst xs=>D.flats xs
 |.tup xs=>D.flats xs
 |_=>true
noncomputable def gK (d:D)(R:List Nat):Rt:=if d.inner then .mv [] else .sh R
noncomputable def pN (d:D)(r:Rt):Rt:=if d.flat then .mv [] else .sh r.roots
noncomputable def eB:List Rt->Option (List Nat)
 |[]=>some []
 |.mv R::r=>(eB r).map (R ++ ·)
 |.sh _::_=>none
noncomputable def aT (l:List Rt):List Nat:=(l.map Rt.roots).flatten
noncomputable def lR (l:List Rt):Rt:=match eB l with
 |some R=>if R.Nodup then .mv R else .sh R
 |none=>.sh (aT l)
noncomputable def ti (T:String):D->Bool
 |.non=>T == "NoneType"
 |.bl _=>T == "bool" || T == "int"
 |.int _=>T == "int"
 |.str _=>T == "str"
 |.lst _=>T == "list"
 |.tup _=>T == "tuple"
 |.dct _=>false
 |.mpi _=>false
 |.mpt _=>false
 |.mpz _=>false
noncomputable def D.isBl:D->Bool
 |.bl _=>true
 |_=>false
noncomputable def allB:List D->Option Bool
 |[]=>some true
 |.bl b::r=>if b then allB r else some false
 |_::_=>none
noncomputable def anyB:List D->Option Bool
 |[]=>some false
 |.bl b::r=>if b then some true else anyB r
 |_::_=>none
noncomputable def CP:Int->List D->Option Int
 |a,[]=>some a
 |a,.int i::r=>CP (a+i) r
 |_,_::_=>none
noncomputable def yG:Int->List D->Option Int
 |a,[]=>some a
 |a,.int i::r=>yG (if i > a then i else a) r
 |_,_::_=>none
noncomputable def bU:Int->Int->Nat->List D
 |_,_,0=>[]
 |a,s,n+1=>.int a::bU (a+s) s n
noncomputable def gu (i:Int):Bool:=decide (-(2 ^ 62)<=i/\i<2 ^ 62)
noncomputable def vE:List D->Option (List (List Int))
 |[]=>some []
 |.tup xs::r=>(jq xs).bind fun k=>if k.isEmpty then none else (vE r).map (k :: ·)
 |_::_=>none
noncomputable def Ao:List Int->List Int->Bool
 |[],[]=>false
 |[],_::_=>true
 |_::_,[]=>false
 |a::x,b::y=>if a==b then Ao x y else decide (a<b)
noncomputable def Cg {α:Type}(f:Nat->Nat->Option Bool):PySem.W.KasT α->Option α
 |.ret a=>some a
 |.ask i j k=>(f i j).bind fun b=>Cg f (k b)
noncomputable def BZ (xs:List D):Option (List D):=if 2<=xs.length/\xs.length<64 then (vE xs).bind fun ks =>
  (Cg (fun i j=>(ks[i]?).bind fun a=>(ks[j]?).map fun b=>Ao a b) (PySem.W.kas_sort xs.length)).bind fun p =>
   if p.size<=64 then some (p.toList.map fun i=>xs.getD i .non) else none
 else none
noncomputable def insI (a:Int):List Int->List Int
 |[]=>[a]
 |b::l=>if a<=b then a::b::l else b::insI a l
noncomputable def vh:List Int->List Int
 |[]=>[]
 |a::l=>insI a (vh l)
noncomputable def sy:List D->Option D
 |[.lst xs]=>match jq xs with
  |some ns=>if ns.length<64 then some (.lst ((vh ns).map .int)) else none
  |none=>(BZ xs).map .lst
 |_=>none
noncomputable def yD:List D->Option D
 |[.lst xs]=>some (.int xs.length)
 |[.tup xs]=>some (.int xs.length)
 |[.str s]=>if s.length<=lim then some (.int s.length) else none
 |[.mpt ks]=>some (.int ks.length)
 |_=>none
noncomputable def uq:List D->Option D
 |[.lst xs]=>some (.lst xs)
 |[.tup xs]=>some (.lst xs)
 |[.mpi ks]=>if ks.length<=lim then some (.lst (ks.map fun q=>.int q.1)) else none
 |_=>none
noncomputable def xy:List D->Option D
 |[.lst xs]=>some (.tup xs)
 |_=>none
noncomputable def B3:List D->Option D
 |[.int i]=>some (.int (if i<0 then -i else i))
 |_=>none
noncomputable def tK (lt:Nat->Nat->Bool):Nat->Nat->Nat->Nat
 |0,_,m=>m
 |k+1,j,m=>tK lt k (j+1) (if lt j m then j else m)
noncomputable def minD (xs:List D):Option D:=if xs.isEmpty then none else match jq xs with
 |some ns=>xs[tK (fun i j=>decide (ns.getD i 0<ns.getD j 0)) (xs.length - 1) 1 0]?
 |none=>(vE xs).bind fun ks=>xs[tK (fun i j=>Ao (ks.getD i []) (ks.getD j [])) (xs.length - 1) 1 0]?
noncomputable def zv:List D->Option D
 |[.int i,.int j]=>some (.int (if j<i then j else i))
 |[.lst xs]=>minD xs
 |_=>none
noncomputable def yX:List D->Option D
 |[.int i,.int j]=>some (.int (if j > i then j else i))
 |_=>none
noncomputable def yN:List D->Option D
 |[.lst xs]=>if xs.all D.isBl then (allB xs).map .bl else none
 |_=>none
noncomputable def BX:List D->Option D
 |[.lst xs]=>if xs.all D.isBl then (anyB xs).map .bl else none
 |_=>none
noncomputable def Co:List D->Option D
 |[.lst xs]=>(CP 0 xs).map .int
 |_=>none
noncomputable def BC (T:String):List D->Option D
 |[.dct _]=>none
 |[.mpi _]=>none
 |[.mpt _]=>none
 |[.mpz _]=>none
 |[d]=>some (.bl (ti T d))
 |_=>none
noncomputable def yY:List D->Option D
 |[.lst xs]=>some (.lst xs.reverse)
 |_=>none
noncomputable def AO:List D->Option D
 |[.int n]=>if gu n=true/\n<=1000000 then some (.lst (bU 0 1 n.toNat)) else none
 |[.int a,.int b]=>if gu a=true/\gu b=true/\b - a<=1000000 then some (.lst (bU a 1 (b - a).toNat)) else none
 |_=>none
noncomputable def B4:List D->Option D
 |[.str s]=>if s.length<=640 then (PySem.intText? s).map .int else none
 |[.int i]=>some (.int i)
 |[.bl b]=>some (.int (if b then 1 else 0))
 |_=>none
noncomputable def zc:List D->Option D
 |[.int i,.int j]=>if 0<j/\j<1073741824 then some (.tup [.int (i / j),.int (i%j)]) else none
 |_=>none
noncomputable def Aw:List D->Option D
 |[.lst [],.int d]=>some (.int d)
 | [.lst (.int i::r),.int _]=>(yG i r).map .int
 |_=>none
noncomputable def oQ:Ad->List D->Option D
 |.sorted,ds=>sy ds
 |.len,ds=>yD ds
 |.list,ds=>uq ds
 |.tuple,ds=>xy ds
 |.abs,ds=>B3 ds
 |.min2,ds=>zv ds
 |.max2,ds=>yX ds
 |.all,ds=>yN ds
 |.any,ds=>BX ds
 |.sum,ds=>Co ds
 |.isi T,ds=>BC T ds
 |.lrev,ds=>yY ds
 |.lrng,ds=>AO ds
 |.int,ds=>B4 ds
 |.divm,ds=>zc ds
 |.maxd,ds=>Aw ds
 |_,_=>none
noncomputable def BA (k:Int):List D->Option Nat
 |[]=>some 0
 |.int i::r=>(BA k r).map fun c=>if i==k then c+1 else c
 |_::_=>none
noncomputable def nK:List D->Option (List Str)
 |[]=>some []
 |.str s::r=>(nK r).map (s :: ·)
 |_::_=>none
noncomputable def gA (x y:Str):List Str :=
 if (decide (x.length<y.length) || decide (Builtin.Str.strKind x<Builtin.Str.strKind y))=true then [x] else
 if (Builtin.Str.occurrences x y 0 x.length (x.length+1)).isEmpty=true then [x] else Builtin.Str.partsBetween x (Builtin.Str.occurrences x y 0 x.length (x.length+1)) y.length
noncomputable def mthD:Mth->D->List D->Option D
 |.sfind,.str x,[.str y]=>some (.int (match Builtin.Str.occurrences x y 0 x.length 1 with
  |i::_=>(i:Int)
  |[]=>-1))
 |.sindex,.str x,[.str y]=>match Builtin.Str.occurrences x y 0 x.length 1 with
  |i::_=>some (.int (i:Int))
  |[]=>none
 |.sindex,.lst xs,[.int k]=>(jq xs).bind fun ns=>if k∈ns/\ns.length<=lim then some (.int ((ns.idxOf k:Nat):Int)) else none
 |.sjoin,.str x,[.lst xs]=>(nK xs).bind fun ys=>if (ys.map (·.length)).sum+ys.length*x.length<=lim then some (.str (PySem.Str.join x ys)) else none
 |.ssplit,.str x,[.str y]=>if 0<y.length/\x.length<=lim then some (.lst ((gA x y).map .str)) else none
 |.lcount,.lst xs,[.int k]=>(BA k xs).map fun (c:Nat)=>.int (c:Int)
 |_,_,_=>none
noncomputable def Tg.drop (i:Nat):Tg->Tg
 |.sh R=>.sh (R.filter (· != i))
 |t=>t
noncomputable def cF (d:D)(R:List Nat):Tg:=if d.flat then .own else .sh R
noncomputable def put (env:En)(i:Nat)(d:D)(t:Tg):En:=(env.map fun (s:Slot)=>s.map fun (p:D×Tg)=>(p.1,p.2.drop i)).set i (some (d,t))
noncomputable def gX (R:List Nat):Tg->Bool
 |.sh Q=>Q.any fun q=>R.contains q
 |_=>false
noncomputable def kill (R:List Nat)(env:En):En:=env.mapIdx fun i (s:Slot)=>match s with
 | some (d,t)=>if R.contains i || gX R t then none else some (d,t)
 |none=>none
noncomputable def gB (env:En)(R:List Nat):Bool:=R.all fun i=>match env[i]? with
 | some (some (_,.own))=>true
 |_=>false
noncomputable def bindM (f:D->Tg):List Nat->List D->En->Option En
 |[],[],env=>some env
 |i::is,d::ds,env=>if i<env.length then bindM f is ds (put env i d (f d)) else none
 |_,_,_=>none
noncomputable def bN (R:List Nat):iT->D->En->Option En
 |.nm i,d,env=>if i<env.length then some (put env i d (cF d R)) else none
 |.tp is,.tup ds,env=>bindM (fun d=>cF d R) is ds env
 |_,_,_=>none
structure Tb where
 cl:Nat->List D->Rs (D×Bool)
 gl:Nat->D
 fuel:Nat
noncomputable def fD {α:Type}:Option α->Rs α
 |some a=>.ok a
 |none=>.bad
noncomputable def sJ:D->Option (List D)
 |.lst xs=>some xs
 |.tup xs=>some xs
 |.str s=>if s.length<=lim then some (s.cps.toList.map fun c=>.str ⟨#[c]⟩) else none
 |.mpz ks=>some (ks.map fun q=>.int q.1)
 |_=>none
noncomputable def nj:D->Option (List D)
 |.lst xs=>some xs
 |_=>none
noncomputable def sU:D->Option (List D)
 |.lst xs=>some xs
 |.str s=>some (s.cps.toList.map fun c=>.str ⟨#[c]⟩)
 |_=>none
noncomputable def eH (f:D->Rs (Option (D×Rt))):List D->Rs (List (D×Rt))
 |[]=>.ok []
 |d::r=>(f d).bind fun o=>(eH f r).bind fun l=>.ok (match o with
  |some p=>p::l
  |none=>l)
noncomputable def bY (o:Option En)(c:En->Rs Bool)(e:En->Rs (D×Rt)):Rs (Option (D×Rt)):=match o with
 |none=>.bad
 |some env=>(c env).bind fun k=>if k then (e env).bind fun q=>.ok (some q) else .ok none
noncomputable def ir:Rt->Bool
 |.mv []=>true
 |_=>false
noncomputable def aW (i:Nat):Tg->List Nat
 |.own=>[i]
 |.lk=>[i]
 |.sh R=>R
noncomputable def k6 (env:En)(pick:List Nat):List Nat:=(pick.map fun j=>match env[j]? with
 | some (some (_,t))=>aW j t
 |_=>[]).flatten
noncomputable def cZ (env:En)(own:Nat)(pick:List Nat):En:=List.replicate own none++pick.map fun i=>match env[i]? with
 | some (some (d,_))=>some (d,.sh [])
 |_=>none
mutual
noncomputable def ev (T:Tb):Ex->En->Rs (D×Rt)
 |.var i,env=>match env[i]? with
  | some (some (d,t))=>.ok (d,if d.flat then .mv [] else match t with
   |.own=>.mv [i]
   |.lk=>.mv [i]
   |.sh R=>.sh R)
  |_=>.bad
 |.cst d,_=>.ok (d,.mv [])
 |.glb k,_=>.ok (T.gl k,.mv [])
 |.bin op a b,env=>(ev T a env).bind fun p=>(ev T b env).bind fun q=>(fD (gr op p.1 q.1)).bind fun d=>.ok (d,gK d (p.2.roots++q.2.roots))
 |.neg a,env=>(ev T a env).bind fun p=>match p.1 with
  |.int i=>.ok (.int (-i),.mv [])
  |_=>.bad
 |.cmp op a b,env=>(ev T a env).bind fun p=>(ev T b env).bind fun q=>(fD (eY op p.1 q.1)).bind fun c=>.ok (.bl c,.mv [])
 |.chn op op' a b c,env=>(ev T a env).bind fun p=>(ev T b env).bind fun q=>(fD (eY op p.1 q.1)).bind fun k =>
   if k then (ev T c env).bind fun r=>(fD (eY op' q.1 r.1)).bind fun k'=>.ok (.bl k',.mv []) else .ok (.bl false,.mv [])
 |.and a b,env=>(ev T a env).bind fun p=>match p.1 with
  |.bl true=>ev T b env
  |.bl false=>.ok (.bl false,.mv [])
  |_=>.bad
 |.or a b,env=>(ev T a env).bind fun p=>match p.1 with
  |.bl true=>.ok (.bl true,.mv [])
  |.bl false=>ev T b env
  |_=>.bad
 |.not a,env=>(ev T a env).bind fun p=>match p.1 with
  |.bl k=>.ok (.bl (!k),.mv [])
  |_=>.bad
 |.ite c a b,env=>(ev T c env).bind fun p=>(fD (truth p.1)).bind fun k=>if k then ev T a env else ev T b env
 |.lst es,env=>(bK T es env).bind fun l=>if l.length<=lim then .ok (.lst (l.map (·.1)),lR (l.map (·.2))) else .bad
 |.tup es,env=>(bK T es env).bind fun l=>if l.length<=lim then .ok (.tup (l.map (·.1)),lR (l.map (·.2))) else .bad
 |.ix a i,env=>(ev T a env).bind fun p=>(ev T i env).bind fun q=>(fD (o6 p.1 q.1)).bind fun d=>.ok (d,pN d p.2)
 |.sl a lo hi,env=>(ev T a env).bind fun p=>(jc T lo env).bind fun l=>(jc T hi env).bind fun h=>(fD (slD p.1 l h)).bind fun d=>.ok (d,gK d p.2.roots)
 |.call f es,env=>(bK T es env).bind fun l=>(T.cl f (l.map (·.1))).bind fun r=>.ok (r.1,if r.2 then .mv [] else .sh (aT (l.map (·.2))))
 |.blt b es,env=>(bK T es env).bind fun l=>(fD (oQ b (l.map (·.1)))).bind fun d=>.ok (d,gK d (aT (l.map (·.2))))
 |.mth m o es,env=>(ev T o env).bind fun p=>(bK T es env).bind fun l=>(fD (mthD m p.1 (l.map (·.1)))).bind fun d=>.ok (d,gK d (p.2.roots++aT (l.map (·.2))))
 |.comp own pick t it c e,env=>(dN T it env).bind fun p=>(eH (fun d=>bY (bN [] t d (cZ env own pick)) (oq T c) (ev T e)) p.1).bind fun l =>
    if p.1.length<=lim then .ok (.lst (l.map (·.1)),if l.all (fun q=>q.1.flat || ir q.2) then .mv [] else .sh (p.2++k6 env pick)) else .bad
 |.dnew,_=>.ok (.mpi [],.mv [])
noncomputable def bK (T:Tb):kz->En->Rs (List (D×Rt))
 |.nil,_=>.ok []
 |.cons e es,env=>(ev T e env).bind fun p=>(bK T es env).bind fun l=>.ok (p::l)
noncomputable def jc (T:Tb):kx->En->Rs (Option Int)
 |.none,_=>.ok none
 |.some e,env=>(ev T e env).bind fun p=>match p.1 with
  |.int i=>.ok (some i)
  |_=>.bad
noncomputable def oq (T:Tb):kx->En->Rs Bool
 |.none,_=>.ok true
 |.some e,env=>(ev T e env).bind fun p=>fD (truth p.1)
noncomputable def dN (T:Tb):ou->En->Rs (List D×List Nat)
 |.seq e,env=>(ev T e env).bind fun p=>(fD (sJ p.1)).bind fun l=>.ok (l,p.2.roots)
 |.rng1 a,env=>(ev T a env).bind fun p=>match p.1 with
  |.int j=>if gu j then .ok (bU 0 1 j.toNat,[]) else .bad
  |_=>.bad
 |.rng2 a b,env=>(ev T a env).bind fun p=>(ev T b env).bind fun q=>match p.1,q.1 with
  |.int i,.int j=>if gu i&&gu j then .ok (bU i 1 (j - i).toNat,[]) else .bad
  |_,_=>.bad
 |.rng3 a b c,env=>(ev T a env).bind fun p=>(ev T b env).bind fun q=>(ev T c env).bind fun r=>match p.1,q.1,r.1 with
  |.int i,.int j,.int k=>if gu i&&gu j&&k != 0&&decide (k.natAbs<1073741824) then .ok (bU i k (Builtin.Range.rangeSize i j k).toNat,[]) else .bad
  |_,_,_=>.bad
 |.enum e,env=>(ev T e env).bind fun p=>(fD (nj p.1)).bind fun l=>.ok (l.zipIdx.map fun q=>.tup [.int q.2,q.1],p.2.roots)
 |.zip a b,env=>(ev T a env).bind fun p=>(ev T b env).bind fun q=>(fD (nj p.1)).bind fun l=>(fD (sU q.1)).bind fun m=>.ok ((l.zip m).map fun z=>.tup [z.1,z.2],p.2.roots++q.2.roots)
 |.rev e,env=>(ev T e env).bind fun p=>(fD (nj p.1)).bind fun l=>.ok (l.reverse,p.2.roots)
end
noncomputable def D.at1:D->Option Int->Option (List D)
 |.lst xs,none=>some xs
 |.lst xs,some i=>(jv xs.length i).bind fun j=>match xs[j]? with
  | some (.lst ys)=>some ys
  |_=>none
 |.tup xs,some i=>(jv xs.length i).bind fun j=>match xs[j]? with
  | some (.lst ys)=>some ys
  |_=>none
 |_,_=>none
noncomputable def D.set1:D->Option Int->List D->D
 |.lst _,none,n=>.lst n
 |.lst xs,some i,n=>match jv xs.length i with
  |some j=>.lst (xs.set j (.lst n))
  |none=>.lst xs
 |.tup xs,some i,n=>match jv xs.length i with
  |some j=>.tup (xs.set j (.lst n))
  |none=>.tup xs
 |d,_,_=>d
noncomputable def wL:pf->List D->List D->Option (List D)
 |.append,xs,[d]=>some (xs ++ [d])
 |.extend,xs,[.lst ys]=>if D.flats ys then some (xs++ys) else none
 |.insert,xs,[.int i,d]=>if -(2 ^ 63)<=i/\i<2 ^ 63 then some (xs.take (bI xs.length 0 (some i))++d::xs.drop (bI xs.length 0 (some i))) else none
 |.pop,xs,[]=>if xs.isEmpty then none else some xs.dropLast
 |.reverse,xs,[]=>some xs.reverse
 |.clear,_,[]=>some []
 |_,_,_=>none
noncomputable def uD (xs:List D)(j:Nat):Option (D×List D):=match xs[j]? with
 |some r=>if r.flat then some (r,xs.eraseIdx j) else none
 |none=>none
noncomputable def BV (xs:List D):List D->Option (D×List D)
 |[]=>uD xs (xs.length - 1)
 |[.int i]=>if -(2 ^ 63)<=i/\i<2 ^ 63 then (jv xs.length i).bind (uD xs) else none
 |_=>none
inductive Fl where
 | nx (env:En) | rt (d:D) (fr:Bool) | bk (env:En) | ct (env:En) | xc (e:Exc) (env:En) | bad
noncomputable def xg:Option En->Fl
 |some env=>.nx env
 |none=>.bad
noncomputable def qQ (t:iT)(mv:Bool)(env:En)(p:D×Rt):Fl:=match t with
 |.nm i=>if i<env.length then (match p.2 with
  |.mv []=>.nx (put env i p.1 .own)
  |.mv R=>if mv then (if gB env R then .nx (put (kill R env) i p.1 .own) else .bad) else .nx (put env i p.1 (.sh (R.filter (· != i))))
  |.sh R=>.nx (put env i p.1 (.sh (R.filter (· != i))))) else .bad
 |.tp is=>match p.1 with
  |.tup ds=>match p.2 with
   |.mv []=>xg (bindM (fun _=>.own) is ds env)
   |r=>if is.all (fun i=>!r.roots.contains i) then xg (bindM (fun d=>cF d r.roots) is ds env) else .bad
  |_=>.bad
noncomputable def Fl.andThen (f:Fl)(k:En->Fl):Fl:=match f with
 |.nx env=>k env
 |x=>x
noncomputable def bH {α:Type}(env:En)(x:Rs α)(k:α->Fl):Fl:=match x with
 |.ok a=>k a
 |.exc e=>.xc e env
 |.bad=>.bad
noncomputable def aU (t:iT)(R:List Nat)(b:En->Fl):List D->En->Fl
 |[],env=>.nx env
 |d::r,env=>match bN R t d env with
  |none=>.bad
  |some env'=>match b env' with
   |.nx e=>aU t R b r e
   |.ct e=>aU t R b r e
   |.bk e=>.nx e
   |x=>x
noncomputable def nQ (x:Nat)(b:En->Fl):List D->En->Fl
 |[],env=>.nx env
 |d::r,env=>if x<env.length then (match b (put env x d .own) with
  |.nx e=>nQ x b r e
  |_=>.bad) else .bad
noncomputable def kZ (c:En->Rs Bool)(b:En->Fl):Nat->En->Fl
 |0,_=>.bad
 |n+1,env=>bH env (c env) fun k=>if k then (match b env with
   |.nx e=>kZ c b n e
   |.ct e=>kZ c b n e
   |.bk e=>.nx e
   |x=>x) else .nx env
noncomputable def lock (R:List Nat)(env:En):En:=env.mapIdx fun i (s:Slot)=>match s with
 | some (d,.own)=>if R.contains i then some (d,.lk) else some (d,.own)
 |s=>s
noncomputable def unlock (R:List Nat)(env0 env:En):En:=env.mapIdx fun i (s:Slot)=>match s with
 | some (d,.lk)=>match env0[i]? with
  | some (some (_,.own))=>if R.contains i then some (d,.own) else some (d,.lk)
  |_=>some (d,.lk)
 |s=>s
noncomputable def pf.copies:pf->Bool
 |.extend=>true
 |_=>false
noncomputable def eT (x:Nat)(path:Option Int)(env:En)(d:D)(ys:List D)(rs:List Rt):Fl:=match eB rs with
 |none=>.bad
 |some R=>if R.Nodup&&gB env R && !R.contains x&&decide (ys.length<=lim) then .nx ((kill (x::R) env).set x (some (d.set1 path ys,.own))) else .bad
noncomputable def ownAt (env:En)(x:Nat):Option D:=match env[x]? with
 | some (some (d,.own))=>some d
 |_=>none
noncomputable def Di (env:En)(x:Nat):En:=match ownAt env x with
 | some (.mpi ks)=>(kill [x] env).set x (some (.mpz ks,.own))
 |_=>env
noncomputable def augI:Operator->Int->Int->Option Int
 |.Add,i,j=>some (i+j)
 |.Sub,i,j=>some (i - j)
 |_,_,_=>none
noncomputable def augE (op:Operator)(x:Nat)(a:Int)(env:En)(p:D×Rt):Fl:=match p.1 with
 |.int b=>(match augI op a b with
  |some c=>qQ (.nm x) false env (.int c,.mv [])
  |none=>.bad)
 |_=>.bad
noncomputable def intAt (env:En)(x:Nat):Option Int:=match env[x]? with
 | some (some (.int a,_))=>some a
 |_=>none
mutual
noncomputable def aN (T:Tb):St->En->Fl
 |.asg t e mv,env=>bH env (ev T e env) (qQ t mv env)
 |.mut x path m es,env=>match ownAt env x with
  |none=>.bad
  |some d=>bH env (jc T path env) fun p=>match d.at1 p with
   |none=>.bad
   |some xs=>bH env (bK T es env) fun l=>match wL m xs (l.map (·.1)) with
    |none=>.bad
    |some ys=>if (aT (l.map (·.2))).contains x then .bad else eT x p env d ys (if m.copies then [] else l.map (·.2))
 |.putd x i v,env=>match ownAt env x with
  |none=>.bad
  |some d=>bH env (ev T v env) fun u=>bH env (ev T i env) fun q=>match putM d q.1 u.1 with
   |none=>.bad
   |some d'=>.nx ((kill [x] env).set x (some (d',.own)))
 |.setix x path i e,env=>match ownAt env x with
  |none=>.bad
  |some d=>bH env (ev T e env) fun v=>bH env (jc T path env) fun p=>match d.at1 p with
   |none=>.bad
   |some xs=>bH env (ev T i env) fun q=>match q.1 with
    |.int i=>(match jv xs.length i with
     |none=>.bad
     |some j=>eT x p env d (xs.set j v.1) [v.2])
    |_=>.bad
 |.aug x op e,env=>match intAt env x with
  |none=>.bad
  |some a=>bH env (ev T e env) (augE op x a env)
 |.popa y x es,env=>match ownAt env x with
  |none=>.bad
  |some d=>(match d.at1 none with
   |none=>.bad
   |some xs=>bH env (bK T es env) fun l=>match BV xs (l.map (·.1)) with
    |none=>.bad
    |some q=>(eT x none env d q.2 []).andThen fun e=>qQ (.nm y) false e (q.1,.mv []))
 |.apop y x es,env=>if y=x then .bad else match ownAt env x with
  |none=>.bad
  |some d=>(match d.at1 none with
   |none=>.bad
   |some xs=>bH env (bK T es env) fun l=>match BV xs (l.map (·.1)) with
    |none=>.bad
    |some q=>(eT x none env d q.2 []).andThen fun e=>match ownAt e y with
     |none=>.bad
     |some dy=>(match dy.at1 none with
      |none=>.bad
      |some ys=>eT y none e dy (ys ++ [q.1]) []))
 |.frzd x s,env=>aN T s (Di env x)
 |.expr e,env=>bH env (ev T e env) fun _=>.nx env
 |.ite c a b,env=>bH env (ev T c env) fun p=>match truth p.1 with
  |some true=>aC T a env
  |some false=>aC T b env
  |none=>.bad
 |.forr t it b,env=>bH env (dN T it env) fun p=>(match aU t p.2 (aC T b) p.1 (lock p.2 env) with
  |.nx e=>.nx (unlock p.2 env e)
  |x=>x)
 |.forw x e b,env=>bH env (ev T e env) fun p=>match p with
  | (.lst xs,.mv [])=>nQ x (aC T b) xs env
  |_=>.bad
 |.whl c b,env=>kZ (fun env=>(ev T c env).bind fun p=>fD (truth p.1)) (aC T b) T.fuel env
 |.ret e,env=>bH env (ev T e env) fun p=>.rt p.1 (match p.2 with
  |.mv R=>gB env R
  |.sh _=>false)
 |.retN,_=>.rt .non true
 |.brk,env=>.bk env
 |.cnt,env=>.ct env
 |.pass,env=>.nx env
noncomputable def aC (T:Tb):bP->En->Fl
 |.nil,env=>.nx env
 |.cons s r,env=>(aN T s env).andThen (aC T r)
end
structure Fn where
 ps:Nat
 slots:Nat
 body:bP
noncomputable def aO (ds:List D)(n:Nat):En:=ds.map (fun d=>some (d,cF d []))++List.replicate (n - ds.length) none
noncomputable def run (fns:List Fn)(gl:Nat->D)(fuel:Nat):Nat->Nat->List D->Rs (D×Bool)
 |0,_,_=>.bad
 |n+1,f,ds=>match fns[f]? with
  |none=>.bad
  |some F=>if ds.length=F.ps then (match aC ⟨run fns gl fuel n,gl,fuel⟩ F.body (aO ds F.slots) with
   |.rt d fr=>.ok (d,fr)
   |.nx _=>.ok (.non,true)
   |.xc e _=>.exc e
   |_=>.bad) else .bad
end Pc
end
section
namespace Pc
open PySem L2
noncomputable abbrev Frag:=PySem.W.Frag
inductive fE:List DictEntry->List (Key×Option Int)->Prop where
 | nil:fE [] []
 | cons {e:DictEntry}{es:List DictEntry}{k v:Int}{kvs:List (Key×Option Int)}{t u:Tok}(hh:e.hash=hashInt k) (hk:e.key = .int k t) (hv:e.val = .int v u) (r:fE es kvs):fE (e::es) ((.inl k,some v)::kvs)
 | si {e:DictEntry}{es:List DictEntry}{k:Str}{v:Int}{kvs:List (Key×Option Int)}{t u:Tok}(hk:e.key = .str k t) (hv:e.val = .int v u) (r:fE es kvs):fE (e::es) ((.inr k,some v)::kvs)
 | sn {e:DictEntry}{es:List DictEntry}{k:Str}{kvs:List (Key×Option Int)}{t:Tok}(hk:e.key = .str k t) (hv:e.val = .none) (r:fE es kvs):fE (e::es) ((.inr k,none)::kvs)
def oS (K:Frag)(a:Addr)(kvs:List (Key×Option Int)):Prop:=∃ o es ep,K.lookup a=some o/\o.ExactDict/\o.data = .dict es ep/\fE es.toList kvs/\(kvs.map (·.1)).Nodup
def rj (w:World)(K:Frag):Prop:=∀ a o es ep,K.lookup a=some o->o.data = .dict es ep->∀ kvs,fE es.toList kvs->∀ e∈es.toList,∀ s t,e.key = .str s t->(a==sysModules)=false/\e.hash=hashStr w s
inductive ML where
 | l (vs:List V) | k (kvs:List (Key×V)) | t (kvs:List (List Key×V))
noncomputable def ML.o:ML->HO
 |.l vs=>.lst vs
 |.k kvs=>.dK kvs
 |.t kvs=>.dT kvs
noncomputable def v9 (ks:List (List Int)):List (List Key×V):=ks.map fun k=>(k.map .inl,.bl true)
noncomputable def vv:List V->Bool
 |[.int _,.int _]=>true
 |_=>false
noncomputable def jx (K:Frag)(H:Hp)(a:Addr)(xs:List V):Prop :=
 H a=some (.tup xs) \/
  vv xs=false/\∃(o:Obj) (its:Array Value) (n:Nat),K.lookup a=some o/\o.cls = .type "tuple"/\o.data = .seq its n/\its.size<=sizeLine/\aK xs its.toList
noncomputable def sF (K:Frag)(H:Hp):MV->V->Prop
 |.tr,v=>v = .bl true
 |.int i,v=>v = .int i
 |.tup is,v=>∃ b,v = .ref b/\jx K H b (is.map .int)
noncomputable def kE (K:Frag)(H:Hp):List (Int×MV)->List (Key×V)->Prop
 |[],[]=>True
 |q::r,p::s=>p.1 = .inl q.1/\sF K H q.2 p.2/\kE K H r s
 |_,_=>False
theorem sF.keep {K:Frag}{H H':Hp}(t:∀ b vs,jx K H b vs->jx K H' b vs):∀{m:MV}{v:V},sF K H m v->sF K H' m v
 |.tr,_,h=>h
 |.int _,_,h=>h
 |.tup _,_,⟨b,e,h⟩=>⟨b,e,t _ _ h⟩
theorem kE.keep {K:Frag}{H H':Hp}(t:∀ b vs,jx K H b vs->jx K H' b vs):∀{q:List (Int×MV)}{x:List (Key×V)},kE K H q x->kE K H' q x
 |[],[],h=>h
 |_::_,_::_,⟨a,b,c⟩=>⟨a,b.keep t,c.keep t⟩
 |[],_::_,h=>h.elim
 |_::_,[],h=>h.elim
theorem kE.len {K:Frag}{H:Hp}:∀{q:List (Int×MV)}{x:List (Key×V)},kE K H q x->x.length=q.length
 |[],[],_=>rfl
 |_::_,_::_,⟨_,_,c⟩=>by rw[be,be,c.len]
 |[],_::_,h=>h.elim
 |_::_,[],h=>h.elim
theorem jx.sq {K:Frag}{H:Hp}{a:Addr}{xs:List V}(h:jx K H a xs):il K H a xs:=h.imp .inl And.right
mutual
inductive Rep (K:Frag) (H:Hp):D->V->List Addr->Prop where
 | non:Rep K H .non .non []
 | bl (b:Bool):Rep K H (.bl b) (.bl b) []
 | int (i:Int):Rep K H (.int i) (.int i) []
 | str (s:Str):Rep K H (.str s) (.str s) []
 | lst {p:Addr}{vs:List V}{ds:List D}{G:List Addr}(h:Rd H p (.lst vs)) (r:aD K H ds vs G):Rep K H (.lst ds) (.ref p) (p::G)
 | tup {p:Addr}{vs:List V}{ds:List D}{G:List Addr}(h:jx K H p vs) (r:aD K H ds vs G):Rep K H (.tup ds) (.ref p) G
 | dct {p:Addr}{kvs:List (Key×Option Int)}(h:oS K p kvs):Rep K H (.dct kvs) (.ref p) []
 | mpi {p:Addr}{ks:List (Int×MV)}{xs:List (Key×V)}(h:H p=some (.dK xs)) (r:kE K H ks xs):Rep K H (.mpi ks) (.ref p) [p]
 | mpt {p:Addr}{ks:List (List Int)}(h:Rd H p (.dT (v9 ks))):Rep K H (.mpt ks) (.ref p) [p]
 | mpz {p:Addr}{ks:List (Int×MV)}{xs:List (Key×V)}{o:Obj}(h:H p=some (.frz o (.dK xs))) (r:kE K H ks xs):Rep K H (.mpz ks) (.ref p) []
inductive aD (K:Frag) (H:Hp):List D->List V->List Addr->Prop where
 | nil:aD K H [] [] []
 | cons {d:D}{v:V}{ds:List D}{vs:List V}{G G':List Addr}(h:Rep K H d v G) (r:aD K H ds vs G'):aD K H (d::ds) (v::vs) (G++G')
end
theorem qq {H H':Hp}{b:Addr}(k:∀ u:HO,H b=some u->H' b=some u){o:HO}(h:Rd H b o):Rd H' b o:=by
 rcases h with h | ⟨u,h⟩
 ·exact .inl (k _ h)
 ·exact .inr ⟨u,k _ h⟩
def B5 (H H':Hp):Prop:=∀ b o u,H b=some (.frz o u)->H' b=some (.frz o u)
section
variable {K:Frag}{H H':Hp}
theorem Rep.keep (t:∀ b vs,jx K H b vs->jx K H' b vs)(z:B5 H H'){d:D}{v:V}{G:List Addr}(h:Rep K H d v G):(∀ b∈G,∀ u:HO,H b=some u->H' b=some u)->Rep K H' d v G :=
 Rep.rec (motive_1:=fun d v G _=>(∀ b∈G,∀ u:HO,H b=some u->H' b=some u)->Rep K H' d v G) (motive_2:=fun ds vs G _=>(∀ b∈G,∀ u:HO,H b=some u->H' b=some u)->aD K H' ds vs G)
  (fun _=>.non) (fun b _=>.bl b) (fun i _=>.int i) (fun s _=>.str s) (fun h _ ih k=>.lst (qq (k _ ai) h) (ih fun b hb=>k b (ae _ hb)))
  (fun h _ ih k=>.tup (t _ _ h) (ih k)) (fun h _=>.dct h) (fun h r k=>.mpi (k _ ai _ h) (r.keep t)) (fun h k=>.mpt (qq (k _ ai) h)) (fun h r _=>.mpz (z _ _ _ h) (r.keep t))
  (fun _=>.nil) (fun _ _ i1 i2 k=>.cons (i1 fun b hb=>k b (ay _ hb)) (i2 fun b hb=>k b (ak _ hb))) h
theorem aD.keep (t:∀ b vs,jx K H b vs->jx K H' b vs)(z:B5 H H'){ds:List D}{vs:List V}{G:List Addr}(h:aD K H ds vs G):(∀ b∈G,∀ u:HO,H b=some u->H' b=some u)->aD K H' ds vs G :=
 aD.rec (motive_1:=fun d v G _=>True) (motive_2:=fun ds vs G _=>(∀ b∈G,∀ u:HO,H b=some u->H' b=some u)->aD K H' ds vs G)
  trivial (fun _=>trivial) (fun _=>trivial) (fun _=>trivial) (fun _ _ _=>trivial) (fun _ _ _=>trivial) (fun _=>trivial) (fun _ _=>trivial) (fun _=>trivial) (fun _ _=>trivial)
  (fun _=>.nil) (fun h _ _ i2 k=>.cons (Rep.keep t z h fun b hb=>k b (ay _ hb)) (i2 fun b hb=>k b (ak _ hb))) h
theorem aG.rd (e:aG H H'){b:Addr}{o:HO}(h:Rd H b o):Rd H' b o:=by
 rcases h with h | ⟨u,h⟩
 ·exact .inl (e _ _ h)
 ·exact .inr ⟨u,e _ _ h⟩
theorem aG.tqT (e:aG H H'){b:Addr}{vs:List V}(h:jx K H b vs):jx K H' b vs:=by
 rcases h with h | h
 ·exact .inl (e _ _ h)
 ·exact .inr h
theorem Rep.same (e:aG H H'){d:D}{v:V}{G:List Addr}(h:Rep K H d v G):Rep K H' d v G:=h.keep (fun _ _=>aG.tqT e) (fun _ _ _ h=>e _ _ h) fun _ _ _ h=>e _ _ h
theorem aD.same (e:aG H H'){d:List D}{v:List V}{G:List Addr}(h:aD K H d v G):aD K H' d v G:=h.keep (fun _ _=>aG.tqT e) (fun _ _ _ h=>e _ _ h) fun _ _ _ h=>e _ _ h
theorem Rep.flat {d:D}{v:V}{G:List Addr}(h:Rep K H d v G):d.flat=true->G=[] :=
 Rep.rec (motive_1:=fun d v G _=>d.flat=true->G=[]) (motive_2:=fun ds vs G _=>D.flats ds=true->G=[])
  (fun _=>rfl) (fun _ _=>rfl) (fun _ _=>rfl) (fun _ _=>rfl) (fun _ _ _ f=>by simp[D.flat] at f) (fun _ _ ih f=>ih (by simpa[D.flat] using f)) (fun _ _=>rfl) (fun _ _ f=>by simp[D.flat] at f) (fun _ f=>by simp[D.flat] at f) (fun _ _ _=>rfl)
  (fun _=>rfl) (fun _ _ i1 i2 f=>by
   simp only[D.flats,Bool.and_eq_true] at f;rw[i1 f.1,i2 f.2];rfl) h
theorem aD.flat {ds:List D}{vs:List V}{G:List Addr}(h:aD K H ds vs G):D.flats ds=true->G=[] :=
 aD.rec (motive_1:=fun d v G _=>True) (motive_2:=fun ds vs G _=>D.flats ds=true->G=[])
  trivial (fun _=>trivial) (fun _=>trivial) (fun _=>trivial) (fun _ _ _=>trivial) (fun _ _ _=>trivial) (fun _=>trivial) (fun _ _=>trivial) (fun _=>trivial) (fun _ _=>trivial)
  (fun _=>rfl) (fun h _ _ i2 f=>by
   simp only[D.flats,Bool.and_eq_true] at f;rw[Rep.flat h f.1,i2 f.2];rfl) h
theorem Rep.live {d:D}{v:V}{G:List Addr}(h:Rep K H d v G):∀ a∈G,∃ vs:ML,Rd H a vs.o :=
 Rep.rec (motive_1:=fun d v G _=>∀ a∈G,∃ vs:ML,Rd H a vs.o) (motive_2:=fun ds vs G _=>∀ a∈G,∃ vs:ML,Rd H a vs.o)
  (fun _ h=>(nomatch h)) (fun _ _ h=>(nomatch h)) (fun _ _ h=>(nomatch h)) (fun _ _ h=>(nomatch h)) (fun h _ ih a m=>(bw.mp m).elim (fun e=>e ▸ ⟨.l _,h⟩) (ih a)) (fun _ _ ih=>ih) (fun _ _ h=>(nomatch h))
  (fun h _ a m=>(List.mem_singleton.mp m) ▸ ⟨.k _,.inl h⟩) (fun h a m=>(List.mem_singleton.mp m) ▸ ⟨.t _,h⟩) (fun _ _ _ h=>(nomatch h))
  (fun _ h=>(nomatch h)) (fun _ _ i1 i2 a m=>(List.mem_append.mp m).elim (i1 a) (i2 a)) h
theorem aD.live {ds:List D}{vs:List V}{G:List Addr}(h:aD K H ds vs G):∀ a∈G,∃ vs:ML,Rd H a vs.o :=
 aD.rec (motive_1:=fun d v G _=>True) (motive_2:=fun ds vs G _=>∀ a∈G,∃ vs:ML,Rd H a vs.o)
  trivial (fun _=>trivial) (fun _=>trivial) (fun _=>trivial) (fun _ _ _=>trivial) (fun _ _ _=>trivial) (fun _=>trivial) (fun _ _=>trivial) (fun _=>trivial) (fun _ _=>trivial)
  (fun _ h=>(nomatch h)) (fun h _ _ i2 a m=>(List.mem_append.mp m).elim (Rep.live h a) (i2 a)) h
theorem Rd.ne_none {a:Addr}{u:HO}(h:Rd H a u):H a≠none:=by
 rcases h with h | ⟨o,h⟩<;>rw[h]<;>simp
theorem Rep.nn {d:D}{v:V}{G:List Addr}(h:Rep K H d v G){a:Addr}(m:a∈G):H a≠none:=let ⟨_,q⟩:=h.live a m;Rd.ne_none q
theorem aD.nn {d:List D}{v:List V}{G:List Addr}(h:aD K H d v G){a:Addr}(m:a∈G):H a≠none:=let ⟨_,q⟩:=h.live a m;Rd.ne_none q
theorem aD.len:∀{ds:List D}{vs:List V}{G:List Addr},aD K H ds vs G->ds.length=vs.length
 |_,_,_,.nil=>rfl
 |_,_,_,.cons _ r=>by simp[aD.len r]
theorem aD.get:∀{ds:List D}{vs:List V}{G:List Addr}{i:Nat}{d:D},aD K H ds vs G->ds[i]? = some d->∃ v G',vs[i]? = some v/\Rep K H d v G'/\G'.Sublist G
 |_,_,_,_,_,.nil,e=>by simp at e
 | _,_,_,0,_,.cons h r,e=>by
  simp at e;subst e;exact⟨_,_,rfl,h,List.sublist_append_left _ _⟩
 | _,_,_,i+1,d,.cons h r,e=>by
  obtain⟨v,G',a,b,c⟩:=aD.get (i:=i) (d:=d) r (by simpa using e);exact⟨v,G',by simpa using a,b,c.trans (List.sublist_append_right _ _)⟩
theorem aD.append:∀{ds es:List D}{vs us:List V}{G G':List Addr},aD K H ds vs G->aD K H es us G'->aD K H (ds++es) (vs++us) (G++G')
 |_,_,_,_,_,_,.nil,s=>s
 | _,_,_,_,_,_,.cons h r,s=>by
  rw[dg];exact .cons h (aD.append r s)
theorem aD.take:∀{ds:List D}{vs:List V}{G:List Addr}(n:Nat),aD K H ds vs G->∃ G',aD K H (ds.take n) (vs.take n) G'/\G'.Sublist G
 |_,_,_,0,_=>⟨[],by simpa using .nil,by simp⟩
 |_,_,_,_+1,.nil=>⟨[],by simpa using .nil,by simp⟩
 | _,_,_,n+1,.cons h r=>by
  obtain⟨G',a,b⟩:=aD.take n r;exact⟨_,by simpa using .cons h a,List.Sublist.append (List.Sublist.refl _) b⟩
theorem aD.drop:∀{ds:List D}{vs:List V}{G:List Addr}(n:Nat),aD K H ds vs G->∃ G',aD K H (ds.drop n) (vs.drop n) G'/\G'.Sublist G
 |_,_,_,0,r=>⟨_,by simpa using r,List.Sublist.refl _⟩
 |_,_,_,_+1,.nil=>⟨[],by simpa using .nil,by simp⟩
 | _,_,_,n+1,.cons h r=>by
  obtain⟨G',a,b⟩:=aD.drop n r;exact⟨_,by simpa using a,b.trans (List.sublist_append_right _ _)⟩
theorem aD.split:∀{ds:List D}{vs:List V}{G:List Addr}{i:Nat}{d:D},aD K H ds vs G->ds[i]? = some d->∃ v G1 G' G2,vs[i]? = some v/\G=G1++(G'++G2)/\Rep K H d v G' /\
  ∀(H':Hp) (d':D) (v':V) (N:List Addr),(∀ b vs,jx K H b vs->jx K H' b vs)->B5 H H'->(∀ b∈G1++G2,∀ u:HO,H b=some u->H' b=some u)->Rep K H' d' v' N->aD K H' (ds.set i d') (vs.set i v') (G1++(N++G2))
 |_,_,_,_,_,.nil,e=>by simp at e
 | _,_,_,0,_,.cons (G:=G) (G':=G') h r,e=>by
  simp at e;subst e;refine⟨_,[],_,_,rfl,rfl,h,fun H' d' v' N t z k n=>?_⟩;show aD K H' (_::_) (_::_) (N++G');exact .cons n (r.keep t z fun b hb=>k b (by simpa using hb))
 | _,_,_,i+1,d,.cons (G:=G) (G':=G') h r,e=>by
  obtain⟨v,G1,Gi,G2,a,b,c,f⟩:=aD.split (i:=i) (d:=d) r (by simpa using e);refine⟨v,G++G1,Gi,G2,by simpa using a,by rw[b];simp,c,fun H' d' v' N t z k n=>?_⟩;have q:=aD.cons (h.keep t z fun b hb=>k b (by simp[hb])) (f H' d' v' N t z (fun b hb=>k b (by simp at hb ⊢;exact Or.inr hb)) n);rw[<-dg] at q;exact q
end
noncomputable def aX:Tg->Bool
 |.own=>true
 |.lk=>true
 |.sh _=>false
structure RE (K:Frag)(P:Addr->Prop)(env:En)(σ:L2.St)(H:Hp)(F:Nat->List Addr):Prop where
 len:env.length=σ.length
 val:∀ i d t,env[i]? = some (some (d,t))->∃ v,σ[i]? = some (some v)/\Rep K H d v (F i)
 emp:∀ i,(∀ d t,env[i]?≠some (some (d,t)))->F i=[]
 one:∀ i d t,env[i]? = some (some (d,t))->aX t=true->(F i).Nodup/\(∀ a∈F i,∃ vs:ML,H a=some vs.o) /\
  ∀ a∈F i,∀ j d' t',env[j]? = some (some (d',t'))->a∈F j->i∈aW j t'
 wr:∀ i d,env[i]? = some (some (d,.own))->∀ a∈F i,¬ P a
 pl:∀ a,P a->H a≠none
structure bG (env:En)(F:Nat->List Addr)(H:Hp)(r:Rt)(H':Hp)(G:List Addr):Prop where
 cont:∀ a∈G,H a=none\/∃ i d t,a∈F i/\env[i]? = some (some (d,t))/\∀ q∈aW i t,q∈r.roots
 mv:∀ R,r = .mv R->G.Nodup/\(∀ a∈G,∃ vs:ML,H' a=some vs.o)/\∀ a∈G,H a=none\/∃ i d t,i∈R/\a∈F i/\env[i]? = some (some (d,t))/\aX t=true
theorem bG.nil {env:En}{F:Nat->List Addr}{H H':Hp}{r:Rt}:bG env F H r H' []:=⟨fun _ h=>(nomatch h),fun _ _=>⟨bo,fun _ h=>(nomatch h),fun _ h=>(nomatch h)⟩⟩
theorem RE.same {K:Frag}{P:Addr->Prop}{env:En}{σ:L2.St}{H H':Hp}{F:Nat->List Addr}(r:RE K P env σ H F)(e:aG H H'):RE K P env σ H' F where
 len:=r.len
 val:=fun i d t h=>let ⟨v,a,b⟩:=r.val i d t h;⟨v,a,b.same e⟩
 emp:=r.emp
 one:=fun i d t h o=>let ⟨a,b,c⟩:=r.one i d t h o;⟨a,fun x hx=>let ⟨vs,q⟩:=b x hx;⟨vs,e _ _ q⟩,c⟩
 wr:=r.wr
 pl:=fun a h z=>by
  cases q:H a with
  |none=>exact r.pl a h q
  |some o=>rw[e _ _ q] at z;cases z
theorem aG.no {H H':Hp}(e:aG H H'){a:Addr}(h:H' a=none):H a=none:=by
 cases q:H a with
 |none=>rfl
 |some o=>rw[e _ _ q] at h;cases h
theorem bG.back {env:En}{F:Nat->List Addr}{H H1 H':Hp}{r:Rt}{G:List Addr}(h:bG env F H1 r H' G)(e:aG H H1):bG env F H r H' G where
 cont:=fun a ha=>(h.cont a ha).imp (aG.no e) id
 mv:=fun R hr=>let ⟨a,b,c⟩:=h.mv R hr;⟨a,b,fun x hx=>(c x hx).imp (aG.no e) id⟩
theorem bG.later {env:En}{F:Nat->List Addr}{H H1 H':Hp}{r:Rt}{G:List Addr}(h:bG env F H r H1 G)(e:aG H1 H'):bG env F H r H' G where
 cont:=h.cont
 mv:=fun R hr=>let ⟨a,b,c⟩:=h.mv R hr;⟨a,fun x hx=>let ⟨vs,q⟩:=b x hx;⟨vs,e _ _ q⟩,c⟩
theorem bG.part {env:En}{F:Nat->List Addr}{H H':Hp}{r r':Rt}{G G':List Addr}(h:bG env F H r H' G)(hs:∀ a∈G',a∈G)(hr:∀ q∈r.roots,q∈r'.roots)(hn:∀ R,r'≠.mv R):bG env F H r' H' G' where
 cont:=fun a ha=>(h.cont a (hs a ha)).imp id fun ⟨i,d,t,x,y,z⟩=>⟨i,d,t,x,y,fun q hq=>hr q (z q hq)⟩
 mv:=fun R e=>absurd e (hn R)
noncomputable def n8 (F:Nat->List Addr)(i:Nat)(G:List Addr):Nat->List Addr:=fun j=>if j=i then G else F j
theorem dB {F:Nat->List Addr}{i:Nat}{G:List Addr}:n8 F i G i=G:=if_pos rfl
theorem cT {F:Nat->List Addr}{i j:Nat}{G:List Addr}(h:j≠i):n8 F i G j=F j:=if_neg h
theorem pA (env:En)(i:Nat)(d:D)(t:Tg):(put env i d t).length=env.length:=by simp[put]
theorem cP {env:En}{i:Nat}{d:D}{t:Tg}(h:i<env.length):(put env i d t)[i]? = some (some (d,t)):=by
 unfold put;rw[List.getElem?_set_self (by simpa using h)]
theorem uh {env:En}{i j:Nat}{d:D}{t:Tg}(h:j≠i):(put env i d t)[j]? = (env[j]?).map fun s=>s.map fun p=>(p.1,p.2.drop i):=by
 unfold put;rw[List.getElem?_set_ne (cj h),List.getElem?_map]
theorem fV {env:En}{i j:Nat}{d d':D}{t t':Tg}(h:j≠i)(e:(put env i d t)[j]? = some (some (d',t'))):∃ t0,env[j]? = some (some (d',t0))/\t'=t0.drop i:=by
 rw[uh h] at e;cases q:env[j]? with
 |none=>rw[q] at e;cases e
 |some s =>
  rw[q] at e;cases s with
  |none=>cases e
  |some p =>
   obtain⟨a,b⟩:=p;simp only[Option.map_some,Option.some.injEq,Prod.mk.injEq] at e;obtain⟨rfl,rfl⟩:=e;exact⟨b,rfl,rfl⟩
theorem jm (t:Tg)(i:Nat):aX (t.drop i)=aX t:=by cases t<;>rfl
theorem jt {t:Tg}{i j k:Nat}(h:k∈aW j t)(hk:k≠i):k∈aW j (t.drop i):=by
 cases t with
 |own=>exact h
 |lk=>exact h
 |sh R =>
  simp only[aW,Tg.drop,List.mem_filter] at h ⊢;exact⟨h,by simpa using hk⟩
section
variable {K:Frag}{P:Addr->Prop}{env:En}{σ:L2.St}{H:Hp}{F:Nat->List Addr}
theorem RE.nn (re:RE K P env σ H F){j:Nat}{d:D}{t:Tg}(h:env[j]? = some (some (d,t))){a:Addr}(m:a∈F j):H a≠none:=let ⟨_,_,r⟩:=re.val j d t h;r.nn m
theorem RE.at' (re:RE K P env σ H F){j:Nat}{a:Addr}(m:a∈F j):∃ d t,env[j]? = some (some (d,t)):=by
 by_cases h:∃ d t,env[j]? = some (some (d,t))
 ·exact h
 ·rw[re.emp j fun d t e=>h ⟨d,t,e⟩] at m;cases m
theorem RE.put (re:RE K P env σ H F){i:Nat}{d:D}{v:V}{G:List Addr}{t:Tg}(hi:i<env.length)(rp:Rep K H d v G)
  (ho:aX t=true->G.Nodup/\(∀ a∈G,∃ vs:ML,H a=some vs.o)/\∀ a∈G,∀ j,j≠i->a∉F j) (hw:t = .own->∀ a∈G,¬ P a)
  (hs:∀ a∈G,∀ j d' t',j≠i->env[j]? = some (some (d',t'))->aX t'=true->a∈F j->j∈aW i t):RE K P (put env i d t) (σ.set i (some v)) H (n8 F i G) where
 len:=by rw[pA,List.length_set];exact re.len
 val:=fun j d' t' e=>by
  by_cases h:j=i
  ·subst h;rw[cP hi] at e;cases e;exact⟨v,List.getElem?_set_self (by rw[<-re.len];exact hi),by rw[dB];exact rp⟩
  ·obtain⟨t0,e0,rfl⟩:=fV h e;obtain⟨u,a,b⟩:=re.val j d' t0 e0;exact⟨u,by rw[List.getElem?_set_ne (cj h)];exact a,by rw[cT h];exact b⟩
 emp:=fun j h=>by
  by_cases hj:j=i
  ·subst hj;exact absurd (cP hi) (h d t)
  ·rw[cT hj];refine re.emp j fun d' t' e=>h d' (t'.drop i) ?_
   rw[uh hj,e];rfl
 one:=fun j d' t' e o=>by
  by_cases h:j=i
  ·subst h;rw[cP hi] at e;cases e;obtain⟨a,b,c⟩:=ho o;rw[dB];refine⟨a,b,fun x hx k d2 t2 e2 m=>?_⟩;by_cases hk:k=j
   ·subst hk;rw[cP hi] at e2;cases e2;cases t<;>simp_all [aW,aX]
   ·rw[cT hk] at m;exact absurd m (c x hx k hk)
  ·obtain⟨t0,e0,rfl⟩:=fV h e;rw[jm] at o;obtain⟨a,b,c⟩:=re.one j d' t0 e0 o;rw[cT h];refine⟨a,b,fun x hx k d2 t2 e2 m=>?_⟩;by_cases hk:k=i
   ·subst hk;rw[cP hi] at e2;cases e2;rw[dB] at m;exact hs x m j d' t0 h e0 o hx
   ·rw[cT hk] at m;obtain⟨t3,e3,rfl⟩:=fV hk e2;exact jt (c x hx k d2 t3 e3 m) h
 wr:=fun j d' e=>by
  by_cases h:j=i
  ·subst h;rw[cP hi] at e;cases e;rw[dB];exact hw rfl
  ·obtain⟨t0,e0,q⟩:=fV h e;rw[cT h];cases t0 with
   |own=>exact re.wr j d' e0
   |lk=>cases q
   |sh R=>cases q
 pl:=re.pl
theorem RE.forget (re:RE K P env σ H F){env':En}(hl:env'.length=env.length)(he:∀(i:Nat) (d:D) (t:Tg),env'[i]? = some (some (d,t))->env[i]? = some (some (d,t))) :
  RE K P env' σ H (fun i=>match env'[i]? with | some (some _)=>F i | _=>[]) where
 len:=hl.trans re.len
 val:=fun i d t e=>by rw[e];exact re.val i d t (he i d t e)
 emp:=fun i h=>by
  split
  ·rename_i p q;exact absurd q (h p.1 p.2)
  ·rfl
 one:=fun i d t e o=>by
  rw[e];obtain⟨a,b,c⟩:=re.one i d t (he i d t e) o;refine⟨a,b,fun x hx k d2 t2 e2 m=>?_⟩;rw[e2] at m;exact c x hx k d2 t2 (he k d2 t2 e2) m
 wr:=fun i d e=>by rw[e];exact re.wr i d (he i d _ e)
 pl:=re.pl
end
theorem cJ (R:List Nat)(env:En):(kill R env).length=env.length:=by simp[kill]
theorem bZ {R:List Nat}{env:En}{i:Nat}{d:D}{t:Tg}(e:(kill R env)[i]? = some (some (d,t))):env[i]? = some (some (d,t))/\i∉R/\∀ q∈R,q∉aW i t:=by
 unfold kill at e;rw[List.getElem?_mapIdx] at e;cases q:env[i]? with
 |none=>rw[q] at e;cases e
 |some s =>
  rw[q] at e;cases s with
  |none=>cases e
  |some p =>
   obtain⟨a,b⟩:=p;simp only[Option.map_some,Option.some.injEq] at e;by_cases h:(R.contains i || gX R b)=true
   ·rw[if_pos h] at e;cases e
   ·rw[if_neg h] at e;cases e;rw[ed,not_or] at h;have h1:i∉R:=fun z=>h.1 (by simpa using z)
    refine⟨rfl,h1,fun r hq z=>?_⟩;cases t with
    |own=>simp only[aW,List.mem_singleton] at z;subst z;exact h1 hq
    |lk=>simp only[aW,List.mem_singleton] at z;subst z;exact h1 hq
    |sh Q =>
     apply h.2;simp only[gX,List.any_eq_true];exact⟨r,z,by simpa using hq⟩
section
variable {K:Frag}{P:Addr->Prop}{env:En}{σ:L2.St}{H:Hp}{F:Nat->List Addr}
theorem mz {p b:Addr}{ws vs:List V}{o:HO}(hp:H p=some (.lst ws))(h:jx K H b vs):jx K (upd H p o) b vs:=by
 rcases h with h | h
 ·exact .inl (by rw[aJ];exact h;intro z;subst z;rw[hp] at h;cases h)
 ·exact .inr h
theorem sR {p b:Addr}{ws:ML}{vs:List V}{o:HO}(hp:H p=some ws.o)(h:jx K H b vs):jx K (upd H p o) b vs:=by
 rcases h with h | h
 ·exact .inl (by rw[aJ];exact h;intro z;subst z;rw[hp] at h;cases ws<;>cases h)
 ·exact .inr h
theorem A6 {p b:Addr}{o o':HO}(hne:b≠p)(h:Rd H b o):Rd (upd H p o') b o:=by
 rcases h with h | ⟨u,h⟩
 ·exact .inl (by rw[aJ hne];exact h)
 ·exact .inr ⟨u,by rw[aJ hne];exact h⟩
theorem mM {H:Hp}{p:Addr}{ws:ML}{o:HO}(hp:H p=some ws.o):B5 H (L2.upd H p o):=fun b ob u h=>by
 rw[aJ fun e=>?_]
 ·exact h
 ·subst e;rw[hp] at h;cases ws<;>cases h
theorem Rep.updM {p:Addr}{ws:ML}{o:HO}{d:D}{v:V}{G:List Addr}(hp:H p=some ws.o)(h:Rep K H d v G)(hn:p∉G):Rep K (L2.upd H p o) d v G :=
 h.keep (fun _ _=>sR hp) (mM hp) fun b hb _ h=>(aJ (fun (z:b=p)=>hn (z ▸ hb))).trans h
theorem aD.upd {p:Addr}{ws:List V}{o:HO}{d:List D}{v:List V}{G:List Addr}(hp:H p=some (.lst ws))(h:aD K H d v G)(hn:p∉G):aD K (upd H p o) d v G :=
 h.keep (fun _ _=>mz hp) (mM (ws:=.l _) hp) fun b hb _ h=>(aJ (fun (z:b=p)=>hn (z ▸ hb))).trans h
noncomputable def mT (F:Nat->List Addr)(env:En)(x:Nat)(R:List Nat)(G:List Addr):Nat->List Addr:=fun j=>if j=x then G else match (kill (x::R) env)[j]? with
 | some (some _)=>F j
 |_=>[]
theorem RE.mutateM (re:RE K P env σ H F){x:Nat}{d d':D}{v:V}{p:Addr}{vs:ML}{R:List Nat}{N G:List Addr}(hx:env[x]? = some (some (d,.own)))(hv:σ[x]? = some (some v))(hp:p∈F x)
  (rp:Rep K (upd H p vs.o) d' v G) (nd:G.Nodup) (sub:∀ a∈G,a∈F x\/a∈N)
  (hN:∀ a∈N,(∃ vs:ML,H a=some vs.o)/\¬ P a/\∀(j:Nat) (d:D) (t:Tg),env[j]? = some (some (d,t))->a∈F j->∃ q∈x::R,q∈aW j t) :
  RE K P ((kill (x::R) env).set x (some (d',.own))) σ (upd H p vs.o) (mT F env x R G):=by
 obtain⟨ndx,lsx,onx⟩:=re.one x d .own hx rfl;obtain⟨ws,hpl⟩:=lsx p hp;have hxl:x<(kill (x::R) env).length:=by
  rw[cJ];exact (List.getElem?_eq_some_iff.mp hx).1
 have other:∀{j:Nat}{d2:D}{t2:Tg},j≠x->((kill (x::R) env).set x (some (d',.own)))[j]? = some (some (d2,t2))->(kill (x::R) env)[j]? = some (some (d2,t2)):=fun {j d2 t2} hj e=>by
  rw[List.getElem?_set_ne (cj hj)] at e;exact e
 have live:∀ a,(∃ vs:ML,H a=some vs.o)->∃ ws:ML,upd H p vs.o a=some ws.o:=fun a ⟨ws,h⟩=>by
  by_cases z:a=p
  ·subst z;exact⟨vs,aS⟩
  ·exact⟨ws,by rw[aJ z];exact h⟩
 have apart:∀{j:Nat}{d2:D}{t2:Tg},j≠x->(kill (x::R) env)[j]? = some (some (d2,t2))->∀ a∈F x,a∉F j:=fun {j d2 t2} hj e a ha hb=>by
  obtain⟨e0,_,h3⟩:=bZ e;exact h3 x ai (onx a ha j d2 t2 e0 hb)
 have fj:∀{j:Nat}{d2:D}{t2:Tg},j≠x->(kill (x::R) env)[j]? = some (some (d2,t2))->mT F env x R G j=F j:=fun {j d2 t2} hj e=>by
  unfold mT;rw[if_neg hj,e]
 have fx:mT F env x R G x=G:=if_pos rfl;refine⟨?_,fun j d2 t2 e=>?_,fun j h=>?_,fun j d2 t2 e o=>?_,fun j d2 e=>?_,fun a h=>?_⟩
 ·rw[List.length_set,cJ];exact re.len
 ·by_cases hj:j=x
  ·subst hj;rw[List.getElem?_set_self hxl] at e;cases e;exact⟨v,hv,by rw[fx];exact rp⟩
  ·have e1:=other hj e;obtain⟨e0,_,_⟩:=bZ e1;obtain⟨u,h1,h2⟩:=re.val j d2 t2 e0;exact⟨u,h1,by rw[fj hj e1];exact h2.updM hpl (apart hj e1 p hp)⟩
 ·by_cases hj:j=x
  ·subst hj;exact absurd (List.getElem?_set_self hxl) (h d' .own)
  ·unfold mT;rw[if_neg hj];split
   ·rename_i q e;exact absurd (by rw[List.getElem?_set_ne (cj hj)];exact e) (h q.1 q.2)
   ·rfl
 ·by_cases hj:j=x
  ·subst hj;rw[List.getElem?_set_self hxl] at e;cases e;rw[fx];refine⟨nd,fun a ha=>live a ?_,fun a ha k d3 t3 e3 m=>?_⟩
   ·rcases sub a ha with q | q
    ·exact lsx a q
    ·exact (hN a q).1
   ·by_cases hk:k=j
    ·subst hk;rw[List.getElem?_set_self hxl] at e3;cases e3;simp[aW]
    ·have e4:=other hk e3;rw[fj hk e4] at m;rcases sub a ha with q | q
     ·exact absurd m (apart hk e4 a q)
     ·obtain⟨e0,_,h3⟩:=bZ e4;obtain⟨r,r1,r2⟩:=(hN a q).2.2 k d3 t3 e0 m;exact absurd r2 (h3 r r1)
  ·have e1:=other hj e;obtain⟨e0,_,_⟩:=bZ e1;obtain⟨a,b,c⟩:=re.one j d2 t2 e0 o;rw[fj hj e1];refine⟨a,fun y hy=>live y (b y hy),fun y hy k d3 t3 e3 m=>?_⟩;by_cases hk:k=x
   ·subst hk;rw[List.getElem?_set_self hxl] at e3;cases e3;rw[fx] at m;rcases sub y m with q | q
    ·exact absurd hy (apart hj e1 y q)
    ·obtain⟨_,_,h3⟩:=bZ e1;obtain⟨r,r1,r2⟩:=(hN y q).2.2 j d2 t2 e0 hy;exact absurd r2 (h3 r r1)
   ·have e4:=other hk e3;rw[fj hk e4] at m;exact c y hy k d3 t3 (bZ e4).1 m
 ·by_cases hj:j=x
  ·subst hj;rw[fx];intro a ha;rcases sub a ha with q | q
   ·exact re.wr j d hx a q
   ·exact (hN a q).2.1
  ·have e1:=other hj e;rw[fj hj e1];exact re.wr j d2 (bZ e1).1
 ·intro z;by_cases q:a=p
  ·subst q;rw[aS] at z;cases z
  ·rw[aJ q] at z;exact re.pl a h z
theorem RE.mutate (re:RE K P env σ H F){x:Nat}{d d':D}{v:V}{p:Addr}{vs:List V}{R:List Nat}{N G:List Addr}(hx:env[x]? = some (some (d,.own)))(hv:σ[x]? = some (some v))(hp:p∈F x)
  (rp:Rep K (upd H p (.lst vs)) d' v G) (nd:G.Nodup) (sub:∀ a∈G,a∈F x\/a∈N)
  (hN:∀ a∈N,(∃ vs:ML,H a=some vs.o)/\¬ P a/\∀(j:Nat) (d:D) (t:Tg),env[j]? = some (some (d,t))->a∈F j->∃ q∈x::R,q∈aW j t) :
  RE K P ((kill (x::R) env).set x (some (d',.own))) σ (upd H p (.lst vs)) (mT F env x R G):=re.mutateM (vs:=.l vs) hx hv hp rp nd sub hN
inductive PV (K:Frag) (H:Hp):V->Option Int->Addr->Prop where
 | top (p:Addr):PV K H (.ref p) none p
 | item {q p:Addr}{ws:List V}{i:Int}{j:Nat}(h:Rd H q (.lst ws)\/il K H q ws) (hj:jv ws.length i=some j) (e:ws[j]? = some (.ref p)):PV K H (.ref q) (some i) p
theorem Rep.lst_inv {ds:List D}{v:V}{G:List Addr}(h:Rep K H (.lst ds) v G):∃ p vs G',v = .ref p/\G=p::G'/\Rd H p (.lst vs)/\aD K H ds vs G':=by
 cases h with
 |lst a b=>exact⟨_,_,_,rfl,rfl,a,b⟩
theorem rN {d:D}{v:V}{G:List Addr}{path:Option Int}{xs:List D}(rp:Rep K H d v G)(nd:G.Nodup)(h:d.at1 path=some xs):∃ p,PV K H v path p/\∀ H',aG H H'->(∀ a∈G,∃ vs:ML,H' a=some vs.o) ->
  ∃ vs Gx,H' p=some (.lst vs)/\aD K H' xs vs Gx/\p∈G/\(∀ a∈Gx,a∈G)/\Gx.Nodup/\p∉Gx /\
   ∀ ys us Gy,aD K (upd H' p (.lst us)) ys us Gy->Gy.Nodup->p∉Gy->(∀ a∈Gy,a∈Gx\/a∉G)->∃ G',Rep K (upd H' p (.lst us)) (d.set1 path ys) v G'/\G'.Nodup/\∀ a∈G',a∈G\/a∈Gy:=by
 have rdl:∀{H':Hp}{p:Addr}{vs:List V},(∀ a∈G,∃ vs:ML,H' a=some vs.o)->p∈G->Rd H' p (.lst vs)->H' p=some (.lst vs):=fun {H' p vs} hl hp r=>by
  obtain⟨ws,q⟩:=hl p hp;rcases r with r | ⟨o,r⟩
  ·exact r
  ·rw[q] at r;cases ws<;>cases r
 cases path with
 |none =>
  cases rp with
  |lst hr r =>
   rename_i p vs ds G0;simp only[D.at1,Option.some.injEq] at h;subst h;obtain⟨n1,n2⟩:=List.nodup_cons.mp nd;refine⟨p,.top p,fun H' e hl=>⟨vs,G0,rdl hl ai (aG.rd e hr),r.same e,ai,fun a ha=>ae _ ha,n2,n1,fun ys us Gy ry ny hy hs=>?_⟩⟩;exact⟨p::Gy,.lst (.inl aS) ry,List.nodup_cons.mpr ⟨hy,ny⟩,fun a ha=>(List.mem_cons.mp ha).imp (fun z=>by simp[z]) id⟩
  |_=>simp[D.at1] at h
 |some i =>
  have core:∀{ds:List D}{vs:List V}{G0:List Addr}{j:Nat}{q:Addr},aD K H ds vs G0->(∀ a∈G0,a∈G)->G0.Nodup->(Rd H q (.lst vs)\/il K H q vs)->v = .ref q->jv ds.length i=some j->ds[j]? = some (.lst xs) ->
    ∃ p,PV K H v (some i) p/\∀ H',aG H H'->(∀ a∈G,∃ vs:ML,H' a=some vs.o)->∃ ws Gx,H' p=some (.lst ws)/\aD K H' xs ws Gx/\p∈G0/\(∀ a∈Gx,a∈G0)/\Gx.Nodup/\p∉Gx /\
     ∀ ys us Gy,aD K (upd H' p (.lst us)) ys us Gy->Gy.Nodup->p∉Gy->(∀ a∈Gy,a∈Gx\/a∉G) ->
      ∃ G1,aD K (upd H' p (.lst us)) (ds.set j (.lst ys)) vs G1/\G1.Nodup/\(∀ a∈G1,a∈G0\/a∈Gy):=by
   intro ds vs G0 j q r hs n0 hq hv hj he;obtain⟨w0,g0,e0,r0,_⟩:=r.get he;have hlen:=r.len;obtain⟨p,ws0,Gx0,rfl,_,_,_⟩:=r0.lst_inv
   ·refine⟨p,by rw[hv];exact .item hq (by rw[<-hlen];exact hj) e0,fun H' e hl=>?_⟩;obtain⟨w,A,B,C,e1,e2,r1,f⟩:=(r.same e).split he;rw[e0] at e1;cases e1;subst e2;obtain⟨p',ws,Gx,ep,rfl,hr,r2⟩:=r1.lst_inv;cases ep
    ·have hpG:p∈A++(p::Gx++C):=by simp
     rw[fq] at n0;obtain⟨nA,nB,nAB⟩:=n0;rw[fq] at nB;obtain⟨nB1,nC,nBC⟩:=nB;obtain⟨np,nx⟩:=List.nodup_cons.mp nB1;have hpl:=rdl hl (hs p hpG) hr;refine⟨ws,Gx,hpl,r2,hpG,fun a ha=>by simp[ha],nx,np,fun ys us Gy ry ny hy hsy=>?_⟩;have hA:p∉A:=fun z=>nAB p z p (by simp) rfl
     have hC:p∉C:=fun z=>nBC p (by simp) p z rfl
     have e3:=f (upd H' p (.lst us)) (.lst ys) (.ref p) (p::Gy) (fun _ _=>mz hpl) (mM (ws:=.l _) hpl) (fun b hb _ h=>(aJ fun (z:b=p)=>by
      subst z;rcases List.mem_append.mp hb with hb | hb
      ·exact hA hb
      ·exact hC hb).trans h) (.lst (.inl aS) ry)
     have bK:vs.set j (.ref p)=vs:=by
      obtain⟨hj',ej⟩:=List.getElem?_eq_some_iff.mp e0;rw[<-ej,List.set_getElem_self]
     rw[bK] at e3;refine⟨_,e3,?_,fun a ha=>?_⟩
     ·rw[fq];refine⟨nA,?_,fun a ha b hb z=>?_⟩
      ·rw[fq];refine⟨List.nodup_cons.mpr ⟨hy,ny⟩,nC,fun a ha b hb z=>?_⟩;subst z;rcases bw.mp ha with rfl | ha
       ·exact hC hb
       ·rcases hsy a ha with q | q
        ·exact nBC a (by simp[q]) a hb rfl
        ·exact q (hs a (by simp[hb]))
      ·subst z;rcases List.mem_append.mp hb with hb | hb
       ·rcases bw.mp hb with rfl | hb
        ·exact hA ha
        ·rcases hsy a hb with q | q
         ·exact nAB a ha a (by simp[q]) rfl
         ·exact q (hs a (by simp[ha]))
       ·exact nAB a ha a (by simp[hb]) rfl
     ·simp only[List.mem_append,List.mem_cons,List.cons_append] at ha ⊢;rcases ha with ha | ha | ha | ha
      ·exact .inl (.inl ha)
      ·exact .inl (.inr (.inl ha))
      ·exact .inr ha
      ·exact .inl (.inr (.inr (.inr ha)))
  cases rp with
  |lst hr r =>
   rename_i q vs ds G0;simp only[D.at1,Option.bind_eq_some_iff] at h;obtain⟨j,hj,h⟩:=h;have he:ds[j]? = some (.lst xs):=by
    split at h
    ·rename_i ys e;cases h;exact e
    ·cases h
   obtain⟨n1,n2⟩:=List.nodup_cons.mp nd;obtain⟨p,a1,ff⟩:=core r (fun a ha=>ae _ ha) n2 (.inl hr) rfl hj he;refine⟨p,a1,fun H' e hl=>?_⟩;obtain⟨ws,Gx,a2,a3,a4,a5,a6,a7,f⟩:=ff H' e hl;have hqp:q≠p:=fun z=>n1 (by rw[z];exact a4)
   refine⟨ws,Gx,a2,a3,ae _ a4,fun a ha=>ae _ (a5 a ha),a6,a7,fun ys us Gy ry ny hy hs=>?_⟩;obtain⟨G1,b1,b2,b3⟩:=f ys us Gy ry ny hy hs;have es:D.set1 (.lst ds) (some i) ys = .lst (ds.set j (.lst ys)):=by simp[D.set1,hj]
   rw[es];refine⟨q::G1,.lst (A6 hqp (aG.rd e hr)) b1,List.nodup_cons.mpr ⟨fun z=>?_,b2⟩,fun a ha=>?_⟩
   ·rcases b3 q z with z | z
    ·exact n1 z
    ·rcases hs q z with z | z
     ·exact n1 (a5 q z)
     ·exact z ai
   ·rcases bw.mp ha with rfl | ha
    ·exact .inl ai
    ·exact (b3 a ha).imp (ae _) id
  |tup hr r =>
   rename_i q vs ds;simp only[D.at1,Option.bind_eq_some_iff] at h;obtain⟨j,hj,h⟩:=h;have he:ds[j]? = some (.lst xs):=by
    split at h
    ·rename_i ys e;cases h;exact e
    ·cases h
   obtain⟨p,a1,ff⟩:=core r (fun a ha=>ha) nd (.inr hr.sq) rfl hj he;refine⟨p,a1,fun H' e hl=>?_⟩;obtain⟨ws,Gx,a2,a3,a4,a5,a6,a7,f⟩:=ff H' e hl;refine⟨ws,Gx,a2,a3,a4,a5,a6,a7,fun ys us Gy ry ny hy hs=>?_⟩;obtain⟨G1,b1,b2,b3⟩:=f ys us Gy ry ny hy hs;have es:D.set1 (.tup ds) (some i) ys = .tup (ds.set j (.lst ys)):=by simp[D.set1,hj]
   rw[es];exact⟨G1,.tup (mz a2 (aG.tqT e hr)) b1,b2,b3⟩
  |_=>simp[D.at1] at h
end
end Pc
end
section
namespace Pc
open PySem PySem.Spec PyProof.Rows L2
theorem Rs.bind_ok {α β:Type}{x:Rs α}{f:α->Rs β}{b:β}(h:x.bind f = .ok b):∃ a,x = .ok a/\f a = .ok b:=by
 cases x with
 |ok a=>exact⟨a,rfl,h⟩
 |exc e=>cases h
 |bad=>cases h
theorem bS {α:Type}{o:Option α}{a:α}(h:fD o = .ok a):o=some a:=by
 cases o with
 |none=>cases h
 |some b=>cases h;rfl
theorem aG.new {H:Hp}{p:Addr}{o:HO}(h:H p=none):aG H (upd H p o):=fun b u e=>by
 rw[aJ];exact e;intro z;subst z;rw[h] at e;cases e
theorem vi:lim<=sizeLine:=by decide
theorem eX {n:Nat}(h:n<=lim):n<=sizeLine:=bc h vi
inductive Args (K:Frag) (env:En) (F:Nat->List Addr):Hp->Hp->List (D×Rt)->List V->List Addr->Prop where
 | nil {H H':Hp}(e:aG H H'):Args K env F H H' [] [] []
 | cons {H H1 H':Hp}{p:D×Rt}{v:V}{G G':List Addr}{l:List (D×Rt)}{vs:List V}(e:aG H H1) (r:Rep K H1 p.1 v G) (t:bG env F H p.2 H1 G) (s:Args K env F H1 H' l vs G'):Args K env F H H' (p::l) (v::vs) (G++G')
section
variable {K:Frag}{env:En}{F:Nat->List Addr}
theorem Args.same:∀{H H':Hp}{l:List (D×Rt)}{vs:List V}{G:List Addr},Args K env F H H' l vs G->aG H H'
 |_,_,_,_,_,.nil e=>e
 |_,_,_,_,_,.cons e _ _ s=>e.trans s.same
theorem Args.reps:∀{H H':Hp}{l:List (D×Rt)}{vs:List V}{G:List Addr},Args K env F H H' l vs G->aD K H' (l.map (·.1)) vs G
 |_,_,_,_,_,.nil _=>.nil
 |_,_,_,_,_,.cons _ r _ s=>.cons (r.same s.same) s.reps
theorem Args.cont:∀{H H':Hp}{l:List (D×Rt)}{vs:List V}{G:List Addr},Args K env F H H' l vs G->∀ a∈G,H a=none\/∃ i d t,a∈F i/\env[i]? = some (some (d,t))/\∀ q∈aW i t,q∈aT (l.map (·.2))
 |_,_,_,_,_,.nil _,a,h=>by cases h
 | _,_,_,_,_,.cons (p:=p) (l:=l) e r t s,a,h=>by
  have e1:aT ((p::l).map (·.2))=p.2.roots++aT (l.map (·.2)):=by simp[aT]
  rw[e1];rcases List.mem_append.mp h with h | h
  ·exact (t.cont a h).imp id fun ⟨i,d,t,x,y,z⟩=>⟨i,d,t,x,y,fun q hq=>ay _ (z q hq)⟩
  ·exact (s.cont a h).imp (aG.no e) fun ⟨i,d,t,x,y,z⟩=>⟨i,d,t,x,y,fun q hq=>ak _ (z q hq)⟩
theorem Args.two {H H':Hp}{p q:D×Rt}{x y:V}{G:List Addr}(ar:Args K env F H H' [p,q] [x,y] G) :
  ∃ H1 G1 G2,G=G1++G2/\aG H H1/\Rep K H1 p.1 x G1/\bG env F H p.2 H1 G1/\aG H1 H'/\Rep K H' q.1 y G2:=by
 cases ar with
 |cons e r t s =>
  cases s with
  |cons e' r' t' s' =>
   cases s' with
   |nil e''=>exact⟨_,_,_,by rw[az],e,r,t,e'.trans e'',r'.same e''⟩
theorem Args.mv {P:Addr->Prop}{σ:L2.St}:∀{H H':Hp}{l:List (D×Rt)}{vs:List V}{G:List Addr}{R:List Nat},RE K P env σ H F->Args K env F H H' l vs G->eB (l.map (·.2))=some R->R.Nodup ->
  G.Nodup/\(∀ a∈G,∃ vs:ML,H' a=some vs.o)/\∀ a∈G,H a=none\/∃ i d t,i∈R/\a∈F i/\env[i]? = some (some (d,t))/\aX t=true
 |_,_,_,_,_,_,_,.nil _,_,_=>⟨bo,fun _ h=>(nomatch h),fun _ h=>(nomatch h)⟩
 | H,_,_,_,_,_,re,.cons (p:=p) (l:=l) (G:=G) (G':=G') e r t s,hm,nd=>by
  obtain⟨d,rt⟩:=p;cases rt with
  |sh Q=>simp[eB] at hm
  |mv R1 =>
   simp only[List.map_cons,eB,Option.map_eq_some_iff] at hm;obtain⟨R2,h2,rfl⟩:=hm;obtain⟨n1,n2,n12⟩:=fq.mp nd;obtain⟨a1,b1,c1⟩:=t.mv R1 rfl;obtain⟨a2,b2,c2⟩:=Args.mv (re.same e) s h2 n2;refine⟨fq.mpr ⟨a1,a2,fun x hx y hy z=>?_⟩,fun x hx=>?_,fun x hx=>?_⟩
   ·subst z;rcases c2 x hy with q | ⟨i2,d2,t2,m2,f2,e2,o2⟩
    ·exact r.nn hx q
    ·rcases c1 x hx with q | ⟨i1,d1,t1,m1,f1,e1,o1⟩
     ·obtain⟨v,_,rp⟩:=re.val i2 d2 t2 e2;exact rp.nn f2 q
     ·have q:=(re.one i1 d1 t1 e1 o1).2.2 x f1 i2 d2 t2 e2 f2;have q':i1=i2:=by cases t2<;>simp_all [aW,aX]
      exact n12 i1 m1 i2 m2 q'
   ·rcases List.mem_append.mp hx with hx | hx
    ·obtain⟨vs,q⟩:=b1 x hx;exact⟨vs,s.same _ _ q⟩
    ·exact b2 x hx
   ·rcases List.mem_append.mp hx with hx | hx
    ·exact (c1 x hx).imp id fun ⟨i,d,t,m,z⟩=>⟨i,d,t,ay _ m,z⟩
    ·exact (c2 x hx).imp (aG.no e) fun ⟨i,d,t,m,z⟩=>⟨i,d,t,ak _ m,z⟩
theorem Args.comb {P:Addr->Prop}{σ:L2.St}{H H':Hp}{l:List (D×Rt)}{vs:List V}{G:List Addr}(re:RE K P env σ H F)(ar:Args K env F H H' l vs G):bG env F H (lR (l.map (·.2))) H' G:=by
 unfold lR;cases hm:eB (l.map (·.2)) with
 |none=>exact⟨ar.cont,fun R e=>by cases e⟩
 |some R =>
  have er:∀(l:List Rt) (R:List Nat),eB l=some R->aT l=R:=by
   intro l
   induction l with
   |nil=>intro R h;simp[eB] at h;subst h;rfl
   |cons x r ih =>
    intro R h;cases x with
    |sh Q=>simp[eB] at h
    |mv Q =>
     simp only[eB,Option.map_eq_some_iff] at h;obtain⟨R2,h2,rfl⟩:=h;have:=ih R2 h2;simp only[aT,List.map_cons,List.flatten_cons,Rt.roots] at this ⊢;rw[this]
  have er:=er _ R hm;by_cases nd:R.Nodup
  ·simp only[nd,if_true];obtain⟨a,b,c⟩:=ar.mv re hm nd;refine⟨fun x hx=>?_,fun R' e=>by cases e;exact⟨a,b,c⟩⟩;rcases c x hx with q | ⟨i,d,t,m,f,e,o⟩
   ·exact .inl q
   ·exact .inr ⟨i,d,t,f,e,fun q hq=>by cases t<;>simp_all [aW,aX,Rt.roots]⟩
  ·simp only[nd,if_false];exact⟨fun x hx=>by have:=ar.cont x hx;rw[er] at this;exact this,fun R' e=>by cases e⟩
end
structure fP (H H':Hp)(G0:List Addr)(d:D)(G:List Addr):Prop where
 same:aG H H'
 sub:∀ a∈G,H a=none\/a∈G0
 new:d.inner=true->G.Nodup/\∀ a∈G,H a=none/\∃ vs:ML,H' a=some vs.o
section
variable {K:Frag}{H:Hp}{G0:List Addr}
theorem fP.nil {d:D}:fP H H G0 d []:=⟨aG.refl _,fun _ h=>(nomatch h),fun _=>⟨bo,fun _ h=>(nomatch h)⟩⟩
theorem hX {ds:List D}{vs:List V}{G:List Addr}{p:Addr}(r:aD K H ds vs G)(hs:∀ a∈G,a∈G0)(hp:H p=none) :
  Rep K (upd H p (.lst vs)) (.lst ds) (.ref p) (p::G)/\fP H (upd H p (.lst vs)) G0 (.lst ds) (p::G):=by
 have e:=aG.new (o:=.lst vs) hp;refine⟨.lst (.inl aS) (r.same e),e,fun a ha=>?_,fun f=>?_⟩
 ·rcases bw.mp ha with rfl | ha
  ·exact .inl hp
  ·exact .inr (hs a ha)
 ·have:G=[]:=r.flat f;subst this;exact⟨by simp,fun a ha=>by
   have:a=p:=by simpa using ha
   subst this;exact⟨hp,.l _,aS⟩⟩
theorem vC {ds:List D}{vs:List V}{G:List Addr}{p:Addr}(r:aD K H ds vs G)(hs:∀ a∈G,a∈G0)(hp:H p=none) :
  Rep K (upd H p (.tup vs)) (.tup ds) (.ref p) G/\fP H (upd H p (.tup vs)) G0 (.tup ds) G:=by
 have e:=aG.new (o:=.tup vs) hp;refine⟨.tup (.inl aS) (r.same e),e,fun a ha=>.inr (hs a ha),fun f=>?_⟩;have:G=[]:=r.flat f;subst this;exact⟨by simp,fun a ha=>(nomatch ha)⟩
theorem bG.new {env:En}{F:Nat->List Addr}{H1 H':Hp}{l:List (D×Rt)}{vs:List V}{G:List Addr}{d:D}{R:List Nat}(ar:Args K env F H H1 l vs G0)(nv:fP H1 H' G0 d G)(hR:∀ q∈aT (l.map (·.2)),q∈R):bG env F H (gK d R) H' G:=by
 unfold gK;cases hi:d.inner with
 |true =>
  obtain⟨a,b⟩:=nv.new hi;have c:∀ x∈G,H x=none:=fun x hx=>aG.no ar.same (b x hx).1
  exact⟨fun x hx=>.inl (c x hx),fun R' e=>⟨a,fun x hx=>(b x hx).2,fun x hx=>.inl (c x hx)⟩⟩
 |false =>
  refine⟨fun x hx=>?_,fun R' e=>by cases e⟩;rcases nv.sub x hx with q | q
  ·exact .inl (aG.no ar.same q)
  ·exact (ar.cont x q).imp id fun ⟨i,d,t,f,e,z⟩=>⟨i,d,t,f,e,fun q hq=>hR q (z q hq)⟩
end
section
variable {X:Cx}
theorem bF {e:Expr}{t t':TE}(h:PE X e t)(k:∀ σ H Q,t' σ H Q->t σ H Q):PE X e t':=fun pins s σ H Q I q=>h pins s σ H Q I (k σ H Q q)
theorem oF {e:Expr}{t t':TT}(h:PT X e t)(k:∀ σ H Q,t' σ H Q->t σ H Q):PT X e t':=fun pins s σ H Q I q=>h pins s σ H Q I (k σ H Q q)
theorem ur {e:List Expr}{t t':TA}(h:PA X e t)(k:∀ σ H Q,t' σ H Q->t σ H Q):PA X e t':=fun pos pins s σ H Q I q=>h pos pins s σ H Q I (k σ H Q q)
theorem cR {e:Stmt}{t t':TS}(h:PS X e t)(k:∀ D σ H,t' D σ H->t D σ H):PS X e t':=fun pins s σ H D I q=>h pins s σ H D I (k D σ H q)
theorem gW {e:List Stmt}{t t':TS}(h:ip X e t)(k:∀ D σ H,t' D σ H->t D σ H):ip X e t':=fun pins s σ H D I q=>h pins s σ H D I (k D σ H q)
end
def tE (K:Frag)(T:Tb)(c:Ex):TE:=fun σ H Q=>∃ P env F,RE K P env σ H F/\∃ p,ev T c env = .ok p/\∀ v H' G,aG H H'->Rep K H' p.1 v G->bG env F H p.2 H' G->Q v H'
def pF (K:Frag)(T:Tb)(cs:kz):TA:=fun σ H Q=>∃ P env F,RE K P env σ H F/\∃ l,bK T cs env = .ok l/\∀ vs H' G,Args K env F H H' l vs G->Q vs H'
def mR (K:Frag)(T:Tb)(c:Ex):TT:=fun σ H Q=>∃ P env F,RE K P env σ H F/\∃ p b,ev T c env = .ok p/\truth p.1=some b/\∀ H',aG H H'->Q b H'
section
variable {K:Frag}{T:Tb}{P:Addr->Prop}{env:En}{F:Nat->List Addr}{σ:L2.St}{H:Hp}
theorem two {ca cb:Ex}{r:R2}{Q:VK}{p q:D×Rt}(re:RE K P env σ H F)(h1:ev T ca env = .ok p)(h2:ev T cb env = .ok q)(k:∀ x y H2 G,Args K env F H H2 [p,q] [x,y] G->r x y H2 Q):Bg r (tE K T ca) (tE K T cb) σ H Q :=
 ⟨P,env,F,re,p,h1,fun v1 H1 G1 s1 rp1 rt1=>⟨P,env,F,re.same s1,q,h2,fun v2 H2 G2 s2 rp2 rt2=>k v1 v2 H2 _ (.cons s1 rp1 rt1 (.cons s2 rp2 rt2 (.nil (aG.refl _))))⟩⟩
end
noncomputable def tw (K:Frag)(f:D->D->Option D):R2:=fun x y H Q=>∃ d1 d2 d G,aD K H [d1,d2] [x,y] G/\f d1 d2=some d/\∀ v H' G',Rep K H' d v G'->fP H H' G d G'->Q v H'
noncomputable def Cu (K:Frag):R2:=fun x y H Q=>∃ d1 d2 d G,aD K H [d1,d2] [x,y] G/\o6 d1 d2=some d/\∀ v G',Rep K H d v G'->G'.Sublist G->Q v H
section
variable {X:Cx}{T:Tb}{a b c:Expr}{ca cb cc:Ex}{pos:Pos}
theorem z0 {op:Operator}(ho:gv X (binaryOp op) (tw X.K (gr op)))(ha:PE X a (tE X.K T ca))(hb:PE X b (tE X.K T cb)):PE X (.BinOp a op b pos) (tE X.K T (.bin op ca cb)):=by
 refine bF (yu ho ha hb) fun σ H Q ⟨P,env,F,re,p0,hev,k⟩=>?_
 unfold ev at hev;obtain⟨p,h1,hev⟩:=Rs.bind_ok hev;obtain⟨q,h2,hev⟩:=Rs.bind_ok hev;obtain⟨d,h3,hev⟩:=Rs.bind_ok hev;have h3:=bS h3;cases hev;refine two re h1 h2 fun x y H2 G ar=>⟨p.1,q.1,d,G,ar.reps,h3,fun v H' G' rp nv=>k v H' G' (ar.same.trans nv.same) rp (bG.new ar nv fun z hz=>by simpa[aT] using hz)⟩
theorem yV {op:CmpOp}(ho:gv X (compareOp op) (tw X.K fun x y=>(eY op x y).map .bl))(ha:PE X a (tE X.K T ca))(hb:PE X b (tE X.K T cb))(hm:behindInMarks op b=false):PE X (.Compare a [op] [b] pos) (tE X.K T (.cmp op ca cb)):=by
 refine bF (xb ho ha hb hm) fun σ H Q ⟨P,env,F,re,p0,hev,k⟩=>?_
 unfold ev at hev;obtain⟨p,h1,hev⟩:=Rs.bind_ok hev;obtain⟨q,h2,hev⟩:=Rs.bind_ok hev;obtain⟨d,h3,hev⟩:=Rs.bind_ok hev;have h3:=bS h3;cases hev;refine two re h1 h2 fun x y H2 G ar=>⟨p.1,q.1,.bl d,G,ar.reps,by simp[h3],fun v H' G' rp nv=>k v H' G' (ar.same.trans nv.same) rp ?_⟩
 have:G'=[]:=rp.flat rfl;subst this;exact bG.nil
theorem Bn (ho:Bc X (Cu X.K))(ha:PE X a (tE X.K T ca))(hb:PE X b (tE X.K T cb))(hs:mF b):PE X (.Subscript a b pos) (tE X.K T (.ix ca cb)):=by
 refine bF (BO ho ha hb hs) fun σ H Q ⟨P,env,F,re,p0,hev,k⟩=>?_
 unfold ev at hev;obtain⟨p,h1,hev⟩:=Rs.bind_ok hev;obtain⟨q,h2,hev⟩:=Rs.bind_ok hev;obtain⟨d,h3,hev⟩:=Rs.bind_ok hev;have h3:=bS h3;cases hev;refine two re h1 h2 fun x y H2 G ar=>⟨p.1,q.1,d,G,ar.reps,h3,fun v G' rp sl=>k v H2 G' ar.same rp ?_⟩
 unfold pN;cases hf:d.flat with
 |true =>
  have:G'=[]:=rp.flat hf;subst this;exact bG.nil
 |false =>
  obtain⟨H1,g1,g2,e1,s1,_,rt1,s2,rp2⟩:=ar.two;have hq:q.1.flat=true:=by
   revert h3;cases p.1<;>cases q.1<;>simp[o6,D.flat]
  have rp2:=rp2.flat hq;have rp1:=rt1.later s2;subst rp2;rw[az] at e1;subst e1;refine⟨fun z hz=>?_,fun R e=>by cases e⟩;exact rp1.cont z (sl.subset hz)
end
end Pc
end
section
namespace Pc
open PySem L2
structure iE (P:Addr->Prop)(H H':Hp):Prop where
 keep:∀ a,P a->H' a=H a
 tup:∀ b xs,H b=some (.tup xs)->H' b=some (.tup xs)
 fz:B5 H H'
theorem iE.refl {P:Addr->Prop}(H:Hp):iE P H H:=⟨fun _ _=>rfl,fun _ _ h=>h,fun _ _ _ h=>h⟩
theorem iE.trans {P:Addr->Prop}{H H1 H2:Hp}(a:iE P H H1)(b:iE P H1 H2):iE P H H2:=⟨fun x h=>(b.keep x h).trans (a.keep x h),fun x xs h=>b.tup x xs (a.tup x xs h),fun x o u h=>b.fz x o u (a.fz x o u h)⟩
theorem iE.of_same {P:Addr->Prop}{H H':Hp}(pl:∀ a,P a->H a≠none)(e:aG H H'):iE P H H':=⟨fun a h=>by
 cases q:H a with
 |none=>exact absurd q (pl a h)
 |some o=>exact e _ _ q,fun _ _=>e _ _,fun _ _ _ h=>e _ _ h⟩
theorem iE.weak {P P':Addr->Prop}{H H':Hp}(h:∀ a,P a->P' a)(e:iE P' H H'):iE P H H':=⟨fun a x=>e.keep a (h a x),e.tup,e.fz⟩
theorem iE.tqT {K:Frag}{P:Addr->Prop}{H H':Hp}(e:iE P H H'){b:Addr}{vs:List V}(h:jx K H b vs):jx K H' b vs:=by
 rcases h with h | h
 ·exact .inl (e.tup b vs h)
 ·exact .inr h
theorem iE.reps {K:Frag}{P:Addr->Prop}{H H':Hp}(e:iE P H H'){ds:List D}{vs:List V}{G:List Addr}(h:aD K H ds vs G)(hp:∀ a∈G,P a):aD K H' ds vs G :=
 h.keep (fun _ _=>e.tqT) e.fz fun b hb _ r=>(e.keep b (hp b hb)).trans r
def pd (env:En)(F:Nat->List Addr)(env':En)(F':Nat->List Addr):Prop:=∀(i:Nat) (d:D),env'[i]? = some (some (d,.lk))->env[i]? = some (some (d,.lk))/\F' i=F i
theorem pd.refl (env:En)(F:Nat->List Addr):pd env F env F:=fun _ _ h=>⟨h,rfl⟩
theorem pd.trans {e1 e2 e3:En}{F1 F2 F3:Nat->List Addr}(a:pd e1 F1 e2 F2)(b:pd e2 F2 e3 F3):pd e1 F1 e3 F3:=fun i d h=>by
 obtain⟨h1,h2⟩:=b i d h;obtain⟨h3,h4⟩:=a i d h1;exact⟨h3,h2.trans h4⟩
structure After (K:Frag)(P Z:Addr->Prop)(env:En)(F:Nat->List Addr)(H:Hp)(env':En)(σ':L2.St)(H':Hp)(F':Nat->List Addr):Prop where
 re:RE K P env' σ' H' F'
 z:∀ i,∀ a∈F' i,Z a
 ev:iE P H H'
 lk:pd env F env' F'
theorem After.trans {K:Frag}{P Z:Addr->Prop}{e1 e2 e3:En}{F1 F2 F3:Nat->List Addr}{H1 H2 H3:Hp}{σ2 σ3:L2.St}(a:After K P Z e1 F1 H1 e2 σ2 H2 F2)(b:After K P Z e2 F2 H2 e3 σ3 H3 F3):After K P Z e1 F1 H1 e3 σ3 H3 F3 :=
 ⟨b.re,b.z,a.ev.trans b.ev,a.lk.trans b.lk⟩
noncomputable def post (K:Frag)(P Z:Addr->Prop)(env:En)(F:Nat->List Addr)(H:Hp)(D:Ends):Fl->Prop
 |.nx env'=>∀ σ' H' F',After K P Z env F H env' σ' H' F'->D.nx σ' H'
 |.bk env'=>∀ σ' H' F',After K P Z env F H env' σ' H' F'->D.bk σ' H'
 |.ct env'=>∀ σ' H' F',After K P Z env F H env' σ' H' F'->D.ct σ' H'
 |.rt d fr=>∀ v H' G,Rep K H' d v G->iE P H H'->(∀ a∈G,Z a)->(fr=true->G.Nodup/\∀ a∈G,¬ P a/\∃ vs:ML,H' a=some vs.o)->D.rt v H'
 |.xc _ _=>False
 |.bad=>False
theorem post.trans {K:Frag}{P Z:Addr->Prop}{e1 e2:En}{F1 F2:Nat->List Addr}{H1 H2:Hp}{σ2:L2.St}{D:Ends}(a:After K P Z e1 F1 H1 e2 σ2 H2 F2):∀{f:Fl},post K P Z e1 F1 H1 D f->post K P Z e2 F2 H2 D f
 |.nx _,h=>fun σ' H' F' b=>h σ' H' F' (a.trans b)
 |.bk _,h=>fun σ' H' F' b=>h σ' H' F' (a.trans b)
 |.ct _,h=>fun σ' H' F' b=>h σ' H' F' (a.trans b)
 |.rt _ _,h=>fun v H' G r e z f=>h v H' G r (a.ev.trans e) z f
 |.xc _ _,h=>h
 |.bad,h=>h
section
variable {K:Frag}{P Z:Addr->Prop}{env:En}{σ:L2.St}{H:Hp}{F:Nat->List Addr}
theorem jG {i:Nat}{d:D}{t:Tg}{G:List Addr}(hi:i<env.length)(ht:t≠.lk):pd env F (put env i d t) (n8 F i G):=fun j d' e=>by
 by_cases h:j=i
 ·subst h;rw[cP hi] at e;cases e;exact absurd rfl ht
 ·obtain⟨t0,e0,q⟩:=fV h e;cases t0 with
  |lk=>exact⟨e0,cT h⟩
  |own=>cases q
  |sh R=>cases q
theorem kJ {i:Nat}{G:List Addr}(hz:∀ i,∀ a∈F i,Z a)(hg:∀ a∈G,Z a):∀ j,∀ a∈n8 F i G j,Z a:=fun j a ha=>by
 by_cases h:j=i
 ·subst h;rw[dB] at ha;exact hg a ha
 ·rw[cT h] at ha;exact hz j a ha
theorem vH {H':Hp}{D:Ends}{i:Nat}{mv:Bool}{p:Pc.D×Rt}{v:V}{G:List Addr}(re:RE K P env σ H F)(hz:∀ i,∀ a∈F i,Z a)(zp:∀ a,¬ P a->Z a)(e:aG H H')(rp:Rep K H' p.1 v G)(rt:bG env F H p.2 H' G)
  (h:post K P Z env F H D (qQ (.nm i) mv env p)):D.nx (σ.set i (some v)) H':=by
 have re':=re.same e;have ez:∀ a∈G,Z a:=fun a ha=>by
  rcases rt.cont a ha with q | ⟨j,_,_,f,_⟩
  ·exact zp a fun z=>re.pl a z q
  ·exact hz j a f
 have jc:=iE.of_same (P:=P) re.pl e;unfold qQ at h;by_cases hi:i<env.length
 ·simp only[hi,if_true] at h;have shared:∀ R,p.2.roots=R->post K P Z env F H D (.nx (put env i p.1 (.sh (R.filter (· != i)))))->D.nx (σ.set i (some v)) H':=fun R hR h=>by
   refine h _ H' (n8 F i G) ⟨re'.put hi rp (fun o=>by cases o) (fun o=>by cases o) fun a ha j d' t' hj ej o m=>?_,kJ hz ez,jc,jG hi (by intro z;cases z)⟩;rcases rt.cont a ha with q | ⟨k,d2,t2,f,e2,s⟩
   ·exact absurd q (re.nn ej m)
   ·have:=s j ((re.one j d' t' ej o).2.2 a m k d2 t2 e2 f);rw[hR] at this;simp only[aW,List.mem_filter];exact⟨this,by simpa using hj⟩
  cases hr:p.2 with
  |sh R=>rw[hr] at h;exact shared R (by rw[hr];rfl) h
  |mv R =>
   rw[hr] at h;obtain⟨m1,m2,m3⟩:=rt.mv R hr;cases R with
   |nil =>
    have fresh:∀ a∈G,H a=none:=fun a ha=>by
     rcases m3 a ha with q | ⟨_,_,_,q,_⟩
     ·exact q
     ·cases q
    refine h _ H' (n8 F i G) ⟨re'.put hi rp (fun _=>⟨m1,m2,fun a ha j _ m=>?_⟩) (fun _ a ha z=>re.pl a z (fresh a ha)) fun a ha j d' t' hj ej o m=>?_,kJ hz ez,jc,jG hi (by intro z;cases z)⟩
    ·obtain⟨d2,t2,e2⟩:=re.at' m;exact re.nn e2 m (fresh a ha)
    ·exact absurd (fresh a ha) (re.nn ej m)
   |cons r0 R0 =>
    cases mv with
    |false=>exact shared _ (by rw[hr];rfl) h
    |true =>
     simp only[if_true] at h;by_cases ho:gB env (r0::R0)=true
     ·rw[if_pos ho] at h;have fg:=re'.forget (env':=kill (r0::R0) env) (cJ _ _) fun j d' t' ej=>(bZ ej).1
      have ow:∀ k∈r0::R0,∃ d',env[k]? = some (some (d',.own)):=fun k hk=>by
       have:=bt.mp ho k hk;split at this
       ·rename_i d' q;exact⟨d',q⟩
       ·cases this
      have apart:∀ a∈G,∀ j,j≠i->a∉(match (kill (r0::R0) env)[j]? with | some (some _)=>F j | _=>[]):=fun a ha j hj m=>by
       split at m
       ·rename_i q ej;obtain⟨dj,tj⟩:=q;obtain⟨e0,h1,h2⟩:=bZ ej;rcases m3 a ha with q | ⟨k,d2,t2,hk,f,e2,o2⟩
        ·exact re.nn e0 m q
        ·exact h2 k hk ((re.one k d2 t2 e2 o2).2.2 a f j dj tj e0 m)
       ·cases m
      refine h _ H' _ ⟨fg.put (by rw[cJ];exact hi) rp (fun _=>⟨m1,m2,apart⟩) (fun _ a ha z=>?_) fun a ha j d' t' hj ej o m=>absurd m (apart a ha j hj),kJ (fun j a ha=>?_) ez,jc,fun j d' ej=>?_⟩
      ·rcases m3 a ha with q | ⟨k,d2,t2,hk,f,e2,o2⟩
       ·exact re.pl a z q
       ·obtain⟨d3,e3⟩:=ow k hk;exact re.wr k d3 e3 a f z
      ·split at ha
       ·exact hz j a ha
       ·cases ha
      ·by_cases hj:j=i
       ·subst hj;rw[cP (by rw[cJ];exact hi)] at ej;cases ej
       ·obtain⟨t0,e0,q⟩:=fV hj ej;cases t0 with
        |lk =>
         refine⟨(bZ e0).1,?_⟩;rw[cT hj,e0]
        |own=>cases q
        |sh R=>cases q
     ·rw[if_neg ho] at h;exact h.elim
 ·simp only[hi,if_false] at h;exact h.elim
noncomputable def setM:List Nat->List V->L2.St->L2.St
 |i::is,v::vs,σ=>setM is vs (σ.set i (some v))
 |_,_,σ=>σ
theorem kS:∀{is:List Nat}{ds:List D}{vs:List V}{G:List Addr}{env env':En}{σ:L2.St}{F:Nat->List Addr},RE K P env σ H F->(∀ i,∀ a∈F i,Z a)->aD K H ds vs G->G.Nodup->(∀ a∈G,∃ vs:ML,H a=some vs.o)->(∀ a∈G,¬ P a)->(∀ a∈G,Z a) ->
  (∀ a∈G,∀ j,a∉F j)->bindM (fun _=>.own) is ds env=some env'->∃ F',RE K P env' (setM is vs σ) H F'/\(∀ i,∀ a∈F' i,Z a)/\pd env F env' F'/\is.length=vs.length
 | [],_,_,_,env,env',σ,F,re,hz,.nil,_,_,_,_,_,h=>by
  simp only[bindM,Option.some.injEq] at h;subst h;exact⟨F,re,hz,pd.refl _ _,rfl⟩
 | i::is,_,_,_,env,env',σ,F,re,hz,.cons (G:=G1) (G':=G2) r rs,nd,ll,np,gz,ap,h=>by
  simp only[bindM] at h;by_cases hi:i<env.length
  ·rw[if_pos hi] at h;obtain⟨n1,n2,n12⟩:=fq.mp nd;have re1:=re.put (t:=.own) hi r (fun _=>⟨n1,fun a ha=>ll a (ay _ ha),fun a ha j _=>ap a (ay _ ha) j⟩) (fun _ a ha=>np a (ay _ ha)) fun a ha j _ _ _ _ _ m=>absurd m (ap a (ay _ ha) j)
   obtain⟨F',a1,a2,a3,a4⟩:=kS re1 (kJ hz fun a ha=>gz a (ay _ ha)) rs n2 (fun a ha=>ll a (ak _ ha)) (fun a ha=>np a (ak _ ha)) (fun a ha=>gz a (ak _ ha)) (fun a ha j m=>by
    by_cases hj:j=i
    ·subst hj;rw[dB] at m;exact n12 a m a ha rfl
    ·rw[cT hj] at m;exact ap a (ak _ ha) j m) h
   exact⟨F',a1,a2,(jG hi (by intro z;cases z)).trans a3,by simp[a4]⟩
  ·rw[if_neg hi] at h;cases h
 |[],_,_,_,_,_,_,_,_,_,.cons _ _,_,_,_,_,_,h=>by simp[bindM] at h
 |_::_,_,_,_,_,_,_,_,_,_,.nil,_,_,_,_,_,h=>by simp[bindM] at h
theorem nV {d:D}{R:List Nat}:cF d R≠.lk:=by unfold cF;split<;>intro z<;>cases z
theorem qx {i:Nat}{d:D}{v:V}{G:List Addr}{R:List Nat}(re:RE K P env σ H F)(hi:i<env.length)(rp:Rep K H d v G)(hs:∀ a∈G,∀(j:Nat) (d':D) (t':Tg),env[j]? = some (some (d',t'))->aX t'=true->a∈F j->j∈R) :
  RE K P (put env i d (cF d R)) (σ.set i (some v)) H (n8 F i G):=by
 unfold cF;cases hf:d.flat with
 |true =>
  have:G=[]:=rp.flat hf;subst this;simp only[if_true];exact re.put hi rp (fun _=>⟨bo,fun _ h=>(nomatch h),fun _ h=>(nomatch h)⟩) (fun _ _ h=>(nomatch h)) fun _ h=>(nomatch h)
 |false =>
  simp only[Bool.false_eq_true,if_false];exact re.put hi rp (fun o=>by cases o) (fun o=>by cases o) fun a ha j d' t' hj ej o m=>hs a ha j d' t' ej o m
theorem jW {R:List Nat}:∀{is:List Nat}{ds:List D}{vs:List V}{G:List Addr}{env env':En}{σ:L2.St}{F:Nat->List Addr},RE K P env σ H F->(∀ i,∀ a∈F i,Z a)->aD K H ds vs G->(∀ a∈G,Z a) ->
  (∀ a∈G,∀(j:Nat) (d':D) (t':Tg),env[j]? = some (some (d',t'))->aX t'=true->a∈F j->j∈R)->bindM (fun d=>cF d R) is ds env=some env'->∃ F',RE K P env' (setM is vs σ) H F'/\(∀ i,∀ a∈F' i,Z a)/\pd env F env' F'/\is.length=vs.length
 | [],_,_,_,env,env',σ,F,re,hz,.nil,_,_,h=>by
  simp only[bindM,Option.some.injEq] at h;subst h;exact⟨F,re,hz,pd.refl _ _,rfl⟩
 | i::is,_,_,_,env,env',σ,F,re,hz,.cons (d:=d) (G:=G1) (G':=G2) r rs,gz,hs,h=>by
  simp only[bindM] at h;by_cases hi:i<env.length
  ·rw[if_pos hi] at h;have re1:=qx re hi r fun a ha=>hs a (ay _ ha)
   obtain⟨F',a1,a2,a3,a4⟩:=jW re1 (kJ hz fun a ha=>gz a (ay _ ha)) rs (fun a ha=>gz a (ak _ ha)) (fun a ha j d' t' ej o m=>by
    by_cases hj:j=i
    ·subst hj;rw[cP hi] at ej;simp only[Option.some.injEq,Prod.mk.injEq] at ej;obtain⟨rfl,rfl⟩:=ej;rw[dB] at m;cases hf:d.flat with
     |true=>rw[r.flat hf] at m;cases m
     |false=>simp[cF,hf,aX] at o
    ·rw[cT hj] at m;obtain⟨t0,e0,rfl⟩:=fV hj ej;rw[jm] at o;exact hs a (ak _ ha) j d' t0 e0 o m) h
   exact⟨F',a1,a2,(jG hi nV).trans a3,by simp[a4]⟩
  ·rw[if_neg hi] at h;cases h
 |[],_,_,_,_,_,_,_,_,_,.cons _ _,_,_,h=>by simp[bindM] at h
 |_::_,_,_,_,_,_,_,_,_,_,.nil,_,_,h=>by simp[bindM] at h
theorem ni (R:List Nat)(env:En):(lock R env).length=env.length:=by simp[lock]
theorem km {R:List Nat}{env:En}{i:Nat}{d:D}{t:Tg}(e:(lock R env)[i]? = some (some (d,t))) :
  (env[i]? = some (some (d,t))/\(t = .own->i∉R))\/(t = .lk/\i∈R/\env[i]? = some (some (d,.own))):=by
 unfold lock at e;rw[List.getElem?_mapIdx] at e;cases q:env[i]? with
 |none=>rw[q] at e;cases e
 |some s =>
  rw[q] at e;cases s with
  |none=>cases e
  |some p =>
   obtain⟨a,b⟩:=p;simp only[Option.map_some,Option.some.injEq] at e;cases b with
   |own =>
    simp only at e;by_cases h:R.contains i=true
    ·rw[if_pos h] at e;cases e;exact .inr ⟨rfl,by simpa using h,rfl⟩
    ·rw[if_neg h] at e;cases e;exact .inl ⟨rfl,fun _ z=>h (by simpa using z)⟩
   |lk=>cases e;exact .inl ⟨rfl,fun z=>by cases z⟩
   |sh Q=>cases e;exact .inl ⟨rfl,fun z=>by cases z⟩
theorem tV {R:List Nat}{env:En}{i:Nat}{d:D}{t:Tg}(e:env[i]? = some (some (d,t))):∃ t',(lock R env)[i]? = some (some (d,t'))/\aX t'=aX t/\aW i t'=aW i t:=by
 unfold lock;rw[List.getElem?_mapIdx,e];cases t with
 |own =>
  simp only[Option.map_some];by_cases h:R.contains i=true
  ·exact⟨.lk,by rw[if_pos h],rfl,rfl⟩
  ·exact⟨.own,by rw[if_neg h],rfl,rfl⟩
 |lk=>exact⟨.lk,rfl,rfl,rfl⟩
 |sh Q=>exact⟨.sh Q,rfl,rfl,rfl⟩
theorem dM {R:List Nat}{env:En}{i:Nat}{d:D}{t:Tg}(e:(lock R env)[i]? = some (some (d,t))):∃ t0,env[i]? = some (some (d,t0))/\aX t0=aX t/\aW i t0=aW i t:=by
 rcases km e with ⟨h,_⟩ | ⟨rfl,_,h⟩
 ·exact⟨t,h,rfl,rfl⟩
 ·exact⟨.own,h,rfl,rfl⟩
theorem RE.locked (re:RE K P env σ H F){R:List Nat}{G:List Addr}(hg:∀ a∈G,H a≠none)(hc:∀ a∈G,∀(i:Nat) (d:D) (t:Tg),env[i]? = some (some (d,t))->aX t=true->a∈F i->i∈R) :
  RE K (fun a=>P a\/a∈G) (lock R env) σ H F where
 len:=(ni R env).trans re.len
 val:=fun i d t e=>let ⟨t0,e0,_⟩:=dM e;re.val i d t0 e0
 emp:=fun i h=>re.emp i fun d t e=>by
  obtain⟨t',e',_⟩:=tV (R:=R) e;exact h d t' e'
 one:=fun i d t e o=>by
  obtain⟨t0,e0,o0,_⟩:=dM e;obtain⟨a,b,c⟩:=re.one i d t0 e0 (o0.trans o);refine⟨a,b,fun x hx j d' t' ej m=>?_⟩;obtain⟨t1,e1,_,s1⟩:=dM ej;rw[<-s1];exact c x hx j d' t1 e1 m
 wr:=fun i d e a ha z=>by
  rcases km e with ⟨h,hn⟩ | ⟨q,_⟩
  ·rcases z with z | z
   ·exact re.wr i d h a ha z
   ·exact hn rfl (hc a z i d .own h rfl ha)
  ·cases q
 pl:=fun a h=>h.elim (re.pl a) (hg a)
theorem kC (R:List Nat)(env0 env:En):(unlock R env0 env).length=env.length:=by simp[unlock]
theorem ie {R:List Nat}{env0 env:En}{i:Nat}{d:D}{t:Tg}(e:(unlock R env0 env)[i]? = some (some (d,t))) :
  (env[i]? = some (some (d,t))/\(t = .lk->¬ (i∈R/\∃ d0,env0[i]? = some (some (d0,.own)))))\/(t = .own/\i∈R/\env[i]? = some (some (d,.lk))/\∃ d0,env0[i]? = some (some (d0,.own))):=by
 unfold unlock at e;rw[List.getElem?_mapIdx] at e;cases q:env[i]? with
 |none=>rw[q] at e;cases e
 |some s =>
  rw[q] at e;cases s with
  |none=>cases e
  |some p =>
   obtain⟨a,b⟩:=p;simp only[Option.map_some,Option.some.injEq] at e;cases b with
   |own=>cases e;exact .inl ⟨rfl,fun z=>by cases z⟩
   |sh Q=>cases e;exact .inl ⟨rfl,fun z=>by cases z⟩
   |lk =>
    simp only at e;split at e
    ·rename_i d0 q0;by_cases h:R.contains i=true
     ·rw[if_pos h] at e;cases e;exact .inr ⟨rfl,by simpa using h,rfl,d0,q0⟩
     ·rw[if_neg h] at e;cases e;exact .inl ⟨rfl,fun _ z=>h (by simpa using z.1)⟩
    ·rename_i nq;cases e;exact .inl ⟨rfl,fun _ ⟨_,d0,q0⟩=>nq d0 q0⟩
theorem fB {R:List Nat}{env0 env:En}{i:Nat}{d:D}{t:Tg}(e:(unlock R env0 env)[i]? = some (some (d,t))):∃ t0,env[i]? = some (some (d,t0))/\aX t0=aX t/\aW i t0=aW i t:=by
 rcases ie e with ⟨h,_⟩ | ⟨rfl,_,h,_⟩
 ·exact⟨t,h,rfl,rfl⟩
 ·exact⟨.lk,h,rfl,rfl⟩
theorem oE {R:List Nat}{env0 env:En}{i:Nat}{d:D}{t:Tg}(e:env[i]? = some (some (d,t))):∃ t',(unlock R env0 env)[i]? = some (some (d,t')):=by
 unfold unlock;rw[List.getElem?_mapIdx,e];cases t with
 |own=>exact⟨.own,rfl⟩
 |sh Q=>exact⟨.sh Q,rfl⟩
 |lk =>
  simp only[Option.map_some];split
  ·by_cases h:R.contains i=true
   ·exact⟨.own,by rw[if_pos h]⟩
   ·exact⟨.lk,by rw[if_neg h]⟩
  ·exact⟨.lk,rfl⟩
theorem After.unlocked {R:List Nat}{G:List Addr}{env':En}{σ':L2.St}{H':Hp}{F':Nat->List Addr}(re:RE K P env σ H F)(a:After K (fun a=>P a\/a∈G) Z (lock R env) F H env' σ' H' F'):After K P Z env F H (unlock R env env') σ' H' F' where
 re:={
  len:=(kC R env env').trans a.re.len
  val:=fun i d t e=>let ⟨t0,e0,_⟩:=fB e;a.re.val i d t0 e0
  emp:=fun i h=>a.re.emp i fun d t e=>by
   obtain⟨t',e'⟩:=oE (R:=R) (env0:=env) e;exact h d t' e'
  one:=fun i d t e o=>by
   obtain⟨t0,e0,o0,_⟩:=fB e;obtain⟨x,y,c⟩:=a.re.one i d t0 e0 (o0.trans o);refine⟨x,y,fun z hz j d' t' ej m=>?_⟩;obtain⟨t1,e1,_,s1⟩:=fB ej;rw[<-s1];exact c z hz j d' t1 e1 m
  wr:=fun i d e b hb z=>by
   rcases ie e with ⟨h,_⟩ | ⟨_,hR,h,d0,h0⟩
   ·exact a.re.wr i d h b hb (.inl z)
   ·obtain⟨h1,h2⟩:=a.lk i d h;rw[h2] at hb;exact re.wr i d0 h0 b hb z
  pl:=fun b h=>a.re.pl b (.inl h) }
 z:=a.z
 ev:=a.ev.weak fun _ h=>.inl h
 lk:=fun i d e=>by
  rcases ie e with ⟨h,hn⟩ | ⟨q,_⟩
  ·obtain⟨h1,h2⟩:=a.lk i d h;rcases km h1 with ⟨h3,_⟩ | ⟨_,hR,h3⟩
   ·exact⟨h3,h2⟩
   ·exact absurd ⟨hR,d,h3⟩ (hn rfl)
  ·cases q
end
section
variable {K:Frag}{P Z:Addr->Prop}{env:En}{σ:L2.St}{H:Hp}{F:Nat->List Addr}
theorem ik {x:Nat}{d:D}(h:ownAt env x=some d):env[x]? = some (some (d,.own)):=by
 unfold ownAt at h;split at h
 ·rename_i d' q;cases h;exact q
 ·cases h
theorem qP (re:RE K P env σ H F){x:Nat}{d:D}{path:Option Int}{xs:List D}{v:V}(hx:ownAt env x=some d)(hv:σ[x]? = some (some v))(h:d.at1 path=some xs) :
  ∃ p,PV K H v path p/\∀ H',aG H H'->∃ ws Gx,H' p=some (.lst ws)/\aD K H' xs ws Gx/\p∈F x/\(∀ a∈Gx,a∈F x)/\Gx.Nodup/\p∉Gx /\
   ∀ ys us Gy,aD K (upd H' p (.lst us)) ys us Gy->Gy.Nodup->p∉Gy->(∀ a∈Gy,a∈Gx\/a∉F x)->∃ G',Rep K (upd H' p (.lst us)) (d.set1 path ys) v G'/\G'.Nodup/\∀ a∈G',a∈F x\/a∈Gy:=by
 have hx':=ik hx;obtain⟨u,e,rp⟩:=re.val x d .own hx';rw[hv] at e;cases e;obtain⟨a,b,_⟩:=re.one x d .own hx' rfl;obtain⟨p,pv,f⟩:=rN rp a h;exact⟨p,pv,fun H' e=>f H' e fun y hy=>let ⟨ws,q⟩:=b y hy;⟨ws,e _ _ q⟩⟩
theorem qO {D:Ends}{x:Nat}{d:Pc.D}{path:Option Int}{ys:List Pc.D}{rs:List Rt}(h:post K P Z env F H D (eT x path env d ys rs)):ys.length<=lim:=by
 unfold eT at h;cases hR:eB rs with
 |none=>rw[hR] at h;exact h.elim
 |some R =>
  rw[hR] at h;simp only at h;by_cases hc:(decide R.Nodup&&gB env R && !R.contains x&&decide (ys.length<=lim))=true
  ·simp only[Bool.and_eq_true,decide_eq_true_eq] at hc;exact hc.2
  ·rw[if_neg hc] at h;exact h.elim
theorem ud {H1:Hp}{D:Ends}{x:Nat}{d:Pc.D}{path:Option Int}{ys:List Pc.D}{rs:List Rt}{v:V}{p:Addr}{us:List V}{N:List Addr}
  (re:RE K P env σ H F) (hz:∀ i,∀ a∈F i,Z a) (zp:∀ a,¬ P a->Z a) (e:aG H H1) (hx:ownAt env x=some d) (hv:σ[x]? = some (some v)) (hp:p∈F x)
  (hN:∀ R,eB rs=some R->R.Nodup->N.Nodup/\(∀ a∈N,∃ vs:ML,H1 a=some vs.o)/\∀ a∈N,H a=none\/∃ i d t,i∈R/\a∈F i/\env[i]? = some (some (d,t))/\aX t=true)
  (hset:(∀ a∈N,a∉F x)->N.Nodup->∃ G',Rep K (upd H1 p (.lst us)) (d.set1 path ys) v G'/\G'.Nodup/\∀ a∈G',a∈F x\/a∈N)
  (h:post K P Z env F H D (eT x path env d ys rs)):D.nx σ (upd H1 p (.lst us)):=by
 unfold eT at h;cases hR:eB rs with
 |none=>rw[hR] at h;exact h.elim
 |some R =>
  rw[hR] at h;simp only at h;by_cases hc:(decide R.Nodup&&gB env R && !R.contains x&&decide (ys.length<=lim))=true
  ·rw[if_pos hc] at h;simp only[Bool.and_eq_true,decide_eq_true_eq,Bool.not_eq_true'] at hc;obtain⟨⟨⟨hc1,hc2⟩,hc3⟩,hc4⟩:=hc;have hxR:x∉R:=fun z=>by
    have:R.contains x=true:=by simpa using z
    rw[this] at hc3;cases hc3
   obtain⟨n1,n2,n3⟩:=hN R hR hc1;have hx':=ik hx;have ow:∀ k∈R,∃ d',env[k]? = some (some (d',.own)):=fun k hk=>by
    have:=bt.mp hc2 k hk;split at this
    ·rename_i d' q;exact⟨d',q⟩
    ·cases this
   have notx:∀ a∈N,a∉F x:=fun a ha m=>by
    rcases n3 a ha with q | ⟨i,d2,t2,hi,f,e2,o2⟩
    ·exact re.nn hx' m q
    ·have:=(re.one i d2 t2 e2 o2).2.2 a f x d .own hx' m;simp only[aW,List.mem_singleton] at this;subst this;exact hxR hi
   obtain⟨G',g1,g2,g3⟩:=hset notx n1;have re1:=re.same e;have pP:∀ a∈N,¬ P a:=fun a ha z=>by
    rcases n3 a ha with q | ⟨i,d2,t2,hi,f,e2,o2⟩
    ·exact re.pl a z q
    ·obtain⟨d3,e3⟩:=ow i hi;exact re.wr i d3 e3 a f z
   have re2:=re1.mutate (R:=R) (N:=N) hx' hv hp g1 g2 g3 fun a ha=>⟨n2 a ha,pP a ha,fun j dj tj ej m=>by
    rcases n3 a ha with q | ⟨i,d2,t2,hi,f,e2,o2⟩
    ·exact absurd q (re.nn ej m)
    ·exact⟨i,ae _ hi,(re.one i d2 t2 e2 o2).2.2 a f j dj tj ej m⟩⟩
   obtain⟨_,lsx,_⟩:=re1.one x d .own hx' rfl;obtain⟨ws,hpl⟩:=lsx p hp;have nPp:¬ P p:=re.wr x d hx' p hp;refine h σ _ _ ⟨re2,fun j a ha=>?_,(iE.of_same re.pl e).trans ⟨fun a z=>aJ (fun q=>nPp (q ▸ z)),fun b xs r=>?_,mM hpl⟩,fun j dj ej=>?_⟩
   ·unfold mT at ha;split at ha
    ·rcases g3 a ha with q | q
     ·exact hz x a q
     ·exact zp a (pP a q)
    ·split at ha
     ·exact hz j a ha
     ·cases ha
   ·refine (aJ (fun q=>?_)).trans r;subst q;rw[hpl] at r;cases ws<;>cases r
   ·by_cases hj:j=x
    ·subst hj;rw[List.getElem?_set_self (by rw[cJ];exact (List.getElem?_eq_some_iff.mp hx').1)] at ej;cases ej
    ·rw[List.getElem?_set_ne (cj hj)] at ej;refine⟨(bZ ej).1,?_⟩;unfold mT;rw[if_neg hj,ej]
  ·rw[if_neg hc] at h;exact h.elim
end
end Pc
end
section
namespace Pc
open PySem PySem.Spec PyProof.Rows L2
section
variable {K:Frag}{H:Hp}
theorem aD.inv2 {d e:D}{x y:V}{G:List Addr}(h:aD K H [d,e] [x,y] G):∃ G1 G2,Rep K H d x G1/\Rep K H e y G2/\G=G1++G2:=by
 cases h with
 |cons r s =>
  cases s with
  |cons r' s'=>cases s';exact⟨_,_,r,r',by rw[az]⟩
theorem Rep.int_inv {i:Int}{v:V}{G:List Addr}(h:Rep K H (.int i) v G):v = .int i/\G=[]:=by cases h;exact⟨rfl,rfl⟩
theorem Rep.bl_inv {i:Bool}{v:V}{G:List Addr}(h:Rep K H (.bl i) v G):v = .bl i/\G=[]:=by cases h;exact⟨rfl,rfl⟩
theorem Rep.str_inv {i:Str}{v:V}{G:List Addr}(h:Rep K H (.str i) v G):v = .str i/\G=[]:=by cases h;exact⟨rfl,rfl⟩
theorem Rep.non_inv {v:V}{G:List Addr}(h:Rep K H .non v G):v = .non/\G=[]:=by cases h;exact⟨rfl,rfl⟩
theorem Rep.tup_inv {ds:List D}{v:V}{G:List Addr}(h:Rep K H (.tup ds) v G):∃ p vs,v = .ref p/\il K H p vs/\aD K H ds vs G:=by
 cases h with
 |tup a b=>exact⟨_,_,rfl,a.sq,b⟩
theorem Rep.tup_invT {ds:List D}{v:V}{G:List Addr}(h:Rep K H (.tup ds) v G):∃ p vs,v = .ref p/\jx K H p vs/\aD K H ds vs G:=by
 cases h with
 |tup a b=>exact⟨_,_,rfl,a,b⟩
end
section
variable {X:Cx}
theorem Inv.lstR {pins:List (Addr×Obj)}{σ:L2.St}{H:Hp}{s:Shared}{l:Addr}{xs:List V}(I:Inv X pins σ H s)(hH:Rd H l (.lst xs)):xs.length<=sizeLine/\∃(its:List Value) (n:Nat),aK xs its/\xs.length=its.length/\s.heap.get? l=some { cls:=.type "list",data:=.seq its.toArray n }:=by
 obtain⟨z,its,n,r,e⟩:=hH.ok I.hok;exact⟨z,its,n,r,r.length,e⟩
noncomputable def CG:R2:=fun x y H Q=>∃ l b xs zs,x = .ref l/\y = .ref b/\Rd H l (.lst xs)/\Rd H b (.lst zs)/\xs.length+zs.length<=sizeLine/\∀ p,H p=none->Q (.ref p) (upd H p (.lst (xs++zs)))
theorem xV:gv X (binaryOp .Add) CG:=by
 intro pins s σ H x y v u Q I rx ry h;obtain⟨l,b,xs,zs,rfl,rfl,hH,hB,hz,q⟩:=h;cases rx;cases ry;obtain⟨z,its,n,r,hl,e⟩:=Inv.lstR I hH;obtain⟨z2,its2,n2,r2,hl2,e2⟩:=Inv.lstR I hB;refine PySem.P.add_list e e2 ?_ (by rw[ao,ao];omega);have ea:its.toArray++its2.toArray=(its++its2).toArray:=by simp
 rw[ea];exact⟨.ref _,_,I.lnew (t':=s.toks) (r.append r2) (by rw[aw];omega),rfl,q _ I.fresh⟩
noncomputable def C8:R2:=fun x y H Q=>∃ l k xs,x = .ref l/\y = .int k/\Rd H l (.lst xs)/\-(2 ^ 63)<=k/\k<2 ^ 63/\xs.length*k.toNat<=sizeLine /\
 ∀ p,H p=none->Q (.ref p) (upd H p (.lst (List.replicate k.toNat xs).flatten))
theorem w9:gv X (binaryOp .Mult) C8:=by
 intro pins s σ H x y v u Q I rx ry h;obtain⟨l,k,xs,rfl,rfl,hH,h1,h2,hz,q⟩:=h;cases rx;obtain⟨t,rfl⟩:=ry;obtain⟨z,its,n,r,hl,e⟩:=Inv.lstR I hH;have hlen:its.toArray.size*k.toNat<=sizeLine:=by rw[ao,<-hl];exact hz
 have hcap:¬ its.toArray.size*k.toNat > (2 ^ 63 - 1) / 8:=by
  have:(sizeLine:Nat)<=(2 ^ 63 - 1) / 8:=by decide
  omega
 have hfit:¬ (!Builtin.List.listFitsIndex k)=true:=by
  rw[fitsIndex_both h1 h2];exact av
 have hlong:¬ Builtin.List.listTooLong (its.toArray.size*k.toNat)=true:=by
  rw[tZ hlen];exact av
 have hnew:List.foldl (fun x1 x2=>x1++x2) #[] (List.replicate (if its.toArray.isEmpty=true then 0 else k.toNat) its.toArray)=(List.replicate k.toNat its).flatten.toArray:=by
  have f0:∀ m:Nat,List.foldl (fun x1 x2=>x1++x2) #[] (List.replicate m its.toArray)=(List.replicate m its).flatten.toArray:=fun m=>by
   have:=foldl_rep its m [];rw[gq] at this;exact this
  rw[f0];cases its with
  |nil=>simp
  |cons a r'=>rw[if_neg (by simp)]
 refine wpAny_binaryOp_repeat_ref (T:="list") (U:="int") (by decide) ⟨_,e,rfl⟩ (fun s'=>typeIs_int s' k t) noFill_list_mul F.fills_int_mul F.slot_int_rmul repeat_list F.slot_int_index.lookup
  (call_meets F.slot_int_rmul (typeIs_int s k t) F.entry_int_rmul (F.args_int_rmul_2 _ _) (int___rmul___int_list k t l its.toArray n)
   ⟨e,rfl,⟨_,e,rfl⟩,call_meets F.slot_list_mul ⟨_,e,rfl⟩ F.entry_list_mul (F.args_list_mul_2 _ _) (AutoListH.list___mul___list_int_3 l its.toArray n k t hfit hcap hlong) ⟨e,?_⟩⟩)
 rw[hnew];exact⟨.ref _,_,I.lnew (t':=s.toks) (r.rep k.toNat) (by rw[len_rep,Nat.mul_comm];exact hz),rfl,q _ I.fresh⟩
theorem aD.rep {K:Frag}{H:Hp}{ds:List D}{vs:List V}(h:aD K H ds vs []):∀ n:Nat,aD K H (List.replicate n ds).flatten (List.replicate n vs).flatten []
 |0=>.nil
 | n+1=>by
  rw[cz,cz,cy,cy];exact h.append (h.rep n)
theorem jz {n:Nat}{d e:D}(h:ck n d=some e):n<=lim/\e=d:=by
 unfold ck at h;split at h
 ·cases h;exact⟨‹_›,rfl⟩
 ·cases h
theorem lH {i:Int}:small i=true↔(-(2 ^ 64)<i/\i<2 ^ 64):=by unfold small;exact decide_eq_true_iff
theorem vP {op:Operator}{i j k:Int}(h:binI op i j=some k):gv X (binaryOp op) (fun x y H Q=>x = .int i/\y = .int j/\Q (.int k) H):=by
 intro pins s σ H x y v u Q I rx ry q;obtain⟨rfl,rfl,q⟩:=q;cases op with
 |Add=>cases h;exact zu pins s σ H _ _ v u Q I rx ry ⟨i,j,rfl,rfl,q⟩
 |Sub=>cases h;exact zH pins s σ H _ _ v u Q I rx ry ⟨i,j,rfl,rfl,q⟩
 |Mult =>
  simp only[binI] at h;by_cases hc:(small i || small j)=true
  ·rw[if_pos hc] at h;cases h;refine A5 pins s σ H _ _ v u Q I rx ry ⟨i,j,rfl,rfl,?_,q⟩;rw[ed,lH,lH] at hc;exact hc
  ·rw[if_neg hc] at h;cases h
 |FloorDiv =>
  simp only[binI] at h;by_cases hc:0<j/\j<1073741824
  ·rw[if_pos hc] at h;cases h;exact wB pins s σ H _ _ v u Q I rx ry ⟨i,j,rfl,rfl,hc,q⟩
  ·rw[if_neg hc] at h;cases h
 |Mod =>
  simp only[binI] at h;by_cases hc:0<j
  ·rw[if_pos hc] at h;cases h;exact zS pins s σ H _ _ v u Q I rx ry ⟨i,j,rfl,rfl,hc,q⟩
  ·rw[if_neg hc] at h;cases h
 |Pow =>
  simp only[binI] at h;by_cases hc:0<=j/\j<=1000000/\i.natAbs<2 ^ 64
  ·rw[if_pos hc] at h;cases h;exact zh pins s σ H _ _ v u Q I rx ry ⟨i,j,rfl,rfl,hc,q⟩
  ·rw[if_neg hc] at h;cases h
 |LShift =>
  simp only[binI] at h;by_cases hc:0<=j/\j<=1000000/\i.natAbs<2 ^ 64
  ·rw[if_pos hc] at h;cases h;exact AR pins s σ H _ _ v u Q I rx ry ⟨i,j,rfl,rfl,hc,q⟩
  ·rw[if_neg hc] at h;cases h
 |RShift =>
  simp only[binI] at h;by_cases hc:0<=j
  ·rw[if_pos hc] at h;cases h;exact AH pins s σ H _ _ v u Q I rx ry ⟨i,j,rfl,rfl,hc,q⟩
  ·rw[if_neg hc] at h;cases h
 |BitAnd=>cases h;exact AW pins s σ H _ _ v u Q I rx ry ⟨i,j,rfl,rfl,q⟩
 |BitOr=>cases h;exact CN pins s σ H _ _ v u Q I rx ry ⟨i,j,rfl,rfl,q⟩
 |BitXor=>cases h;exact zT pins s σ H _ _ v u Q I rx ry ⟨i,j,rfl,rfl,q⟩
 |_=>cases h
theorem qd (op:Operator):gv X (binaryOp op) (tw X.K (gr op)):=by
 intro pins s σ H x y v u Q I rx ry h;obtain⟨d1,d2,d,G,rs,hd,k⟩:=h;obtain⟨G1,G2,r1,r2,rfl⟩:=rs.inv2;cases d1 with
 |int i =>
  cases d2 with
  |int j =>
   obtain⟨rfl,rfl⟩:=r1.int_inv;obtain⟨rfl,rfl⟩:=r2.int_inv;have:gr op (.int i) (.int j)=(binI op i j).map .int:=by cases op<;>rfl
   rw[this,aa] at hd;obtain⟨z,hz,rfl⟩:=hd;exact vP hz pins s σ H _ _ v u Q I rx ry ⟨rfl,rfl,k _ H [] (.int z) fP.nil⟩
  |_=>cases op<;>simp[gr] at hd
 |str a =>
  cases d2 with
  |str b =>
   cases op with
   |Add =>
    obtain⟨hl,rfl⟩:=jz hd;obtain⟨rfl,rfl⟩:=r1.str_inv;obtain⟨rfl,rfl⟩:=r2.str_inv;exact pe pins s σ H _ _ v u Q I rx ry ⟨a,b,rfl,rfl,eX hl,k _ H [] (.str _) fP.nil⟩
   |_=>simp[gr] at hd
  |_=>cases op<;>simp[gr] at hd
 |lst a =>
  obtain⟨p,vs,G',rfl,rfl,h1,h2⟩:=r1.lst_inv;cases d2 with
  |lst b =>
   cases op with
   |Add =>
    obtain⟨hl,rfl⟩:=jz hd;obtain⟨p',vs',G'',rfl,rfl,h1',h2'⟩:=r2.lst_inv;refine xV pins s σ H _ _ v u Q I rx ry ⟨p,p',vs,vs',rfl,rfl,h1,h1',by rw[<-h2.len,<-h2'.len];exact eX hl,fun q hq=>?_⟩;obtain⟨n1,n2⟩:=hX (G0:=p::G'++p'::G'') (h2.append h2') (fun a ha=>by simp at ha ⊢;rcases ha with ha | ha<;>simp[ha]) hq;exact k _ _ _ n1 n2
   |_=>simp[gr] at hd
  |int n =>
   cases op with
   |Mult =>
    simp only[gr] at hd;by_cases hc : -(2 ^ 63)<=n/\n<2 ^ 63
    ·rw[if_pos hc] at hd;by_cases hf:D.flats a=true
     ·rw[if_pos hf] at hd;obtain⟨hl,rfl⟩:=jz hd;obtain⟨rfl,rfl⟩:=r2.int_inv;have eG:G'=[]:=h2.flat hf;subst eG;refine w9 pins s σ H _ _ v u Q I rx ry ⟨p,n,vs,rfl,rfl,h1,hc.1,hc.2,by rw[<-h2.len];exact eX hl,fun q hq=>?_⟩;obtain⟨n1,n2⟩:=hX (G0:=[p] ++ []) (h2.rep n.toNat) (fun a ha=>(nomatch ha)) hq;exact k _ _ _ n1 n2
     ·rw[if_neg hf] at hd;cases hd
    ·rw[if_neg hc] at hd;cases hd
   |_=>simp[gr] at hd
  |_=>cases op<;>simp[gr] at hd
 |tup a =>
  obtain⟨p,vs,rfl,h1,h2⟩:=r1.tup_invT;cases d2 with
  |tup b =>
   cases op with
   |Add =>
    simp only[gr] at hd;by_cases hc:a.isEmpty=true
    ·rw[if_pos hc] at hd;cases hd
    ·rw[if_neg hc] at hd;obtain⟨hl,rfl⟩:=jz hd;obtain⟨p',vs',rfl,h1',h2'⟩:=r2.tup_inv;refine xw pins s σ H _ _ v u Q I rx ry ⟨p,p',vs,vs',rfl,rfl,h1.sq,h1',?_,by rw[<-h2.len,<-h2'.len];exact eX hl,fun hy=>?_,fun _ q hq=>?_⟩
     ·intro z;have:=h2.len;rw[z] at this;cases a with
      |nil=>exact hc rfl
      |cons _ _=>simp at this
     ·subst hy;cases h2' with
      |nil =>
       simp only[List.append_nil] at k;refine k _ H G1 (.tup h1 h2) ⟨aG.refl _,fun a ha=>.inr ha,fun f=>?_⟩;have:G1=[]:=h2.flat (by simpa[D.inner] using f);subst this;exact⟨bo,fun _ h=>(nomatch h)⟩
     ·obtain⟨n1,n2⟩:=vC (G0:=G1++G2) (h2.append h2') (fun a ha=>ha) hq;exact k _ _ _ n1 n2
   |_=>simp[gr] at hd
  |_=>cases op<;>simp[gr] at hd
 |_=>cases d2<;>cases op<;>simp[gr] at hd
open SeqAt in
theorem gx {f:D->D->Option Bool}:∀{xs ys:List D}{b:Bool},AI f xs ys=some b->xs.length=ys.length/\∃ e:Nat->Bool,(∀ j x y,xs[j]? = some x->ys[j]? = some y->f x y=some (e j))/\b=(List.range xs.length).all e
 |[],[],b,h=>by cases h;exact⟨rfl,fun _=>true,fun j x y hx=>by simp at hx,rfl⟩
 | x::xs,y::ys,b,h=>by
  simp only[AI,Option.bind_eq_some_iff,Option.map_eq_some_iff] at h;obtain⟨a,h1,c,h2,rfl⟩:=h;obtain⟨hl,e,he,rfl⟩:=gx h2;refine⟨by simp[hl],fun j=>match j with | 0=>a | j+1=>e j,fun j x' y' hx hy=>?_,?_⟩
  ·cases j with
   |zero=>simp at hx hy;subst hx;subst hy;exact h1
   |succ j=>exact he j x' y' (by simpa using hx) (by simpa using hy)
  ·rw[be,List.range_succ_eq_map,cv,List.all_map];rfl
 |[],_::_,b,h=>by cases h
 |_::_,[],b,h=>by cases h
theorem iH:∀(n:Nat) (d:D) (b:Bool),D.eqf n d d=some b->b=true
 |0,_,_,h=>by cases h
 |n+1,.non,b,h=>by cases h;rfl
 |n+1,.bl x,b,h=>by simp[D.eqf] at h;exact h
 |n+1,.int x,b,h=>by simp[D.eqf] at h;exact h
 |n+1,.str x,b,h=>by simp[D.eqf] at h;exact h
 | n+1,.lst xs,b,h=>by
  simp only[D.eqf,if_true] at h;obtain⟨_,e,he,rfl⟩:=gx h;rw[bt];intro j hj;have hj:j<xs.length:=by simpa using hj
  exact iH n xs[j] _ (he j _ _ (by simp[hj]) (by simp[hj]))
 |n+1,.dct _,b,h=>by cases h
 |n+1,.mpi _,b,h=>by cases h
 |n+1,.mpt _,b,h=>by cases h
 |n+1,.mpz _,b,h=>by cases h
 | n+1,.tup xs,b,h=>by
  simp only[D.eqf,if_true] at h;obtain⟨_,e,he,rfl⟩:=gx h;rw[bt];intro j hj;have hj:j<xs.length:=by simpa using hj
  exact iH n xs[j] _ (he j _ _ (by simp[hj]) (by simp[hj]))
section
variable {pins:List (Addr×Obj)}{σ:L2.St}{H:Hp}{s:Shared}
theorem fE.inj:∀{es:List DictEntry}{kvs kvs':List (Key×Option Int)},fE es kvs->fE es kvs'->kvs=kvs'
 |_,_,_,.nil,h=>by cases h;rfl
 | _,_,_,.cons hh hk hv r,h=>by
  cases h with
  |cons hh' hk' hv' r' =>
   rw[hk] at hk';rw[hv] at hv';cases hk';cases hv';rw[fE.inj r r']
  |si hk' hv' r'=>rw[hk] at hk';cases hk'
  |sn hk' hv' r'=>rw[hk] at hk';cases hk'
 | _,_,_,.si hk hv r,h=>by
  cases h with
  |cons hh' hk' hv' r'=>rw[hk] at hk';cases hk'
  |si hk' hv' r' =>
   rw[hk] at hk';rw[hv] at hv';cases hk';cases hv';rw[fE.inj r r']
  |sn hk' hv' r'=>rw[hv] at hv';cases hv'
 | _,_,_,.sn hk hv r,h=>by
  cases h with
  |cons hh' hk' hv' r'=>rw[hk] at hk';cases hk'
  |si hk' hv' r'=>rw[hv] at hv';cases hv'
  |sn hk' hv' r' =>
   rw[hk] at hk';cases hk';rw[fE.inj r r']
theorem oS.inj {K:Frag}{a:Addr}{kvs kvs':List (Key×Option Int)}(h:oS K a kvs)(h':oS K a kvs'):kvs=kvs':=by
 obtain⟨o,es,ep,h1,h2,h3,h4,_⟩:=h;obtain⟨o',es',ep',h1',h2',h3',h4',_⟩:=h';rw[h1] at h1';cases h1';rw[h3] at h3';cases h3';exact h4.inj h4'
theorem jy (I:L2.Inv X pins σ H s){a:Addr}{kvs:List (Key×Option Int)}(h:oS X.K a kvs):∃ o,s.heap.get? a=some o/\o.cls = .type "dict"/\o.ExactDict:=by
 obtain⟨o,es,ep,h1,h2,h3,h4,_⟩:=h;exact⟨o,I.kIn a o h1,h2.1,h2⟩
noncomputable def nf:HO->Bool
 |.frz _ _=>false
 |_=>true
noncomputable def nt:HO->Bool
 |.tup _=>false
 |_=>true
theorem dO {H:Hp}{a:Addr}{u u':HO}(h:Rd H a u)(h':Rd H a u')(hu:nf u=true:=by rfl)(hu':nf u'=true:=by rfl):u=u':=by
 rcases h with h | ⟨o,h⟩<;>rcases h' with h' | ⟨o',h'⟩<;>rw[h] at h'
 ·exact cf h'
 ·rw[cf h'] at hu;cases hu
 ·rw[<-cf h'] at hu';cases hu'
 ·cases h';rfl
theorem jU (I:L2.Inv X pins σ H s){a:Addr}{o:Obj}(h:X.K.lookup a=some o):H a=none:=(I.bs a o (I.ok.mod.kin a o h)).2
theorem qh:∀{a b:List Int},a.map (Sum.inl (β:=Str))=b.map Sum.inl->a=b
 |[],[],_=>rfl
 |[],_::_,h=>by cases h
 |_::_,[],h=>by cases h
 | x::a,y::b,h=>by
  have h:(Sum.inl x:Key)::a.map Sum.inl=Sum.inl y::b.map Sum.inl:=h;injection h with h1 h2
  injection h1 with h1
  rw[h1,qh h2]
theorem qF:∀{a b:List (List Int)},v9 a=v9 b->a=b
 |[],[],_=>rfl
 |[],_::_,h=>by cases h
 |_::_,[],h=>by cases h
 | x::a,y::b,h=>by
  have h:(x.map Sum.inl,V.bl true)::v9 a=(y.map Sum.inl,V.bl true)::v9 b:=h;injection h with h1 h2
  injection h1 with h1 _
  rw[qh h1,qF h2]
theorem il.not_rd (I:L2.Inv X pins σ H s){a:Addr}{vs:List V}{u:HO}(h:il X.K H a vs)(h':Rd H a u)(hu:nf u=true:=by rfl)(ht:nt u=true:=by rfl):False:=by
 rcases h with h | h
 ·rw[dO h' h hu] at ht;cases ht
 ·obtain⟨o,_,_,h1,_⟩:=h;exact Rd.ne_none h' (jU I h1)
theorem nM:∀{a b:List Int},a.map V.int=b.map V.int->a=b
 |[],[],_=>rfl
 |[],_::_,h=>by cases h
 |_::_,[],h=>by cases h
 | x::a,y::b,h=>by
  injection h with h1 h2
  injection h1 with h1
  rw[h1,nM h2]
theorem sF.inj (I:Inv X pins σ H s):∀{m m':MV}{v:V},sF X.K H m v->sF X.K H m' v->m=m'
 |.tr,.tr,_,_,_=>rfl
 |.int i,.int j,_,h,h'=>by cases h;cases h';rfl
 | .tup a,.tup b,_,⟨p,e,h⟩,⟨p',e',h'⟩=>by
  subst e;cases e';rw[nM (I.tuple_inj h.sq h'.sq)]
 |.tr,.int _,_,h,h'=>by cases h;cases h'
 |.int _,.tr,_,h,h'=>by cases h;cases h'
 |.tr,.tup _,_,h,⟨_,e,_⟩=>by cases h;cases e
 |.tup _,.tr,_,⟨_,e,_⟩,h=>by cases h;cases e
 |.int _,.tup _,_,h,⟨_,e,_⟩=>by cases h;cases e
 |.tup _,.int _,_,⟨_,e,_⟩,h=>by cases h;cases e
theorem kE.inj (I:Inv X pins σ H s):∀{a b:List (Int×MV)}{xs:List (Key×V)},kE X.K H a xs->kE X.K H b xs->a=b
 |[],[],_,_,_=>rfl
 |[],_::_,[],_,h=>h.elim
 |_::_,[],[],h,_=>h.elim
 |[],_::_,_::_,h,_=>h.elim
 |_::_,[],_::_,_,h=>h.elim
 |_::_,_::_,[],h,_=>h.elim
 | (k,m)::a,(k',m')::b,x::xs,⟨h1,h2,h3⟩,⟨g1,g2,g3⟩=>by
  rw[h1] at g1;injection g1 with g1
  have g1:k=k':=g1;rw[g1,show m=m' from sF.inj I h2 g2,kE.inj I h3 g3]
theorem Rep.inj (I:Inv X pins σ H s){d:D}{v:V}{G:List Addr}(h:Rep X.K H d v G):∀{e:D}{G':List Addr},Rep X.K H e v G'->d=e:=by
 refine Rep.rec (motive_1:=fun d v G _=>∀{e:D}{G':List Addr},Rep X.K H e v G'->d=e) (motive_2:=fun ds vs G _=>∀{es:List D}{G':List Addr},aD X.K H es vs G'->ds=es) ?non ?bl ?int ?str ?lst ?tup ?dct ?mpi ?mpt ?mpz ?nil ?cons h
 case non =>
  intro e' G' h;cases h;rfl
 case bl =>
  intro _ e' G' h;cases h;rfl
 case int =>
  intro _ e' G' h;cases h;rfl
 case str =>
  intro _ e' G' h;cases h;rfl
 case mpi =>
  intro p0 ks0 xs0 h r0 e' G' q;cases q with
  |mpi h' r'=>
   rw[h] at h';cases h';rw[kE.inj I r0 r']
  |mpz h' r'=>rw[h] at h';cases h'
  |mpt h'=>exact nomatch dO (.inl h) h'
  |lst h' _=>exact nomatch dO (.inl h) h'
  |tup h' _=>exact (il.not_rd I h'.sq (.inl h)).elim
  |dct h' =>
   obtain⟨o,_,_,h1,_⟩:=h';exact absurd (jU I h1) (Rd.ne_none (.inl h))
 case mpz =>
  intro p0 ks0 xs0 o0 h r0 e' G' q;cases q with
  |mpz h' r'=>
   rw[h] at h';cases h';rw[kE.inj I r0 r']
  |mpi h' r'=>rw[h] at h';cases h'
  |mpt h'=>exact nomatch dO (.inr ⟨_,h⟩) h'
  |lst h' _=>exact nomatch dO (.inr ⟨_,h⟩) h'
  |tup h' _=>exact (il.not_rd I h'.sq (.inr ⟨_,h⟩)).elim
  |dct h' =>
   obtain⟨o,_,_,h1,_⟩:=h';exact absurd (jU I h1) (Rd.ne_none (.inr ⟨_,h⟩))
 case mpt =>
  intro p0 ks0 h e' G' q;cases q with
  |mpt h'=>
   have:=dO h h';injection this with this
   rw[qF this]
  |mpi h' _=>exact nomatch dO h (.inl h')
  |mpz h' _=>exact nomatch dO h (.inr ⟨_,h'⟩)
  |lst h' _=>exact nomatch dO h h'
  |tup h' _=>exact (il.not_rd I h'.sq h).elim
  |dct h' =>
   obtain⟨o,_,_,h1,_⟩:=h';exact absurd (jU I h1) (Rd.ne_none h)
 case lst =>
  intro p0 vs0 ds0 G0 h r ih e' G' q;cases q with
  |mpi h' _=>exact nomatch dO h (.inl h')
  |mpz h' _=>exact nomatch dO h (.inr ⟨_,h'⟩)
  |mpt h'=>exact nomatch dO h h'
  |lst h' r' =>
   have e:=I.list_inj (.inl h) (.inl h');subst e;rw[ih r']
  |dct h' =>
   obtain⟨its,_,pl,_⟩:=I.list (.inl h);obtain⟨o,ho,hc,_⟩:=pl.isList;obtain⟨o',ho',hc',_⟩:=jy I h';rw[ho] at ho';cases ho';rw[hc] at hc';injection hc' with z;exact absurd z (by decide)
  |tup h' r' =>
   obtain⟨its,_,pl,_⟩:=I.list (.inl h);obtain⟨its',_,pt,_⟩:=I.tuple h'.sq;obtain⟨o,ho,hc,_⟩:=pl.isList;obtain⟨o',ho',hc',_⟩:=pt;rw[ho] at ho';cases ho';rw[hc] at hc';injection hc' with z;exact absurd z (by decide)
 case tup =>
  intro p0 vs0 ds0 G0 h r ih e' G' q;cases q with
  |mpi h' _=>exact (il.not_rd I h.sq (.inl h')).elim
  |mpz h' _=>exact (il.not_rd I h.sq (.inr ⟨_,h'⟩)).elim
  |mpt h'=>exact (il.not_rd I h.sq h').elim
  |tup h' r' =>
   have e:=I.tuple_inj h.sq h'.sq;subst e;rw[ih r']
  |dct h' =>
   obtain⟨its',_,pt,_⟩:=I.tuple h.sq;obtain⟨o,ho,hc,_⟩:=pt;obtain⟨o',ho',hc',_⟩:=jy I h';rw[ho] at ho';cases ho';rw[hc] at hc';injection hc' with z;exact absurd z (by decide)
  |lst h' r' =>
   obtain⟨its,_,pl,_⟩:=I.list (.inl h');obtain⟨its',_,pt,_⟩:=I.tuple h.sq;obtain⟨o,ho,hc,_⟩:=pl.isList;obtain⟨o',ho',hc',_⟩:=pt;rw[ho] at ho';cases ho';rw[hc] at hc';injection hc' with z;exact absurd z (by decide)
 case dct =>
  intro p0 ks0 h e' G' q;cases q with
  |mpi h' _ =>
   obtain⟨o,_,_,h1,_⟩:=h;exact absurd (jU I h1) (Rd.ne_none (.inl h'))
  |mpz h' _ =>
   obtain⟨o,_,_,h1,_⟩:=h;exact absurd (jU I h1) (Rd.ne_none (.inr ⟨_,h'⟩))
  |mpt h' =>
   obtain⟨o,_,_,h1,_⟩:=h;exact absurd (jU I h1) (Rd.ne_none h')
  |dct h'=>rw[oS.inj h h']
  |lst h' r' =>
   obtain⟨its,_,pl,_⟩:=I.list (.inl h');obtain⟨o,ho,hc,_⟩:=pl.isList;obtain⟨o',ho',hc',_⟩:=jy I h;rw[ho] at ho';cases ho';rw[hc] at hc';injection hc' with z;exact absurd z (by decide)
  |tup h' r' =>
   obtain⟨its',_,pt,_⟩:=I.tuple h'.sq;obtain⟨o,ho,hc,_⟩:=pt;obtain⟨o',ho',hc',_⟩:=jy I h;rw[ho] at ho';cases ho';rw[hc] at hc';injection hc' with z;exact absurd z (by decide)
 case nil=>intro e' G' h;cases h;rfl
 case cons =>
  intro d0 v0 ds0 vs0 G0 G1 h r i1 i2 e' G' q;cases q with
  |cons h' r'=>rw[i1 h',i2 r']
open SeqAt in
theorem vz (I:Inv X pins σ H s):∀(n:Nat) (A:Around) (d e:D) (v w:V) (G G':List Addr) (u u':Value) (b:Bool),A.units+n<cLine->Rep X.K H d v G->Rep X.K H e w G'->RelV v u->RelV w u'->D.eqf n d e=some b->RcAt A s u u' b/\EqAt A s u u' b
 |0,_,_,_,_,_,_,_,_,_,_,_,_,_,_,_,h=>by cases h
 | n+1,A,d,e,v,w,G,G',u,u',b,hu,r1,r2,q1,q2,h=>by
  have hu1:A.in1.units+n<cLine:=by show A.units+1+n<cLine;omega
  have hu0:A.units<cLine:=by omega
  have items:∀{xs ys:List D}{vs ws:List V}{G1 G2:List Addr}{its its':List Value}{c:Bool},aD X.K H xs vs G1->aD X.K H ys ws G2->aK vs its->aK ws its'->AI (D.eqf n) xs ys=some c ->
    its.toArray.size=its'.toArray.size/\∃ ee:Nat->Bool,c=(List.range its.toArray.size).all ee/\∀ j (h1:j<its.toArray.size) (h2:j<its'.toArray.size),EqAt A.in1 s its.toArray[j] its'.toArray[j] (ee j):=by
   intro xs ys vs ws G1 G2 its its' c a1 a2 b1 b2 hc;obtain⟨hl,ee,he,rfl⟩:=gx hc;have l1:=a1.len;have l2:=a2.len;have l3:=b1.length;have l4:=b2.length;have sz:its.toArray.size=xs.length:=by rw[ao];omega
   refine⟨by rw[ao,ao];omega,ee,by rw[sz],fun j h1 h2=>?_⟩;have j1:j<xs.length:=by rw[<-sz];exact h1
   have j2:j<ys.length:=by omega
   obtain⟨v1,g1,e1,p1,_⟩:=a1.get (i:=j) (d:=xs[j]) (by simp[j1]);obtain⟨v2,g2,e2,p2,_⟩:=a2.get (i:=j) (d:=ys[j]) (by simp[j2]);obtain⟨u1,f1,t1⟩:=b1.get e1;obtain⟨u2,f2,t2⟩:=b2.get e2;have x1:its.toArray[j]=u1:=by
    have:=List.getElem?_eq_some_iff.mp f1;simpa using this.2
   have x2:its'.toArray[j]=u2:=by
    have:=List.getElem?_eq_some_iff.mp f2;simpa using this.2
   rw[x1,x2];exact (vz I n A.in1 _ _ _ _ _ _ _ _ _ hu1 p1 p2 t1 t2 (he j _ _ (by simp[j1]) (by simp[j2]))).2
  have refs:∀{l m:Addr}{c:Bool},(l=m->c=true)->RcAt A s (.ref l) (.ref m) c->RcAt A s (.ref l) (.ref m) c/\EqAt A s (.ref l) (.ref m) c:=fun {l m c} hs hr=>⟨hr,by
   by_cases z:l=m
   ·subst z;rw[hs rfl];exact EqAt.same _
   ·exact EqAt.of_refs z hr⟩
  cases d with
  |dct _=>cases h
  |mpi _=>cases e<;>cases h
  |mpt _=>cases e<;>cases h
  |mpz _=>cases e<;>cases h
  |non =>
   obtain⟨rfl,rfl⟩:=r1.non_inv;cases q1;cases e with
   |dct _=>cases h
   |mpi _=>cases h
   |mpt _=>cases h
   |mpz _=>cases h
   |non=>obtain⟨rfl,rfl⟩:=r2.non_inv;cases q2;cases h;exact⟨RcAt.none_none,EqAt.same _⟩
   |bl c=>obtain⟨rfl,rfl⟩:=r2.bl_inv;cases q2;cases h;exact⟨RcAt.none_bool c,EqAt.none_bool c⟩
   |int i=>obtain⟨rfl,rfl⟩:=r2.int_inv;obtain⟨t,rfl⟩:=q2;cases h;exact⟨RcAt.none_int i t,EqAt.none_int i t⟩
   |str x=>obtain⟨rfl,rfl⟩:=r2.str_inv;obtain⟨t,rfl⟩:=q2;cases h;exact⟨RcAt.none_str x t,EqAt.none_str x t⟩
   |lst ys =>
    obtain⟨m,ws,g,rfl,rfl,a1,a2⟩:=r2.lst_inv;cases q2;obtain⟨its,_,pl,_⟩:=I.list (.inl a1);cases h;exact⟨RcAt.none_list pl.isList hu0,EqAt.none_list pl.isList hu0⟩
   |tup ys =>
    obtain⟨m,ws,rfl,a1,a2⟩:=r2.tup_inv;cases q2;obtain⟨its,_,pl,_⟩:=I.tuple a1;cases h;exact⟨RcAt.none_tuple pl hu0,EqAt.none_tuple pl hu0⟩
  |bl a =>
   obtain⟨rfl,rfl⟩:=r1.bl_inv;cases q1;cases e with
   |dct _=>cases h
   |mpi _=>cases h
   |mpt _=>cases h
   |mpz _=>cases h
   |non=>obtain⟨rfl,rfl⟩:=r2.non_inv;cases q2;cases h;exact⟨RcAt.bool_none a,EqAt.bool_none a⟩
   |bl c=>obtain⟨rfl,rfl⟩:=r2.bl_inv;cases q2;cases h;exact⟨RcAt.bool_bool a c,EqAt.bool_bool a c⟩
   |int i=>obtain⟨rfl,rfl⟩:=r2.int_inv;obtain⟨t,rfl⟩:=q2;cases h;exact⟨RcAt.bool_int a i t,EqAt.bool_int a i t⟩
   |str x=>obtain⟨rfl,rfl⟩:=r2.str_inv;obtain⟨t,rfl⟩:=q2;cases h;exact⟨RcAt.bool_str a x t,EqAt.bool_str a x t⟩
   |lst ys =>
    obtain⟨m,ws,g,rfl,rfl,a1,a2⟩:=r2.lst_inv;cases q2;obtain⟨its,_,pl,_⟩:=I.list (.inl a1);cases h;exact⟨RcAt.bool_list a pl.isList hu0,EqAt.bool_list a pl.isList hu0⟩
   |tup ys =>
    obtain⟨m,ws,rfl,a1,a2⟩:=r2.tup_inv;cases q2;obtain⟨its,_,pl,_⟩:=I.tuple a1;cases h;exact⟨RcAt.bool_tuple a pl hu0,EqAt.bool_tuple a pl hu0⟩
  |int a =>
   obtain⟨rfl,rfl⟩:=r1.int_inv;obtain⟨t0,rfl⟩:=q1;cases e with
   |dct _=>cases h
   |mpi _=>cases h
   |mpt _=>cases h
   |mpz _=>cases h
   |non=>obtain⟨rfl,rfl⟩:=r2.non_inv;cases q2;cases h;exact⟨RcAt.int_none a t0,EqAt.int_none a t0⟩
   |bl c=>obtain⟨rfl,rfl⟩:=r2.bl_inv;cases q2;cases h;exact⟨RcAt.int_bool a t0 c,EqAt.int_bool a t0 c⟩
   |int i=>obtain⟨rfl,rfl⟩:=r2.int_inv;obtain⟨t,rfl⟩:=q2;cases h;exact⟨RcAt.int_int a t0 i t,EqAt.int_int a t0 i t⟩
   |str x=>obtain⟨rfl,rfl⟩:=r2.str_inv;obtain⟨t,rfl⟩:=q2;cases h;exact⟨RcAt.int_str a t0 x t,EqAt.int_str a t0 x t⟩
   |lst ys =>
    obtain⟨m,ws,g,rfl,rfl,a1,a2⟩:=r2.lst_inv;cases q2;obtain⟨its,_,pl,_⟩:=I.list (.inl a1);cases h;exact⟨RcAt.int_list a t0 pl.isList hu0,EqAt.int_list a t0 pl.isList hu0⟩
   |tup ys =>
    obtain⟨m,ws,rfl,a1,a2⟩:=r2.tup_inv;cases q2;obtain⟨its,_,pl,_⟩:=I.tuple a1;cases h;exact⟨RcAt.int_tuple a t0 pl hu0,EqAt.int_tuple a t0 pl hu0⟩
  |str a =>
   obtain⟨rfl,rfl⟩:=r1.str_inv;obtain⟨t0,rfl⟩:=q1;cases e with
   |dct _=>cases h
   |mpi _=>cases h
   |mpt _=>cases h
   |mpz _=>cases h
   |non=>obtain⟨rfl,rfl⟩:=r2.non_inv;cases q2;cases h;exact⟨RcAt.str_none a t0,EqAt.str_none a t0⟩
   |int i=>obtain⟨rfl,rfl⟩:=r2.int_inv;obtain⟨t,rfl⟩:=q2;cases h;exact⟨RcAt.str_int a t0 i t,EqAt.str_int a t0 i t⟩
   |str x=>obtain⟨rfl,rfl⟩:=r2.str_inv;obtain⟨t,rfl⟩:=q2;cases h;exact⟨RcAt.str_str a t0 x t,EqAt.str_str a t0 x t⟩
   |bl c=>obtain⟨rfl,rfl⟩:=r2.bl_inv;cases q2;cases h;exact⟨RcAt.str_bool a t0 c,EqAt.str_bool a t0 c⟩
   |lst ys =>
    obtain⟨m,ws,g,rfl,rfl,a1,a2⟩:=r2.lst_inv;cases q2;obtain⟨its,_,pl,_⟩:=I.list (.inl a1);cases h;exact⟨RcAt.str_list a t0 pl.isList hu0,EqAt.str_list a t0 pl.isList hu0⟩
   |tup ys =>
    obtain⟨m,ws,rfl,a1,a2⟩:=r2.tup_inv;cases q2;obtain⟨its,_,pl,_⟩:=I.tuple a1;cases h;exact⟨RcAt.str_tuple a t0 pl hu0,EqAt.str_tuple a t0 pl hu0⟩
  |lst xs =>
   obtain⟨l,vs,g,rfl,rfl,a1,a2⟩:=r1.lst_inv;cases q1;obtain⟨its,rv,pl,_⟩:=I.list (.inl a1);cases e with
   |dct _=>cases h
   |mpi _=>cases h
   |mpt _=>cases h
   |mpz _=>cases h
   |non=>obtain⟨rfl,rfl⟩:=r2.non_inv;cases q2;cases h;exact⟨RcAt.list_none pl.isList hu0,EqAt.list_none pl.isList hu0⟩
   |lst ys =>
    obtain⟨m,ws,g',rfl,rfl,b1,b2⟩:=r2.lst_inv;cases q2;obtain⟨its',rv',pl',_⟩:=I.list (.inl b1);have same:l=m->b=true:=fun z=>by
     subst z;have e0:=Rep.inj I r1 r2;rw[e0] at h;exact iH _ _ _ h
    simp only[D.eqf] at h;by_cases hl:xs.length=ys.length
    ·rw[if_pos hl] at h;obtain⟨hz,ee,rfl,he⟩:=items a2 b2 rv rv' h;exact refs same (RcAt.lists pl.isList pl'.isList hz hu0 he)
    ·rw[if_neg hl] at h;cases h;have hz:(its.toArray.size != its'.toArray.size)=true:=by
      have l1:=a2.len;have l2:=b2.len;have l3:=rv.length;have l4:=rv'.length;simp only[bne_iff_ne,ne_eq,List.size_toArray];omega
     exact refs same (RcAt.lists_lengths pl.isList pl'.isList hz hu0)
   |bl c=>obtain⟨rfl,rfl⟩:=r2.bl_inv;cases q2;cases h;exact⟨RcAt.list_bool c pl.isList hu0,EqAt.list_bool c pl.isList hu0⟩
   |int c=>obtain⟨rfl,rfl⟩:=r2.int_inv;obtain⟨t,rfl⟩:=q2;cases h;exact⟨RcAt.list_int c t pl.isList hu0,EqAt.list_int c t pl.isList hu0⟩
   |str c=>obtain⟨rfl,rfl⟩:=r2.str_inv;obtain⟨t,rfl⟩:=q2;cases h;exact⟨RcAt.list_str c t pl.isList hu0,EqAt.list_str c t pl.isList hu0⟩
   |tup ys =>
    obtain⟨m,ws,rfl,b1,b2⟩:=r2.tup_inv;cases q2;obtain⟨its',rv',pl',_⟩:=I.tuple b1;cases h;exact⟨RcAt.list_tuple pl.isList pl' hu0,EqAt.list_tuple pl.isList pl' hu0⟩
  |tup xs =>
   obtain⟨l,vs,rfl,a1,a2⟩:=r1.tup_inv;cases q1;obtain⟨its,rv,pl,_⟩:=I.tuple a1;cases e with
   |dct _=>cases h
   |mpi _=>cases h
   |mpt _=>cases h
   |mpz _=>cases h
   |tup ys =>
    obtain⟨m,ws,rfl,b1,b2⟩:=r2.tup_inv;cases q2;obtain⟨its',rv',pl',_⟩:=I.tuple b1;have same:l=m->b=true:=fun z=>by
     subst z;have e0:=Rep.inj I r1 r2;rw[e0] at h;exact iH _ _ _ h
    simp only[D.eqf] at h;by_cases hl:xs.length=ys.length
    ·rw[if_pos hl] at h;obtain⟨hz,ee,rfl,he⟩:=items a2 b2 rv rv' h;have q:=RcAt.tuples (e:=ee) pl pl' hu0 he;rw[<-hz,Nat.min_self,fw,Bool.and_true] at q;exact refs same q
    ·rw[if_neg hl] at h;cases h
   |non=>obtain⟨rfl,rfl⟩:=r2.non_inv;cases q2;cases h;exact⟨RcAt.tuple_none pl hu0,EqAt.tuple_none pl hu0⟩
   |bl c=>obtain⟨rfl,rfl⟩:=r2.bl_inv;cases q2;cases h;exact⟨RcAt.tuple_bool c pl hu0,EqAt.tuple_bool c pl hu0⟩
   |int c=>obtain⟨rfl,rfl⟩:=r2.int_inv;obtain⟨t,rfl⟩:=q2;cases h;exact⟨RcAt.tuple_int c t pl hu0,EqAt.tuple_int c t pl hu0⟩
   |str c=>obtain⟨rfl,rfl⟩:=r2.str_inv;obtain⟨t,rfl⟩:=q2;cases h;exact⟨RcAt.tuple_str c t pl hu0,EqAt.tuple_str c t pl hu0⟩
   |lst ys =>
    obtain⟨m,ws,g',rfl,rfl,b1,b2⟩:=r2.lst_inv;cases q2;obtain⟨its',rv',pl',_⟩:=I.list (.inl b1);cases h;exact⟨RcAt.tuple_list pl pl'.isList hu0,EqAt.tuple_list pl pl'.isList hu0⟩
end
end
section
open PySem.SeqAt
open PySem.AutoSeq1 (wpAny_loadPart')
open PySem.MeetsSeq PySem.MeetsSeq2 PySem.MeetsSeq3
theorem tD (A:Around)(s:Shared)(a:Int)(t:Tok)(c:Int)(u:Tok)(prog:Program)(w:World)(E:Value->Shared->Prop)(Q:Value->Shared->Prop)(h:Q (.bool (decide (a<=c))) s) :
  wpAny (model prog w) A (richCompare .LtE (.int a t) (.int c u)) Q E s :=
 (PyProof.Rows.le_int h:wpAny (model prog w) A (compareOp .LtE (.int a t) (.int c u)) Q E s)
noncomputable def rE (R:Result->Shared->Prop)(s0:Shared)(z1 z2:Nat)(rest:List (Value×Value)):Prop :=
 ∃(xs ys:List Value) (p q:List Int),rest=xs.zip ys/\IntsAre xs p/\IntsAre ys q/\p.length+z2=q.length+z1/\R (.ok (.ret (.bool (jS p q)))) s0
theorem rE.turn {R:Result->Shared->Prop}{s0:Shared}{z1 z2:Nat}{y x:Value}{rest:List (Value×Value)}(h:rE R s0 z1 z2 ((y,x)::rest)):∃ a t c u,y = .int a t/\x = .int c u/\(a=c->rE R s0 z1 z2 rest)/\(a≠c->R (.ok (.ret (.bool (decide (a<=c))))) s0):=by
 obtain⟨xs,ys,p,q,hz,h1,h2,hl,hR⟩:=h;cases h1 with
 |nil=>rw[List.zip_nil_left] at hz;cases hz
 |cons a t h1'=>cases h2 with
  |nil=>rw[List.zip_nil_right] at hz;cases hz
  |cons c u h2' =>
   rw[List.zip_cons_cons] at hz;injection hz with e1 e2
   injection e1 with e3 e4
   refine⟨a,t,c,u,e3,e4,fun e=>?_,fun e=>?_⟩
   ·refine⟨_,_,_,_,e2,h1',h2',?_,?_⟩
    ·simp only[List.length_cons] at hl;omega
    ·unfold jS at hR;rw[if_pos e] at hR;exact hR
   ·unfold jS at hR;rw[if_neg e] at hR;exact hR
theorem rE.fin {R:Result->Shared->Prop}{s0:Shared}{z1 z2:Nat}(h:rE R s0 z1 z2 []):R (.ok (.ret (.bool (decide (z1<=z2))))) s0:=by
 obtain⟨xs,ys,p,q,hz,h1,h2,hl,hR⟩:=h;have e:jS p q=decide (z1<=z2):=by
  cases h1 with
  |nil=>exact (decide_eq_true (by simp only[List.length_nil] at hl;omega)).symm
  |cons a t h1'=>cases h2 with
   |nil=>exact (decide_eq_false (by simp only[List.length_cons,List.length_nil] at hl;omega)).symm
   |cons c u h2'=>rw[List.zip_cons_cons] at hz;cases hz
 rw[<-e];exact hR
theorem le_meets (l b:Addr)(xs ys:Array Value)(n n2:Nat)(dd dd2:Option Addr)(sl sl2:Array (Option Value))(p q:List Int)(hp:IntsAre xs.toList p)(hq:IntsAre ys.toList q) :
  Meets (Builtin.«tuple.__le__» ⟨[.ref l,.ref b],[]⟩) (fun _ R s=>s.heap.get? l=some { cls:=.type "tuple",dict:=dd,data:=.seq xs n,slots:=sl }/\s.heap.get? b=some { cls:=.type "tuple",dict:=dd2,data:=.seq ys n2,slots:=sl2 }/\R (.ok (.ret (.bool (jS p q)))) s) :=
 .of_wp fun prog w A R s h=>by
  obtain⟨hl,hb,h⟩:=h;have f2:=AutoSeq1.sub_tuple_tuple;have z1:xs.size=p.length:=by rw[<-hp.length];simp
  have z2:ys.size=q.length:=by rw[<-hq.length];simp
  obtain⟨hp',g,d,tk,os⟩:=s
  wp_walk using wpAny_loadPart' hl,wpAny_loadPart' hb,wpAny_forIn_list _ (fun rest b s'=>b.1=none/\s'=⟨hp',g,d,tk,os⟩/\rE R ⟨hp',g,d,tk,os⟩ xs.size ys.size rest) _
  case turn =>
   rintro⟨y,x⟩ rest b s' ⟨hb',rfl,hL⟩;obtain⟨a,t,c,u,rfl,rfl,k1,k2⟩:=hL.turn;obtain⟨e,he,hiff⟩:=HT.tq A.in1 ⟨hp',g,d,tk,os⟩ a t c u;refine wpAny_bind (he prog w _ _ ?_);cases e with
   |true =>
    have k:=k1 (hiff.mp rfl)
    wp_walk
    exact⟨rfl,rfl,k⟩
   |false =>
    have k:=k2 (fun q=>absurd (hiff.mpr q) av);have hri:=tD A.in1 ⟨hp',g,d,tk,os⟩ a t c u prog w
    wp_walk using hri
    exact⟨_,rfl,by simpa using k⟩
  case fin =>
   rintro⟨b1,b2⟩ s' ⟨hb',rfl,hL⟩;simp only at hb';subst hb';have hR:=hL.fin
   wp_walk
   exact⟨_,rfl,by simpa[Builtin.Tuple.tupleCompareSizes] using hR⟩
  case h =>
   exact⟨rfl,rfl,xs.toList,ys.toList,p,q,rfl,hp,hq,by omega,h⟩
end
theorem xx {prog:Program}{w:World}{A:Around}{E:Value->Shared->Prop}{s:Shared}{l b:Addr}{xs ys:Array Value}{p q:List Int}{Q:Value->Shared->Prop}(hl:IsTup s.heap l xs)(hb:IsTup s.heap b ys)(hp:IntsAre xs.toList p)(hq:IntsAre ys.toList q)
  (hu:A.units<cLine) (h:Q (.bool (jS p q)) s):wpAny (model prog w) A (compareOp .LtE (.ref l) (.ref b)) Q E s:=by
 obtain⟨⟨c1,d1,t1,sl1⟩,ho,hc,n,hd⟩:=id hl;obtain⟨⟨c2,d2,t2,sl2⟩,ho2,hc2,n2,hd2⟩:=id hb;cases hc;cases hd;cases hc2;cases hd2;exact richCompare_meets_room (op:=.LtE) ⟨_,ho,rfl⟩ ⟨_,ho2,rfl⟩ PySem.F.slot_tuple_le PySem.F.entry_tuple_le (PySem.F.args_tuple_le_2 _ _) (le_meets l b xs ys n n2 d1 d2 sl1 sl2 p q hp hq)
  ⟨ho,ho2,show Value.bool (jS p q)≠Value.notImplemented/\Q (.bool (jS p q)) s from ⟨(fun x=>nomatch x),h⟩⟩ hu
section
variable {X:Cx}{pins:List (Addr×Obj)}{σ:L2.St}{H:Hp}{s:Shared}
open SeqAt in
theorem BK (I:Inv X pins σ H s)(n:Nat)(A:Around)(d e:D)(v w:V)(G G':List Addr)(u u':Value)(b:Bool)(hu:A.units+n<cLine)(r1:Rep X.K H d v G)(r2:Rep X.K H e w G')(q1:RelV v u)(q2:RelV w u')(h:D.eqf n d e=some b):RcNeAt A s u u' (!b):=by
 cases n with
 |zero=>cases h
 |succ n =>
  have hu1:A.in1.units+n<cLine:=by show A.units+1+n<cLine;omega
  have hu0:A.units<cLine:=by omega
  have items:∀{xs ys:List D}{vs ws:List V}{G1 G2:List Addr}{its its':List Value}{c:Bool},aD X.K H xs vs G1->aD X.K H ys ws G2->aK vs its->aK ws its'->AI (D.eqf n) xs ys=some c ->
    its.toArray.size=its'.toArray.size/\∃ ee:Nat->Bool,c=(List.range its.toArray.size).all ee/\∀ j (h1:j<its.toArray.size) (h2:j<its'.toArray.size),EqAt A.in1 s its.toArray[j] its'.toArray[j] (ee j):=by
   intro xs ys vs ws G1 G2 its its' c a1 a2 b1 b2 hc;obtain⟨hl,ee,he,rfl⟩:=gx hc;have l1:=a1.len;have l2:=a2.len;have l3:=b1.length;have l4:=b2.length;have sz:its.toArray.size=xs.length:=by rw[ao];omega
   refine⟨by rw[ao,ao];omega,ee,by rw[sz],fun j h1 h2=>?_⟩;have j1:j<xs.length:=by rw[<-sz];exact h1
   have j2:j<ys.length:=by omega
   obtain⟨v1,g1,e1,p1,_⟩:=a1.get (i:=j) (d:=xs[j]) (by simp[j1]);obtain⟨v2,g2,e2,p2,_⟩:=a2.get (i:=j) (d:=ys[j]) (by simp[j2]);obtain⟨u1,f1,t1⟩:=b1.get e1;obtain⟨u2,f2,t2⟩:=b2.get e2;have x1:its.toArray[j]=u1:=by
    have:=List.getElem?_eq_some_iff.mp f1;simpa using this.2
   have x2:its'.toArray[j]=u2:=by
    have:=List.getElem?_eq_some_iff.mp f2;simpa using this.2
   rw[x1,x2];exact (vz I n A.in1 _ _ _ _ _ _ _ _ _ hu1 p1 p2 t1 t2 (he j _ _ (by simp[j1]) (by simp[j2]))).2
  have lsti:∀{ys:List D}{w:V}{g:List Addr}{u:Value},Rep X.K H (.lst ys) w g->RelV w u->∃ m its vs g',u = .ref m/\s.heap.IsList m its.toArray/\aK vs its/\aD X.K H ys vs g':=fun {ys w g u} r q=>by
   obtain⟨m,ws,g',rfl,rfl,a1,a2⟩:=r.lst_inv;cases q;obtain⟨its,rv,pl,_⟩:=I.list (.inl a1);exact⟨m,its,ws,g',rfl,pl.isList,rv,a2⟩
  have tupi:∀{ys:List D}{w:V}{g:List Addr}{u:Value},Rep X.K H (.tup ys) w g->RelV w u->∃ m its vs,u = .ref m/\s.heap.IsTuple m its.toArray/\aK vs its/\aD X.K H ys vs g:=fun {ys w g u} r q=>by
   obtain⟨m,ws,rfl,a1,a2⟩:=r.tup_inv;cases q;obtain⟨its,rv,pl,_⟩:=I.tuple a1;exact⟨m,its,ws,rfl,pl,rv,a2⟩
  cases d with
  |dct _=>cases h
  |mpi _=>cases e<;>cases h
  |mpt _=>cases e<;>cases h
  |mpz _=>cases e<;>cases h
  |non =>
   obtain⟨rfl,rfl⟩:=r1.non_inv;cases q1;cases e with
   |dct _=>cases h
   |mpi _=>cases h
   |mpt _=>cases h
   |mpz _=>cases h
   |non=>obtain⟨rfl,rfl⟩:=r2.non_inv;cases q2;cases h;exact RcNeAt.none_none
   |bl c=>obtain⟨rfl,rfl⟩:=r2.bl_inv;cases q2;cases h;exact RcNeAt.none_bool c
   |int i=>obtain⟨rfl,rfl⟩:=r2.int_inv;obtain⟨t,rfl⟩:=q2;cases h;exact RcNeAt.none_int i t
   |str x=>obtain⟨rfl,rfl⟩:=r2.str_inv;obtain⟨t,rfl⟩:=q2;cases h;exact RcNeAt.none_str x t
   |lst ys=>obtain⟨m,its,vs,g',rfl,pl,_,_⟩:=lsti r2 q2;cases h;exact RcNeAt.none_list pl hu0
   |tup ys=>obtain⟨m,its,vs,rfl,pl,_,_⟩:=tupi r2 q2;cases h;exact RcNeAt.none_tuple pl hu0
  |bl a =>
   obtain⟨rfl,rfl⟩:=r1.bl_inv;cases q1;cases e with
   |dct _=>cases h
   |mpi _=>cases h
   |mpt _=>cases h
   |mpz _=>cases h
   |non=>obtain⟨rfl,rfl⟩:=r2.non_inv;cases q2;cases h;exact RcNeAt.bool_none a
   |bl c=>obtain⟨rfl,rfl⟩:=r2.bl_inv;cases q2;cases h;exact RcNeAt.bool_bool a c
   |int i=>obtain⟨rfl,rfl⟩:=r2.int_inv;obtain⟨t,rfl⟩:=q2;cases h;exact RcNeAt.bool_int a i t
   |str x=>obtain⟨rfl,rfl⟩:=r2.str_inv;obtain⟨t,rfl⟩:=q2;cases h;exact RcNeAt.bool_str a x t
   |lst ys=>obtain⟨m,its,vs,g',rfl,pl,_,_⟩:=lsti r2 q2;cases h;exact RcNeAt.bool_list a pl hu0
   |tup ys=>obtain⟨m,its,vs,rfl,pl,_,_⟩:=tupi r2 q2;cases h;exact RcNeAt.bool_tuple a pl hu0
  |int a =>
   obtain⟨rfl,rfl⟩:=r1.int_inv;obtain⟨t0,rfl⟩:=q1;cases e with
   |dct _=>cases h
   |mpi _=>cases h
   |mpt _=>cases h
   |mpz _=>cases h
   |non=>obtain⟨rfl,rfl⟩:=r2.non_inv;cases q2;cases h;exact RcNeAt.int_none a t0
   |bl c=>obtain⟨rfl,rfl⟩:=r2.bl_inv;cases q2;cases h;exact RcNeAt.int_bool a t0 c
   |int i=>obtain⟨rfl,rfl⟩:=r2.int_inv;obtain⟨t,rfl⟩:=q2;cases h;exact RcNeAt.int_int a t0 i t
   |str x=>obtain⟨rfl,rfl⟩:=r2.str_inv;obtain⟨t,rfl⟩:=q2;cases h;exact RcNeAt.int_str a t0 x t
   |lst ys=>obtain⟨m,its,vs,g',rfl,pl,_,_⟩:=lsti r2 q2;cases h;exact RcNeAt.int_list a t0 pl hu0
   |tup ys=>obtain⟨m,its,vs,rfl,pl,_,_⟩:=tupi r2 q2;cases h;exact RcNeAt.int_tuple a t0 pl hu0
  |str a =>
   obtain⟨rfl,rfl⟩:=r1.str_inv;obtain⟨t0,rfl⟩:=q1;cases e with
   |dct _=>cases h
   |mpi _=>cases h
   |mpt _=>cases h
   |mpz _=>cases h
   |non=>obtain⟨rfl,rfl⟩:=r2.non_inv;cases q2;cases h;exact RcNeAt.str_none a t0
   |bl c=>obtain⟨rfl,rfl⟩:=r2.bl_inv;cases q2;cases h;exact RcNeAt.str_bool a t0 c
   |int i=>obtain⟨rfl,rfl⟩:=r2.int_inv;obtain⟨t,rfl⟩:=q2;cases h;exact RcNeAt.str_int a t0 i t
   |str x=>obtain⟨rfl,rfl⟩:=r2.str_inv;obtain⟨t,rfl⟩:=q2;cases h;exact RcNeAt.str_str a t0 x t
   |lst ys=>obtain⟨m,its,vs,g',rfl,pl,_,_⟩:=lsti r2 q2;cases h;exact RcNeAt.str_list a t0 pl hu0
   |tup ys=>obtain⟨m,its,vs,rfl,pl,_,_⟩:=tupi r2 q2;cases h;exact RcNeAt.str_tuple a t0 pl hu0
  |lst xs =>
   obtain⟨l,its,vs,g1,rfl,pl,rv,a2⟩:=lsti r1 q1;cases e with
   |dct _=>cases h
   |mpi _=>cases h
   |mpt _=>cases h
   |mpz _=>cases h
   |non=>obtain⟨rfl,rfl⟩:=r2.non_inv;cases q2;cases h;exact RcNeAt.list_none pl hu0
   |bl c=>obtain⟨rfl,rfl⟩:=r2.bl_inv;cases q2;cases h;exact RcNeAt.list_bool c pl hu0
   |int c=>obtain⟨rfl,rfl⟩:=r2.int_inv;obtain⟨t,rfl⟩:=q2;cases h;exact RcNeAt.list_int c t pl hu0
   |str c=>obtain⟨rfl,rfl⟩:=r2.str_inv;obtain⟨t,rfl⟩:=q2;cases h;exact RcNeAt.list_str c t pl hu0
   |lst ys =>
    obtain⟨m,its',ws,g2,rfl,pl',rv',b2⟩:=lsti r2 q2;simp only[D.eqf] at h;by_cases hl:xs.length=ys.length
    ·rw[if_pos hl] at h;obtain⟨hz,ee,rfl,he⟩:=items a2 b2 rv rv' h;exact RcNeAt.lists pl pl' hz hu0 he
    ·rw[if_neg hl] at h;cases h;have hz:(its.toArray.size != its'.toArray.size)=true:=by
      have l1:=a2.len;have l2:=b2.len;have l3:=rv.length;have l4:=rv'.length;simp only[bne_iff_ne,ne_eq,List.size_toArray];omega
     exact RcNeAt.lists_lengths pl pl' hz hu0
   |tup ys=>obtain⟨m,its',ws,rfl,pl',_,_⟩:=tupi r2 q2;cases h;exact RcNeAt.list_tuple pl pl' hu0
  |tup xs =>
   obtain⟨l,its,vs,rfl,pl,rv,a2⟩:=tupi r1 q1;cases e with
   |dct _=>cases h
   |mpi _=>cases h
   |mpt _=>cases h
   |mpz _=>cases h
   |non=>obtain⟨rfl,rfl⟩:=r2.non_inv;cases q2;cases h;exact RcNeAt.tuple_none pl hu0
   |bl c=>obtain⟨rfl,rfl⟩:=r2.bl_inv;cases q2;cases h;exact RcNeAt.tuple_bool c pl hu0
   |int c=>obtain⟨rfl,rfl⟩:=r2.int_inv;obtain⟨t,rfl⟩:=q2;cases h;exact RcNeAt.tuple_int c t pl hu0
   |str c=>obtain⟨rfl,rfl⟩:=r2.str_inv;obtain⟨t,rfl⟩:=q2;cases h;exact RcNeAt.tuple_str c t pl hu0
   |lst ys=>obtain⟨m,its',ws,g2,rfl,pl',_,_⟩:=lsti r2 q2;cases h;exact RcNeAt.tuple_list pl pl' hu0
   |tup ys =>
    obtain⟨m,its',ws,rfl,pl',rv',b2⟩:=tupi r2 q2;simp only[D.eqf] at h;by_cases hl:xs.length=ys.length
    ·rw[if_pos hl] at h;obtain⟨hz,ee,rfl,he⟩:=items a2 b2 rv rv' h;have q:=RcNeAt.tuples (e:=ee) pl pl' hu0 he;rw[<-hz,Nat.min_self,fw,Bool.and_true] at q;exact q
    ·rw[if_neg hl] at h;cases h
end
section
variable {X:Cx}
theorem gO {K:Frag}{H:Hp}{d:D}{v:V}{G:List Addr}(h:Rep K H d v G)(s:d.fC=true):gI v=true:=by
 cases h<;>simp_all [D.fC,gI]
theorem fK {K:Frag}{H:Hp}:∀{ds:List D}{vs:List V}{G:List Addr},aD K H ds vs G->ds.all D.fC=true->vs.all gI=true
 |_,_,_,.nil,_=>rfl
 | _,_,_,.cons h r,s=>by
  simp only[List.all_cons,Bool.and_eq_true] at s ⊢;exact⟨gO h s.1,fK r s.2⟩
theorem wq {K:Frag}{H:Hp}{d e:D}{v w:V}{G G':List Addr}(h:Rep K H d v G)(h':Rep K H e w G')(s:d.fC=true)(s':e.fC=true):vI v w=D.eqs d e:=by
 cases h<;>cases h'<;>simp_all [D.fC,vI,D.eqs]
theorem ke {K:Frag}{H:Hp}{x:D}{w:V}{G0:List Addr}(hx:Rep K H x w G0)(sx:x.fC=true):∀{ds:List D}{vs:List V}{G:List Addr},aD K H ds vs G->ds.all D.fC=true->inV w vs=ds.any fun y=>D.eqs y x
 |_,_,_,.nil,_=>rfl
 | _,_,_,.cons h r,s=>by
  simp only[List.all_cons,Bool.and_eq_true] at s;have ih:=ke hx sx r s.2;unfold inV at ih ⊢;rw[dw,dw,ih,wq h hx s.1 sx]
theorem kE.any {K:Frag}{H:Hp}(n:Int):∀{q:List (Int×MV)}{x:List (Key×V)},kE K H q x->(x.any fun kv=>decide (kv.1=Sum.inl n))=q.any fun kv=>decide (kv.1=n)
 |[],[],_=>rfl
 | (k,m)::q,p::x,⟨a,_,c⟩=>by
  rw[dw,dw,c.any n,a];congr 1;exact decide_eq_decide.mpr ⟨fun e=>by injection e,fun e=>by rw[e]⟩
 |[],_::_,h=>h.elim
 |_::_,[],h=>h.elim
theorem kE.val {K:Frag}{H:Hp}(n:Int):∀{q:List (Int×MV)}{x:List (Key×V)}{e:Int×MV},kE K H q x->(q.find? fun kv=>decide (kv.1=n))=some e->∃ v,ij x (.inl n)=some v/\sF K H e.2 v
 |[],[],_,_,h=>by cases h
 | (k,m)::q,p::x,e,⟨a,b,c⟩,h=>by
  by_cases hk:k=n
  ·rw[List.find?_cons_of_pos (by simpa using hk)] at h;cases h;exact⟨p.2,iv (by rw[a,hk]),b⟩
  ·rw[List.find?_cons_of_neg (by simpa using hk)] at h;rw[iP (by rw[a];exact fun z=>hk (by injection z))];exact c.val n h
 |[],_::_,_,h,_=>h.elim
 |_::_,[],_,h,_=>h.elim
theorem kI {K:Frag}{H:Hp}:∀ ks:List Int,aD K H (ks.map D.int) (ks.map V.int) []
 |[]=>.nil
 |k::ks=>.cons (G:=[]) (G':=[]) (.int k) (kI ks)
theorem sF.rep {K:Frag}{H:Hp}:∀{m:MV}{v:V},sF K H m v->Rep K H (mvD m) v []
 |.tr,_,h=>by cases h;exact .bl true
 |.int i,_,h=>by cases h;exact .int i
 |.tup is,_,⟨b,e,h⟩=>by subst e;exact .tup h (kI is)
theorem ka:∀{a b:List Int},(a.map Sum.inl:List Key)=b.map Sum.inl->a=b
 |[],[],_=>rfl
 |[],_::_,e=>by simp at e
 |_::_,[],e=>by simp at e
 | x::xs,y::ys,e=>by
  rw[ax,ax] at e;injection e with e1 e2
  rw[Sum.inl.inj e1,ka e2]
theorem pT (n:List Int):∀ ks:List (List Int),((v9 ks).any fun kv=>decide (kv.1=n.map Sum.inl))=ks.contains n
 |[]=>rfl
 | k::ks=>by
  show (decide ((k.map Sum.inl:List Key)=n.map Sum.inl) || (v9 ks).any fun kv=>decide (kv.1=n.map Sum.inl))=_;rw[pT n ks,cq];congr 1;by_cases e:k=n
  ·subst e;simp
  ·rw[bj (fun z=>e (ka z)),dk.mpr (cj e)]
theorem qi {K:Frag}{H:Hp}{i j:Int}{vs:List V}{G:List Addr}(h:aD K H [.int i,.int j] vs G):vs=[.int i,.int j]/\G=[]:=by
 cases h with
 |cons h r=>cases r with
  |cons h' r' =>
   cases r';obtain⟨rfl,rfl⟩:=h.int_inv;obtain⟨rfl,rfl⟩:=h'.int_inv;exact⟨rfl,rfl⟩
theorem uu {pins:List (Addr×Obj)}{σ:L2.St}{H:Hp}{s:Shared}{a:Addr}{ks:List Key}(I:Inv X pins σ H s)(h:il X.K H a (ks.map kV)):(tupleKind (aM X.prog X.w)).is s.heap ks a:=by
 obtain⟨its,r,⟨o,h1,h2,n,h3⟩,_⟩:=I.tuple h;exact⟨o,its.toArray,n,h1,h2,h3,by simpa using iX r⟩
noncomputable def vV:Option Int->V
 |none=>.non
 |some i=>.int i
theorem qw {K:Frag}{H:Hp}:∀ z:Option Int,Rep K H (vOf z) (vV z) []
 |none=>.non
 |some i=>.int i
theorem um (q:Key×Option Int)(kvs:List (Key×Option Int))(k:Key):o8 (q::kvs) k=if q.1=k then some q.2 else o8 kvs k:=by
 unfold o8;rw[List.find?_cons];by_cases h:q.1=k
 ·rw[cw h,if_pos h];rfl
 ·rw[bj h,if_neg h]
theorem lN (q:Key×Value)(kvs:List (Key×Value))(k:Key):valueAt (q::kvs) k=if q.1=k then some q.2 else valueAt kvs k:=by
 unfold valueAt;rw[List.find?_cons];by_cases h:q.1=k
 ·rw[cw h,if_pos h];rfl
 ·rw[bj h,if_neg h]
theorem fE.pairs {P:Program}{w:World}:∀{es:List DictEntry}{kvs:List (Key×Option Int)},fE es kvs->(∀ e∈es,∀ s t,e.key = .str s t->e.hash=hashStr w s)->∃ vs:List (Key×Value),Pairs (aM P w) es vs/\vs.map (·.1)=kvs.map (·.1) /\
  (∀ k,(∀ z,o8 kvs k=some z->∃ u,RelV (vV z) u/\valueAt vs k=some u)/\(valueAt vs k).isSome=(o8 kvs k).isSome)/\(∀ e∈es,∃ k,(aM P w).is k e.key=true/\e.hash=(aM P w).hash k):=by
 have step:∀{e:DictEntry}{es:List DictEntry}{k:Key}{z:Option Int}{kvs:List (Key×Option Int)}{u:Value},(aM P w).is k e.key=true->e.hash=(aM P w).hash k->e.val=u->RelV (vV z) u ->
   (∃ vs:List (Key×Value),Pairs (aM P w) es vs/\vs.map (·.1)=kvs.map (·.1)/\(∀ k,(∀ z,o8 kvs k=some z->∃ u,RelV (vV z) u/\valueAt vs k=some u)/\(valueAt vs k).isSome=(o8 kvs k).isSome)/\(∀ e∈es,∃ k,(aM P w).is k e.key=true/\e.hash=(aM P w).hash k)) ->
   ∃ vs:List (Key×Value),Pairs (aM P w) (e::es) vs/\vs.map (·.1)=((k,z)::kvs).map (·.1)/\(∀ k',(∀ z',o8 ((k,z)::kvs) k'=some z'->∃ u,RelV (vV z') u/\valueAt vs k'=some u)/\(valueAt vs k').isSome=(o8 ((k,z)::kvs) k').isSome)/\(∀ e'∈e::es,∃ k,(aM P w).is k e'.key=true/\e'.hash=(aM P w).hash k):=by
  intro e es k z kvs u hk hh hv hr ⟨vs,p1,p2,p3,p4⟩;refine⟨(k,u)::vs,.cons hk hv p1,by rw[ax,ax,p2],fun k'=>?_,fun e' he=>?_⟩
  ·rw[um,lN];by_cases h:k=k'
   ·rw[if_pos h,if_pos h];exact⟨fun z' q=>by cases q;exact⟨u,hr,rfl⟩,rfl⟩
   ·rw[if_neg h,if_neg h];exact p3 k'
  ·rcases bw.mp he with rfl | he
   ·exact⟨k,hk,hh⟩
   ·exact p4 e' he
 intro es kvs h
 induction h with
 |nil=>exact fun _=>⟨[],.nil,rfl,fun k=>⟨fun z h=>(by cases h),rfl⟩,fun _ h=>(nomatch h)⟩
 |@cons e es k v kvs t u hh hk hv r ih=>exact fun hs=>step (by rw[hk];exact dI P w k t) hh hv ⟨u,rfl⟩ (ih fun e he=>hs e (ae _ he))
 |@si e es k v kvs t u hk hv r ih=>exact fun hs=>step (by rw[hk];exact cL P w k t) (hs e ai k t hk) hv ⟨u,rfl⟩ (ih fun e he=>hs e (ae _ he))
 |@sn e es k kvs t hk hv r ih=>exact fun hs=>step (by rw[hk];exact cL P w k t) (hs e ai k t hk) hv (show RelV .non .none from rfl) (ih fun e he=>hs e (ae _ he))
theorem pB {pins:List (Addr×Obj)}{σ:L2.St}{H:Hp}{s:Shared}(hx:rj X.w X.K)(I:Inv X pins σ H s){p:Addr}{kvs:List (Key×Option Int)}(h:oS X.K p kvs):∃ vs,s.heap.DictOf (aM X.prog X.w) p vs /\
  (∀ k,(∀ z,o8 kvs k=some z->∃ u,RelV (vV z) u/\valueAt vs k=some u)/\(valueAt vs k).isSome=(o8 kvs k).isSome)/\(∀ z v r,kvs=(.inr z,v)::r->(p==sysModules)=false):=by
 obtain⟨o,es,ep,h1,h2,h3,h4,h5⟩:=h;obtain⟨vs,p1,p2,p3,p4⟩:=h4.pairs (P:=X.prog) (w:=X.w) fun e he s t q=>(hx p o es ep h1 h3 kvs h4 e he s t q).2
 refine⟨vs,⟨o,es,ep,I.kIn _ o h1,h2,h3,fun e he=>p4 e (by simpa using he),p1,by rw[p2];exact h5⟩,p3,fun z v r q=>?_⟩;subst q;cases hl:es.toList with
 |nil=>rw[hl] at h4;cases h4
 |cons e l =>
  have hm:e∈es.toList:=by rw[hl];exact ai
  have hk:∃ t,e.key = .str z t:=by
   rw[hl] at h4;cases h4 with
   |si hk hv r=>exact⟨_,hk⟩
   |sn hk hv r=>exact⟨_,hk⟩
  obtain⟨t,hk⟩:=hk;exact (hx p o es ep h1 h3 _ h4 e hm z t hk).1
theorem sL {A:Around}{E:Value->Shared->Prop}{pins:List (Addr×Obj)}{σ:L2.St}{H:Hp}{s:Shared}{d1:D}{kvs:List (Key×Option Int)}{x y:V}{v u:Value}{G1 G2:List Addr}{b:Bool}{Q:Value->Shared->Prop}(hx:rj X.w X.K)(I:Inv X pins σ H s)(r1:Rep X.K H d1 x G1)(r2:Rep X.K H (.dct kvs) y G2)(rx:RelV x v)(ry:RelV y u)(hb:inD d1 (.dct kvs)=some b) :
  ((∀ s',Inv X pins σ H s'->Q (.bool b) s')->wpAny (model X.prog X.w) A (compareOp .In v u) Q E s)/\((∀ s',Inv X pins σ H s'->Q (.bool (!b)) s')->wpAny (model X.prog X.w) A (compareOp .NotIn v u) Q E s):=by
 cases r2 with
 |@dct p _ hp =>
  match kvs,hb,hp with
  | (.inr z,q)::r,hb,hp =>
   cases d1 with
   |str w =>
    cases hb;obtain⟨rfl,rfl⟩:=r1.str_inv;cases ry;obtain⟨t,rfl⟩:=rx;obtain⟨vs,dd,p3,p5⟩:=pB hx I hp;have e:=(p3 (.inr w)).2;refine⟨fun h=>wpAny_in_of (cL X.prog X.w w t) (p5 z q r rfl) dd.mapOf ?_,fun h=>wpAny_notIn_of (cL X.prog X.w w t) (p5 z q r rfl) dd.mapOf ?_⟩
    ·rw[e];exact h _ (I.tok _)
    ·rw[e];exact h _ (I.tok _)
   |_=>cases hb
noncomputable def isMp:D->Bool
 |.mpi _=>true
 |.mpt _=>true
 |.mpz _=>true
 |_=>false
theorem gP {A:Around}{E:Value->Shared->Prop}{pins:List (Addr×Obj)}{σ:L2.St}{H:Hp}{s:Shared}{d1 d2:D}{x y:V}{v u:Value}{G1 G2:List Addr}{b:Bool}{Q:Value->Shared->Prop}(hu:A.units+1<cLine)(I:Inv X pins σ H s)(r1:Rep X.K H d1 x G1)(r2:Rep X.K H d2 y G2)(rx:RelV x v)(ry:RelV y u)(hm:isMp d2=true)(hb:inD d1 d2=some b) :
  ((∀ s',Inv X pins σ H s'->Q (.bool b) s')->wpAny (model X.prog X.w) A (compareOp .In v u) Q E s)/\((∀ s',Inv X pins σ H s'->Q (.bool (!b)) s')->wpAny (model X.prog X.w) A (compareOp .NotIn v u) Q E s):=by
 cases r2 with
 |@mpi p ks xs hr kr =>
  have inv:(∃ k,d1 = .int k/\b=ks.any fun q=>decide (q.1=k))\/∃ i j,d1 = .tup [.int i,.int j]/\ks=[]/\b=false:=by
   simp only[inD] at hb;split at hb
   ·cases hb;exact .inl ⟨_,rfl,rfl⟩
   ·split at hb
    ·rename_i he;cases hb;exact .inr ⟨_,_,rfl,List.isEmpty_iff.mp he,rfl⟩
    ·cases hb
   ·cases hb
  rcases inv with ⟨k,rfl,rfl⟩ | ⟨i,j,rfl,rfl,rfl⟩
  ·obtain⟨rfl,rfl⟩:=r1.int_inv;obtain rfl:u = .ref p:=ry;have g:xk H p (.int k) (ij xs (.inl k)):=.inl ⟨xs,.inl k,.inl hr,rfl,rfl⟩;have e:(ij xs (.inl k)).isSome=ks.any fun q=>decide (q.1=k):=by rw[<-iz,kr.any]
   exact⟨fun h=>C2 hu I g rx (by rw[e];exact h),fun h=>pU hu I g rx (by rw[e];exact h)⟩
  ·obtain⟨q,vs,rfl,a1,a2⟩:=r1.tup_inv;obtain⟨rfl,rfl⟩:=qi a2;obtain rfl:u = .ref p:=ry;obtain rfl:v = .ref q:=rx;cases xs with
   |cons _ _=>exact kr.elim
   |nil =>
   obtain⟨z,hd,vs,rel,o,es,ep,h1,h2,h3,h4,h5,h6⟩:=j7 I.hok (.inl hr);cases rel;have hes:es.toList=[]:=by
    cases q:es.toList with
    |nil=>rfl
    |cons x r=>rw[q] at h5;cases h5
   have dd:s.heap.DictOfH (tupleKind (aM X.prog X.w)) p []:=⟨o,es,ep,h1,h2,h3,hes,fun x hx=>(nomatch hx),bo⟩;have ky:(tupleKind (aM X.prog X.w)).is s.heap ([i,j].map Sum.inl) q:=uu I a1;exact⟨fun h=>wpAny_in_heap (tupleKind_room_in1 hu) ky hd dd (h _ (I.tok _)),fun h=>wpAny_notIn_heap (tupleKind_room_in1 hu) ky hd dd (h _ (I.tok _))⟩
 |@mpz p ks xs ob hr kr =>
  have inv:∃ k,d1 = .int k/\b=ks.any fun q=>decide (q.1=k):=by
   simp only[inD] at hb;split at hb
   ·cases hb;exact⟨_,rfl,rfl⟩
   ·cases hb
  obtain⟨k,rfl,rfl⟩:=inv;obtain⟨rfl,rfl⟩:=r1.int_inv;obtain rfl:u = .ref p:=ry;have g:xk H p (.int k) (ij xs (.inl k)):=.inl ⟨xs,.inl k,.inr ⟨_,hr⟩,rfl,rfl⟩;have e:(ij xs (.inl k)).isSome=ks.any fun q=>decide (q.1=k):=by rw[<-iz,kr.any]
  exact⟨fun h=>C2 hu I g rx (by rw[e];exact h),fun h=>pU hu I g rx (by rw[e];exact h)⟩
 |@mpt p ks hr =>
  have inv:∃ i j,d1 = .tup [.int i,.int j]/\b=ks.contains [i,j]:=by
   simp only[inD] at hb;split at hb
   ·cases hb;exact⟨_,_,rfl,rfl⟩
   ·cases hb
  obtain⟨i,j,rfl,rfl⟩:=inv;obtain⟨q,vs,rfl,a1,a2⟩:=r1.tup_inv;obtain⟨rfl,rfl⟩:=qi a2;obtain rfl:u = .ref p:=ry;obtain rfl:v = .ref q:=rx;obtain⟨z,hd,xs,rel,dd⟩:=qt I.hok hr;have ky:(tupleKind (aM X.prog X.w)).is s.heap ([i,j].map Sum.inl) q:=uu I a1;have e:ks.contains [i,j]=((atKey xs ([i,j].map Sum.inl))).isSome:=by
   have e1:=(rel.val ([i,j].map Sum.inl)).isSome_eq;rw[Option.isSome_map] at e1;rw[<-e1,<-iz,pT]
  refine⟨fun h=>wpAny_in_heap (tupleKind_room_in1 hu) ky hd dd ?_,fun h=>wpAny_notIn_heap (tupleKind_room_in1 hu) ky hd dd ?_⟩
  ·rw[<-e];exact h _ (I.tok _)
  ·rw[<-e];exact h _ (I.tok _)
 |_=>cases hm
theorem iZ:∀{xs:List D}{k:List Int},jq xs=some k->xs=k.map D.int
 |[],k,h=>by cases h;rfl
 | .int i::r,k,h=>by
  have h:(jq r).map (i :: ·)=some k:=h;rw[aa] at h;obtain⟨k',h1,rfl⟩:=h;rw[iZ h1];rfl
theorem mo {K:Frag}{H:Hp}:∀{ns:List Int}{vs:List V}{G:List Addr}{us:List Value},aD K H (ns.map D.int) vs G->aK vs us->IntsAre us ns
 |[],_,_,_,.nil,.nil=>.nil
 | n::ns,_,_,_,.cons h r,.cons x y=>by
  obtain⟨rfl,_⟩:=h.int_inv;obtain⟨t,rfl⟩:=x;exact .cons _ _ (mo r y)
theorem qB (op:CmpOp)(hx:X.A.units+40<cLine/\rj X.w X.K):gv X (compareOp op) (tw X.K fun x y=>(eY op x y).map .bl):=by
 have hu:=hx.1;intro pins s σ H x y v u Q I rx ry h;obtain⟨d1,d2,d,G,rs,hd,k⟩:=h;obtain⟨G1,G2,r1,r2,rfl⟩:=rs.inv2;rw[aa] at hd;obtain⟨b,hb,rfl⟩:=hd;have fin:Q (.bl b) H:=k _ H [] (.bl b) fP.nil;have ep:∀ c,c=b->EP X pins σ Q (.bool c) s:=fun c e=>⟨.bl b,H,I,by rw[e];rfl,fin⟩
 have onInts:∀{f:Int->Int->Bool},(∀ i j,eY op (.int i) (.int j)=some (f i j))->(∀ d1 d2,(∀ i j,¬ (d1 = .int i/\d2 = .int j))->eY op d1 d2=none)->gv X (compareOp op) (sf fun i j=>.bl (f i j))->wpAny (model X.prog X.w) X.A (compareOp op v u) (EP X pins σ Q) X.xe s:=by
  intro f h1 h2 ho;by_cases hi:∃ i j,d1 = .int i/\d2 = .int j
  ·obtain⟨i,j,rfl,rfl⟩:=hi;rw[h1] at hb;cases hb;obtain⟨rfl,rfl⟩:=r1.int_inv;obtain⟨rfl,rfl⟩:=r2.int_inv;exact ho pins s σ H _ _ v u Q I rx ry ⟨i,j,rfl,rfl,fin⟩
  ·rw[h2 d1 d2 fun i j z=>hi ⟨i,j,z⟩] at hb;cases hb
 have nope:∀(op:CmpOp),(op = .Lt\/op = .Gt\/op = .GtE)->∀ d1 d2:D,(∀ i j,¬ (d1 = .int i/\d2 = .int j))->eY op d1 d2=none:=by
  intro op ho d1 d2 hn;cases d1 with
  |int i =>
   cases d2 with
   |int j=>exact absurd ⟨rfl,rfl⟩ (hn i j)
   |_=>rcases ho with rfl | rfl | rfl<;>rfl
  |_=>rcases ho with rfl | rfl | rfl<;>cases d2<;>rfl
 cases op with
 |Lt=>exact onInts (fun _ _=>rfl) (nope .Lt (.inl rfl)) BP
 |LtE =>
  cases d1 with
  |int i =>
   cases d2 with
   |int j =>
    cases hb;obtain⟨rfl,rfl⟩:=r1.int_inv;obtain⟨rfl,rfl⟩:=r2.int_inv;exact BD pins s σ H _ _ v u Q I rx ry ⟨i,j,rfl,rfl,fin⟩
   |_=>cases hb
  |tup xs =>
   cases d2 with
   |tup ys =>
    have hb:((jq xs).bind fun a=>(jq ys).map fun b=>jS a b)=some b:=hb;rw[ag] at hb;obtain⟨ks,h1,hb⟩:=hb;rw[aa] at hb;obtain⟨ls,h2,rfl⟩:=hb;obtain rfl:=iZ h1;obtain rfl:=iZ h2;obtain⟨p,vs,rfl,a1,a2⟩:=r1.tup_inv;obtain⟨q,ws,rfl,b1,b2⟩:=r2.tup_inv;cases rx;cases ry;obtain⟨its,rv,p1,_⟩:=I.tuple a1;obtain⟨its2,rv2,p2,_⟩:=I.tuple b1;exact xx p1 p2 (mo a2 (by simpa using rv)) (mo b2 (by simpa using rv2)) (by omega) (ep _ rfl)
   |_=>cases hb
  |_=>cases d2<;>cases hb
 |Gt=>exact onInts (fun _ _=>rfl) (nope .Gt (.inr (.inl rfl))) CV
 |GtE=>exact onInts (fun _ _=>rfl) (nope .GtE (.inr (.inr rfl))) B6
 |Eq =>
  have hb:D.eqf 40 d1 d2=some b:=by cases d1<;>cases d2<;>exact hb
  exact (vz I 40 X.A d1 d2 x y G1 G2 v u b hu r1 r2 rx ry hb).1 _ _ _ _ (ep b rfl)
 |NotEq =>
  have hb:(D.eqf 40 d1 d2).map (!·)=some b:=by cases d1<;>cases d2<;>exact hb
  rw[aa] at hb;obtain⟨c,hc,rfl⟩:=hb;exact BK I 40 X.A d1 d2 x y G1 G2 v u c hu r1 r2 rx ry hc _ _ _ _ (ep _ rfl)
 |Is =>
  cases d2 with
  |non =>
   obtain⟨rfl,rfl⟩:=r2.non_inv;refine zj pins s σ H _ _ v u Q I rx ry ⟨rfl,?_⟩;have:decide (x=V.non)=b:=by
    cases r1<;>simp_all [eY,pY]
   rw[this];exact fin
  |bl c =>
   cases d1 with
   |bl a =>
    cases hb;obtain⟨rfl,rfl⟩:=r1.bl_inv;obtain⟨rfl,rfl⟩:=r2.bl_inv;cases rx;cases ry;exact wpAny_is_plain rfl (ep _ (by cases a<;>cases c<;>rfl))
   |_=>cases hb
  |_=>cases d1<;>cases hb
 |IsNot =>
  cases d2 with
  |non =>
   obtain⟨rfl,rfl⟩:=r2.non_inv;refine xu pins s σ H _ _ v u Q I rx ry ⟨rfl,?_⟩;have:(!decide (x=V.non))=b:=by
    cases r1<;>simp_all [eY,pY]
   rw[this];exact fin
  |bl c =>
   cases d1 with
   |bl a =>
    cases hb;obtain⟨rfl,rfl⟩:=r1.bl_inv;obtain⟨rfl,rfl⟩:=r2.bl_inv;cases rx;cases ry;exact wpAny_isNot_plain rfl (ep _ (by cases a<;>cases c<;>rfl))
   |_=>cases hb
  |_=>cases d1<;>cases hb
 |In =>
  have hb:inD d1 d2=some b:=by cases d1<;>cases d2<;>exact hb
  cases d2 with
  |lst ys =>
   simp only[inD] at hb;by_cases hc:(d1.fC&&ys.all D.fC)=true
   ·rw[if_pos hc] at hb;cases hb;rw[ah] at hc;obtain⟨p,vs,g,rfl,rfl,a1,a2⟩:=r2.lst_inv;refine kO pins s σ H _ _ v u Q I rx ry ⟨p,vs,rfl,.inl (.inl a1),gO r1 hc.1,fK a2 hc.2,?_⟩;rw[ke r1 hc.1 a2 hc.2];exact fin
   ·rw[if_neg hc] at hb;cases hb
  |tup ys =>
   simp only[inD] at hb;by_cases hc:(d1.fC&&ys.all D.fC)=true
   ·rw[if_pos hc] at hb;cases hb;rw[ah] at hc;obtain⟨p,vs,rfl,a1,a2⟩:=r2.tup_inv;refine kO pins s σ H _ _ v u Q I rx ry ⟨p,vs,rfl,.inr a1,gO r1 hc.1,fK a2 hc.2,?_⟩;rw[ke r1 hc.1 a2 hc.2];exact fin
   ·rw[if_neg hc] at hb;cases hb
  |str z =>
   cases d1 with
   |str w =>
    cases hb;obtain⟨rfl,rfl⟩:=r1.str_inv;obtain⟨rfl,rfl⟩:=r2.str_inv;exact rg pins s σ H _ _ v u Q I rx ry ⟨w,z,rfl,rfl,fin⟩
   |_=>cases hb
  |mpi ks=>exact (gP (by omega) I r1 r2 rx ry rfl hb).1 fun s' I'=>⟨.bl b,H,I',rfl,fin⟩
  |dct kvs=>exact (sL hx.2 I r1 r2 rx ry hb).1 fun s' I'=>⟨.bl b,H,I',rfl,fin⟩
  |mpt ks=>exact (gP (by omega) I r1 r2 rx ry rfl hb).1 fun s' I'=>⟨.bl b,H,I',rfl,fin⟩
  |mpz ks=>exact (gP (by omega) I r1 r2 rx ry rfl hb).1 fun s' I'=>⟨.bl b,H,I',rfl,fin⟩
  |_=>cases hb
 |NotIn =>
  have hb:(inD d1 d2).map (!·)=some b:=by cases d1<;>cases d2<;>exact hb
  rw[aa] at hb;obtain⟨c,hi,rfl⟩:=hb;clear hb;cases d2 with
  |lst ys =>
   simp only[inD] at hi;by_cases hc:(d1.fC&&ys.all D.fC)=true
   ·rw[if_pos hc] at hi;cases hi;rw[ah] at hc;obtain⟨p,vs,g,rfl,rfl,a1,a2⟩:=r2.lst_inv;refine iQ pins s σ H _ _ v u Q I rx ry ⟨p,vs,rfl,.inl (.inl a1),gO r1 hc.1,fK a2 hc.2,?_⟩;rw[ke r1 hc.1 a2 hc.2];exact fin
   ·rw[if_neg hc] at hi;cases hi
  |tup ys =>
   simp only[inD] at hi;by_cases hc:(d1.fC&&ys.all D.fC)=true
   ·rw[if_pos hc] at hi;cases hi;rw[ah] at hc;obtain⟨p,vs,rfl,a1,a2⟩:=r2.tup_inv;refine iQ pins s σ H _ _ v u Q I rx ry ⟨p,vs,rfl,.inr a1,gO r1 hc.1,fK a2 hc.2,?_⟩;rw[ke r1 hc.1 a2 hc.2];exact fin
   ·rw[if_neg hc] at hi;cases hi
  |str z =>
   cases d1 with
   |str w =>
    cases hi;obtain⟨rfl,rfl⟩:=r1.str_inv;obtain⟨rfl,rfl⟩:=r2.str_inv;exact mG pins s σ H _ _ v u Q I rx ry ⟨w,z,rfl,rfl,fin⟩
   |_=>cases hi
  |mpi ks=>exact (gP (by omega) I r1 r2 rx ry rfl hi).2 fun s' I'=>⟨.bl _,H,I',rfl,fin⟩
  |dct kvs=>exact (sL hx.2 I r1 r2 rx ry hi).2 fun s' I'=>⟨.bl _,H,I',rfl,fin⟩
  |mpt ks=>exact (gP (by omega) I r1 r2 rx ry rfl hi).2 fun s' I'=>⟨.bl _,H,I',rfl,fin⟩
  |mpz ks=>exact (gP (by omega) I r1 r2 rx ry rfl hi).2 fun s' I'=>⟨.bl _,H,I',rfl,fin⟩
  |_=>cases hi
theorem zU (n:Nat)(i:Int):Pc.jv n i=L2.jv n i:=rfl
theorem wM (hx:rj X.w X.K):Bc X (Cu X.K):=by
 intro value slice pins s σ H x y v u Q I rx ry h hs;obtain⟨d1,d2,d,G,rs,hd,k⟩:=h;obtain⟨G1,G2,r1,r2,rfl⟩:=rs.inv2;cases d2 with
 |int i =>
  obtain⟨rfl,rfl⟩:=r2.int_inv;rw[az] at k;have seq:∀{xs:List D}{vs:List V}{g:List Addr},aD X.K H xs vs g->((jv xs.length i).bind fun j=>xs[j]?)=some d->∃ w g',zX vs i=some w/\Rep X.K H d w g'/\g'.Sublist g:=fun {xs vs g} r e=>by
   rw[ag] at e;obtain⟨j,e1,e2⟩:=e;obtain⟨w,g',a,b,c⟩:=r.get e2;refine⟨w,g',?_,b,c⟩;unfold zX;rw[<-r.len,<-zU,e1];exact a
  cases d1 with
  |lst xs =>
   obtain⟨p,vs,g,rfl,rfl,a1,a2⟩:=r1.lst_inv;obtain⟨w,g',e1,e2,e3⟩:=seq a2 hd;exact xm value slice pins s σ H _ _ v u Q I rx ry ⟨p,vs,i,w,rfl,rfl,.inl a1,e1,k w g' e2 (e3.trans (List.sublist_cons_self _ _))⟩ hs
  |tup xs =>
   obtain⟨p,vs,rfl,a1,a2⟩:=r1.tup_inv;obtain⟨w,g',e1,e2,e3⟩:=seq a2 hd;exact Ax value slice pins s σ H _ _ v u Q I rx ry ⟨p,vs,i,w,rfl,rfl,a1,e1,k w g' e2 e3⟩ hs
  |str z =>
   obtain⟨rfl,rfl⟩:=r1.str_inv;simp only[o6] at hd;by_cases hl:z.length<=lim
   ·rw[if_pos hl,aa] at hd;obtain⟨c,hc,rfl⟩:=hd;exact lQ value slice pins s σ H _ _ v u Q I rx ry ⟨z,i,c,rfl,rfl,eX hl,hc,k _ [] (.str _) (fh _)⟩ hs
   ·rw[if_neg hl] at hd;cases hd
  |dct kvs =>
   cases r1 with
   |dct hp =>
    simp only[o6] at hd;rw[aa] at hd;obtain⟨z,hz,rfl⟩:=hd;cases rx;obtain⟨t,rfl⟩:=ry;obtain⟨vs,dd,p3,_⟩:=pB hx I hp;obtain⟨u',ru,hu⟩:=(p3 (.inl i)).1 z hz;have fin:EP X pins σ Q u' { s with toks:=s.toks+1 }:=⟨vV z,H,I.tok _,ru,k _ [] (qw z) (fh _)⟩;exact subscriptTail_builtinR (x:=u') dd.mapOf.typeIs slot_dict_getitem.lookup (wpAny_getItem_of (Q:=fun r s'=>r=u'/\EP X pins σ Q r s') (dI X.prog X.w i t) dd.mapOf hu ⟨rfl,fin⟩) hs
  |mpi ks =>
   cases r1 with
   |@mpi p _ xs hr kr =>
    simp only[o6] at hd;rw[aa] at hd;obtain⟨e,he,rfl⟩:=hd;obtain⟨v',hv',mr⟩:=kr.val i he;cases rx;obtain⟨t,rfl⟩:=ry;obtain⟨z,lo,vs,rel,dd⟩:=j7 I.hok (.inl hr);obtain⟨u',hu,ru⟩:∃ u',valueAt vs (.inl i)=some u'/\RelV v' u':=by
     have:=rel.val (.inl i);rw[hv'] at this;cases q:valueAt vs (.inl i) with
     |none=>rw[q] at this;exact this.elim
     |some u'=>rw[q] at this;exact⟨u',rfl,this⟩
    have fin:EP X pins σ Q u' { s with toks:=s.toks+1 }:=⟨v',H,I.tok _,ru,k _ [] mr.rep (fh _)⟩;exact subscriptTail_builtinR (x:=u') dd.mapOf.typeIs slot_dict_getitem.lookup (wpAny_getItem_of (Q:=fun r s'=>r=u'/\EP X pins σ Q r s') (dI X.prog X.w i t) dd.mapOf hu ⟨rfl,fin⟩) hs
  |mpz ks =>
   cases r1 with
   |@mpz p _ xs ob hr kr =>
    simp only[o6] at hd;rw[aa] at hd;obtain⟨e,he,rfl⟩:=hd;obtain⟨v',hv',mr⟩:=kr.val i he;cases rx;obtain⟨t,rfl⟩:=ry;obtain⟨z,lo,vs,rel,dd⟩:=j7 I.hok (.inr ⟨_,hr⟩);obtain⟨u',hu,ru⟩:∃ u',valueAt vs (.inl i)=some u'/\RelV v' u':=by
     have:=rel.val (.inl i);rw[hv'] at this;cases q:valueAt vs (.inl i) with
     |none=>rw[q] at this;exact this.elim
     |some u'=>rw[q] at this;exact⟨u',rfl,this⟩
    have fin:EP X pins σ Q u' { s with toks:=s.toks+1 }:=⟨v',H,I.tok _,ru,k _ [] mr.rep (fh _)⟩;exact subscriptTail_builtinR (x:=u') dd.mapOf.typeIs slot_dict_getitem.lookup (wpAny_getItem_of (Q:=fun r s'=>r=u'/\EP X pins σ Q r s') (dI X.prog X.w i t) dd.mapOf hu ⟨rfl,fin⟩) hs
  |_=>cases hd
 |str i =>
  obtain⟨rfl,rfl⟩:=r2.str_inv;rw[az] at k;cases d1 with
  |dct kvs =>
   cases r1 with
   |dct hp =>
    simp only[o6] at hd;rw[aa] at hd;obtain⟨z,hz,rfl⟩:=hd;cases rx;obtain⟨t,rfl⟩:=ry;obtain⟨vs,dd,p3,_⟩:=pB hx I hp;obtain⟨u',ru,hu⟩:=(p3 (.inr i)).1 z hz;have fin:EP X pins σ Q u' { s with toks:=s.toks+1 }:=⟨vV z,H,I.tok _,ru,k _ [] (qw z) (fh _)⟩;exact subscriptTail_builtinR (x:=u') dd.mapOf.typeIs slot_dict_getitem.lookup (wpAny_getItem_of (Q:=fun r s'=>r=u'/\EP X pins σ Q r s') (cL X.prog X.w i t) dd.mapOf hu ⟨rfl,fin⟩) hs
  |_=>cases hd
 |_=>cases d1<;>cases hd
end
section
variable {X:Cx}{T:Tb}{a b c:Expr}{ca cb cc:Ex}{pos:Pos}
theorem zM {i:Nat}{x:Str}(hN:X.N[i]? = some x)(hv:xY X.env.scope x)(hd:(x==("__debug__" : Str))=false) (hcd:(x==("__classdict__" : Str))=false):PE X (.Name x pos) (tE X.K T (.var i)):=by
 refine bF (jY hN hv hd hcd) fun σ H Q ⟨P,env,F,re,p,hev,k⟩=>?_
 unfold ev at hev;cases hs:env[i]? with
 |none=>rw[hs] at hev;cases hev
 |some o =>
  cases o with
  |none=>rw[hs] at hev;cases hev
  |some q =>
   obtain⟨d,t⟩:=q;rw[hs] at hev;simp only[Rs.ok.injEq] at hev;subst hev;obtain⟨v,e1,rp⟩:=re.val i d t hs;refine⟨v,e1,k v H (F i) (aG.refl _) rp ?_⟩;cases hf:d.flat with
   |true =>
    rw[rp.flat hf];exact bG.nil
   |false =>
    simp only[Bool.false_eq_true,if_false];have ow:aX t=true->bG env F H (.mv [i]) H (F i):=fun o=>by
     obtain⟨n1,n2,n3⟩:=re.one i d t hs o;refine⟨fun a ha=>.inr ⟨i,d,t,ha,hs,fun q hq=>by cases t<;>simp_all [aW,aX,Rt.roots]⟩,fun R e=>?_⟩;cases e;exact⟨n1,n2,fun a ha=>.inr ⟨i,d,t,by simp,ha,hs,o⟩⟩
    cases t with
    |own=>exact ow rfl
    |lk=>exact ow rfl
    |sh R=>exact⟨fun a ha=>.inr ⟨i,d,.sh R,ha,hs,fun q hq=>hq⟩,fun R' e=>by cases e⟩
theorem gM {e:Expr}{d:D}{v:V}(h:PE X e (tC v))(hr:∀ H,Rep X.K H d v []):PE X e (tE X.K T (.cst d)):=by
 refine bF h fun σ H Q ⟨P,env,F,re,p,hev,k⟩=>?_
 unfold ev at hev;cases hev;exact k v H [] (aG.refl _) (hr H) bG.nil
theorem zf {e:Expr}{i:Nat}{v:V}(h:PE X e (tC v))(hr:∀ H,Rep X.K H (T.gl i) v []):PE X e (tE X.K T (.glb i)):=by
 refine bF h fun σ H Q ⟨P,env,F,re,p,hev,k⟩=>?_
 unfold ev at hev;cases hev;exact k v H [] (aG.refl _) (hr H) bG.nil
theorem yT (ha:PE X a (tE X.K T ca)):PE X (.UnaryOp .USub a pos) (tE X.K T (.neg ca)):=by
 refine bF (CO AY ha) fun σ H Q ⟨P,env,F,re,p,hev,k⟩=>?_
 unfold ev at hev;obtain⟨q,h1,hev⟩:=Rs.bind_ok hev;refine⟨P,env,F,re,q,h1,fun v H1 G s rp rt=>?_⟩;cases hq:q.1 with
 |int i =>
  rw[hq] at hev rp;cases hev;obtain⟨rfl,rfl⟩:=rp.int_inv;exact⟨i,rfl,k _ H1 [] s (.int _) bG.nil⟩
 |_=>rw[hq] at hev;cases hev
theorem AV {op:CmpOp}(hu:X.A.units+40<cLine/\rj X.w X.K)(ha:PE X a (tE X.K T ca))(hb:PE X b (tE X.K T cb))(hm:behindInMarks op b=false):PT X (.Compare a [op] [b] pos) (mR X.K T (.cmp op ca cb)):=by
 refine oF (vX (qB op hu) ha hb hm) fun σ H Q ⟨P,env,F,re,p0,bb,hev,ht,k⟩=>?_
 unfold ev at hev;obtain⟨p,h1,hev⟩:=Rs.bind_ok hev;obtain⟨q,h2,hev⟩:=Rs.bind_ok hev;obtain⟨d,h3,hev⟩:=Rs.bind_ok hev;have h3:=bS h3;cases hev;obtain rfl:d=bb:=cf ht;refine two re h1 h2 fun x y H2 G ar=>⟨p.1,q.1,.bl d,G,ar.reps,by simp[h3],fun v H' G' rp nv=>?_⟩
 obtain⟨rfl,_⟩:=rp.bl_inv;exact⟨d,rfl,k H' (ar.same.trans nv.same)⟩
variable {rest:List Expr}
theorem A1 (ha:PE X a (tE X.K T ca))(hb:PE X (.BoolOp .And (b::rest) pos) (tE X.K T cb)):PE X (.BoolOp .And (a::b::rest) pos) (tE X.K T (.and ca cb)):=by
 refine bF (zq ha hb) fun σ H Q ⟨P,env,F,re,p,hev,k⟩=>?_
 unfold ev at hev;obtain⟨q,h1,hev⟩:=Rs.bind_ok hev;refine⟨P,env,F,re,q,h1,fun v H1 G s rp rt=>?_⟩;cases hq:q.1 with
 |bl kb =>
  rw[hq] at hev rp;obtain⟨rfl,rfl⟩:=rp.bl_inv;cases kb with
  |true=>exact⟨true,rfl,by rw[if_pos rfl];exact⟨P,env,F,re.same s,p,hev,fun v H' G s' rp' rt'=>k v H' G (s.trans s') rp' (rt'.back s)⟩⟩
  |false =>
   cases hev;exact⟨false,rfl,by rw[if_neg av];exact k _ H1 [] s (.bl _) bG.nil⟩
 |_=>rw[hq] at hev;cases hev
theorem Dg (ha:PE X a (tE X.K T ca))(hb:PE X (.BoolOp .Or (b::rest) pos) (tE X.K T cb)):PE X (.BoolOp .Or (a::b::rest) pos) (tE X.K T (.or ca cb)):=by
 refine bF (BR ha hb) fun σ H Q ⟨P,env,F,re,p,hev,k⟩=>?_
 unfold ev at hev;obtain⟨q,h1,hev⟩:=Rs.bind_ok hev;refine⟨P,env,F,re,q,h1,fun v H1 G s rp rt=>?_⟩;cases hq:q.1 with
 |bl kb =>
  rw[hq] at hev rp;obtain⟨rfl,rfl⟩:=rp.bl_inv;cases kb with
  |false=>exact⟨false,rfl,by rw[if_neg av];exact⟨P,env,F,re.same s,p,hev,fun v H' G s' rp' rt'=>k v H' G (s.trans s') rp' (rt'.back s)⟩⟩
  |true =>
   cases hev;exact⟨true,rfl,by rw[if_pos rfl];exact k _ H1 [] s (.bl _) bG.nil⟩
 |_=>rw[hq] at hev;cases hev
theorem zL (ha:PE X a (tE X.K T ca)):PE X (.UnaryOp .Not a pos) (tE X.K T (.not ca)):=by
 refine bF (Ai ha) fun σ H Q ⟨P,env,F,re,p,hev,k⟩=>?_
 unfold ev at hev;obtain⟨q,h1,hev⟩:=Rs.bind_ok hev;refine⟨P,env,F,re,q,h1,fun v H1 G s rp rt=>?_⟩;cases hq:q.1 with
 |bl kb =>
  rw[hq] at hev rp;obtain⟨rfl,rfl⟩:=rp.bl_inv;cases hev;exact⟨kb,rfl,k _ H1 [] s (.bl _) bG.nil⟩
 |_=>rw[hq] at hev;cases hev
theorem zJ (ha:PT X a (mR X.K T ca))(hb:PW X (.BoolOp .And (b::rest) pos) (mR X.K T cb)):PW X (.BoolOp .And (a::b::rest) pos) (mR X.K T (.and ca cb)):=by
 intro wh pins s σ H Q I h;refine zr ha hb wh pins s σ H Q I ?_;obtain⟨P,env,F,re,p,bb,hev,ht,k⟩:=h;unfold ev at hev;obtain⟨q,h1,hev⟩:=Rs.bind_ok hev;cases hq:q.1 with
 |bl kb =>
  rw[hq] at hev;cases kb with
  |true=>exact⟨P,env,F,re,q,true,h1,by rw[hq];rfl,fun H' s=>by show if true=true then _ else _;rw[if_pos rfl];exact⟨P,env,F,re.same s,p,bb,hev,ht,fun H2 s2=>k H2 (s.trans s2)⟩⟩
  |false =>
   cases hev;cases ht;exact⟨P,env,F,re,q,false,h1,by rw[hq];rfl,fun H' s=>by show if false=true then _ else _;rw[if_neg av];exact k H' s⟩
 |_=>rw[hq] at hev;cases hev
theorem CA (ha:PT X a (mR X.K T ca))(hb:PW X (.BoolOp .Or (b::rest) pos) (mR X.K T cb)):PW X (.BoolOp .Or (a::b::rest) pos) (mR X.K T (.or ca cb)):=by
 intro wh pins s σ H Q I h;refine Cs ha hb wh pins s σ H Q I ?_;obtain⟨P,env,F,re,p,bb,hev,ht,k⟩:=h;unfold ev at hev;obtain⟨q,h1,hev⟩:=Rs.bind_ok hev;cases hq:q.1 with
 |bl kb =>
  rw[hq] at hev;cases kb with
  |false=>exact⟨P,env,F,re,q,false,h1,by rw[hq];rfl,fun H' s=>by show if false=true then _ else _;rw[if_neg av];exact⟨P,env,F,re.same s,p,bb,hev,ht,fun H2 s2=>k H2 (s.trans s2)⟩⟩
  |true =>
   cases hev;cases ht;exact⟨P,env,F,re,q,true,h1,by rw[hq];rfl,fun H' s=>by show if true=true then _ else _;rw[if_pos rfl];exact k H' s⟩
 |_=>rw[hq] at hev;cases hev
theorem Ah (ha:PT X a (mR X.K T ca)):PT X (.UnaryOp .Not a pos) (mR X.K T (.not ca)):=by
 refine oF (zQ ha) fun σ H Q ⟨P,env,F,re,p,bb,hev,ht,k⟩=>?_
 unfold ev at hev;obtain⟨q,h1,hev⟩:=Rs.bind_ok hev;cases hq:q.1 with
 |bl kb =>
  rw[hq] at hev;cases hev;cases ht;exact⟨P,env,F,re,q,kb,h1,by rw[hq];rfl,fun H' s=>k H' s⟩
 |_=>rw[hq] at hev;cases hev
theorem vQ {K:Frag}{H:Hp}{d:D}{v:V}{G:List Addr}{b:Bool}(rp:Rep K H d v G)(h:truth d=some b):zR K v H b:=by
 cases rp with
 |dct _=>cases h
 |mpi _=>cases h
 |mpt _=>cases h
 |mpz _=>cases h
 |non=>cases h;rfl
 |bl c=>cases h;rfl
 |int i=>cases h;rfl
 |str z =>
  simp only[truth] at h;by_cases hl:z.length<=lim
  ·rw[if_pos hl] at h;cases h;exact⟨eX hl,rfl⟩
  ·rw[if_neg hl] at h;cases h
 |lst a r =>
  rename_i vs ds g;cases h;refine .inl ⟨vs,.inl a,?_⟩;have:=r.len;cases ds<;>cases vs<;>simp_all
 |tup a r =>
  rename_i vs ds;cases h;refine .inr (.inl ⟨vs,a.sq,?_⟩);have:=r.len;cases ds<;>cases vs<;>simp_all
theorem cC {e:Expr}(h:PE X e (tE X.K T ca))(he:∀ whole,isTrue e X.env whole=(do let v <- whole;standAt e.pos;holding [v] (truthy v))):PT X e (mR X.K T ca):=by
 refine oF (uk h he) fun σ H Q ⟨P,env,F,re,p,bb,hev,ht,k⟩=>?_
 exact⟨P,env,F,re,p,hev,fun v H' G s rp rt=>⟨bb,vQ rp ht,k H' s⟩⟩
theorem A3 (hc:PT X c (mR X.K T cc))(ha:PE X a (tE X.K T ca))(hb:PE X b (tE X.K T cb)):PE X (.IfExp c a b pos) (tE X.K T (.ite cc ca cb)):=by
 refine bF (vn hc ha hb) fun σ H Q ⟨P,env,F,re,p,hev,k⟩=>?_
 unfold ev at hev;obtain⟨q,h1,hev⟩:=Rs.bind_ok hev;obtain⟨kb,h2,hev⟩:=Rs.bind_ok hev;refine⟨P,env,F,re,q,kb,h1,bS h2,fun H' s=>?_⟩;cases kb with
 |true=>rw[if_pos rfl];exact⟨P,env,F,re.same s,p,hev,fun v H2 G s' rp' rt'=>k v H2 G (s.trans s') rp' (rt'.back s)⟩
 |false=>rw[if_neg av];exact⟨P,env,F,re.same s,p,hev,fun v H2 G s' rp' rt'=>k v H2 G (s.trans s') rp' (rt'.back s)⟩
variable {es:List Expr}{cs:kz}
theorem pG:PA X [] (pF X.K T .nil):=by
 refine ur fA fun σ H Q ⟨P,env,F,re,l,hev,k⟩=>?_
 unfold bK at hev;cases hev;exact k [] H [] (.nil (aG.refl _))
theorem jw (ha:PE X a (tE X.K T ca))(hr:PA X es (pF X.K T cs))(hs:starEach (a::es) X.env=(false,eval a X.env)::starEach es X.env):PA X (a::es) (pF X.K T (.cons ca cs)):=by
 refine ur (bR ha hr hs) fun σ H Q ⟨P,env,F,re,l,hev,k⟩=>?_
 unfold bK at hev;obtain⟨p,h1,hev⟩:=Rs.bind_ok hev;obtain⟨q,h2,hev⟩:=Rs.bind_ok hev;cases hev;exact⟨P,env,F,re,p,h1,fun v H1 G s rp rt=>⟨P,env,F,re.same s,q,h2,fun vs H2 G' ar=>k (v::vs) H2 _ (.cons s rp rt ar)⟩⟩
theorem bG.addNew {env:En}{F:Nat->List Addr}{H H1:Hp}{r:Rt}{G:List Addr}{p:Addr}{vs:List V}(h:bG env F H r H1 G)(e:aG H H1)(hp:H1 p=none)(hl:∀ a∈G,H1 a≠none):bG env F H r (upd H1 p (.lst vs)) (p::G) where
 cont:=fun a ha=>by
  rcases bw.mp ha with rfl | ha
  ·exact .inl (aG.no e hp)
  ·exact h.cont a ha
 mv:=fun R hr=>by
  obtain⟨a,b,c⟩:=h.mv R hr;refine⟨List.nodup_cons.mpr ⟨fun z=>hl p z hp,a⟩,fun x hx=>?_,fun x hx=>?_⟩
  ·rcases bw.mp hx with rfl | hx
   ·exact⟨.l _,aS⟩
   ·obtain⟨ws,q⟩:=b x hx;exact⟨ws,aG.new hp _ _ q⟩
  ·rcases bw.mp hx with rfl | hx
   ·exact .inl (aG.no e hp)
   ·exact c x hx
theorem zw (h:PA X es (pF X.K T cs)):PE X (.List es pos) (tE X.K T (.lst cs)):=by
 refine bF (mf h) fun σ H Q ⟨P,env,F,re,p,hev,k⟩=>?_
 unfold ev at hev;obtain⟨l,h1,hev⟩:=Rs.bind_ok hev;by_cases hl:l.length<=lim
 ·rw[if_pos hl] at hev;cases hev;refine⟨P,env,F,re,l,h1,fun vs H1 G ar=>?_⟩;have rs:=ar.reps;have hlen:=rs.len;rw[aj] at hlen;refine⟨by rw[<-hlen];exact eX hl,fun q hq=>?_⟩;have e:=aG.new (o:=.lst vs) hq;exact k _ _ (q::G) (ar.same.trans e) (.lst (.inl aS) (rs.same e)) ((ar.comb re).addNew ar.same hq fun a ha=>rs.nn ha)
 ·rw[if_neg hl] at hev;cases hev
theorem Ab {x1:Nat}(h:PA X es (pF X.K T cs)):PE X (.Tuple es x1 pos) (tE X.K T (.tup cs)):=by
 refine bF (zd h) fun σ H Q ⟨P,env,F,re,p,hev,k⟩=>?_
 unfold ev at hev;obtain⟨l,h1,hev⟩:=Rs.bind_ok hev;by_cases hl:l.length<=lim
 ·rw[if_pos hl] at hev;cases hev;refine⟨P,env,F,re,l,h1,fun vs H1 G ar=>?_⟩;have rs:=ar.reps;have hlen:=rs.len;rw[aj] at hlen;refine⟨by rw[<-hlen];exact eX hl,fun q hq=>?_⟩;have e:=aG.new (o:=.tup vs) hq;exact k _ _ G (ar.same.trans e) (.tup (.inl aS) (rs.same e)) ((ar.comb re).later e)
 ·rw[if_neg hl] at hev;cases hev
def yr (K:Frag)(n:Nat)(f:List D->Rs (D×Bool)):Sp:=fun vs H Q E=>∃ ds G,ds.length=n/\aD K H ds vs G/\∃ r,f ds = .ok r/\∀ v H' G',aG H H'->Rep K H' r.1 v G'->(∀ a∈G',H a=none\/a∈G)->(r.2=true->G'.Nodup/\∀ a∈G',H a=none/\∃ vs:ML,H' a=some vs.o)->Q v H'
theorem qo {K:Frag}{n:Nat}{f:List D->Rs (D×Bool)}{vs:List V}{H:Hp}{Q:VK}{E:XK}(h:yr K n f vs H Q E):vs.length=n:=by
 obtain⟨ds,G,h1,h2,_⟩:=h;rw[<-h1,h2.len]
theorem lK {f:Nat}{n:Nat}{σ:L2.St}{H:Hp}{Q:VK}(hn:∀ ds r,T.cl f ds = .ok r->ds.length=n)(h:tE X.K T (.call f cs) σ H Q):ui (yr X.K n (T.cl f)) [] E0 (pF X.K T cs) σ H Q:=by
 obtain⟨P,env,F,re,p,hev,k⟩:=h;unfold ev at hev;obtain⟨l,h1,hev⟩:=Rs.bind_ok hev;obtain⟨r,h2,hev⟩:=Rs.bind_ok hev;cases hev;refine⟨P,env,F,re,l,h1,fun vs H1 G ar=>?_⟩;show yr X.K n (T.cl f) (vs ++ []) H1 Q E0;rw[az];refine⟨l.map (·.1),G,hn _ _ h2,ar.reps,r,h2,fun v H' G' s rp sub fr=>k v H' G' (ar.same.trans s) rp ?_⟩;cases hr:r.2 with
 |true =>
  obtain⟨a,b⟩:=fr hr;have c:∀ x∈G',H x=none:=fun x hx=>aG.no ar.same (b x hx).1
  exact⟨fun x hx=>.inl (c x hx),fun R e=>⟨a,fun x hx=>(b x hx).2,fun x hx=>.inl (c x hx)⟩⟩
 |false =>
  refine⟨fun x hx=>?_,fun R e=>by cases e⟩;rcases sub x hx with q | q
  ·exact .inl (aG.no ar.same q)
  ·exact ar.cont x q
end
def pI (K:Frag)(b:Ad):List V->Hp->VK->Prop:=fun xs H Q=>∃ ds d G,aD K H ds xs G/\oQ b ds=some d/\∀ v H' G',Rep K H' d v G'->fP H H' G d G'->Q v H'
section
variable {X:Cx}{T:Tb}
theorem oa {b:Ad}{cs:kz}{σ:L2.St}{H:Hp}{Q:VK}(h:tE X.K T (.blt b cs) σ H Q):CB (pI X.K b) (pF X.K T cs) σ H Q:=by
 obtain⟨P,env,F,re,p,hev,k⟩:=h;unfold ev at hev;obtain⟨l,h1,hev⟩:=Rs.bind_ok hev;obtain⟨d,h2,hev⟩:=Rs.bind_ok hev;cases hev;exact⟨P,env,F,re,l,h1,fun vs H1 G ar=>⟨l.map (·.1),d,G,ar.reps,bS h2,fun v H' G' rp nv=>k v H' G' (ar.same.trans nv.same) rp (bG.new ar nv fun _ z=>z)⟩⟩
theorem aD.of1 {K:Frag}{H:Hp}{d:D}{xs:List V}{G:List Addr}(h:aD K H [d] xs G):∃ x,xs=[x]/\Rep K H d x G:=by
 cases h with
 |cons r s=>cases s;exact⟨_,rfl,by rw[az];exact r⟩
theorem A2 {prog:Program}{w:World}(d:Addr)(hd:(d==sysModules)=false):MeetsIn prog w (Builtin.«dict.__len__» ⟨[.ref d],[]⟩) (fun _ R s=>∃ o es ep,s.heap.get? d=some o/\o.ExactDict/\o.data = .dict es ep/\R (.ok (.ret (.int es.size s.toks))) { s with toks:=s.toks+1 }):=by
 intro A R s h;obtain⟨o,es,ep,h1,h2,h3,h⟩:=h;unfold Builtin.«dict.__len__»
 wp_walk
 rw[h3];unfold Builtin.Dict.pendingCount;rw[hd]
 wp_walk
 simpa using h
theorem qY:fL X (.builtin "len") (pI X.K .len):=by
 intro pins s σ H xs us Q I r h;obtain⟨ds,d,G,rs,hd,k⟩:=h
 match ds,hd with
 |[.lst ys],hd =>
  cases hd;obtain⟨x,rfl,rp⟩:=rs.of1;obtain⟨p,vs,g,rfl,rfl,a1,a2⟩:=rp.lst_inv;exact iJ pins s σ H _ us Q I r ⟨p,vs,rfl,.inl (.inl a1),by rw[<-a2.len];exact k _ H [] (.int _) fP.nil⟩
 |[.tup ys],hd =>
  cases hd;obtain⟨x,rfl,rp⟩:=rs.of1;obtain⟨p,vs,rfl,a1,a2⟩:=rp.tup_inv;exact iJ pins s σ H _ us Q I r ⟨p,vs,rfl,.inr a1,by rw[<-a2.len];exact k _ H [] (.int _) fP.nil⟩
 |[.str z],hd =>
  simp only[oQ,yD] at hd;by_cases hl:z.length<=lim
  ·rw[if_pos hl] at hd;cases hd;obtain⟨x,rfl,rp⟩:=rs.of1;obtain⟨rfl,rfl⟩:=rp.str_inv;exact mS pins s σ H _ us Q I r ⟨z,rfl,eX hl,k _ H [] (.int _) fP.nil⟩
  ·rw[if_neg hl] at hd;cases hd
 |[.mpt ks],hd =>
  cases hd;obtain⟨x,rfl,rp⟩:=rs.of1;obtain⟨u,rfl,rx⟩:=r.one;cases rp with
  |@mpt p _ hr =>
   obtain rfl:u = .ref p:=rx;obtain⟨z,lo,xs,rel,dd⟩:=qt I.hok hr;have hty:=dd.typeIs;obtain⟨o,es,ep,h1,h2,h3,h4,_,_⟩:=dd;have hl:ks.length=es.size:=by
    have e1:=Paired.length rel;have e2:=fk List.length h4;unfold v9 at e1;rw[aj] at e1 e2;rw[e1,<-e2,du]
   have hz:ks.length<=sizeLine:=by
    unfold v9 at z
    rwa [aj] at z
   rw[sizeLine_eq] at hz;refine call_len_slot (n:=(ks.length:Int)) hty PySem.F.slot_dict_len (fun Q' hQ'=>call_meetsIn PySem.F.slot_dict_len hty PySem.F.entry_dict_len (PySem.F.args_dict_len_1 _) (A2 p lo) ⟨o,es,ep,h1,h2,h3,?_⟩) (by omega) (by omega) ⟨.int _,H,(I.tok _).tok _,⟨_,rfl⟩,k _ H [] (.int _) fP.nil⟩;rw[<-hl];exact hQ'
theorem n5 {pins:List (Addr×Obj)}{s:Shared}{σ:L2.St}{H:Hp}{xs:List V}{us:List Value}{Q:VK}(I:Inv X pins σ H s)(r:aK xs us){ds:List D}{d:D}{G:List Addr}(rs:aD X.K H ds xs G)(hd:oQ .list ds=some d)(k:∀ v H' G',Rep X.K H' d v G'->fP H H' G d G'->Q v H')(hn:∀ ks,ds≠[.mpi ks]):wpAny (model X.prog X.w) X.A (call (.type "list") us) (EP X pins σ Q) X.xe s:=by
 match ds,hd with
 |[.mpi ks],hd=>exact absurd rfl (hn ks)
 |[.lst ys],hd =>
  cases hd;obtain⟨x,rfl,rp⟩:=rs.of1;obtain⟨p,vs,g,rfl,rfl,a1,a2⟩:=rp.lst_inv;refine iM pins s σ H _ us Q I r ⟨p,vs,rfl,.inl (.inl a1),fun l hl=>?_⟩;obtain⟨n1,n2⟩:=hX (G0:=p::g) a2 (fun a ha=>ae _ ha) hl;exact k _ _ _ n1 n2
 |[.tup ys],hd =>
  cases hd;obtain⟨x,rfl,rp⟩:=rs.of1;obtain⟨p,vs,rfl,a1,a2⟩:=rp.tup_inv;refine iM pins s σ H _ us Q I r ⟨p,vs,rfl,.inr a1,fun l hl=>?_⟩;obtain⟨n1,n2⟩:=hX (G0:=G) a2 (fun a ha=>ha) hl;exact k _ _ _ n1 n2
end
def gH (K:Frag)(P:Addr->Prop)(H0:Hp)(J:It)(ds:List D)(G:List Addr):Prop:=∀ H,iE P H0 H->(∀(i:Nat) (d:D),ds[i]? = some d->J.go i H/\∀ x H',J.yld i H x H'->aG H H'/\∃ G',Rep K H' d x G'/\∀ a∈G',a∈G)/\J.stop ds.length H
noncomputable def tI (K:Frag)(T:Tb)(it:ou):TI:=fun σ H R=>∃ P env F,RE K P env σ H F/\∃ p,dN T it env = .ok p/\∀ J H' G,aG H H'->bG env F H (.sh p.2) H' G->(∀ a∈G,H' a≠none)->(∀ P',(∀ a∈G,P' a)->gH K P' H' J p.1 G)->R J H'
theorem rV {K:Frag}{P:Addr->Prop}{H0:Hp}{p:Addr}{vs:List V}{ds:List D}{G:List Addr}(h1:Rd H0 p (.lst vs))(h2:aD K H0 ds vs G)(hp:∀ a∈p::G,P a):gH K P H0 (Itl K p) ds (p::G):=fun H e=>by
 have ep:=e.keep p (hp p ai);have h1':Rd H p (.lst vs):=by
  rcases h1 with q | ⟨o,q⟩
  ·exact .inl (ep.trans q)
  ·exact .inr ⟨o,ep.trans q⟩
 have h2':=e.reps h2 fun a ha=>hp a (ae _ ha)
 refine⟨fun i d hd=>?_,⟨vs,.inl h1',by rw[h2.len];exact aq _⟩⟩;obtain⟨v,G',a,b,c⟩:=h2'.get hd;refine⟨⟨vs,v,.inl h1',a⟩,fun x H' ⟨e1,e2⟩=>?_⟩;subst e1;have:=e2 vs (.inl h1');rw[a] at this;cases this;exact⟨aG.refl _,G',b,fun z hz=>ae _ (c.subset hz)⟩
theorem sP {K:Frag}{P:Addr->Prop}{H0:Hp}{p:Addr}{vs:List V}{ds:List D}{G:List Addr}(h1:jx K H0 p vs)(h2:aD K H0 ds vs G)(hp:∀ a∈G,P a):gH K P H0 (Itt K p) ds G:=fun H e=>by
 have h1':=e.tqT h1;have h2':=e.reps h2 hp;refine⟨fun i d hd=>?_,⟨vs,h1'.sq,by rw[h2.len];exact aq _⟩⟩;obtain⟨v,G',a,b,c⟩:=h2'.get hd;refine⟨⟨vs,v,h1'.sq,a⟩,fun x H' ⟨e1,e2⟩=>?_⟩;subst e1;have:=e2 vs h1'.sq;rw[a] at this;cases this;exact⟨aG.refl _,G',b,fun z hz=>c.subset hz⟩
noncomputable def CM (xs:List V):It:=⟨fun i _=>i<xs.length,fun i H x H'=>H'=H/\xs[i]? = some x,fun i _=>xs.length<=i⟩
theorem kX {K:Frag}{P:Addr->Prop}{H0:Hp}{vs:List V}{ds:List D}(hr:∀ H,aD K H ds vs []):gH K P H0 (CM vs) ds []:=fun H e=>by
 have hl:=(hr H).len;refine⟨fun i d hd=>?_,by show vs.length<=ds.length;omega⟩;obtain⟨v,G',a,b,c⟩:=(hr H).get hd;refine⟨by show i<vs.length;rw[<-hl];exact (List.getElem?_eq_some_iff.mp hd).1,fun x H' ⟨e1,e2⟩=>?_⟩;subst e1;rw[a] at e2;cases e2;exact⟨aG.refl _,G',b,fun z hz=>c.subset hz⟩
theorem lu {P:Program}{w:World}{K:Frag}{tg:Expr}{it:Addr}{xs:List V}{Pv:Nat->Value->Prop}{St:Nat->Heap->Prop}(W:∀ A:Around,A.handled=none->Walks P w A it [it] [it] xs.length Pv St)(hP:∀ i v,Pv i v->∃ x,xs[i]? = some x/\RelV x v)
  (ob:∀ i h,St i h->∃ o n vs,h.get? it=some o/\o.cls = .type n/\o.data = .fields vs/\["enumerate","zip","dict_itemiterator","dict_reverseitemiterator","odict_iterator","itertools.zip_longest","itertools.pairwise"].contains n=false)
  (fr:∀ i h h',St i h->(∀ o,h.get? it=some o->h'.get? it=some o)->St i h') (le:∀ i h,St i h->i<=xs.length) (slf:∀(A:Around) (i:Nat) (s:Shared) (Q E:Value->Shared->Prop),St i s.heap->Q (.ref it) s->wpAny (model P w) A (pyIter (.ref it)) Q E s):Turn P w K tg (CM xs) [it] it St where
 mem:=by simp
 obj:=fun i h st b hb=>by
  have e:b=it:=by simpa using hb
  subst e;obtain⟨o,n,vs,h1,h2,h3,_⟩:=ob i h st;exact⟨o,h1,fun v z=>by rw[h3] at z;cases z⟩
 keep:=fun i h h' st k=>fr i h h' st fun o e=>k it (by simp) o e
 item:=by
  intro X hp hw hK hc i pins s σ H E I hf st hg;subst hp hw hK;obtain⟨f0,f1,f2,f3,f4,f5⟩:=hf it (by simp);refine (W X.A (I.ok.hd hc)).item i s _ _ hg st fun v h' tk hv st' kk=>?_
  obtain⟨x,ex,rx⟩:=hP i v hv;have I1:Inv X pins σ H { s with heap:=h',toks:=tk }:=I.turned (fun b o hb e=>kk b o (by simpa using hb) e) f0 f1 f3 f4 f5;obtain⟨o,n,vs,h1,h2,h3,h4⟩:=ob (i+1) h' st';exact⟨v,rfl,pZ (s:={ s with heap:=h',toks:=tk }) (n:=n) h1 h2 h3 h4 ⟨x,H,I1,rx,⟨rfl,ex⟩,st',fun b hb=>(hf b hb).1⟩⟩
 done:=by
  intro X hp hw hK hc i pins s σ H E I hf st hg;subst hp hw hK;obtain⟨f0,f1,f2,f3,f4,f5⟩:=hf it (by simp);have hi:i=xs.length:=Nat.le_antisymm (le i _ st) hg;subst hi;exact (W X.A (I.ok.hd hc)).done s _ _ st fun h' tk kk=>⟨rfl,I.turned (fun b o hb e=>kk b o (by simpa using hb) e) f0 f1 f3 f4 f5⟩
 self:=fun A i s Q E st h=>slf A i s Q E st h
noncomputable def fQ (a c:Int)(n:Nat):List V:=(List.range n).map fun (i:Nat)=>.int (a+(i:Int)*c)
theorem jF (a c:Int)(n:Nat):(fQ a c n).length=n:=by simp[fQ]
theorem j9 {K:Frag}{H:Hp}(c:Int):∀(n:Nat) (a:Int),aD K H (bU a c n) (fQ a c n) []
 |0,a=>.nil
 | n+1,a=>by
  have e:fQ a c (n+1) = .int a::fQ (a+c) c n:=by
   unfold fQ;rw[List.range_succ_eq_map,ax,gn];congr 1
   ·simp
   ·refine List.map_congr_left fun i _=>?_
    simp only[Function.comp_apply,V.int.injEq,Nat.succ_eq_add_one]
    push_cast
    rw[Int.add_mul];omega
  rw[e];show aD K H (.int a::bU (a+c) c n) _ ([] ++ []);exact .cons (.int a) (j9 c n (a+c))
theorem iR (a b c:Int)(hc:c≠0):0<=Builtin.Range.rangeSize a b c:=by
 unfold Builtin.Range.rangeSize;split
 ·rename_i h;split
  ·have:0<=(b - a - 1) / c:=Int.ediv_nonneg (by omega) (by omega);omega
  ·omega
 ·split
  ·have:0<=(a - b - 1) / (-c):=Int.ediv_nonneg (by omega) (by omega);omega
  ·omega
theorem n6 {a b c:Int}(ha:gu a=true)(hb:gu b=true)(hc:c≠0)(hs:c.natAbs<1073741824):Builtin.Range.small a b c=true:=by
 unfold gu at ha hb;have ha:=of_decide_eq_true ha;have hb:=of_decide_eq_true hb;have hn:=iR a b c hc;have hu:Builtin.Range.rangeSize a b c<2 ^ 63:=by
  unfold Builtin.Range.rangeSize;split
  ·split
   ·have:=Int.ediv_le_self (b:=c) (a:=b - a - 1) (by omega);omega
   ·decide
  ·split
   ·have:=Int.ediv_le_self (b:=-c) (a:=a - b - 1) (by omega);omega
   ·decide
 unfold Builtin.Range.small;simp only[Builtin.Range.rangeFitsLong,Bool.and_eq_true,Bool.or_eq_true,decide_eq_true_eq,beq_iff_eq];refine⟨⟨⟨⟨⟨by omega,by omega⟩,by omega,by omega⟩,by omega,by omega⟩,by omega,hu⟩,.inr ?_⟩;split<;>simp only[Bool.and_eq_true,decide_eq_true_eq]<;>omega
section
variable {X:Cx}{tg:Expr}
theorem jf {pins:List (Addr×Obj)}{σ:L2.St}{H:Hp}{s:Shared}{R:It->Hp->Prop}{E:Value->Shared->Prop}{lo hi c:Int}{t u v:Tok}{tk:Nat}(I:Inv X pins σ H s)(h1:gu lo=true)(h2:gu hi=true)(h3:c≠0)(h4:c.natAbs<1073741824)
  (q:R (CM (fQ lo c (Builtin.Range.rangeSize lo hi c).toNat)) H):wpAny (model X.prog X.w) X.A (pyIter (.ref s.heap.objs.size)) (yM X pins σ tg R) E { s with heap:=s.heap.push { cls:=.type "range",data:=.fields #[.int lo t,.int hi u,.int c v] },toks:=tk }:=by
 refine wpAny_pyIter_range (IsRange.new ..) (n6 h1 h2 h3 h4) ?_;have I1:Inv X pins σ H { s with heap:=s.heap.push { cls:=.type "range",data:=.fields #[.int lo t,.int hi u,.int c v] },toks:=tk }:=I.kept fun b o e=>Heap.get?_push_of_some _ e
 have hn:=iR lo hi c h3;let n:=(Builtin.Range.rangeSize lo hi c).toNat;refine⟨(s.heap.push { cls:=.type "range",data:=.fields #[.int lo t,.int hi u,.int c v] }).objs.size,[(s.heap.push { cls:=.type "range",data:=.fields #[.int lo t,.int hi u,.int c v] }).objs.size],
  (fun i h=>i<=n/\IsRangeIter h (s.heap.push { cls:=.type "range",data:=.fields #[.int lo t,.int hi u,.int c v] }).objs.size (lo+(i:Nat)*c) ((n:Int) - (i:Nat)) c),_,H,rfl,
  I1.kept (t':=tk) fun b o e=>Heap.get?_push_of_some _ e,lu (Pv:=fun i v=>i<n/\∃ t,v = .int (lo+i*c) t) (fun A hA=>?_) (fun i v hv=>?_) (fun i h st=>?_) (fun i h h' st k=>⟨st.1,k _ st.2⟩) (fun i h st=>by rw[jF];exact st.1) (fun A i s Q E st h=>wpAny_pyIter_rangeiter st.2 h),?_,fun b hb=>?_,q⟩
 ·rw[jF];have W:=Walks.range (prog:=X.prog) (w:=X.w) hA (s.heap.push { cls:=.type "range",data:=.fields #[.int lo t,.int hi u,.int c v] }).objs.size lo c n;exact⟨W.sub,fun i h h' st k=>⟨st.1,W.frame i h h' st.2 k⟩,fun i s Q E hi st hQ=>W.item i s Q E hi st.2 fun v h' tk hv st' kk=>hQ v h' tk ⟨hi,hv⟩ ⟨hi,st'⟩ kk,fun s Q E st hQ=>W.done s Q E st.2 hQ,fun i s Q E st h=>W.self i s Q E st.2 h⟩
 ·obtain⟨hi',t',rfl⟩:=hv;exact⟨.int (lo+i*c),by unfold fQ;rw[List.getElem?_map,List.getElem?_range hi'];rfl,t',rfl⟩
 ·exact⟨_,_,_,st.2,rfl,rfl,by decide⟩
 ·refine⟨cx _,?_⟩;have e1:lo+((0:Nat):Int)*c=lo:=by simp
  have e2:((n:Nat):Int) - ((0:Nat):Int)=Builtin.Range.rangeSize lo hi c:=by omega
  rw[e1,e2];exact Heap.get?_push_size _ rfl
 ·have e:b=(s.heap.push { cls:=.type "range",data:=.fields #[.int lo t,.int hi u,.int c v] }).objs.size:=by simpa using hb
  subst e;exact I1.fpOk (aq _) (I1.hok.fresh (aq _))
end
section
variable {X:Cx}{tg:Expr}{T:Tb}{pins:List (Addr×Obj)}{σ:L2.St}{H:Hp}{s:Shared}{R:It->Hp->Prop}{E:Value->Shared->Prop}
theorem wb {a:Addr}{xs:List V}(I:Inv X pins σ H s)(hq:ig X.K H a xs)(q:R (Itl X.K a) H):wpAny (model X.prog X.w) X.A (pyIter (.ref a)) (yM X pins σ tg R) E s:=by
 obtain⟨its,rv,p,hz⟩:=I.list hq;refine wpAny_pyIter_list p.isList ?_;refine⟨s.heap.objs.size,[s.heap.objs.size],_,_,H,rfl,I.kept (t':=s.toks) fun b o e=>Heap.get?_push_of_some _ e,rZ a _,⟨_,Heap.get?_push_size _ rfl,rfl,rfl⟩,fun b hb=>?_,q⟩;have e:b=s.heap.objs.size:=by simpa using hb
 subst e;exact I.fpOk (aq _) (I.hok.fresh (aq _))
theorem tL {a:Addr}{xs:List V}(I:Inv X pins σ H s)(hq:il X.K H a xs)(q:R (Itt X.K a) H):wpAny (model X.prog X.w) X.A (pyIter (.ref a)) (yM X pins σ tg R) E s:=by
 obtain⟨its,rv,p,hz⟩:=I.tuple hq;refine wpAny_pyIter_tuple (show s.heap.IsTuple a its.toArray from p) ?_;refine⟨s.heap.objs.size,[s.heap.objs.size],_,_,H,rfl,I.kept (t':=s.toks) fun b o e=>Heap.get?_push_of_some _ e,pj a _,⟨_,Heap.get?_push_size _ rfl,rfl,rfl⟩,fun b hb=>?_,q⟩;have e:b=s.heap.objs.size:=by simpa using hb
 subst e;exact I.fpOk (aq _) (I.hok.fresh (aq _))
noncomputable def ItZ (d:Addr)(o:Obj)(xs:List (Key×V)):It:=⟨fun i H=>H d=some (.frz o (.dK xs))/\i<xs.length,fun i H x H'=>H'=H/\∃ kv,xs[i]? = some kv/\x=kV kv.1,fun i H=>H d=some (.frz o (.dK xs))/\xs.length<=i⟩
theorem rh {P:Program}{w:World}{K:Frag}{tg:Expr}{it d:Addr}{o:Obj}{xs:List (Key×V)}{vs:List (Key×Value)}{ep:Nat}(hne:d≠it)(rel:KV xs vs)(hat:∀ h:Heap,h.get? d=some o->h.DictAt (aM P w) d vs ep):Turn P w K tg (ItZ d o xs) [it] it (fun i h=>i<=vs.length/\h.IsKeyIter it d i vs.length ep) where
 mem:=by simp
 obj:=fun i h st b hb=>by
  have e:b=it:=by simpa using hb
  subst e;obtain⟨_,o',h1,h2,h3⟩:=st;exact⟨o',h1,fun v z=>by rw[h3] at z;cases z⟩
 keep:=fun i h h' st k=>⟨st.1,st.2.at fun o e=>k it (by simp) o e⟩
 item:=by
  intro X hp hw hK hc i pins s σ H E I hf st hg;subst hp hw hK;obtain⟨f0,f1,f2,f3,f4,f5⟩:=hf it (by simp);obtain⟨hz,hlt⟩:=hg;have ho:s.heap.get? d=some o:=(I.hok d _ hz).1;have hl:=rel.length;refine (Walks.dictKeys (I.ok.hd hc) it d hne vs ep).item i s _ _ (by omega) ⟨st.2,hat _ ho⟩ fun v h' tk hv st' kk=>?_
  obtain⟨k,x,hx,hk⟩:=hv;have I1:Inv X pins σ H { s with heap:=h',toks:=tk }:=I.turned (fun b o hb e=>kk b o (by simpa using hb) e) f0 f1 f3 f4 f5;obtain⟨oi,h1,h2,h3⟩:=st'.1;obtain⟨kv,e1⟩:∃ kv,xs[i]? = some kv:=⟨xs[i],List.getElem?_eq_getElem hlt⟩;have ek:kv.1=k:=by
   have:=fk (fun l:List Key=>l[i]?) rel.keys;simp only[List.getElem?_map,e1,hx,Option.map_some,Option.some.injEq] at this;exact this
  have rx:RelV (kV kv.1) v:=by
   rw[ek];rcases aZ (show jn k v=true from hk) with ⟨i,t,rfl,rfl⟩ | ⟨x,t,rfl,rfl⟩
   ·exact⟨t,rfl⟩
   ·exact⟨t,rfl⟩
  exact⟨v,rfl,pZ (s:={ s with heap:=h',toks:=tk }) (n:="dict_keyiterator") h1 h2 h3 (by decide) ⟨kV kv.1,H,I1,rx,⟨rfl,kv,e1,rfl⟩,⟨by omega,st'.1⟩,fun b hb=>(hf b hb).1⟩⟩
 done:=by
  intro X hp hw hK hc i pins s σ H E I hf st hg;subst hp hw hK;obtain⟨f0,f1,f2,f3,f4,f5⟩:=hf it (by simp);obtain⟨hz,hge⟩:=hg;have ho:s.heap.get? d=some o:=(I.hok d _ hz).1;have hl:=rel.length;have hi:i=vs.length:=by have:=st.1;omega
  subst hi;exact (Walks.dictKeys (I.ok.hd hc) it d hne vs ep).done s _ _ ⟨st.2,hat _ ho⟩ fun h' tk kk=>⟨rfl,I.turned (fun b o hb e=>kk b o (by simpa using hb) e) f0 f1 f3 f4 f5⟩
 self:=fun A i s Q E st h=>wpAny_pyIter_keyiter st.2 h
theorem we {a:Addr}{o:Obj}{xs:List (Key×V)}(I:Inv X pins σ H s)(hq:H a=some (.frz o (.dK xs)))(q:R (ItZ a o xs) H):wpAny (model X.prog X.w) X.A (pyIter (.ref a)) (yM X pins σ tg R) E s:=by
 have ho:s.heap.get? a=some o:=(I.hok a _ hq).1;obtain⟨z,lo,vs,rel,dd⟩:=j7 I.hok (.inr ⟨_,hq⟩);obtain⟨ep,o',es,h1,h2⟩:=dd.dictAt;rw[ho] at h1;cases h1;refine wpAny_pyIter_dict lo ⟨o,es,ho,h2⟩ ?_;refine⟨s.heap.objs.size,[s.heap.objs.size],_,_,H,rfl,I.kept (t':=s.toks) fun b o e=>Heap.get?_push_of_some _ e,rh (vs:=vs) (ep:=ep) (ba (Heap.lt_size ho)) rel (fun h e=>⟨o,es,e,h2⟩),⟨cx _,⟨_,Heap.get?_push_size _ rfl,rfl,rfl⟩⟩,fun b hb=>?_,q⟩;have e:b=s.heap.objs.size:=by simpa using hb
 subst e;exact I.fpOk (aq _) (I.hok.fresh (aq _))
theorem qM {K:Frag}{P:Addr->Prop}{H0:Hp}{p:Addr}{o:Obj}{xs:List (Key×V)}{ks:List (Int×MV)}(h1:H0 p=some (.frz o (.dK xs)))(h2:kE K H0 ks xs):gH K P H0 (ItZ p o xs) (ks.map fun q=>.int q.1) []:=fun H e=>by
 have h1':=e.fz _ _ _ h1;have hl:=h2.len;refine⟨fun i d hd=>?_,⟨h1',by rw[aj];omega⟩⟩;have hi:i<ks.length:=by have:=(List.getElem?_eq_some_iff.mp hd).1;rwa [aj] at this
 refine⟨⟨h1',by omega⟩,fun x H' ⟨e1,kv,e2,e3⟩=>?_⟩;subst e1 e3;refine⟨aG.refl _,[],?_,fun a ha=>nomatch ha⟩;rw[List.getElem?_map] at hd;have key:∀{ks:List (Int×MV)}{xs:List (Key×V)}{i:Nat}{kv:Key×V}{q:Int×MV},kE K H0 ks xs->xs[i]? = some kv->ks[i]? = some q->kv.1 = .inl q.1:=by
  intro ks
  induction ks with
  |nil=>intro xs i kv q _ _ h;cases h
  |cons a r ih =>
   intro xs i kv q h e1 e2;cases xs with
   |nil=>cases e1
   |cons x xs =>
    cases i with
    |zero=>cases e1;cases e2;exact h.1
    |succ i=>exact ih h.2.2 e1 e2
 cases hq:ks[i]? with
 |none=>rw[hq] at hd;cases hd
 |some q =>
  rw[hq] at hd;cases hd;rw[key h2 e2 hq];exact .int q.1
noncomputable def mQ (z:Str):List V:=z.cps.toList.map fun c=>.str ⟨#[c]⟩
theorem zb {z:Str}{t:Tok}(I:Inv X pins σ H s)(q:R (CM (mQ z)) H):wpAny (model X.prog X.w) X.A (pyIter (.str z t)) (yM X pins σ tg R) E s:=by
 have hlen:(mQ z).length=z.cps.size:=by simp[mQ]
 have core:∀(nm:String) (hn:["enumerate","zip","dict_itemiterator","dict_reverseitemiterator","odict_iterator","itertools.zip_longest","itertools.pairwise"].contains nm=false)
   (W:∀ A:Around,A.handled=none->Walks X.prog X.w A s.heap.objs.size [s.heap.objs.size] [s.heap.objs.size] z.cps.size (SignAt z) (fun i h=>h.IsStrIter s.heap.objs.size nm z t i))
   (slf:∀(A:Around) (i:Nat) (s':Shared) (Q E:Value->Shared->Prop),s'.heap.IsStrIter s.heap.objs.size nm z t i->Q (.ref s.heap.objs.size) s'->wpAny (model X.prog X.w) A (pyIter (.ref s.heap.objs.size)) Q E s'),
   yM X pins σ tg R (.ref s.heap.objs.size) { s with heap:=s.heap.push { cls:=.type nm,data:=.fields #[.str z t,.int 0 0] } }:=by
  intro nm hn W slf;refine⟨s.heap.objs.size,[s.heap.objs.size],(fun i h=>i<=z.cps.size/\h.IsStrIter s.heap.objs.size nm z t i),_,H,rfl,I.kept (t':=s.toks) fun b o e=>Heap.get?_push_of_some _ e,
   lu (Pv:=SignAt z) (fun A hA=>?_) (fun i v hv=>?_) (fun i h st=>?_) (fun i h h' st k=>⟨st.1,let ⟨o,ho,r⟩:=st.2;⟨o,k o ho,r⟩⟩) (fun i h st=>by rw[hlen];exact st.1) (fun A i s Q E st h=>slf A i s Q E st.2 h),⟨cx _,⟨_,Heap.get?_push_size _ rfl,rfl,rfl⟩⟩,fun b hb=>?_,q⟩
  ·rw[hlen];have W:=W A hA;exact⟨W.sub,fun i h h' st k=>⟨st.1,W.frame i h h' st.2 k⟩,fun i s Q E hi st hQ=>W.item i s Q E hi st.2 fun v h' tk hv st' kk=>hQ v h' tk hv ⟨hi,st'⟩ kk,fun s Q E st hQ=>W.done s Q E st.2 hQ,fun i s Q E st h=>W.self i s Q E st.2 h⟩
  ·obtain⟨c,u,e,rfl⟩:=hv;exact⟨.str ⟨#[c]⟩,by simp[mQ];exact e,u,rfl⟩
  ·obtain⟨o,ho,hc,hd⟩:=st.2;exact⟨o,nm,_,ho,hc,hd,hn⟩
  ·have e:b=s.heap.objs.size:=by simpa using hb
   subst e;exact I.fpOk (aq _) (I.hok.fresh (aq _))
 cases ha:z.cps.all (· < 128)
 ·exact wpAny_pyIter_wide ha (core "str_iterator" (by decide) (fun A' hA=>Walks.strWide hA _ z t) fun A i s' Q E st h=>wpAny_pyIter_striter_wide st h)
 ·exact wpAny_pyIter_ascii ha (core "str_ascii_iterator" (by decide) (fun A' hA=>Walks.strAscii hA _ z t) fun A i s' Q E st h=>wpAny_pyIter_striter_ascii st h)
theorem kq {K:Frag}{H:Hp}:∀(cs:List Nat),aD K H (cs.map fun c=>D.str ⟨#[c]⟩) (cs.map fun c=>V.str ⟨#[c]⟩) []
 |[]=>.nil
 | c::cs=>by
  show aD K H (_::_) (_::_) ([] ++ []);exact .cons (.str _) (kq cs)
theorem uE {e:Expr}{c:Ex}(h:PE X e (tE X.K T c)):PI X tg e (tI X.K T (.seq c)):=by
 intro pins s σ H R I hq;obtain⟨P,env,F,re,p,hev,k⟩:=hq;unfold dN at hev;obtain⟨q,h1,hev⟩:=Rs.bind_ok hev;obtain⟨l,h2,hev⟩:=Rs.bind_ok hev;have h2:=bS h2;cases hev;refine cN (h pins s σ H (fun v H'=>∃ G,aG H H'/\Rep X.K H' q.1 v G/\bG env F H q.2 H' G) I ⟨P,env,F,re,q,h1,fun v H' G s rp rt=>⟨G,s,rp,rt⟩⟩) fun u s1 ⟨v,H1,I1,r1,G,e,rp,rt⟩=>?_
 have rt':bG env F H (.sh q.2.roots) H1 G:=rt.part (fun _ h=>h) (fun _ h=>h) fun R e=>by cases e
 cases hd:q.1 with
 |lst xs =>
  rw[hd] at rp h2;cases h2;obtain⟨a,vs,g,rfl,rfl,a1,a2⟩:=rp.lst_inv;cases r1;exact wb I1 (.inl a1) (k _ H1 (a::g) e rt' (fun b hb=>rp.nn hb) fun P' hP=>rV a1 a2 hP)
 |tup xs =>
  rw[hd] at rp h2;cases h2;obtain⟨a,vs,rfl,a1,a2⟩:=rp.tup_invT;cases r1;exact tL I1 a1.sq (k _ H1 G e rt' (fun b hb=>rp.nn hb) fun P' hP=>sP a1 a2 hP)
 |str z =>
  rw[hd] at rp h2;simp only[sJ] at h2;by_cases hl:z.length<=lim
  ·rw[if_pos hl] at h2;cases h2;obtain⟨rfl,rfl⟩:=rp.str_inv;obtain⟨t,rfl⟩:=r1;exact zb I1 (k _ H1 [] e bG.nil (fun _ h=>(nomatch h)) fun P' hP=>kX fun H=>kq _)
  ·rw[if_neg hl] at h2;cases h2
 |mpz ks =>
  rw[hd] at rp h2;cases h2;cases rp with
  |@mpz a _ xs o hz kr =>
   cases r1;exact we I1 hz (k _ H1 [] e rt' (fun _ h=>(nomatch h)) fun P' hP=>qM hz kr)
 |_=>rw[hd] at h2;cases h2
theorem jh (a b:Int):(Builtin.Range.rangeSize a b 1).toNat=(b - a).toNat:=by
 rw[rangeSize_one];split<;>omega
theorem AU {es:List Expr}{cs:kz}{it:ou}{p pos:Pos}{e0:Expr}{rest:List Expr}(hes:es=e0::rest)(hg:Gl X "range") (hm:X.mg "range" = none) (ha:PA X es (pF X.K T cs)) (hs:starEach es X.env=(false,eval e0 X.env)::starEach rest X.env) (hpl:(backTo pos (starEach rest X.env)).any (·.1)=false)
  (hit:∀ env p,dN T it env = .ok p->p.2=[]/\∃ l,bK T cs env = .ok l/\((∃ j,l.map (·.1)=[.int j]/\gu j=true/\p.1=bU 0 1 j.toNat)\/(∃ i j,l.map (·.1)=[.int i,.int j]/\gu i=true/\gu j=true/\p.1=bU i 1 (j - i).toNat) \/
   ∃ i j k,l.map (·.1)=[.int i,.int j,.int k]/\gu i=true/\gu j=true/\k≠0/\k.natAbs<1073741824/\p.1=bU i k (Builtin.Range.rangeSize i j k).toNat)) :
  PI X tg (.Call (.Name "range" p) es [] pos) (tI X.K T it):=by
 subst hes;intro pins s σ H R I hq;obtain⟨P,env,F,re,q,hev,k⟩:=hq;obtain⟨hq2,l,hl,hc⟩:=hit env q hev;refine Call_ (i0 I hg hm boot_range (dq (cN (ha pos pins s σ H (fun vs H'=>∃ G,Args X.K env F H H' l vs G) I ⟨P,env,F,re,l,hl,fun vs H' G ar=>⟨G,ar⟩⟩) fun us s1 ⟨vs,H1,I1,r1,G,ar⟩=>?_) hs hpl));have rs:=ar.reps;have fin:∀(a c:Int) (n:Nat),q.1=bU a c n->R (CM (fQ a c n)) H1:=fun a c n e=>by
  refine k _ H1 [] ar.same bG.nil (fun _ h=>(nomatch h)) fun P' _=>?_
  rw[e];exact kX fun H=>j9 c n a
 have one:∀{d:D}{ds:List D}{vs:List V}{us:List Value}{G:List Addr},aD X.K H1 (d::ds) vs G->aK vs us->∀ i,d = .int i->∃ t us' vs' G',us = .int i t::us'/\vs = .int i::vs'/\aD X.K H1 ds vs' G'/\aK vs' us':=by
  intro d ds vs us G r rv i e;subst e;cases r with
  |cons r rr =>
   obtain⟨rfl,rfl⟩:=r.int_inv;cases rv with
   |cons x y =>
    obtain⟨t,rfl⟩:=x;exact⟨t,_,_,_,rfl,rfl,rr,y⟩
 have nil:∀{vs:List V}{us:List Value}{G:List Addr},aD X.K H1 [] vs G->aK vs us->us=[]:=by
  intro vs us G r rv;cases r;cases rv;rfl
 rcases hc with ⟨j,e1,e2,e3⟩ | ⟨i,j,e1,e2,e3,e4⟩ | ⟨i,j,c,e1,e2,e3,e4,e5,e6⟩
 ·rw[e1] at rs;obtain⟨t,us',vs',G',rfl,_,rs,r1⟩:=one rs r1 j rfl;obtain rfl:=nil rs r1;refine call_range_1 (jf (c:=1) I1 (by decide) e2 (by decide) (by decide) ?_);refine fin _ _ _ ?_;rw[e3,jh];simp
 ·rw[e1] at rs;obtain⟨t,us',vs',G',rfl,_,rs,r1⟩:=one rs r1 i rfl;obtain⟨t',us'',vs'',G'',rfl,_,rs,r1⟩:=one rs r1 j rfl;obtain rfl:=nil rs r1;refine call_range_2 (jf (c:=1) I1 e2 e3 (by decide) (by decide) ?_);refine fin _ _ _ ?_;rw[e4,jh]
 ·rw[e1] at rs;obtain⟨t,us',vs',G',rfl,_,rs,r1⟩:=one rs r1 i rfl;obtain⟨t',us'',vs'',G'',rfl,_,rs,r1⟩:=one rs r1 j rfl;obtain⟨t3,us3,vs3,G3,rfl,_,rs,r1⟩:=one rs r1 c rfl;obtain rfl:=nil rs r1;refine call_range_3 e4 (jf (c:=c) I1 e2 e3 e4 e5 ?_) (.inl (PyProof.noPylong_small e5));exact fin _ _ _ e6
end
theorem vB {h:Heap}{o o':Obj}{b:Addr}(e:(h.push o).get? b=some o'):(b=h.objs.size/\o'=o)\/h.get? b=some o':=by
 obtain⟨e1,e2⟩:=Heap.get?_some_iff.mp e;by_cases hb:b=h.objs.size
 ·left;subst hb;refine⟨rfl,?_⟩;have:(h.push o).objs[h.objs.size]? = some o:=by cases h;simp[Heap.push]
  rw[this] at e1;exact (cf e1).symm
 ·right;refine Heap.get?_some_iff.mpr ⟨?_,e2⟩;cases h;simpa[Heap.push,Array.getElem?_push,hb] using e1
theorem dQ {h:Heap}{a b:Addr}{o o':Obj}(e:h.get? a=some o)(e':h.get? b=some o')(n:o.cls≠o'.cls):a≠b:=by
 rintro rfl;rw[e] at e';cases e';exact n rfl
theorem bT (b i j:Nat)(h:i≠j):(b+i:Nat)≠b+j:=by omega
theorem cO (b n i:Nat)(h:b+4<n)(hi:i<=4):b+i<n:=by omega
theorem yW (n b:Nat)(h:b=n+1\/b=n):n<=b:=by omega
theorem qk (n b:Nat)(h:b=n+4\/b=n+2\/b=n+3\/b=n\/b=n+1):n<=b:=by omega
section
variable {X:Cx}{pins:List (Addr×Obj)}{σ:L2.St}{H:Hp}{s:Shared}
theorem fR {h':Heap}{t':Nat}{ch:List Addr}(I:Inv X pins σ H s)(k:∀ b o,b∉ch->s.heap.get? b=some o->h'.get? b=some o)(hf:∀ b∈ch,gJ X pins H b):Inv X pins σ H { s with heap:=h',toks:=t' }:=by
 have nit:∀ b u,H b=some u->b∉ch:=fun b u e z=>by
  have:=(hf b z).1;rw[this] at e;cases e
 refine I.step (g':=s.gens) (d':=s.drawn) (ch:=ch) (fun b hb=>?_) (fun b o _ _ hc e _=>k b o hc e) (fun b o _ _ hc e _=>⟨o.slots,k b o hc e⟩) (fun _ _ _ _ n=>n)
  (fun b o hc e=>⟨o,k b o hc e⟩) (fun _ _ e=>e) (fun _ _ _ e=>e) (fun b ps e=>⟨#[],by rw[e];simp⟩) (fun m hm=>?_) (fun b u e=>?_) I.bare
 ·obtain⟨f0,f1,f2,f3,f4,f5⟩:=hf b hb;exact⟨f3,f1,f4,f5⟩
 ·obtain⟨o,es,ep,ho,r⟩:=hm;exact⟨o,es,ep,k _ o (fun z=>(hf _ z).2.1 rfl) ho,r⟩
 ·refine (I.hok b u e).stay (fun c v hc q=>k c v ?_ q) (fun _ q=>q) fun _ _ q=>q
  rcases hc with z | z
  ·rw[z];exact nit b u e
  ·exact nit c _ z
theorem paired {h':Heap}{t':Nat}{ch:List Addr}{x y:V}{u v:Value}(I:Inv X pins σ H s)(hu:RelV x u)(hv:RelV y v)(hT:h'.get? s.heap.objs.size=some { cls:=.type "tuple",data:=.seq #[u,v] })
  (k:∀ b o,b∉ch->s.heap.get? b=some o->h'.get? b=some o) (hf:∀ b∈ch,gJ X pins H b) (hl:∀ b∈ch,b<s.heap.objs.size):Inv X pins σ (upd H s.heap.objs.size (.tup [x,y])) { s with heap:=h',toks:=t' }:=by
 have I1:Inv X pins σ (upd H s.heap.objs.size (.tup [x,y])) { s with heap:=s.heap.push { cls:=.type "tuple",data:=.seq #[u,v] },toks:=t' } :=
  I.laid (fun _ _ q=>Heap.get?_push_of_some _ q) (aq _) ⟨by show 2<=sizeLine;decide,[u,v],.cons hu (.cons hv .nil),⟨_,Heap.get?_push_size _ rfl,rfl,_,rfl⟩⟩
 refine fR (s:={ s with heap:=s.heap.push { cls:=.type "tuple",data:=.seq #[u,v] },toks:=t' }) (ch:=ch) I1 (fun b o hb q=>?_) fun b hb=>?_
 ·rcases vB q with ⟨rfl,rfl⟩ | q
  ·exact hT
  ·exact k b o hb q
 ·obtain⟨f0,f⟩:=hf b hb;exact⟨by rw[aJ (ba (hl b hb))];exact f0,f⟩
end
noncomputable def Ite (K:Frag)(l:Addr):It:=⟨fun i H=>∃ xs x,ig K H l xs/\xs[i]? = some x,fun i H v H'=>∃ T x,v = .ref T/\H T=none/\(∀ xs,ig K H l xs->xs[i]? = some x)/\H'=upd H T (.tup [.int i,x]),fun i H=>∃ xs,ig K H l xs/\xs.length<=i⟩
theorem rX {P:Program}{w:World}{K:Frag}{elts:List Expr}{x1:Nat}{pos:Pos}(l e it:Addr)(hne:e≠it):Turn P w K (.Tuple elts x1 pos) (Ite K l) [e,it] e (fun i h=>(∃ old,IsEnum h e it (i:Nat) old)/\h.IsListIter it l i) where
 mem:=by simp
 obj:=fun i h st b hb=>by
  obtain⟨⟨old,he⟩,hit⟩:=st;have hb:b=e\/b=it:=by simpa using hb
  rcases hb with rfl | rfl
  ·exact⟨_,he,fun v z=>by cases z⟩
  ·obtain⟨o,e,c,d⟩:=hit;exact⟨o,e,fun v z=>by rw[d] at z;cases z⟩
 keep:=fun i h h' st k=>⟨let ⟨old,he⟩:=st.1;⟨old,k e (by simp) _ he⟩,st.2.at fun o z=>k it (by simp) o z⟩
 item:=by
  intro X hP hw hK hc i pins s σ H E I hf st hg;subst hP hw hK;obtain⟨xs,x,hq,hx⟩:=hg;obtain⟨its,rv,p,hz⟩:=I.list hq;obtain⟨u,hu,ru⟩:=rv.get hx;obtain⟨⟨old,he⟩,hit⟩:=st;have lts:∀ b∈[e,it],b<s.heap.objs.size:=fun b hb=>by
   have hb:b=e\/b=it:=by simpa using hb
   rcases hb with rfl | rfl
   ·exact Heap.lt_size he
   ·obtain⟨o,e,_⟩:=hit;exact Heap.lt_size e
  refine wpAny_pyNext_enum_item he hit p.isList (x:=u) (by simpa using hu) hne fun h' ho hit' hT hsz hk=>?_
  have I2:Inv X pins σ (upd H s.heap.objs.size (.tup [.int i,x])) { s with heap:=h',toks:=s.toks+1 } :=
   paired (ch:=[e,it]) I ⟨s.toks,rfl⟩ ru hT (fun b o hb q=>hk b o (fun z=>hb (by simp[z])) (fun z=>hb (by simp[z])) q) hf lts
  have f2:∀ b∈[e,it],gJ X pins (upd H s.heap.objs.size (.tup [.int i,x])) b:=fun b hb=>by
   obtain⟨f0,f⟩:=hf b hb;exact⟨by rw[aJ (ba (lts b hb))];exact f0,f⟩
  refine⟨_,rfl,wpAny_letOwnedTupleGo_enum (s:={ s with heap:=h',toks:=s.toks+1 }) ho fun h2 he2 hs2=>?_⟩;refine⟨.ref s.heap.objs.size,_,fR (ch:=[e]) I2 (fun b o hb q=>hs2.extBut b o (fun z=>hb (by simp[z])) q) (fun b hb=>f2 b (by simp at hb;simp[hb])),rfl,⟨_,x,rfl,I.fresh,fun ys hy=>by rw[I.list_inj hy hq];exact hx,rfl⟩,⟨⟨_,by simpa using he2⟩,hit'.at fun o z=>hs2.extBut it o (Ne.symm hne) z⟩,fun b hb=>(f2 b hb).1⟩
 done:=by
  intro X hP hw hK hc i pins s σ H E I hf st hg;subst hP hw hK;obtain⟨xs,hq,hx⟩:=hg;obtain⟨its,rv,p,hz⟩:=I.list hq;obtain⟨⟨old,he⟩,hit⟩:=st;have hl:=rv.length;exact wpAny_pyNext_enum_end (I.ok.hd hc) he hit p.isList (by simp;omega) fun h' eb=>⟨rfl,fR (t':=s.toks) (ch:=[it]) I (fun b o hb q=>eb b o (fun z=>hb (by simp[z])) q) fun b hb=>hf b (by simp at hb;simp[hb])⟩
 self:=fun A i s Q E st h=>by
  obtain⟨⟨old,he⟩,_⟩:=st;exact wpAny_pyIter_enum he h
theorem rT {K:Frag}{P:Addr->Prop}{H0:Hp}{p:Addr}{vs:List V}{ds:List D}{G:List Addr}(h1:Rd H0 p (.lst vs))(h2:aD K H0 ds vs G)(hp:∀ a∈p::G,P a):gH K P H0 (Ite K p) (ds.zipIdx.map fun q=>.tup [.int q.2,q.1]) (p::G):=fun H e=>by
 have ep:=e.keep p (hp p ai);have h1':Rd H p (.lst vs):=by
  rcases h1 with q | ⟨o,q⟩
  ·exact .inl (ep.trans q)
  ·exact .inr ⟨o,ep.trans q⟩
 have h2':=e.reps h2 fun a ha=>hp a (ae _ ha)
 refine⟨fun i d hd=>?_,⟨vs,.inl h1',by rw[aj,List.length_zipIdx,h2.len];exact aq _⟩⟩;have hd:∃ d',ds[i]? = some d'/\d = .tup [.int i,d']:=by
  rw[List.getElem?_map,List.getElem?_zipIdx] at hd;cases q:ds[i]? with
  |none=>rw[q] at hd;cases hd
  |some d'=>rw[q] at hd;simp at hd;exact⟨d',rfl,hd.symm⟩
 obtain⟨d',hd',rfl⟩:=hd;obtain⟨v,G',a,b,c⟩:=h2'.get hd';refine⟨⟨vs,v,.inl h1',a⟩,fun x H' ⟨T,x',e1,e2,e3,e4⟩=>?_⟩;subst e1 e4;have:=e3 vs (.inl h1');rw[a] at this;cases this;have sm:aG H (upd H T (.tup [.int i,v])):=aG.new e2;refine⟨sm,G',.tup (.inl aS) ?_,fun z hz=>ae _ (c.subset hz)⟩;have r:=aD.cons (Rep.int (K:=K) (H:=upd H T (.tup [.int i,v])) (i:Int)) (aD.cons (b.same sm) .nil);rw[az,gq] at r;exact r
noncomputable def Itz (K:Frag)(l m:Addr):It:=⟨fun i H=>∃ xs ys x y,ig K H l xs/\ig K H m ys/\xs[i]? = some x/\ys[i]? = some y,
 fun i H v H'=>∃ T x y,v = .ref T/\H T=none/\(∀ xs,ig K H l xs->xs[i]? = some x)/\(∀ ys,ig K H m ys->ys[i]? = some y)/\H'=upd H T (.tup [x,y]),fun i H=>∃ xs ys,ig K H l xs/\ig K H m ys/\(xs.length<=i\/ys.length<=i)⟩
theorem lD {h:Heap}{b l m:Addr}{i j:Nat}{xs ys:Array Value}{u v:Value}(hz:IsZip h (b+4) (b+2) (b+3) .none)(hTO:IsPair h (b+3) u v)(h1:h.IsListIter b l i)(h2:h.IsListIter (b+1) m j)
  (p:h.IsList l xs) (q:h.IsList m ys):ZipApart (b+4) (b+2) (b+3) b (b+1) l m:=by
 obtain⟨o1,e1,c1,_⟩:=h1;obtain⟨o2,e2,c2,_⟩:=h2;obtain⟨o3,e3,c3,_⟩:=p;obtain⟨o4,e4,c4,_⟩:=q;refine⟨bT b 2 4 (by decide),bT b 3 4 (by decide),bT b 0 4 (by decide),bT b 1 4 (by decide),bT b 2 3 (by decide),bT b 2 0 (by decide),bT b 2 1 (by decide),bT b 3 0 (by decide),bT b 3 1 (by decide),bT b 0 1 (by decide),?_,?_,?_,?_,?_,?_,?_,?_⟩
 ·exact dQ e3 hz (by rw[c3];simp)
 ·exact dQ e3 hTO (by rw[c3];simp)
 ·exact dQ e3 e1 (by rw[c3,c1];simp)
 ·exact dQ e3 e2 (by rw[c3,c2];simp)
 ·exact dQ e4 hz (by rw[c4];simp)
 ·exact dQ e4 hTO (by rw[c4];simp)
 ·exact dQ e4 e1 (by rw[c4,c1];simp)
 ·exact dQ e4 e2 (by rw[c4,c2];simp)
theorem vt {P:Program}{w:World}{K:Frag}{elts:List Expr}{x1:Nat}{pos:Pos}(l m b:Addr):Turn P w K (.Tuple elts x1 pos) (Itz K l m) [b+4,b+2,b+3,b,b+1] (b+4)
  (fun i h=>IsZip h (b+4) (b+2) (b+3) .none/\IsPair h (b+2) (.ref b) (.ref (b+1))/\(∃ u v,IsPair h (b+3) u v)/\h.IsListIter b l i/\h.IsListIter (b+1) m i) where
 mem:=by simp
 obj:=fun i h st c hc=>by
  obtain⟨hz,hTI,⟨u,v,hTO⟩,h1,h2⟩:=st;simp only[List.mem_cons,List.not_mem_nil,or_false] at hc;rcases hc with rfl | rfl | rfl | rfl | rfl
  ·exact⟨_,hz,fun v z=>by cases z⟩
  ·exact⟨_,hTI,fun v z=>by cases z⟩
  ·exact⟨_,hTO,fun v z=>by cases z⟩
  ·obtain⟨o,e,c,d⟩:=h1;exact⟨o,e,fun v z=>by rw[d] at z;cases z⟩
  ·obtain⟨o,e,c,d⟩:=h2;exact⟨o,e,fun v z=>by rw[d] at z;cases z⟩
 keep:=fun i h h' st k=>by
  obtain⟨hz,hTI,⟨u,v,hTO⟩,h1,h2⟩:=st;exact⟨k _ (by simp) _ hz,k _ (by simp) _ hTI,⟨u,v,k _ (by simp) _ hTO⟩,h1.at fun o z=>k _ (by simp) o z,h2.at fun o z=>k _ (by simp) o z⟩
 item:=by
  intro X hP hw hK hc i pins s σ H E I hf st hg;subst hP hw hK;obtain⟨xs,ys,x,y,hq,hq',hx,hy⟩:=hg;obtain⟨its,rv,p,_⟩:=I.list hq;obtain⟨its',rv',p',_⟩:=I.list hq';obtain⟨u,hu,ru⟩:=rv.get hx;obtain⟨v,hv,rv2⟩:=rv'.get hy;obtain⟨hz,hTI,⟨u0,v0,hTO⟩,h1,h2⟩:=st;have A:=lD hz hTO h1 h2 p.isList p'.isList;have lts:∀ c∈[b+4,b+3,b,b+1],c<s.heap.objs.size:=fun c hc=>by
   have:=Heap.lt_size hz;simp only[List.mem_cons,List.not_mem_nil,or_false] at hc;rcases hc with rfl | rfl | rfl | rfl
   ·exact cO _ _ 4 this (by decide)
   ·exact cO _ _ 3 this (by decide)
   ·exact cO _ _ 0 this (by decide)
   ·exact cO _ _ 1 this (by decide)
  have hf':∀ c∈[b+4,b+3,b,b+1],gJ X pins H c:=fun c hc=>hf c (by
   simp only[List.mem_cons,List.not_mem_nil,or_false] at hc ⊢;rcases hc with rfl | rfl | rfl | rfl<;>simp)
  refine wpAny_pyNext_zip_item A hz hTI hTO h1 h2 p.isList p'.isList (x:=u) (y:=v) (by simpa using hu) (by simpa using hv) fun h' a1 a2 a3 a4 a5 a6 hk=>?_
  have I2:Inv X pins σ (upd H s.heap.objs.size (.tup [x,y])) { s with heap:=h' } :=
   paired (t':=s.toks) (ch:=[b+4,b+3,b,b+1]) I ru rv2 a5 (fun c o hc q=>hk c o (fun z=>hc (by simp[z])) (fun z=>hc (by simp[z])) (fun z=>hc (by simp[z])) (fun z=>hc (by simp[z])) q) hf' lts
  have f2:∀ c∈[b+4,b+2,b+3,b,b+1],gJ X pins (upd H s.heap.objs.size (.tup [x,y])) c:=fun c hc=>by
   obtain⟨f0,f⟩:=hf c hc;have:=Heap.lt_size hz;have hlt:c<s.heap.objs.size:=by
    simp only[List.mem_cons,List.not_mem_nil,or_false] at hc;rcases hc with rfl | rfl | rfl | rfl | rfl
    ·exact cO _ _ 4 this (by decide)
    ·exact cO _ _ 2 this (by decide)
    ·exact cO _ _ 3 this (by decide)
    ·exact cO _ _ 0 this (by decide)
    ·exact cO _ _ 1 this (by decide)
   exact⟨by rw[aJ (ba hlt)];exact f0,f⟩
  refine⟨_,rfl,wpAny_letOwnedTupleGo_zip (s:={ s with heap:=h' }) a1 fun h3 hz3 hs3=>?_⟩;refine⟨.ref s.heap.objs.size,_,fR (t':=s.toks) (ch:=[b+4]) I2 (fun c o hc q=>hs3.extBut c o (fun z=>hc (by simp[z])) q) (fun c hc=>f2 c (by simp at hc;simp[hc])),rfl,
   ⟨_,x,y,rfl,I.fresh,fun zs hz=>by rw[I.list_inj hz hq];exact hx,fun zs hz=>by rw[I.list_inj hz hq'];exact hy,rfl⟩,
   ⟨hz3,hs3.extBut _ _ A.TIz (hk _ _ A.TIz A.TITO A.TIi1 A.TIi2 hTI),⟨_,_,hs3.extBut _ _ A.TOz a2⟩,a3.at fun o z=>hs3.extBut _ o A.i1z z,a4.at fun o z=>hs3.extBut _ o A.i2z z⟩,fun c hc=>(f2 c hc).1⟩
 done:=by
  intro X hP hw hK hc i pins s σ H E I hf st hg;subst hP hw hK;obtain⟨xs,ys,hq,hq',hx⟩:=hg;obtain⟨its,rv,p,_⟩:=I.list hq;obtain⟨its',rv',p',_⟩:=I.list hq';have hl:=rv.length;have hl':=rv'.length;obtain⟨hz,hTI,⟨u0,v0,hTO⟩,h1,h2⟩:=st;have A:=lD hz hTO h1 h2 p.isList p'.isList;refine wpAny_pyNext_zip_end (I.ok.hd hc) A hz hTI hTO h1 h2 p.isList p'.isList ?_ fun h' hk=>⟨rfl,fR (t':=s.toks) (ch:=[b+4,b+3,b,b+1]) I (fun c o hc q=>hk c o (fun z=>hc (by simp[z])) (fun z=>hc (by simp[z])) (fun z=>hc (by simp[z])) (fun z=>hc (by simp[z])) q) fun c hc=>hf c ?_⟩
  ·rcases hx with hx | hx
   ·left;simp;omega
   ·right;simp;omega
  ·simp only[List.mem_cons,List.not_mem_nil,or_false] at hc ⊢;rcases hc with rfl | rfl | rfl | rfl<;>simp
 self:=fun A i s Q E st h=>wpAny_pyIter_zip st.1 h
theorem uL {K:Frag}{P:Addr->Prop}{H0:Hp}{p q:Addr}{vs us:List V}{ds es:List D}{G G':List Addr}(h1:Rd H0 p (.lst vs))(h2:aD K H0 ds vs G)(h3:Rd H0 q (.lst us))(h4:aD K H0 es us G')(hp:∀ a∈(p::G)++(q::G'),P a) :
  gH K P H0 (Itz K p q) ((ds.zip es).map fun z=>.tup [z.1,z.2]) ((p::G)++(q::G')):=fun H e=>by
 have ep:=e.keep p (hp p (by simp));have eq:=e.keep q (hp q (by simp));have h1':Rd H p (.lst vs):=by
  rcases h1 with q | ⟨o,q⟩
  ·exact .inl (ep.trans q)
  ·exact .inr ⟨o,ep.trans q⟩
 have h3':Rd H q (.lst us):=by
  rcases h3 with q | ⟨o,q⟩
  ·exact .inl (eq.trans q)
  ·exact .inr ⟨o,eq.trans q⟩
 have h2':=e.reps h2 fun a ha=>hp a (by simp[ha])
 have h4':=e.reps h4 fun a ha=>hp a (by simp[ha])
 refine⟨fun i d hd=>?_,⟨vs,us,.inl h1',.inl h3',?_⟩⟩
 ·have hd:∃ d1 d2,ds[i]? = some d1/\es[i]? = some d2/\d = .tup [d1,d2]:=by
   rw[List.getElem?_map] at hd;rw[aa] at hd;obtain⟨⟨d1,d2⟩,hd,rfl⟩:=hd;rw[List.getElem?_zip_eq_some] at hd;exact⟨d1,d2,hd.1,hd.2,rfl⟩
  obtain⟨d1,d2,hd1,hd2,rfl⟩:=hd;obtain⟨v1,g1,a1,b1,c1⟩:=h2'.get hd1;obtain⟨v2,g2,a2,b2,c2⟩:=h4'.get hd2;refine⟨⟨vs,us,v1,v2,.inl h1',.inl h3',a1,a2⟩,fun x H' ⟨T,x',y',e1,e2,e3,e4,e5⟩=>?_⟩;subst e1 e5;have t1:=e3 vs (.inl h1');rw[a1] at t1;cases t1;have t2:=e4 us (.inl h3');rw[a2] at t2;cases t2;have sm:aG H (upd H T (.tup [v1,v2])):=aG.new e2;refine⟨sm,g1++(g2 ++ []),.tup (.inl aS) (.cons (b1.same sm) (.cons (b2.same sm) .nil)),fun z hz=>?_⟩;simp only[List.append_nil,List.mem_append] at hz;rcases hz with hz | hz
  ·exact ay _ (ae _ (c1.subset hz))
  ·exact ak _ (ae _ (c2.subset hz))
 ·rw[aj,List.length_zip,h2.len,h4.len];omega
section
variable {X:Cx}{T:Tb}
theorem jg {env:En}{F:Nat->List Addr}{H H':Hp}{l:List (D×Rt)}{vs:List V}{G:List Addr}{R:List Nat}(ar:Args X.K env F H H' l vs G)(h:∀ q,q∈aT (l.map (·.2))->q∈R):bG env F H (.sh R) H' G where
 cont:=fun a ha=>(ar.cont a ha).imp id fun ⟨i,d,t,x,y,z⟩=>⟨i,d,t,x,y,fun q hq=>h q (z q hq)⟩
 mv:=fun R e=>by cases e
theorem kL {d:D}{l:List D}(h:nj d=some l):d = .lst l:=by
 cases d<;>simp[nj] at h
 rw[h]
theorem xF {e:Expr}{c:Ex}{elts:List Expr}{x1:Nat}{p tp pos:Pos}(hg:Gl X "enumerate") (hm:X.mg "enumerate" = none) (ha:PA X [e] (pF X.K T (.cons c .nil))) (hs:starEach [e] X.env=(false,eval e X.env)::starEach [] X.env):PI X (.Tuple elts x1 tp) (.Call (.Name "enumerate" p) [e] [] pos) (tI X.K T (.enum c)):=by
 intro pins s σ H R I hq;obtain⟨P,env,F,re,q,hev,k⟩:=hq;unfold dN at hev;obtain⟨r,h1,hev⟩:=Rs.bind_ok hev;obtain⟨l,h2,hev⟩:=Rs.bind_ok hev;have h2:=kL (bS h2);cases hev;have hl:bK T (.cons c .nil) env = .ok [r]:=by unfold bK;rw[h1];unfold bK;rfl
 refine Call_ (i0 I hg hm boot_enumerate (dq (cN (ha pos pins s σ H (fun vs H'=>∃ G,Args X.K env F H H' [r] vs G) I ⟨P,env,F,re,[r],hl,fun vs H' G ar=>⟨G,ar⟩⟩) fun us s1 ⟨vs,H1,I1,r1,G,ar⟩=>?_) hs rfl));have rs:aD X.K H1 [r.1] vs G:=ar.reps;obtain⟨x,rfl,rp⟩:=rs.of1;rw[h2] at rp;obtain⟨a,vs,g,rfl,rfl,a1,a2⟩:=rp.lst_inv;obtain⟨u,rfl,ru⟩:=r1.one;cases ru;obtain⟨its,rv,pl,hz⟩:=I1.list (.inl a1);refine call_enumerate_list pl.isList fun h' he hit hsz hk=>wpAny_pyIter_enum he ⟨_,[s1.heap.objs.size+1,s1.heap.objs.size],_,_,H1,rfl,I1.kept (t':=s1.toks) hk,rX a _ _ (Nat.succ_ne_self _),⟨⟨_,he⟩,hit⟩,fun b hb=>?_,k _ H1 (a::g) ar.same (jg ar fun q hq=>by simpa[aT] using hq) (fun b hb=>rp.nn hb) fun P' hP=>rT a1 a2 hP⟩
 simp only[List.mem_cons,List.not_mem_nil,or_false] at hb;have hb:s1.heap.objs.size<=b:=yW _ _ hb;exact I1.fpOk hb (I1.hok.fresh hb)
end
def tS (K:Frag)(T:Tb)(c:St):TS:=fun D σ H=>∃ P Z env F,RE K P env σ H F/\(∀ i,∀ a∈F i,Z a)/\(∀ a,¬ P a->Z a)/\post K P Z env F H D (aN T c env)
def AQ (K:Frag)(T:Tb)(c:bP):TS:=fun D σ H=>∃ P Z env F,RE K P env σ H F/\(∀ i,∀ a∈F i,Z a)/\(∀ a,¬ P a->Z a)/\post K P Z env F H D (aC T c env)
section
variable {K:Frag}{P Z:Addr->Prop}{env:En}{σ:L2.St}{H:Hp}{F:Nat->List Addr}{D:Ends}
theorem dY {α:Type}{x:Rs α}{k:α->Fl}(h:post K P Z env F H D (bH env x k)):∃ a,x = .ok a/\post K P Z env F H D (k a):=by
 cases x with
 |ok a=>exact⟨a,rfl,h⟩
 |exc e=>exact h.elim
 |bad=>exact h.elim
theorem After.same {H':Hp}(re:RE K P env σ H F)(hz:∀ i,∀ a∈F i,Z a)(e:aG H H'):After K P Z env F H env σ H' F:=⟨re.same e,hz,iE.of_same re.pl e,pd.refl _ _⟩
theorem xt {H':Hp}{r:Rt}{G:List Addr}(re:RE K P env σ H F)(hz:∀ i,∀ a∈F i,Z a)(zp:∀ a,¬ P a->Z a)(rt:bG env F H r H' G):∀ a∈G,Z a:=fun a ha=>by
 rcases rt.cont a ha with q | ⟨j,_,_,f,_⟩
 ·exact zp a fun z=>re.pl a z q
 ·exact hz j a f
end
section
variable {X:Cx}{T:Tb}{pos:Pos}{e:Expr}{c:Ex}
theorem vS:ip X [] (AQ X.K T .nil):=by
 refine gW mn fun D σ H ⟨P,Z,env,F,re,hz,zp,h⟩=>?_
 unfold aC at h;exact h σ H F (After.same re hz (aG.refl _))
theorem sj {st:Stmt}{rest:List Stmt}{cs:St}{cr:bP}(h1:PS X st (tS X.K T cs))(h2:ip X rest (AQ X.K T cr)):ip X (st::rest) (AQ X.K T (.cons cs cr)):=by
 refine gW (eM h1 h2) fun D σ H ⟨P,Z,env,F,re,hz,zp,h⟩=>⟨P,Z,env,F,re,hz,zp,?_⟩
 unfold aC at h;cases hs:aN T cs env with
 |nx env' =>
  rw[hs] at h;exact fun σ' H' F' af=>⟨P,Z,env',F',af.re,af.z,zp,post.trans af h⟩
 |bk env'=>rw[hs] at h;exact h
 |ct env'=>rw[hs] at h;exact h
 |rt d fr=>rw[hs] at h;exact h
 |xc e env'=>rw[hs] at h;exact h
 |bad=>rw[hs] at h;exact h
theorem xC:PS X (.Pass pos) (tS X.K T .pass):=by
 refine cR wy fun D σ H ⟨P,Z,env,F,re,hz,zp,h⟩=>?_
 unfold aN at h;exact h σ H F (After.same re hz (aG.refl _))
theorem zi {x:Str}{j:Nat}{pos':Pos}:PS X (.Expr (.Constant (.str x) j pos) pos') (tS X.K T .pass):=by
 refine cR Aa fun D σ H ⟨P,Z,env,F,re,hz,zp,h⟩=>?_
 unfold aN at h;exact h σ H F (After.same re hz (aG.refl _))
theorem xq:PS X (.Return none pos) (tS X.K T .retN):=by
 refine cR xf fun D σ H ⟨P,Z,env,F,re,hz,zp,h⟩=>?_
 unfold aN at h;exact h .non H [] .non (iE.refl _) (fun _ h=>(nomatch h)) fun _=>⟨bo,fun _ h=>(nomatch h)⟩
theorem An (he:PE X e (tE X.K T c)):PS X (.Return (some e) pos) (tS X.K T (.ret c)):=by
 refine cR (oU he) fun D σ H ⟨P,Z,env,F,re,hz,zp,h⟩=>?_
 unfold aN at h;obtain⟨p,hp,h⟩:=dY h;refine⟨P,env,F,re,p,hp,fun v H' G s rp rt=>h v H' G rp (iE.of_same re.pl s) (xt re hz zp rt) fun fr=>?_⟩;cases hr:p.2 with
 |sh R=>rw[hr] at fr;cases fr
 |mv R =>
  rw[hr] at fr;obtain⟨a,b,d⟩:=rt.mv R hr;refine⟨a,fun x hx=>⟨fun z=>?_,b x hx⟩⟩;rcases d x hx with q | ⟨i,d2,t2,hi,f,e2,o2⟩
  ·exact re.pl x z q
  ·have:=bt.mp fr i hi;split at this
   ·rename_i d' q;exact re.wr i d' q x f z
   ·cases this
theorem wx (he:PE X e (tE X.K T c))(hs:swapsWith e none pos.line X.env=pure false):PS X (.Expr e pos) (tS X.K T (.expr c)):=by
 refine cR (jC he hs) fun D σ H ⟨P,Z,env,F,re,hz,zp,h⟩=>?_
 unfold aN at h;obtain⟨p,hp,h⟩:=dY h;exact⟨P,env,F,re,p,hp,fun v H' G s rp rt=>h σ H' F (After.same re hz s)⟩
theorem Ac {a b:List Stmt}{ca cb:bP}(hc:PT X e (mR X.K T c))(ha:ip X a (AQ X.K T ca))(hb:ip X b (AQ X.K T cb)):PS X (.If e a b pos) (tS X.K T (.ite c ca cb)):=by
 refine cR (yL hc ha hb) fun D σ H ⟨P,Z,env,F,re,hz,zp,h⟩=>?_
 unfold aN at h;obtain⟨p,hp,h⟩:=dY h;cases ht:truth p.1 with
 |none=>rw[ht] at h;exact h.elim
 |some k =>
  rw[ht] at h;refine⟨P,env,F,re,p,k,hp,ht,fun H' s=>?_⟩;have af:=After.same (Z:=Z) re hz s;cases k with
  |true=>show if true=true then _ else _;rw[if_pos rfl];exact⟨P,Z,env,F,af.re,hz,zp,post.trans af h⟩
  |false=>show if false=true then _ else _;rw[if_neg av];exact⟨P,Z,env,F,af.re,hz,zp,post.trans af h⟩
theorem sQ {i:Nat}{x:Str}{pos':Pos}{mv:Bool}(hN:X.N.Nodup)(hi:X.N[i]? = some x)(hx:Loc X.env.scope x)(he:PE X e (tE X.K T c))(hs:swapsWith e (some (.Name x pos')) pos.line X.env=pure false)(hf:X.fn x=true\/X.env.scope.names.lookup x=some .local) :
  PS X (.Assign [.Name x pos'] e pos) (tS X.K T (.asg (.nm i) c mv)):=by
 refine cR (jb hN hi hx he hs hf) fun D σ H ⟨P,Z,env,F,re,hz,zp,h⟩=>?_
 unfold aN at h;obtain⟨p,hp,h⟩:=dY h;exact⟨P,env,F,re,p,hp,fun v H' G s rp rt=>vH re hz zp s rp rt h⟩
noncomputable def fX:List Nat->yk
 |[]=>Dd
 |i::is=>yo (iB i) (fX is)
theorem hZ:∀{is:List Nat}{vs:List V}{σ:L2.St}{H:Hp}{Q:L2.St->Hp->Prop},is.length=vs.length->Q (setM is vs σ) H->fX is vs σ H Q
 |[],[],_,_,_,_,q=>⟨rfl,q⟩
 |i::is,v::vs,σ,H,Q,hl,q=>⟨v,vs,rfl,hZ (is:=is) (vs:=vs) (by simpa using hl) q⟩
 |[],_::_,_,_,_,hl,_=>by simp at hl
 |_::_,[],_,_,_,hl,_=>by simp at hl
theorem vR {tg:Expr}{is:List Nat}{mv:Bool}(hg:PG X tg (tN X.K is.length (fX is)))(he:PE X e (tE X.K T c))(hs:swapsWithSole [tg] e pos.line X.env=pure false)(hw:swappedStores [tg] e X.env=pure none)(h1:(assignEach [tg] X.env).map (·.2)=[assign tg X.env]) :
  PS X (.Assign [tg] e pos) (tS X.K T (.asg (.tp is) c mv)):=by
 refine cR (zC he hg hs hw h1) fun D σ H ⟨P,Z,env,F,re,hz,zp,h⟩=>?_
 unfold aN at h;obtain⟨p,hp,h⟩:=dY h;refine⟨P,env,F,re,p,hp,fun v H' G s rp rt=>?_⟩;have re':=re.same s;have ez:=xt re hz zp rt;have jc:=iE.of_same (P:=P) re.pl s;unfold qQ at h;cases hd:p.1 with
 |tup ds =>
  rw[hd] at h rp;obtain⟨a,vs,rfl,a1,a2⟩:=rp.tup_inv;have fin:∀{o:Option En},post X.K P Z env F H D (xg o)->(∀ env',o=some env'->∃ F',RE X.K P env' (setM is vs σ) H' F'/\(∀ i,∀ a∈F' i,Z a)/\pd env F env' F'/\is.length=vs.length)->tN X.K is.length (fX is) (.ref a) σ H' D.nx:=fun {o} h q=>by
   cases o with
   |none=>exact h.elim
   |some env' =>
    obtain⟨F',b1,b2,b3,b4⟩:=q env' rfl;exact⟨a,vs,rfl,a1,b4.symm,hZ b4 (h _ H' F' ⟨b1,b2,jc,b3⟩)⟩
  have shared:post X.K P Z env F H D (if is.all (fun i=>!p.2.roots.contains i) then xg (bindM (fun d=>cF d p.2.roots) is ds env) else .bad)->tN X.K is.length (fX is) (.ref a) σ H' D.nx:=fun h=>by
   by_cases hc:is.all (fun i=>!p.2.roots.contains i)=true
   ·rw[if_pos hc] at h;refine fin h fun env' he'=>jW re' hz a2 ez (fun x hx j d' t' ej o m=>?_) he'
    rcases rt.cont x hx with q | ⟨k,d2,t2,f,e2,sr⟩
    ·exact absurd q (re.nn ej m)
    ·exact sr j ((re.one j d' t' ej o).2.2 x m k d2 t2 e2 f)
   ·rw[if_neg hc] at h;exact h.elim
  cases hr:p.2 with
  |sh R=>rw[hr] at h shared;exact shared h
  |mv R =>
   cases R with
   |cons r0 R0=>rw[hr] at h shared;exact shared h
   |nil =>
    rw[hr] at h;obtain⟨m1,m2,m3⟩:=rt.mv [] hr;have fresh:∀ a∈G,H a=none:=fun a ha=>by
     rcases m3 a ha with q | ⟨_,_,_,q,_⟩
     ·exact q
     ·cases q
    exact fin h fun env' he'=>kS re' hz a2 m1 m2 (fun x hx z=>re.pl x z (fresh x hx)) ez (fun x hx j m=>by
     obtain⟨d2,t2,e2⟩:=re.at' m;exact re.nn e2 m (fresh x hx)) he'
 |_=>rw[hd] at h;exact h.elim
noncomputable def nY (K:Frag):iT->TG
 |.nm i=>iB i
 |.tp is=>tN K is.length (fX is)
theorem ko {K:Frag}{P Z:Addr->Prop}{env env':En}{σ:L2.St}{H:Hp}{F:Nat->List Addr}{t:iT}{d:Pc.D}{v:V}{G:List Addr}{R:List Nat}{Q:L2.St->Hp->Prop}(re:RE K P env σ H F)(hz:∀ i,∀ a∈F i,Z a)(rp:Rep K H d v G)(gz:∀ a∈G,Z a)
  (hs:∀ a∈G,∀(j:Nat) (d':Pc.D) (t':Tg),env[j]? = some (some (d',t'))->aX t'=true->a∈F j->j∈R) (hb:bN R t d env=some env') (hQ:∀ σ' F',RE K P env' σ' H F'->(∀ i,∀ a∈F' i,Z a)->pd env F env' F'->Q σ' H):nY K t v σ H Q:=by
 cases t with
 |nm i =>
  simp only[bN] at hb;by_cases hi:i<env.length
  ·rw[if_pos hi] at hb;cases hb;exact hQ _ _ (qx re hi rp hs) (kJ hz gz) (jG hi nV)
  ·rw[if_neg hi] at hb;cases hb
 |tp is =>
  cases d with
  |tup ds =>
   simp only[bN] at hb;obtain⟨a,vs,rfl,a1,a2⟩:=rp.tup_inv;obtain⟨F',b1,b2,b3,b4⟩:=jW re hz a2 gz hs hb;exact⟨a,vs,rfl,a1,b4.symm,hZ b4 (hQ _ F' b1 b2 b3)⟩
  |_=>cases hb
theorem iw {t:iT}{R:List Nat}{b:En->Fl}:∀(ds:List Pc.D) (env:En),(∀ e,aU t R b ds env≠.bk e)/\∀ e,aU t R b ds env≠.ct e
 |[],env=>⟨fun e z=>(by cases z),fun e z=>(by cases z)⟩
 | d::ds,env=>by
  unfold aU;cases bN R t d env with
  |none=>exact⟨fun e z=>(by cases z),fun e z=>(by cases z)⟩
  |some env' =>
   simp only;cases b env' with
   |nx e'=>exact iw ds e'
   |ct e'=>exact iw ds e'
   |bk e'=>exact⟨fun e z=>(by cases z),fun e z=>(by cases z)⟩
   |rt d fr=>exact⟨fun e z=>(by cases z),fun e z=>(by cases z)⟩
   |xc x e'=>exact⟨fun e z=>(by cases z),fun e z=>(by cases z)⟩
   |bad=>exact⟨fun e z=>(by cases z),fun e z=>(by cases z)⟩
theorem Aj {tg iter:Expr}{t:iT}{it:ou}{b:List Stmt}{cb:bP}(hp:PassesOwn (model X.prog X.w) X.A X.env X.xe)(hc:X.calm=true)(hi:PI X tg iter (tI X.K T it))(hg:PG X tg (nY X.K t))(hb:ip X b (AQ X.K T cb))(hs:∀ x,foldedSetIterable iter X.env x=pure x) :
  PS X (.For tg iter b [] pos) (tS X.K T (.forr t it cb)):=by
 refine cR (tX hp hc hi hg hb hs) fun D σ H ⟨P,Z,env,F,re,hz,zp,h⟩=>?_
 unfold aN at h;obtain⟨p,hp,h⟩:=dY h;refine⟨P,env,F,re,p,hp,fun J H1 G s1 rt nn wk=>?_⟩;have af1:=After.same (Z:=Z) re hz s1;have h:=post.trans af1 h;let P':Addr->Prop:=fun a=>P a\/a∈G
 have wk:=wk P' fun a ha=>.inr ha
 have seen:∀ a∈G,∀(i:Nat) (d:Pc.D) (t:Tg),env[i]? = some (some (d,t))->aX t=true->a∈F i->i∈p.2:=fun a ha i d t e o m=>by
  rcases rt.cont a ha with q | ⟨k,d2,t2,f,e2,sr⟩
  ·exact absurd q (re.nn e m)
  ·exact sr i ((re.one i d t e o).2.2 a m k d2 t2 e2 f)
 have reL:RE X.K P' (lock p.2 env) σ H1 F:=af1.re.locked nn seen;have gz:∀ a∈G,Z a:=xt re hz zp rt;let E':Ends:={ D with nx:=fun σ' H'=>∀ env' F',After X.K P' Z (lock p.2 env) F H1 env' σ' H' F'->D.nx σ' H' };have stepP:∀{f:Fl},(∀ e,f≠.bk e)->(∀ e,f≠.ct e)->post X.K P Z env F H1 D (match f with | .nx e=>.nx (unlock p.2 env e) | x=>x)->post X.K P' Z (lock p.2 env) F H1 D f:=fun {f} nb nc h=>by
  cases f with
  |nx e=>exact fun σ' H' F' af=>h σ' H' F' (af.unlocked af1.re)
  |bk e=>exact absurd rfl (nb e)
  |ct e=>exact absurd rfl (nc e)
  |rt d fr=>exact fun v H' G' rp ev z f=>h v H' G' rp (ev.weak fun _ q=>.inl q) z fun w=>⟨(f w).1,fun a ha=>⟨fun q=>((f w).2 a ha).1 (.inl q),((f w).2 a ha).2⟩⟩
  |xc x e=>exact h
  |bad=>exact h
 have h:=stepP (iw _ _).1 (iw _ _).2 h;have zpL:∀ a,¬ P' a->Z a:=fun a ha=>zp a fun q=>ha (.inl q)
 refine⟨fun i m σ' H'=>m=p.1.length - i/\i<=p.1.length/\∃ env' F',After X.K P' Z (lock p.2 env) F H1 env' σ' H' F'/\post X.K P' Z env' F' H' D (aU t p.2 (aC T cb) (p.1.drop i) env'),⟨p.1.length,by simp,Nat.zero_le _,lock p.2 env,F,After.same reL hz (aG.refl _),by simpa using h⟩,?_⟩;rintro i m σ2 H2 ⟨rfl,hi,env2,F2,af2,h2⟩;obtain⟨w1,w2⟩:=wk H2 af2.ev;by_cases hlt:i<p.1.length
 ·right;have hd:p.1[i]? = some p.1[i]:=by simp[hlt]
  obtain⟨g1,g2⟩:=w1 i _ hd;refine⟨g1,fun σ' H'=>∃ env' F',After X.K P' Z (lock p.2 env) F H1 env' σ' H' F'/\post X.K P' Z env' F' H' D (aU t p.2 (aC T cb) (p.1.drop (i+1)) env'),fun σ' H' q=>⟨p.1.length - (i+1),by omega,rfl,hlt,q⟩,fun x H3 y=>?_⟩;obtain⟨s3,G3,rp3,sub3⟩:=g2 x H3 y;have af3:=After.same (Z:=Z) af2.re af2.z s3;have h2:=post.trans af3 h2;rw[fm hlt] at h2;unfold aU at h2;cases hb:bN p.2 t p.1[i] env2 with
  |none=>rw[hb] at h2;exact h2.elim
  |some env4 =>
   rw[hb] at h2;refine ko af3.re af2.z rp3 (fun a ha=>gz a (sub3 a ha)) (fun a ha j d' t' ej o m=>?_) hb fun σ4 F4 re4 z4 lk4=>?_
   ·cases t' with
    |own=>exact absurd (.inr (sub3 a ha)) (af2.re.wr j d' ej a m)
    |lk =>
     obtain⟨e5,e6⟩:=af2.lk j d' ej;rw[e6] at m;obtain⟨t0,e0,o0,_⟩:=dM e5;exact seen a (sub3 a ha) j d' t0 e0 (o0.trans o) m
    |sh Q=>cases o
   ·have af4:After X.K P' Z env2 F2 H3 env4 σ4 H3 F4:=⟨re4,z4,iE.refl _,lk4⟩;refine⟨P',Z,env4,F4,re4,z4,zpL,?_⟩;have h2:=post.trans af4 h2;have all:=(af2.trans af3).trans af4;cases hs:aC T cb env4 with
    |nx e'=>simp only[hs] at h2;exact fun σ' H' F' af5=>⟨e',F',all.trans af5,post.trans af5 h2⟩
    |ct e'=>simp only[hs] at h2;exact fun σ' H' F' af5=>⟨e',F',all.trans af5,post.trans af5 h2⟩
    |bk e'=>simp only[hs] at h2;exact h2
    |rt d fr=>simp only[hs] at h2;exact h2
    |xc x e'=>simp only[hs] at h2;exact h2
    |bad=>simp only[hs] at h2;exact h2
 ·left;have e:i=p.1.length:=by omega
  subst e;rw[List.drop_length] at h2;exact⟨w2,h2 σ2 H2 F2 (After.same af2.re af2.z (aG.refl _))⟩
end
noncomputable def fF (cells:List (Str×Addr)):List (Str×NameKind)->List (Str×Addr)->List (Str×Addr)
 |[],acc=>acc
 | (n,k)::r,acc=>fF cells r (if k == .free then (match cells.lookup n with | some c=>(n,c)::acc | none=>acc) else acc)
theorem o7 {scope:Scope}{env:Env}(h:∀ x,(x,NameKind.free)∈scope.names->∃ c,env.cells.lookup x=some c):closureFor scope env=pure (fF env.cells scope.names []):=by
 unfold closureFor;have gen:∀(names:List (Str×NameKind)) (acc:List (Str×Addr)),(∀ x,(x,NameKind.free)∈names->∃ c,env.cells.lookup x=some c) ->
   (forIn names acc fun (p:Str×NameKind) (cs:List (Str×Addr))=>(match p with
    | (name,kind)=>if (kind == .free)=true then (do let c <- cellOf env name;pure (ForInStep.yield ((name,c)::cs))) else pure (ForInStep.yield cs):Sem (ForInStep (List (Str×Addr)))))=(pure (fF env.cells names acc):Sem (List (Str×Addr))):=by
  intro names
  induction names with
  |nil=>intro acc _;rfl
  |cons x r ih =>
   intro acc hx;obtain⟨n,k⟩:=x;rw[List.forIn_cons];simp only[fF];have hr:∀ x,(x,NameKind.free)∈r->∃ c,env.cells.lookup x=some c:=fun x hm=>hx x (ae _ hm)
   by_cases hk:(k==NameKind.free)=true
   ·have e:k = .free:=by simpa using hk
    subst e;obtain⟨c,hc⟩:=hx n ai;simp only[hk,if_true,cellOf,hc];exact ih ((n,c)::acc) hr
   ·simp only[hk,if_false];exact ih acc hr
 have:=gen scope.names [] h;simpa using this
theorem k9 {cells:List (Str×Addr)}{x:Str}{c:Addr}:∀{names:List (Str×NameKind)}{acc:List (Str×Addr)},(∀ y d,acc.lookup y=some d->cells.lookup y=some d)->(fF cells names acc).lookup x=some c->cells.lookup x=some c
 |[],acc,ha,h=>ha x c h
 | (n,k)::r,acc,ha,h=>by
  simp only[fF] at h;refine k9 (names:=r) (fun y d q=>?_) h;by_cases hk:(k==NameKind.free)=true
  ·rw[if_pos hk] at q;cases hc:cells.lookup n with
   |none=>rw[hc] at q;exact ha y d q
   |some e =>
    rw[hc] at q;simp only[List.lookup_cons] at q;cases hy:y==n with
    |true =>
     rw[hy] at q;have:=eq_of_beq hy;subst this;rw[hc];exact q
    |false=>rw[hy] at q;exact ha y d q
  ·rw[if_neg hk] at q;exact ha y d q
theorem kW {cells:List (Str×Addr)}{x:Str}:∀{names:List (Str×NameKind)}{acc:List (Str×Addr)},(∃ c,acc.lookup x=some c)->∃ c,(fF cells names acc).lookup x=some c
 |[],acc,h=>h
 | (n,k)::r,acc,h=>by
  simp only[fF];refine kW (names:=r) ?_;by_cases hk:(k==NameKind.free)=true
  ·rw[if_pos hk];cases hc:cells.lookup n with
   |none=>exact h
   |some e =>
    simp only[List.lookup_cons];cases hy:x==n with
    |true=>exact⟨e,rfl⟩
    |false=>exact h
  ·rw[if_neg hk];exact h
theorem jE {cells:List (Str×Addr)}{x:Str}{c:Addr}(hc:cells.lookup x=some c):∀{names:List (Str×NameKind)}{acc:List (Str×Addr)},(x,NameKind.free)∈names->∃ c,(fF cells names acc).lookup x=some c
 |[],acc,h=>by cases h
 | (n,k)::r,acc,h=>by
  simp only[fF];rcases bw.mp h with e | h
  ·cases e;refine kW (names:=r) ?_;simp only[beq_self_eq_true,if_true,hc,List.lookup_cons];exact⟨c,rfl⟩
  ·exact jE hc (names:=r) h
noncomputable def inner (X:Cx)(scope:Scope)(N':List Str)(C:Addr)(s0:Shared)(H0:Hp)(ex:List Addr):Cx :=
 { X with N:=N',s₀:=s0,H₀:=H0,env:=compEnvC scope (cellsFrom (C+1) scope.names (fF X.env.cells scope.names [])) C X.env,outer:=X.stack,stack:=X.stack,ex:=ex,fn:=fun x=>scope.names.lookup x==some .cell,pn:=[],xe:=fun _ _=>False }
structure dA (X:Cx)(scope:Scope)(N':List Str)(pick:List (Option Nat)):Prop where
 kind:scope.kind = .function
 cells:∀ y∈scope.names,y.2 = .cell->scope.names.lookup y.1=some .cell
 names:∀ y∈scope.names,y.2 = .local->scope.names.lookup y.1=some .local
 len:pick.length=N'.length
 outer:∀ x,scope.names.lookup x=some .free->(X.env.kindOf x=some .cell\/X.env.kindOf x=some .free)
 free:∀ x,(x,NameKind.free)∈scope.names->scope.names.lookup x=some .free
 pick:∀(i j:Nat) (x:Str),pick[i]? = some (some j)->N'[i]? = some x->scope.names.lookup x=some .free/\X.N[j]? = some x
noncomputable def eV (σ:L2.St)(pick:List (Option Nat)):L2.St:=pick.map fun o=>o.bind fun j=>(σ[j]?).join
theorem dX {env:Env}:∀{names:List (Str×NameKind)}{x:Str}{k:NameKind},(names.map fun (n,k)=>if (k==NameKind.free&&env.scope.kind == .function&&env.kindOf n==some .cell) then (n,NameKind.cell) else (n,k)).lookup x=some k ->
  ∃ k0,names.lookup x=some k0/\(k=k0\/(k0 = .free/\k = .cell))
 |[],_,_,h=>by simp at h
 | (n,k0)::r,x,k,h=>by
  rw[ax] at h;by_cases hc:(k0==NameKind.free&&env.scope.kind == .function&&env.kindOf n==some .cell)=true
  ·simp only[hc,if_true,List.lookup_cons] at h;simp only[List.lookup_cons];cases hx:x==n with
   |true =>
    rw[hx] at h;cases h;rw[ah,ah] at hc;exact⟨k0,rfl,.inr ⟨by simpa using hc.1.1,rfl⟩⟩
   |false=>rw[hx] at h;exact dX h
  ·have hc:(k0==NameKind.free&&env.scope.kind == .function&&env.kindOf n==some .cell)=false:=by simpa using hc
   simp only[hc,Bool.false_eq_true,if_false,List.lookup_cons] at h;simp only[List.lookup_cons];cases hx:x==n with
   |true=>rw[hx] at h;cases h;exact⟨k0,rfl,.inl rfl⟩
   |false=>rw[hx] at h;exact dX h
theorem eK {env:Env}:∀{names:List (Str×NameKind)}{x:Str},names.lookup x=some .free ->
  (names.map fun (n,k)=>if (k==NameKind.free&&env.scope.kind == .function&&env.kindOf n==some .cell) then (n,NameKind.cell) else (n,k)).lookup x=some .cell \/
  (names.map fun (n,k)=>if (k==NameKind.free&&env.scope.kind == .function&&env.kindOf n==some .cell) then (n,NameKind.cell) else (n,k)).lookup x=some .free
 |[],_,h=>by simp at h
 | (n,k0)::r,x,h=>by
  rw[ax];by_cases hc:(k0==NameKind.free&&env.scope.kind == .function&&env.kindOf n==some .cell)=true
  ·simp only[hc,if_true,List.lookup_cons] at h ⊢;cases hx:x==n with
   |true=>left;rfl
   |false=>rw[hx] at h;exact eK h
  ·have hc:(k0==NameKind.free&&env.scope.kind == .function&&env.kindOf n==some .cell)=false:=by simpa using hc
   simp only[hc,Bool.false_eq_true,if_false,List.lookup_cons] at h ⊢;cases hx:x==n with
   |true=>rw[hx] at h;cases h;right;rfl
   |false=>rw[hx] at h;exact eK h
theorem fW:∀(names:List (Str×NameKind)) (n:Nat) (acc:List (Str×Addr)),cellsFrom n names acc=cellsFrom n names []++acc
 |[],_,_=>rfl
 | (nm,k)::r,n,acc=>by
  unfold cellsFrom;split
  ·rw[fW r (n+1) ((nm,n)::acc),fW r (n+1) [(nm,n)],dg];rfl
  ·exact fW r n acc
theorem pz:∀(names:List (Str×NameKind)) (n:Nat) {x:Str}{c:Addr},(x,c)∈cellsFrom n names []->(x,NameKind.cell)∈names
 |[],_,_,_,h=>by cases h
 | (nm,k)::r,n,x,c,h=>by
  unfold cellsFrom at h;split at h
  ·rename_i hk;rw[fW] at h;rcases List.mem_append.mp h with h | h
   ·exact ae _ (pz r _ h)
   ·have e:(x,c)=(nm,n):=by simpa using h
    cases e;rw[show k = .cell by simpa using hk];exact ai
  ·exact ae _ (pz r _ h)
theorem lX:∀(names:List (Str×NameKind)) (n:Nat) {x:Str},(x,NameKind.cell)∈names->∃ c,(cellsFrom n names []).lookup x=some c
 | (nm,k)::r,n,x,h=>by
  unfold cellsFrom;rcases bw.mp h with e | h
  ·cases e;rw[if_pos (by decide),fW,eh];cases (cellsFrom (n+1) r []).lookup nm with
   |some c=>exact⟨c,rfl⟩
   |none=>exact⟨n,by simp⟩
  ·split
   ·obtain⟨c,hc⟩:=lX r (n+1) h;rw[fW,eh,hc];exact⟨c,rfl⟩
   ·exact lX r n h
theorem nfe {M:Model}{A:Around}{E:Value->Shared->Prop}{s:Shared}{scope:Scope}{globals:Addr}{cl:List (Str×Addr)}{qual:Str}{env:Env}{Q:Env->Shared->Prop}
  (h:Q { scope:=scope,locals:=s.heap.objs.size,globals:=globals,cells:=cellsFrom (s.heap.objs.size+1) scope.names cl,qual:=qual,func:=none,code:=env.code,frame:=env.frame,builtins:=env.builtins } { s with heap:=pushCells (s.heap.push { cls:=.type "dict",data:=.dict #[] }) scope.names }) :
  wpAny M A (newFunctionEnv scope globals cl [] qual none .none (some env)) Q E s:=by
 simp only[newFunctionEnv,Option.isSome_some,if_true];refine wpAny_bind (wpAny_alloc (wpAny_bind (wpAny_layCells _ (fun name kind cells=>by cases hkc:kind==NameKind.cell<;>simp[hkc]) _ _ _ _ ?_)));rw[show ({ s with heap:=s.heap.push { cls:=.type "dict",data:=.dict #[] } }:Shared).heap.objs.size=s.heap.objs.size+1 from Heap.size_push ..];exact wpAny_pure h
section
variable {X:Cx}{scope:Scope}{N':List Str}{pick:List (Option Nat)}{pins:List (Addr×Obj)}{σ:L2.St}{H:Hp}{s:Shared}
theorem nE (S:dA X scope N' pick)(I:Inv X pins σ H s){fp:List Addr}(hf:∀ b∈fp,gJ X pins H b)(hl:∀ b∈fp,b<s.heap.objs.size) :
  Inv (inner X scope N' s.heap.objs.size s H fp) [] (eV σ pick) H { s with heap:=pushCells (s.heap.push { cls:=.type "dict",data:=.dict #[] }) scope.names }:=by
 have old:∀ x c,(fF X.env.cells scope.names []).lookup x=some c->X.env.cells.lookup x=some c:=fun x c h=>k9 (acc:=[]) (fun y d q=>by simp at q) h
 have hk:∀ b o,s.heap.get? b=some o->(pushCells (s.heap.push { cls:=.type "dict",data:=.dict #[] }) scope.names).get? b=some o:=fun b o e=>pushCells_keeps _ _ b o (Heap.get?_push_of_some _ e)
 have hn:(pushCells (s.heap.push { cls:=.type "dict",data:=.dict #[] }) scope.names).Ns s.heap.objs.size (fun _=>none):=(Heap.Ns.new s.heap (.type "dict")).keeps (pushCells_keeps _ _);have ok:=cellsFrom_ok scope.names (s.heap.push { cls:=.type "dict",data:=.dict #[] }) (s.heap.objs.size+1) [] ⟨fun _ _ hm=>(nomatch hm),List.Pairwise.nil⟩ (by rw[Heap.size_push];exact aq _);rw[Heap.size_push] at ok;generalize hh:pushCells (s.heap.push { cls:=.type "dict",data:=.dict #[] }) scope.names=h' at *;have oldlt:∀ x c,X.env.cells.lookup x=some c->c<s.heap.objs.size:=fun x c h=>by
  obtain⟨v,hv⟩:=I.cell x c h;exact hv.lt
 have look:∀ x c,(cellsFrom (s.heap.objs.size+1) scope.names (fF X.env.cells scope.names [])).lookup x=some c->((x,c)∈cellsFrom (s.heap.objs.size+1) scope.names []/\s.heap.objs.size+1<=c)\/((x,NameKind.cell)∉scope.names/\X.env.cells.lookup x=some c):=fun x c h=>by
  rw[fW,eh] at h;cases q:(cellsFrom (s.heap.objs.size+1) scope.names []).lookup x with
  |some c' =>
   rw[q] at h;cases h;have hm:=bq q;exact .inl ⟨hm,(ok.empty _ _ hm).2⟩
  |none =>
   rw[q] at h;refine .inr ⟨fun z=>?_,old x c h⟩;obtain⟨c',hc'⟩:=lX scope.names (s.heap.objs.size+1) z;rw[q] at hc';cases hc'
 have sees:∀ x c,scope.names.lookup x=some .free->(fF X.env.cells scope.names []).lookup x=some c->(cellsFrom (s.heap.objs.size+1) scope.names (fF X.env.cells scope.names [])).lookup x=some c:=fun x c hx h=>by
  rw[fW,eh];cases q:(cellsFrom (s.heap.objs.size+1) scope.names []).lookup x with
  |some c' =>
   have:=S.cells _ (pz _ _ (bq q)) rfl;rw[hx] at this;cases this
  |none=>rw[h];rfl
 refine⟨⟨I.ok.mod,S.kind,I.ok.glob,I.ok.blt,aq _,fun x y c h1 h2=>?inj,fun x hx=>?_,fun x c hx h=>?cab,I.ok.hd,I.ok.frames,.inl rfl,fun b hb=>?_,I.bs,bc I.ok.bsz I.sz,fun b o e hb=>?_,fun b hb hb'=>?_,I.stack,I.stkFree⟩,
  rfl,I.bare,Un.kept hk,⟨_,hn,fun i x v h1 h2 h3=>?_⟩,fun x c h=>?_,I.hok.fresh (Nat.le_refl _),fun x c h=>?frc,fun p hp=>absurd (show p∈([]:List (Addr×Obj)) from hp) (by simp),I.hok.kept hk,?_⟩
 case inj =>
  rcases look x c h1 with ⟨m1,l1⟩ | ⟨_,o1⟩<;>rcases look y c h2 with ⟨m2,l2⟩ | ⟨_,o2⟩
  ·exact name_of_addr ok.apart m1 m2
  ·exact absurd (au (oldlt y c o2) (Nat.le_of_succ_le l1)) (dh _)
  ·exact absurd (au (oldlt x c o1) (Nat.le_of_succ_le l2)) (dh _)
  ·exact I.ok.inj x y c o1 o2
 case cab =>
  have hx:scope.names.lookup x=some .cell:=by simpa[inner] using hx
  rcases look x c h with ⟨_,l1⟩ | ⟨n1,_⟩
  ·exact bc (Nat.le_succ _) l1
  ·exact absurd (bq hx) n1
 case frc =>
  rcases look x c h with ⟨_,l1⟩ | ⟨_,o1⟩
  ·exact I.hok.fresh (bc (Nat.le_succ _) l1)
  ·exact I.freeC x c o1
 ·have hx:(relabel scope X.env).names.lookup x=some .cell\/(relabel scope X.env).names.lookup x=some .free:=hx;have hfree:scope.names.lookup x=some .free\/scope.names.lookup x=some .cell:=by
   rcases hx with hx | hx
   ·obtain⟨k0,h1,h2 | ⟨h2,_⟩⟩:=dX hx
    ·subst h2;exact .inr h1
    ·rw[h2] at h1;exact .inl h1
   ·obtain⟨k0,h1,h2 | ⟨h2,h3⟩⟩:=dX hx
    ·subst h2;exact .inl h1
    ·cases h3
  rcases hfree with hfree | hfree
  ·obtain⟨c,hc⟩:=I.ok.has x (S.outer x hfree);obtain⟨c',hc'⟩:=jE (acc:=[]) hc (bq hfree);exact⟨c',sees x c' hfree hc'⟩
  ·obtain⟨c,hc⟩:=lX scope.names (s.heap.objs.size+1) (bq hfree);refine⟨c,?_⟩;show (cellsFrom (s.heap.objs.size+1) scope.names (fF X.env.cells scope.names [])).lookup x=some c;rw[fW,eh,hc];rfl
 ·refine⟨ba (hl b hb),fun x c h=>?_⟩;rcases look x c h with ⟨_,l1⟩ | ⟨_,o1⟩
  ·exact fun e=>dh _ (au (hl b hb) (e ▸ Nat.le_of_succ_le l1))
  ·exact (hf b hb).2.2.2.2.1 x c o1
 ·obtain⟨f0,f1,f2,f3,f4,f5⟩:=hf b hb;rcases f3 with f3 | f3
  ·exact I.ok.noex b o e f3
  ·exact absurd (au (Heap.lt_size e) (bc I.ok.bsz f3)) (dh _)
 ·obtain⟨f0,f1,f2,f3,f4,f5⟩:=hf b hb;exact (bw.mp (I.stkSub b hb')).elim f1 f2
 ·
  have h2':(pick.map fun o=>o.bind fun j=>(σ[j]?).join)[i]? = some (some v):=h2;rw[List.getElem?_map] at h2';cases hp:pick[i]? with
  |none=>rw[hp] at h2';cases h2'
  |some o =>
   rw[hp] at h2';cases o with
   |none=>simp at h2'
   |some j =>
    simp only[Option.map_some,Option.bind_some,Option.some.injEq] at h2';have hj:σ[j]? = some (some v):=by
     cases q:σ[j]? with
     |none=>rw[q] at h2';cases h2'
     |some o=>rw[q] at h2';cases o with
      |none=>cases h2'
      |some w=>simp at h2';rw[h2']
    obtain⟨k1,k2⟩:=S.pick i j x hp h1;obtain⟨m0,hn0,hl0⟩:=I.loc;have vis:xY X.env.scope x:=by
     rcases S.outer x k1 with q | q
     ·exact .inr (.inl q)
     ·exact .inr (.inr q)
    obtain⟨u,r,lk⟩:=hl0 j x v k2 hj vis;refine⟨u,r,?_⟩;rcases lk with ⟨z,_⟩ | ⟨_,c,hc,hcell⟩
    ·rcases S.outer x k1 with q | q<;>· rw[z] at q;cases q
    ·obtain⟨c',hc'⟩:=jE (names:=scope.names) (acc:=[]) hc (bq k1);have:=old x c' hc';rw[hc] at this;cases this;refine .inr ⟨eK k1,c,sees x c k1 hc',?_⟩;obtain⟨o,ho,hd⟩:=hcell;exact⟨o,hk c o ho,hd⟩
 ·rcases look x c h with ⟨m1,_⟩ | ⟨_,o1⟩
  ·exact⟨none,(ok.empty _ _ m1).1⟩
  ·obtain⟨v,o,ho,hd⟩:=I.cell x c o1;exact⟨v,o,hk c o ho,hd⟩
 ·show (pick.map _).length=N'.length;rw[aj,S.len]
end
noncomputable abbrev qj (ifs:List Expr)(env:Env):Sem Bool:=forIn ifs true fun c r=>if r=true then do let ok <- isTrue c env (eval c env);pure (ForInStep.yield ok) else pure (ForInStep.yield r)
noncomputable def Be (X:Cx)(ifs:List Expr)(t:TT):Prop :=
 ∀(pins:List (Addr×Obj)) (s:Shared) (σ:L2.St) (H:Hp) (Q:Bool->Hp->Prop),Inv X pins σ H s->t σ H Q->wpAny (model X.prog X.w) X.A (qj ifs X.env) (TP X pins σ Q) X.xe s
theorem xH {X:Cx}:Be X [] (fun _ H Q=>Q true H):=fun _ _ _ H Q I h=>wpAny_tests_nil ⟨H,I,h⟩
theorem wH {X:Cx}{c:Expr}{t:TT}(h:PT X c t):Be X [c] t:=fun pins s σ H Q I q=>wpAny_tests_one (h pins s σ H Q I q)
section
variable {prog:Program}{w:World}{A:Around}{R:Result->Shared->Prop}{s:Shared}
theorem oj {elt target iter:Expr}{ifs:List Expr}{scope:Scope}{pos:Pos}{it acc:Value}{env:Env}(I:Nat->Shared->Prop)
  (turn:∀ n s,I n s->wpAny (model prog w) A (pyNext it) (fun r s₁=>match r with
   |none=>R (.ok .next) s₁
   |some v=>wpAny (model prog w) A (letOwnedTupleGo target it v) (fun _ s₀=>wpAny (model prog w) A (assign target env v) (fun _ s₂ =>
     wpAny (model prog w) A (qj ifs env) (fun ok s₃ =>
      if ok=true then wpAny (model prog w) A (eval elt env) (fun x s₄ =>
       wpAny (model prog w) A (call (.builtin "list.append") [acc,x]) (fun _ s₅=>∃ m,m<n/\I m s₅) (fun _ _=>False) s₄) (fun _ _=>False) s₃
      else ∃ m,m<n/\I m s₃) (fun _ _=>False) s₂) (fun _ _=>False) s₀) (fun _ _=>False) s₁) (fun _ _=>False) s)
  (n:Nat) (h:I n s):codeAny (model prog w) A (.compLoop (.ListComp elt [⟨target,iter,ifs,0⟩] scope pos) 0 it acc env) R s:=by
 refine codeAny_loop rfl I (fun n s hI=>?_) n h;show wpAny _ A ((compTurn (.ListComp elt [⟨target,iter,ifs,0⟩] scope pos) 0 it acc env).onRaise (fun x=>do noteFrame x env;theTreesLotGoes x)) _ _ s;refine wpAny_noted ?_;rw[compTurn_list];refine wpAny_bind (wpAny_standAt (wpAny_bind (wpAny_mono (turn n s hI) (fun r s₁ h₁=>?_) fun _ _ h'=>h'.elim)));cases r with
 |none=>exact wpAny_pure h₁
 |some v =>
  refine wpAny_bind (wpAny_mono h₁ (fun _ s₀ h₀=>?_) fun _ _ h'=>h'.elim);refine wpAny_bind (wpAny_mono h₀ (fun _ s₂ h₂=>wpAny_bind (wpAny_mono h₂ (fun ok s₃ h₃=>?_) fun _ _ h'=>h'.elim)) fun _ _ h'=>h'.elim);cases ok with
  |false=>exact wpAny_pure ⟨rfl,h₃⟩
  |true =>
   exact wpAny_bind (wpAny_bind (wpAny_mono h₃ (fun x s₄ h₄=>wpAny_bind (wpAny_mono h₄ (fun _ s₅ h₅=>wpAny_pure (wpAny_pure ⟨rfl,h₅⟩)) fun _ _ h'=>h'.elim)) fun _ _ h'=>h'.elim))
end
def tY (pick:List (Option Nat))(wi:TI)(g:TG)(tt:TT)(te:TE):TE:=fun σ H Q=>wi σ H fun J H1=>∀ l,H1 l=none->∃ W:Nat->Nat->Hp->Prop,(∃ m,W 0 m (upd H1 l (.lst [])))/\∀ i m H,W i m H ->
 (J.stop i H/\Q (.ref l) H)\/(J.go i H/\∃ N:Hp->Prop,(∀ H',N H'->∃ m',m'<m/\W (i+1) m' H')/\∀ x H',J.yld i H x H'->g x (eV σ pick) H' fun σ2 H2 =>
  tt σ2 H2 fun b H3=>if b=true then te σ2 H3 fun y H4=>∃ xs,H4 l=some (.lst xs)/\xs.length<sizeLine/\N (upd H4 l (.lst (xs ++ [y]))) else N H3)
section
variable {X:Cx}{scope:Scope}{N':List Str}{pick:List (Option Nat)}{tg iter elt:Expr}{ifs:List Expr}{pos:Pos}{wi:TI}{g:TG}{tt:TT}{te:TE}
theorem kj (S:dA X scope N' pick)(hc:X.calm=true)(hin:∀ C s0 H0 ex,PG (inner X scope N' C s0 H0 ex) tg g/\Be (inner X scope N' C s0 H0 ex) ifs tt/\PE (inner X scope N' C s0 H0 ex) elt te)
  (gk:∀(v:V) (σ:L2.St) (H:Hp) (Q:L2.St->Hp->Prop),g v σ H Q->g v σ H fun σ' H'=>Q σ' H'/\σ'.length=σ.length/\∀(i:Nat) u,pick[i]?≠some none->σ[i]? = some u->σ'[i]? = some u)
  {pins:List (Addr×Obj)}{σ:L2.St}{H:Hp}{s:Shared}{it:Addr}{fp:List Addr}{tn:Nat->Heap->Prop}{J:It}{E:Value->Shared->Prop}{RR:Value->Addr->Result->Shared->Prop}(I:Inv X pins σ H s) (T:Turn X.prog X.w X.K tg J fp it tn) (st:tn 0 s.heap) (hf:∀ b∈fp,gJ X pins H b)
  (Q:VK) (h:∀ l,H l=none->∃ W:Nat->Nat->Hp->Prop,(∃ m,W 0 m (upd H l (.lst [])))/\∀ i m H,W i m H ->
   (J.stop i H/\Q (.ref l) H)\/(J.go i H/\∃ N:Hp->Prop,(∀ H',N H'->∃ m',m'<m/\W (i+1) m' H')/\∀ x H',J.yld i H x H'->g x (eV σ pick) H' fun σ2 H2 =>
    tt σ2 H2 fun b H3=>if b=true then te σ2 H3 fun y H4=>∃ xs,H4 l=some (.lst xs)/\xs.length<sizeLine/\N (upd H4 l (.lst (xs ++ [y]))) else N H3))
  (hR:∀(l C:Addr) (s':Shared) (H':Hp) (m:Str->Option Value),s'.heap.Ns C m->gJ X pins H' C->Q (.ref l) H'->Inv X pins σ H' s'->RR (.ref l) C (.ok .next) s') :
  wpAny (model X.prog X.w) X.A (newList []) (fun acc s₃=>wpAny (model X.prog X.w) X.A (newFunctionEnv scope X.env.globals (fF X.env.cells scope.names []) [] X.env.qual none .none (some X.env)) (fun cenv s₄ =>
   codeAny (model X.prog X.w) X.A (.compStart (.ListComp elt [⟨tg,iter,ifs,0⟩] scope pos) 0 (.ref it) acc { cenv with scope:=relabel scope X.env }) (RR acc cenv.locals) s₄) E s₃) E s:=by
 have hltI:∀ b∈fp,b<s.heap.objs.size:=fun b hb=>let ⟨o,e,_⟩:=T.obj 0 _ st b hb;Heap.lt_size e
 refine wpAny_newObj_type (nfe ?_);dsimp only;have I3:Inv X pins σ (upd H s.heap.objs.size (.lst [])) { s with heap:=s.heap.push { cls:=.type "list",data:=.seq ([]:List Value).toArray } }:=I.lnew (ys:=[]) (its:=[]) (t':=s.toks) .nil (cx _);obtain⟨W,⟨m0,w0⟩,turn⟩:=h s.heap.objs.size I.fresh;have hC:(s.heap.push { cls:=.type "list",dict:=none,data:=.seq ([]:List Value).toArray }).objs.size=s.heap.objs.size+1:=Heap.size_push ..;have hf3:∀ b∈fp,gJ X pins (upd H s.heap.objs.size (.lst [])) b:=fun b hb=>⟨by rw[aJ (ba (hltI b hb))];exact (hf b hb).1,(hf b hb).2⟩
 have keep3:∀ b o,(s.heap.push { cls:=.type "list",dict:=none,data:=.seq ([]:List Value).toArray }).get? b=some o->(pushCells ((s.heap.push { cls:=.type "list",dict:=none,data:=.seq ([]:List Value).toArray }).push { cls:=.type "dict",data:=.dict #[] }) scope.names).get? b=some o:=fun b o e=>pushCells_keeps _ _ b o (Heap.get?_push_of_some _ e)
 have I4:=nE (s:={ s with heap:=s.heap.push { cls:=.type "list",dict:=none,data:=.seq ([]:List Value).toArray } }) S I3 hf3 (fun b hb=>by show b<(s.heap.push _).objs.size;rw[hC];exact Nat.lt_succ_of_lt (hltI b hb));dsimp only at I4;generalize hh₁:pushCells ((s.heap.push { cls:=.type "list",dict:=none,data:=.seq ([]:List Value).toArray }).push { cls:=.type "dict",data:=.dict #[] }) scope.names=h₁ at *;have st4:tn 0 h₁:=T.keep 0 _ _ st fun b hb o e=>keep3 b o (Heap.get?_push_of_some _ e)
 generalize hY:inner X scope N' (s.heap.push { cls:=.type "list",dict:=none,data:=.seq ([]:List Value).toArray }).objs.size { s with heap:=s.heap.push { cls:=.type "list",dict:=none,data:=.seq ([]:List Value).toArray } } (upd H s.heap.objs.size (.lst [])) fp=Y at I4;have hYin:=hin (s.heap.push { cls:=.type "list",dict:=none,data:=.seq ([]:List Value).toArray }).objs.size { s with heap:=s.heap.push { cls:=.type "list",dict:=none,data:=.seq ([]:List Value).toArray } } (upd H s.heap.objs.size (.lst [])) fp;rw[hY] at hYin;obtain⟨yg,yt,ye⟩:=hYin;have yE:Y.env=compEnvC scope (cellsFrom ((s.heap.push { cls:=.type "list",dict:=none,data:=.seq ([]:List Value).toArray }).objs.size+1) scope.names (fF X.env.cells scope.names [])) (s.heap.push { cls:=.type "list",dict:=none,data:=.seq ([]:List Value).toArray }).objs.size X.env:=by rw[<-hY];rfl
 have hCL:(s.heap.push { cls:=.type "list",dict:=none,data:=.seq ([]:List Value).toArray }).objs.size≠X.env.locals:=by
  rw[hC];exact gm (Nat.lt_succ_of_lt I.lt)
 have back:∀{H5:Hp}{s5:Shared},Inv Y [] (eV σ pick) H5 s5->Q (.ref s.heap.objs.size) H5->RR (.ref s.heap.objs.size) (s.heap.push { cls:=.type "list",dict:=none,data:=.seq ([]:List Value).toArray }).objs.size (.ok .next) s5:=fun {H5 s5} I5 q=>by
  subst hY;obtain⟨m,hn,_⟩:=I5.loc;have J5:Inv X pins σ H5 s5:=Inv.call' I3 I5.os I5.base I5.hok I5.bare fun b hb=>by
   obtain⟨f0,f1,f2,f3,f4,f5⟩:=hf b hb;exact⟨f3,f1,f4,f5⟩
  have lt3:∀{b:Addr}{o:Obj},s.heap.get? b=some o->b≠(s.heap.push { cls:=.type "list",dict:=none,data:=.seq ([]:List Value).toArray }).objs.size:=fun e=>by rw[hC];exact ba (Nat.lt_succ_of_lt (Heap.lt_size e))
  refine hR _ _ s5 H5 m hn ⟨I5.free,hCL,I.nofs (by rw[hC];exact Nat.le_succ _),.inr (by rw[hC];exact dr I.sz),fun x c e z=>?_,fun p hp z=>?_⟩ q J5
  ·obtain⟨v,o,ho,_⟩:=I.cell x c e;exact lt3 ho z
  ·exact lt3 (I.pin p hp).1 z
 have yP:Y.prog=X.prog:=by rw[<-hY];rfl
 have yw:Y.w=X.w:=by rw[<-hY];rfl
 have yK:Y.K=X.K:=by rw[<-hY];rfl
 have yA:Y.A=X.A:=by rw[<-hY];rfl
 have yc:Y.calm=true:=by rw[<-hY];exact hc
 have yx:Y.xe=fun _ _=>False:=by rw[<-hY];rfl
 have yp:Y.pn=[]:=by rw[<-hY];rfl
 have yex:Y.ex=fp:=by rw[<-hY];rfl
 have stat:∀{H':Hp},(∀ b∈fp,H' b=none)->∀ b∈fp,gJ Y [] H' b:=fun {H'} hn b hb=>by
  have hb':b∈Y.ex:=by rw[yex];exact hb
  obtain⟨x1,x2⟩:=I4.ok.exf b hb';exact⟨hn b hb,x1,I4.ok.exfs b hb',.inl hb',x2,fun p hp=>by rw[yp] at hp;cases hp⟩
 rw[<-yP,<-yw,<-yA];have loop:codeAny (model Y.prog Y.w) Y.A (.compLoop (.ListComp elt [⟨tg,iter,ifs,0⟩] scope pos) 0 (.ref it) (.ref s.heap.objs.size) Y.env) (RR (.ref s.heap.objs.size) (s.heap.push { cls:=.type "list",dict:=none,data:=.seq ([]:List Value).toArray }).objs.size) { s with heap:=h₁ }:=by
  refine oj (fun n s5=>∃ i H5,Inv Y [] (eV σ pick) H5 s5/\tn i s5.heap/\(∀ b∈fp,H5 b=none)/\W i n H5) ?_ m0 ⟨0,_,I4,st4,fun b hb=>(hf3 b hb).1,w0⟩;rintro n s5 ⟨i,H5,I5,st5,fr5,w5⟩;rcases turn i n H5 w5 with ⟨stop,qn⟩ | ⟨go,N,hN,step⟩
  ·have d:=T.done Y yP yw yK yc i [] s5 (eV σ pick) H5 (fun _ _=>False) I5 (stat fr5) st5 stop;rw[<-yP,<-yw] at d;refine cN d fun r s6 ⟨hr,I6⟩=>?_
   subst hr;exact back I6 qn
  ·have d:=T.item Y yP yw yK yc i [] s5 (eV σ pick) H5 (fun _ _=>False) I5 (stat fr5) st5 go;rw[<-yP,<-yw] at d;refine cN d fun r s6 ⟨u,hr,h6⟩=>?_
   subst hr;refine cN h6 fun _ s7 ⟨x,H7,I7,r7,y7,st7,fr7⟩=>?_
   have I7':=I7.pinned (stat fr7) (T.obj _ _ st7);have yg':=yg _ s7 (eV σ pick) H7 x u _ I7' r7 (gk _ _ _ _ (step x H7 y7));rw[yx] at yg';refine cN yg' fun _ s8 ⟨σ8,H8,I8,q8,l8,k8⟩=>?_
   have yt':=yt _ s8 σ8 H8 _ I8 q8;rw[yx] at yt';refine cN yt' fun b s9 ⟨H9,I9,q9⟩=>?_
   have again:∀{σ':L2.St}{H':Hp}{s':Shared},Inv Y ([]++jV fp s7.heap) σ' H' s'->σ'=σ8->N H'->∃ m,m<n/\∃ i H5,Inv Y [] (eV σ pick) H5 s'/\tn i s'.heap/\(∀ b∈fp,H5 b=none)/\W i m H5:=fun {σ' H' s'} J e nn=>by
    subst e;obtain⟨m',hm,w'⟩:=hN H' nn;refine⟨m',hm,i+1,H',(J.unpinned).weak (l8.symm) (fun j v e=>?_),T.keep _ _ _ st7 fun b hb o e=>(J.pin (b,o) (ak _ (ak _ (eJ hb e)))).1,fun b hb=>?_,w'⟩
    ·refine k8 j _ (fun z=>?_) e;unfold eV at e;rw[List.getElem?_map,z] at e;simp at e
    ·obtain⟨o,e,_⟩:=T.obj _ _ st7 b hb;exact (J.pin (b,o) (ak _ (ak _ (eJ hb e)))).2.1
   cases b with
   |false =>
    rw[if_neg av];exact again I9 rfl q9
   |true =>
    rw[if_pos rfl];have q9:te σ8 H9 fun y H4=>∃ xs,H4 s.heap.objs.size=some (.lst xs)/\xs.length<sizeLine/\N (upd H4 s.heap.objs.size (.lst (xs ++ [y]))):=q9
    have ye':=ye _ s9 σ8 H9 _ I9 q9;rw[yx] at ye';refine cN ye' fun v s10 ⟨y,H10,I10,r10,xs,e10,z10,n10⟩=>?_
    have ap:=kQ _ s10 σ8 H10 (.ref s.heap.objs.size) [y] (.ref s.heap.objs.size) [v] (fun _ H'=>N H') I10 rfl (.cons r10 .nil) ⟨s.heap.objs.size,xs,y,rfl,rfl,e10,z10,n10⟩;rw[yx] at ap;exact cN ap fun _ s11 ⟨_,H11,I11,_,n11⟩=>again I11 rfl n11
 show codeAny (model Y.prog Y.w) Y.A (.compStart (.ListComp elt [⟨tg,iter,ifs,0⟩] scope pos) 0 (.ref it) (.ref s.heap.objs.size) (compEnvC scope (cellsFrom ((s.heap.push { cls:=.type "list",dict:=none,data:=.seq ([]:List Value).toArray }).objs.size+1) scope.names (fF X.env.cells scope.names [])) (s.heap.push { cls:=.type "list",dict:=none,data:=.seq ([]:List Value).toArray }).objs.size X.env))
  (RR (.ref s.heap.objs.size) (s.heap.push { cls:=.type "list",dict:=none,data:=.seq ([]:List Value).toArray }).objs.size) { s with heap:=h₁ }
 rw[<-yE];refine codeAny_compStart_list loop ?_;have l2:=loop;rw[yP,yw] at l2 ⊢;exact T.self Y.A 0 _ _ _ st4 l2
theorem eQ (S:dA X scope N' pick)(hh:∀ x,(X.env.kindOf x=some .cell\/X.env.kindOf x=some .free)->∃ c,X.env.cells.lookup x=some c):closureFor scope X.env=pure (fF X.env.cells scope.names []) :=
 o7 fun x hx=>hh x (S.outer x (S.free x hx))
theorem vY (S:dA X scope N' pick)(hc:X.calm=true)(hi:PI X tg iter wi)(hin:∀ C s0 H0 ex,PG (inner X scope N' C s0 H0 ex) tg g/\Be (inner X scope N' C s0 H0 ex) ifs tt/\PE (inner X scope N' C s0 H0 ex) elt te)
  (gk:∀(v:V) (σ:L2.St) (H:Hp) (Q:L2.St->Hp->Prop),g v σ H Q->g v σ H fun σ' H'=>Q σ' H'/\σ'.length=σ.length/\∀(i:Nat) u,pick[i]?≠some none->σ[i]? = some u->σ'[i]? = some u) (hs:∀ x,foldedSetIterable iter X.env x=pure x) :
  PE X (.ListComp elt [⟨tg,iter,ifs,0⟩] scope pos) (tY pick wi g tt te):=by
 intro pins s σ H Q I h;rw[eval_ListComp];refine wpAny_comprehension_free (use:=none) rfl hs (eQ S I.ok.has) S.kind S.names (cN (hi pins s σ H _ I h) fun v s1 h1=>cN h1 fun itv s2 h2=>?_);obtain⟨it,fp,tn,J,H2,e,I2,T,st2,f2,q⟩:=h2;subst e;refine kj (RR:=fun acc C=>compPost (model X.prog X.w) X.A X.xe none (EP X pins σ Q) acc C) S hc hin gk I2 T st2 f2 Q q fun l C s' H' m hn fc hq J0=>?_
 obtain⟨f0,f1,f2,f3,f4,f5⟩:=fc;exact⟨m,hn,fun h' sb=>⟨.ref l,H',J0.turned (t':=s'.toks) (fun b o hb e=>sb.extBut b o hb e) f0 f1 f3 f4 f5,rfl,hq⟩⟩
theorem pM {i:Nat}{x:Str}{pos' spos:Pos}(S:dA X scope N' pick)(hc:X.calm=true)(hi:PI X tg iter wi)(hin:∀ C s0 H0 ex,PG (inner X scope N' C s0 H0 ex) tg g/\Be (inner X scope N' C s0 H0 ex) ifs tt/\PE (inner X scope N' C s0 H0 ex) elt te)
  (gk:∀(v:V) (σ:L2.St) (H:Hp) (Q:L2.St->Hp->Prop),g v σ H Q->g v σ H fun σ' H'=>Q σ' H'/\σ'.length=σ.length/\∀(i:Nat) u,pick[i]?≠some none->σ[i]? = some u->σ'[i]? = some u) (hs:∀ x,foldedSetIterable iter X.env x=pure x)
  (hN:X.N.Nodup) (hx:X.N[i]? = some x) (hl:Loc X.env.scope x) (hf:X.fn x=true\/X.env.scope.names.lookup x=some .local) (hsw:swapsWith (.ListComp elt [⟨tg,iter,ifs,0⟩] scope pos) (some (.Name x pos')) spos.line X.env=pure true) :
  PS X (.Assign [.Name x pos'] (.ListComp elt [⟨tg,iter,ifs,0⟩] scope pos) spos) (rH (tY pick wi g tt te) (iB i)):=by
 intro pins s σ H D I h;rw[exec_Assign_Name_used _ _ _ _ hsw];refine wpAny_bind (wpAny_standAt (wpAny_bind ?_));show wpAny _ X.A (do let _ <- comprehension (.ListComp elt [⟨tg,iter,ifs,0⟩] scope pos) scope X.env _ (newList []) false (eval iter X.env) (some (assign (.Name x pos') X.env))) _ _ s;refine wpAny_bind (wpAny_mono (wpAny_comprehension_free (use:=some (assign (.Name x pos') X.env)) (Q:=fun _ s'=>SP X pins D .next s') rfl hs (eQ S I.ok.has) S.kind S.names
  (cN (hi pins s σ H _ I h) fun v s1 h1=>cN h1 fun itv s2 h2=>?_)) (fun _ s' hq=>wpAny_pure (wpAny_pure hq)) fun _ _ e=>e)
 obtain⟨it,fp,tn,J,H2,e,I2,T,st2,f2,q⟩:=h2;subst e;refine kj (RR:=fun acc C=>compPost (model X.prog X.w) X.A X.xe (some (assign (.Name x pos') X.env)) (fun _ s'=>SP X pins D .next s') acc C) S hc hin gk I2 T st2 f2 (fun x H1=>iB i x σ H1 D.nx) q fun l C s' H' m hn fc hq J0=>?_
 obtain⟨o,es,ep,ho,hd,hr⟩:=id hn;have J1:=J0.pinned (fp:=[C]) (fun b hb=>by rw[List.mem_singleton.mp hb];exact fc) fun b hb=>by rw[List.mem_singleton.mp hb];exact⟨o,ho,fun v z=>by rw[hd] at z;cases z⟩
 show wpAny (model X.prog X.w) X.A (assign (.Name x pos') X.env (.ref l)) _ _ s';refine wpAny_assign_Name (gw J1 hN hx hl (v:=.ref l) rfl (fun s2 I2=>?_) hf);have hC2:=(I2.pin (C,o) (List.mem_append_right _ (List.mem_append_right _ (eJ (by simp) ho)))).1;obtain⟨f0,f1,f2,f3,f4,f5⟩:=fc;refine⟨m,⟨o,es,ep,hC2,hd,hr⟩,fun h' sb=>?_⟩;exact⟨_,H',I2.unpinned.turned (t':=s2.toks) (fun b o hb e=>sb.extBut b o hb e) f0 f1 f3 f4 f5,hq⟩
end
noncomputable def dD (own:Nat)(pick:List Nat):List (Option Nat):=List.replicate own none++pick.map some
theorem mK (σ:L2.St)(pk:List (Option Nat)):(eV σ pk).length=pk.length:=by simp[eV]
theorem kA (env:En)(own:Nat)(pick:List Nat):(cZ env own pick).length=own+pick.length:=by simp[cZ]
noncomputable def lz (F:Nat->List Addr)(env:En)(own:Nat)(pick:List Nat):Nat->List Addr:=fun i=>match (cZ env own pick)[i]? with
 | some (some _)=>match pick[i - own]? with
  |some j=>F j
  |none=>[]
 |_=>[]
theorem eI {env:En}{own:Nat}{pick:List Nat}{i:Nat}{d:D}{t:Tg}(h:(cZ env own pick)[i]? = some (some (d,t))):t = .sh []/\own<=i/\∃ j t0,pick[i - own]? = some j/\env[j]? = some (some (d,t0)):=by
 unfold cZ at h;by_cases hi:i<own
 ·rw[List.getElem?_append_left (by simpa using hi),List.getElem?_replicate] at h;split at h<;>cases h
 ·have hi:own<=i:=gc hi;rw[List.getElem?_append_right (by simpa using hi),List.length_replicate,List.getElem?_map] at h;cases hp:pick[i - own]? with
  |none=>rw[hp] at h;cases h
  |some j =>
   rw[hp] at h;simp only[Option.map_some,Option.some.injEq] at h;split at h
   ·rename_i d0 t0 q;cases h;exact⟨rfl,hi,j,t0,rfl,q⟩
   ·cases h
section
variable {K:Frag}{P:Addr->Prop}{env:En}{σ:L2.St}{H:Hp}{F:Nat->List Addr}
theorem RE.picked (re:RE K P env σ H F)(own:Nat)(pick:List Nat):RE K (fun _=>False) (cZ env own pick) (eV σ (dD own pick)) H (lz F env own pick) where
 len:=by rw[kA,mK];simp[dD]
 val:=fun i d t h=>by
  obtain⟨rfl,hi,j,t0,hp,he⟩:=eI h;obtain⟨v,e,r⟩:=re.val j d t0 he;refine⟨v,?_,?_⟩
  ·unfold eV dD;rw[List.getElem?_map,List.getElem?_append_right (by simpa using hi),List.length_replicate,List.getElem?_map,hp];simp[e]
  ·unfold lz;rw[h,hp];exact r
 emp:=fun i h=>by
  unfold lz;split
  ·rename_i p q;exact absurd q (h p.1 p.2)
  ·rfl
 one:=fun i d t h o=>by
  obtain⟨rfl,_⟩:=eI h;cases o
 wr:=fun i d h=>by
  obtain⟨q,_⟩:=eI h;cases q
 pl:=fun _ h=>h.elim
theorem ra {own:Nat}{pick:List Nat}{i:Nat}{a:Addr}(re:RE K P env σ H F)(h:a∈lz F env own pick i):∃ j∈pick,∃ d t,a∈F j/\env[j]? = some (some (d,t)):=by
 unfold lz at h;split at h
 ·rename_i p q;obtain⟨_,hi,j,t0,hp,he⟩:=eI (d:=p.1) (t:=p.2) q;rw[hp] at h;exact⟨j,List.mem_of_getElem? hp,p.1,t0,h,he⟩
 ·cases h
end
noncomputable def zK (K:Frag)(T:Tb):kx->TT
 |.none=>fun _ H Q=>Q true H
 |.some c=>mR K T c
section
variable {X:Cx}{T:Tb}{scope:Scope}{N':List Str}{own:Nat}{pick:List Nat}{t:iT}{it:ou}{c:kx}{e:Ex}
theorem zt {σ:L2.St}{H:Hp}{Q:Bool->Hp->Prop}{P:Addr->Prop}{env:En}{F:Nat->List Addr}{k:Bool}(re:RE X.K P env σ H F)(hk:oq T c env = .ok k)(q:∀ H',aG H H'->Q k H'):zK X.K T c σ H Q:=by
 cases c with
 |none =>
  unfold oq at hk;cases hk;exact q H (aG.refl _)
 |some c =>
  unfold oq at hk;obtain⟨p,h1,h2⟩:=Rs.bind_ok hk;exact⟨P,env,F,re,p,k,h1,bS h2,q⟩
theorem kN {σ:L2.St}{H:Hp}{Q:VK}(h:tE X.K T (.comp own pick t it c e) σ H Q):tY (dD own pick) (tI X.K T it) (nY X.K t) (zK X.K T c) (tE X.K T e) σ H Q:=by
 obtain⟨P,env,F,re,p0,hev,k⟩:=h;unfold ev at hev;obtain⟨p,h1,hev⟩:=Rs.bind_ok hev;obtain⟨tot,h2,hev⟩:=Rs.bind_ok hev;have hlim:p.1.length<=lim:=Decidable.byContradiction fun hn=>by rw[if_neg hn] at hev;cases hev
 rw[if_pos hlim] at hev;cases hev;refine⟨P,env,F,re,p,h1,fun J H1 Gs s1 rt nn wk l hl=>?_⟩;have re1:=re.same s1;have wk:=wk (fun a=>a∈Gs) fun a ha=>ha
 let S0:Addr->Prop:=fun a=>a∈Gs\/∃ j∈pick,∃ d t,a∈F j/\env[j]? = some (some (d,t))
 have S0n:∀ a,S0 a->H1 a≠none:=fun a ha=>by
  rcases ha with ha | ⟨j,_,d,t,m,ej⟩
  ·exact nn a ha
  ·exact re1.nn ej m
 have lS:¬ S0 l:=fun z=>S0n l z hl
 refine⟨fun i m H2=>m=p.1.length - i/\i<=p.1.length/\∃(acc rest:List (D×Rt)) (vs:List V) (G:List Addr),eH (fun d=>bY (bN [] t d (cZ env own pick)) (oq T c) (ev T e)) (p.1.drop i) = .ok rest/\tot=acc++rest/\acc.length<=i/\H2 l=some (.lst vs)/\aD X.K H2 (acc.map (·.1)) vs G/\aG H1 H2/\l∉G /\
  (∀ a∈G,H1 a=none\/S0 a)/\(acc.all (fun q=>q.1.flat || ir q.2)=true->G.Nodup/\∀ a∈G,H1 a=none/\∃ ws:ML,H2 a=some ws.o),?_,?_⟩
 ·refine⟨p.1.length,by simp,Nat.zero_le _,[],tot,[],[],by simpa using h2,rfl,Nat.le_refl _,aS,.nil,aG.new hl,by simp,fun _ h=>(nomatch h),fun _=>⟨List.nodup_nil,fun _ h=>(nomatch h)⟩⟩
 ·rintro i m H2 ⟨rfl,hi,acc,rest,vs,G,hgo,htot,hacc,hl2,rs,s2,hlG,hG,hfr⟩;obtain⟨w1,w2⟩:=wk H2 (iE.of_same (fun a ha=>nn a ha) s2);by_cases hlt:i<p.1.length
  ·right;have hd:p.1[i]? = some p.1[i]:=by simp[hlt]
   obtain⟨g1,g2⟩:=w1 i _ hd;refine⟨g1,fun H3=>i+1<=p.1.length/\∃(acc rest:List (D×Rt)) (vs:List V) (G:List Addr),eH (fun d=>bY (bN [] t d (cZ env own pick)) (oq T c) (ev T e)) (p.1.drop (i+1)) = .ok rest/\tot=acc++rest/\acc.length<=i+1/\H3 l=some (.lst vs)/\aD X.K H3 (acc.map (·.1)) vs G/\aG H1 H3/\l∉G /\
    (∀ a∈G,H1 a=none\/S0 a)/\(acc.all (fun q=>q.1.flat || ir q.2)=true->G.Nodup/\∀ a∈G,H1 a=none/\∃ ws:ML,H3 a=some ws.o),fun H3 q=>⟨p.1.length - (i+1),by omega,rfl,q⟩,fun x H3 y=>?_⟩
   obtain⟨s3,G3,rp3,sub3⟩:=g2 x H3 y;rw[fm hlt] at hgo;unfold eH at hgo;obtain⟨o,hstep,hgo⟩:=Rs.bind_ok hgo;obtain⟨rest',hrest,hgo⟩:=Rs.bind_ok hgo;cases hb:bN [] t p.1[i] (cZ env own pick) with
   |none=>rw[hb] at hstep;cases hstep
   |some env4 =>
    rw[hb] at hstep;unfold bY at hstep;obtain⟨kc,hkc,hstep⟩:=Rs.bind_ok hstep;have rep:=(re1.same (s2.trans s3)).picked own pick;let Z:Addr->Prop:=fun a=>S0 a
    have zF:∀ i,∀ a∈lz F env own pick i,Z a:=fun i a ha=>by
     obtain⟨j,hj,d,t,m,ej⟩:=ra (re1.same (s2.trans s3)) ha;exact .inr ⟨j,hj,d,t,m,ej⟩
    refine ko (Z:=Z) rep zF rp3 (fun a ha=>.inl (sub3 a ha)) (fun a ha j d' t' ej o m=>?_) hb fun σ4 F4 re4 z4 _=>?_
    ·obtain⟨rfl,_⟩:=eI ej;cases o
    ·refine zt re4 hkc fun H5 s5=>?_
     have base5:=s2.trans (s3.trans s5);have l5:H5 l=some (.lst vs):=s5 _ _ (s3 _ _ hl2);cases kc with
     |false =>
      show if false=true then _ else _
      rw[if_neg av];simp only[Bool.false_eq_true,if_false] at hstep;cases hstep;cases hgo;refine⟨hlt,acc,rest',vs,G,hrest,htot,dr hacc,l5,rs.same (s3.trans s5),base5,hlG,hG,fun f=>?_⟩;obtain⟨n1,n2⟩:=hfr f;exact⟨n1,fun a ha=>⟨(n2 a ha).1,let ⟨ws,q⟩:=(n2 a ha).2;⟨ws,s5 _ _ (s3 _ _ q)⟩⟩⟩
     |true =>
      show if true=true then _ else _
      rw[if_pos rfl];simp only[if_true] at hstep;obtain⟨q,hq,hstep⟩:=Rs.bind_ok hstep;cases hstep;cases hgo;refine⟨_,env4,F4,re4.same s5,q,hq,fun yv H6 Gy s6 rpy rty=>?_⟩;have l6:H6 l=some (.lst vs):=s6 _ _ l5;have base6:=base5.trans s6;have old6:=s3.trans (s5.trans s6);have yS:∀ a∈Gy,H5 a=none\/S0 a:=fun a ha=>(rty.cont a ha).imp id fun ⟨i,d,t,m,_⟩=>z4 i a m
      have ly:l∉Gy:=fun z=>by
       rcases yS l z with q | q
       ·rw[l5] at q;cases q
       ·exact lS q
      have len6:vs.length=acc.length:=by have:=rs.len;rw[aj] at this;exact this.symm
      refine⟨vs,l6,Nat.lt_of_le_of_lt (Nat.le_trans (Nat.le_of_eq len6) (Nat.le_trans hacc (Nat.le_of_lt (Nat.lt_of_lt_of_le hlt hlim)))) (by decide),hlt,acc ++ [q],rest',vs ++ [yv],G++(Gy ++ []),hrest,by rw[htot];simp,by simp;exact hacc,aS,?_,?_,?_,?_,?_⟩
      ·rw[c9];exact (aD.append (rs.same old6) (.cons rpy .nil)).upd l6 (by simp;exact⟨hlG,ly⟩)
      ·intro b o e;rw[aJ (fun z=>by subst z;rw[hl] at e;cases e)];exact base6 _ _ e
      ·simp;exact⟨hlG,ly⟩
      ·intro a ha;rw[az] at ha;rcases List.mem_append.mp ha with ha | ha
       ·exact hG a ha
       ·exact (yS a ha).imp (aG.no base5) id
      ·intro f;rw[List.all_append,ah] at f;obtain⟨n1,n2⟩:=hfr f.1;have fy:Gy.Nodup/\∀ a∈Gy,H5 a=none/\∃ ws:ML,H6 a=some ws.o:=by
        have f2:q.1.flat=true\/ir q.2=true:=by simpa using f.2
        rcases f2 with f2 | f2
        ·rw[rpy.flat f2];exact⟨bo,fun _ h=>(nomatch h)⟩
        ·have:q.2 = .mv []:=by
          cases hr:q.2 with
          |sh R=>rw[hr] at f2;cases f2
          |mv R=>cases R with
           |nil=>rfl
           |cons a b=>rw[hr] at f2;cases f2
         obtain⟨m1,m2,m3⟩:=rty.mv [] this;refine⟨m1,fun a ha=>⟨?_,m2 a ha⟩⟩;rcases m3 a ha with z | ⟨_,_,_,z,_⟩
         ·exact z
         ·cases z
       rw[az];refine⟨fq.mpr ⟨n1,fy.1,fun a ha b hb z=>?_⟩,fun a ha=>?_⟩
       ·subst z;obtain⟨_,ws,w⟩:=n2 a ha;have:=s5 _ _ (s3 _ _ w);rw[(fy.2 a hb).1] at this;cases this
       ·have ne:a≠l:=fun z=>by
         subst z;rcases List.mem_append.mp ha with ha | ha
         ·exact hlG ha
         ·exact ly ha
        rcases List.mem_append.mp ha with ha | ha
        ·obtain⟨u1,ws,w⟩:=n2 a ha;exact⟨u1,ws,by rw[aJ ne];exact old6 _ _ w⟩
        ·obtain⟨u1,ws,w⟩:=fy.2 a ha;exact⟨aG.no base5 u1,ws,by rw[aJ ne];exact w⟩
  ·left;have ei:i=p.1.length:=by omega
   subst ei;refine⟨w2,?_⟩;rw[List.drop_length] at hgo;unfold eH at hgo;cases hgo;rw[az] at htot;subst htot;refine k _ H2 (l::G) (s1.trans s2) (.lst (.inl hl2) rs) ?_;have hl0:=aG.no s1 hl;cases hf:tot.all (fun q=>q.1.flat || ir q.2) with
   |true =>
    obtain⟨n1,n2⟩:=hfr hf;have new:∀ a∈l::G,H a=none:=fun a ha=>by
     rcases bw.mp ha with rfl | ha
     ·exact hl0
     ·exact aG.no s1 (n2 a ha).1
    refine⟨fun a ha=>.inl (new a ha),fun R e=>⟨List.nodup_cons.mpr ⟨hlG,n1⟩,fun a ha=>?_,fun a ha=>.inl (new a ha)⟩⟩;rcases bw.mp ha with rfl | ha
    ·exact⟨.l _,hl2⟩
    ·exact (n2 a ha).2
   |false =>
    refine⟨fun a ha=>?_,fun R e=>by cases e⟩;rcases bw.mp ha with rfl | ha
    ·exact .inl hl0
    ·rcases hG a ha with q | q | ⟨j,hj,d,t,m,ej⟩
     ·exact .inl (aG.no s1 q)
     ·exact (rt.cont a q).imp id fun ⟨i,d,t,x,y,z⟩=>⟨i,d,t,x,y,fun r hr=>ay _ (z r hr)⟩
     ·refine .inr ⟨j,d,t,m,ej,fun r hr=>ak _ ?_⟩;unfold k6;rw[List.mem_flatten];exact⟨aW j t,List.mem_map.mpr ⟨j,hj,by rw[ej]⟩,hr⟩
theorem kK {K:Frag}{t:iT}{pk:List (Option Nat)}(ht:∀ i,(t = .nm i\/∃ is,t = .tp is/\i∈is)->pk[i]? = some none)(v:V)(σ:L2.St)(H:Hp)(Q:L2.St->Hp->Prop)(h:nY K t v σ H Q) :
  nY K t v σ H fun σ' H'=>Q σ' H'/\σ'.length=σ.length/\∀(i:Nat) u,pk[i]?≠some none->σ[i]? = some u->σ'[i]? = some u:=by
 cases t with
 |nm i=>exact⟨h,by simp,fun j u hj e=>by rw[List.getElem?_set_ne];exact e;rintro rfl;exact hj (ht i (.inl rfl))⟩
 |tp is =>
  obtain⟨a,xs,e1,e2,e3,h⟩:=h;refine⟨a,xs,e1,e2,e3,?_⟩;have gen:∀(is:List Nat) (xs:List V) (σ1:L2.St),(∀ i∈is,pk[i]? = some none)->σ1.length=σ.length->(∀(i:Nat) u,pk[i]?≠some none->σ[i]? = some u->σ1[i]? = some u)->fX is xs σ1 H Q->fX is xs σ1 H fun σ' H'=>Q σ' H'/\σ'.length=σ.length/\∀(i:Nat) u,pk[i]?≠some none->σ[i]? = some u->σ'[i]? = some u:=by
   intro is
   induction is with
   |nil=>intro xs σ1 _ hl hk h;exact⟨h.1,h.2,hl,hk⟩
   |cons j js ih =>
    intro xs σ1 hi hl hk h;obtain⟨v,r,e,h⟩:=h;refine⟨v,r,e,ih r (σ1.set j (some v)) (fun i hm=>hi i (List.mem_cons_of_mem _ hm)) (by simp[hl]) (fun i u hi' e'=>?_) h⟩;rw[List.getElem?_set_ne];exact hk i u hi' e';rintro rfl;exact hi' (hi j ai)
  exact gen is xs σ (fun i hm=>ht i (.inr ⟨is,rfl,hm⟩)) rfl (fun _ _ _ e=>e) h
end
def pX (K:Frag)(T:Tb)(x:Nat)(path:kx):TE:=fun σ H Q=>∃ P env F po v p,RE K P env σ H F/\jc T path env = .ok po/\σ[x]? = some (some v)/\PV K H v po p/\∀ H',aG H H'->Q (.ref p) H'
section
variable {X:Cx}{T:Tb}{pos:Pos}{i:Nat}{x:Str}
theorem A4 (hN:X.N[i]? = some x)(hv:xY X.env.scope x)(hd:(x==("__debug__" : Str))=false) (hcd:(x==("__classdict__" : Str))=false):PE X (.Name x pos) (pX X.K T i .none):=by
 refine bF (jY hN hv hd hcd) fun σ H Q ⟨P,env,F,po,v,p,re,hpo,hv,pv,k⟩=>?_
 unfold jc at hpo;cases hpo;cases pv;exact⟨_,hv,k H (aG.refl _)⟩
end
def ve (K:Frag)(m:pf):V->List V->Hp->VK->Prop:=fun x vs H Q=>∃ l ws xs ds Gx G ys,x = .ref l/\H l=some (.lst ws)/\aD K H xs ws Gx/\aD K H ds vs G/\wL m xs ds=some ys/\ys.length<=lim/\l∉Gx/\l∉G/\Gx.Nodup /\
 ∀ us Gy v,aD K (upd H l (.lst us)) ys us Gy->(∀ a∈Gy,a∈Gx\/(m.copies=false/\a∈G))->((∀ a∈Gx,a∉G)->G.Nodup\/m.copies=true->Gy.Nodup)->Q v (upd H l (.lst us))
section
variable {X:Cx}
theorem pL:MtM X "list.append" (ve X.K .append):=by
 intro pins s σ H x vs v us Q I rx rv h;obtain⟨l,ws,xs,ds,Gx,G,ys,rfl,hl,r1,r2,hm,hlen,n1,n2,nd,k⟩:=h
 match ds,hm with
 |[d],hm =>
  cases hm;obtain⟨y,rfl,rp⟩:=r2.of1;refine kQ pins s σ H _ _ v us Q I rx rv ⟨l,ws,y,rfl,rfl,hl,?_,k (ws ++ [y]) (Gx++(G ++ [])) _ ?_ (fun a ha=>?_) fun dj o=>?_⟩
  ·rw[<-r1.len];simp only[List.length_append,List.length_singleton] at hlen;exact au (au (Nat.lt_succ_self _) hlen) vi
  ·exact (r1.append (.cons rp .nil)).upd hl (by simp;exact⟨n1,n2⟩)
  ·simp at ha;exact ha.imp id fun z=>⟨rfl,z⟩
  ·rcases o with o | o
   ·rw[az];exact fq.mpr ⟨nd,o,fun a ha b hb z=>by subst z;exact dj a ha hb⟩
   ·cases o
theorem uM {x:Nat}{p:Option Int}{env:En}{d:D}{ys:List D}{rs:List Rt}:(∃ e,eT x p env d ys rs = .nx e)\/eT x p env d ys rs = .bad:=by
 unfold eT;split
 ·exact .inr rfl
 ·split
  ·exact .inl ⟨_,rfl⟩
  ·exact .inr rfl
theorem jN {T:Tb}{i:Nat}{path:kx}{m:pf}{cs:kz}{D:Ends}{σ:L2.St}{H:Hp}(h:tS X.K T (.mut i path m cs) D σ H):uy (tBM X.K "list" (ve X.K m) (pX X.K T i path) (pF X.K T cs)) D σ H:=by
 obtain⟨P,Z,env,F,re,hz,zp,h⟩:=h;unfold aN at h;cases hx:ownAt env i with
 |none=>rw[hx] at h;exact h.elim
 |some d =>
  rw[hx] at h;obtain⟨po,hpo,h⟩:=dY h;cases hat:d.at1 po with
  |none=>rw[hat] at h;exact h.elim
  |some xs =>
   rw[hat] at h;obtain⟨l,hl,h⟩:=dY h;cases hm:wL m xs (l.map (·.1)) with
   |none=>rw[hm] at h;exact h.elim
   |some ys =>
    rw[hm] at h;have hx':=ik hx;obtain⟨v,hv,_⟩:=re.val i d .own hx';obtain⟨p,pv,f⟩:=qP re hx hv hat;refine⟨P,env,F,po,v,p,re,hpo,hv,pv,fun H1 s1=>?_⟩;obtain⟨ws1,g1,e1,_⟩:=f H1 s1;refine⟨.inl ⟨rfl,ws1,.inl (.inl e1)⟩,P,env,F,re.same s1,l,hl,fun vs H2 G ar=>?_⟩;have s2:=s1.trans ar.same;obtain⟨ws,Gx,a1,a2,a3,a4,a5,a6,fs⟩:=f H2 s2;by_cases hroot:(aT (l.map (·.2))).contains i=true
    ·simp only[hroot,if_true] at h;exact h.elim
    simp only[hroot,if_false] at h;have disj:∀ a∈F i,a∉G:=fun a ha hg=>by
     rcases ar.cont a hg with q | ⟨j,d2,t2,m2,e2,sr⟩
     ·exact (re.same s1).nn hx' ha q
     ·exact hroot (by simpa using sr i ((re.one i d .own hx' rfl).2.2 a ha j d2 t2 e2 m2))
    have nG:=disj p a3;refine⟨p,ws,xs,l.map (·.1),Gx,G,ys,rfl,a1,a2,ar.reps,hm,qO h,a6,nG,a5,fun us Gy w rs sub nd=>?_⟩;refine ud (N:=if m.copies then [] else G) re hz zp s2 hx hv a3 (fun R hR ndR=>?_) (fun hN hNd=>?_) h
    ·cases hc:m.copies with
     |true=>exact⟨bo,fun _ h=>(nomatch h),fun _ h=>(nomatch h)⟩
     |false =>
      rw[hc] at hR;obtain⟨n1,n2,n3⟩:=Args.mv (re.same s1) ar hR ndR;exact⟨n1,n2,fun a ha=>(n3 a ha).imp (aG.no s1) id⟩
    ·have ngy:Gy.Nodup:=nd (fun a ha=>disj a (a4 a ha)) (by
      cases hc:m.copies with
      |true=>exact .inr rfl
      |false=>rw[hc] at hNd;exact .inl hNd)
     obtain⟨G',b1,b2,b3⟩:=fs ys us Gy rs ngy (fun z=>(sub p z).elim a6 fun q=>nG q.2) fun a ha=>(sub a ha).imp id fun q z=>disj a z q.2
     refine⟨G',b1,b2,fun a ha=>?_⟩;rcases b3 a ha with q | q
     ·exact .inl q
     ·rcases sub a q with z | ⟨z1,z2⟩
      ·exact .inl (a4 a z)
      ·rw[z1];exact .inr z2
theorem rn {T:Tb}{i:Nat}{path:kx}{m:pf}{D:Ends}{σ:L2.St}{H:Hp}(h:tS X.K T (.mut i path m .nil) D σ H):uy (By X.K "list" (ve X.K m) (pX X.K T i path)) D σ H:=by
 obtain⟨P,env,F,po,v,p,re,hpo,hv,pv,k⟩:=jN h;refine⟨P,env,F,po,v,p,re,hpo,hv,pv,fun H' s=>?_⟩;obtain⟨ty,P',env',F',re',l,hl,f⟩:=k H' s;unfold bK at hl;cases hl;exact⟨ty,f [] H' [] (.nil (aG.refl _))⟩
end
section
variable {X:Cx}
noncomputable def gT:List String:=["int","bool","str","list","tuple"]
theorem ty_type {T:String}(h:T∈gT):typeOf (.type T)=pure (.type "type"):=by
 simp only[gT,List.mem_cons,List.not_mem_nil,or_false] at h;rcases h with rfl | rfl | rfl | rfl | rfl<;>kernel_rfl
def Bs (K:Frag):List V->Hp->VK->Prop:=fun xs H Q=>∃ x T d G,xs=[x,.ty T]/\T∈gT/\((∀ kvs,d≠.dct kvs)/\(∀ ks,d≠.mpi ks)/\(∀ ks,d≠.mpt ks)/\∀ ks,d≠.mpz ks)/\Rep K H d x G/\Q (.bl (ti T d)) H
theorem r8:fL X (.builtin "isinstance") (Bs X.K):=by
 intro pins s σ H xs us Q I r h;obtain⟨x,T,d,G,rfl,hT,hnd,rp,q⟩:=h;obtain⟨u,w,rfl,rx,rt⟩:=r.two;obtain rfl:w=Value.type T:=rt;have hty:=ty_type hT;have yes:∀{Tx:String},s.TypeIs u Tx->isSubtype (.type Tx) (.type T)=pure true->ti T d=true->wpAny (model X.prog X.w) X.A (call (.builtin "isinstance") [u,.type T]) (EP X pins σ Q) X.xe s:=fun h1 h2 h3 =>
  call_isinstance (isinstance_true hty h2) ⟨h1,⟨.bl true,H,I,rfl,by rw[h3] at q;exact q⟩⟩
 have no:ti T d=false->EP X pins σ Q (.bool false) { s with toks:=s.toks+1 }:=fun h=>⟨.bl false,H,I.tok _,rfl,by rw[h] at q;exact q⟩
 simp only[gT,List.mem_cons,List.not_mem_nil,or_false] at hT;cases d with
 |dct kvs=>exact absurd rfl (hnd.1 kvs)
 |mpi ks=>exact absurd rfl (hnd.2.1 ks)
 |mpt ks=>exact absurd rfl (hnd.2.2.1 ks)
 |mpz ks=>exact absurd rfl (hnd.2.2.2 ks)
 |non =>
  obtain⟨rfl,_⟩:=rp.non_inv;cases rx;rcases hT with rfl | rfl | rfl | rfl | rfl
  ·exact call_isinstance (isinstance_false_none (by decide) hty F.sub_NoneType_int) (no rfl)
  ·exact call_isinstance (isinstance_false_none (by decide) hty F.sub_NoneType_bool) (no rfl)
  ·exact call_isinstance (isinstance_false_none (by decide) hty F.sub_NoneType_str) (no rfl)
  ·exact call_isinstance (isinstance_false_none (by decide) hty F.sub_NoneType_list) (no rfl)
  ·exact call_isinstance (isinstance_false_none (by decide) hty F.sub_NoneType_tuple) (no rfl)
 |bl b =>
  obtain⟨rfl,_⟩:=rp.bl_inv;cases rx;rcases hT with rfl | rfl | rfl | rfl | rfl
  ·exact yes (PySem.typeIs_bool s b) F.sub_bool_int rfl
  ·exact yes (PySem.typeIs_bool s b) F.sub_bool_bool rfl
  ·exact call_isinstance (isinstance_false_bool (by decide) hty F.sub_bool_str) (no rfl)
  ·exact call_isinstance (isinstance_false_bool (by decide) hty F.sub_bool_list) (no rfl)
  ·exact call_isinstance (isinstance_false_bool (by decide) hty F.sub_bool_tuple) (no rfl)
 |int i =>
  obtain⟨rfl,_⟩:=rp.int_inv;obtain⟨t,rfl⟩:=rx;rcases hT with rfl | rfl | rfl | rfl | rfl
  ·exact yes (typeIs_int s i t) F.sub_int_int rfl
  ·exact call_isinstance (isinstance_false_int (by decide) hty F.sub_int_bool) (no rfl)
  ·exact call_isinstance (isinstance_false_int (by decide) hty F.sub_int_str) (no rfl)
  ·exact call_isinstance (isinstance_false_int (by decide) hty F.sub_int_list) (no rfl)
  ·exact call_isinstance (isinstance_false_int (by decide) hty F.sub_int_tuple) (no rfl)
 |str z =>
  obtain⟨rfl,_⟩:=rp.str_inv;obtain⟨t,rfl⟩:=rx;rcases hT with rfl | rfl | rfl | rfl | rfl
  ·exact call_isinstance (isinstance_false_str (by decide) hty F.sub_str_int) (no rfl)
  ·exact call_isinstance (isinstance_false_str (by decide) hty F.sub_str_bool) (no rfl)
  ·exact yes (typeIs_str s z t) F.sub_str_str rfl
  ·exact call_isinstance (isinstance_false_str (by decide) hty F.sub_str_list) (no rfl)
  ·exact call_isinstance (isinstance_false_str (by decide) hty F.sub_str_tuple) (no rfl)
 |lst ds =>
  obtain⟨p,vs,g,rfl,_,a1,_⟩:=rp.lst_inv;cases rx;obtain⟨its,_,pl,_⟩:=I.list (.inl a1);obtain⟨o,ho,hc,_⟩:=pl.isList;rcases hT with rfl | rfl | rfl | rfl | rfl
  ·exact call_isinstance (isinstance_false_list (by decide) hty F.sub_list_int) ⟨⟨o,ho,hc⟩,no rfl⟩
  ·exact call_isinstance (isinstance_false_list (by decide) hty F.sub_list_bool) ⟨⟨o,ho,hc⟩,no rfl⟩
  ·exact call_isinstance (isinstance_false_list (by decide) hty F.sub_list_str) ⟨⟨o,ho,hc⟩,no rfl⟩
  ·exact yes ⟨o,ho,hc⟩ F.sub_list_list rfl
  ·exact call_isinstance (isinstance_false_list (by decide) hty F.sub_list_tuple) ⟨⟨o,ho,hc⟩,no rfl⟩
 |tup ds =>
  obtain⟨p,vs,rfl,a1,_⟩:=rp.tup_inv;cases rx;obtain⟨its,_,pl,_⟩:=I.tuple a1;obtain⟨o,ho,hc,_⟩:=pl;rcases hT with rfl | rfl | rfl | rfl | rfl
  ·exact call_isinstance (isinstance_false_tuple (by decide) hty F.sub_tuple_int) ⟨⟨o,ho,hc⟩,no rfl⟩
  ·exact call_isinstance (isinstance_false_tuple (by decide) hty F.sub_tuple_bool) ⟨⟨o,ho,hc⟩,no rfl⟩
  ·exact call_isinstance (isinstance_false_tuple (by decide) hty F.sub_tuple_str) ⟨⟨o,ho,hc⟩,no rfl⟩
  ·exact call_isinstance (isinstance_false_tuple (by decide) hty F.sub_tuple_list) ⟨⟨o,ho,hc⟩,no rfl⟩
  ·exact yes ⟨o,ho,hc⟩ F.sub_tuple_tuple rfl
theorem uV {T:Tb}{b:String}{c:Ex}{σ:L2.St}{H:Hp}{Q:VK}(hb:b∈gT)(h:tE X.K T (.blt (.isi b) (.cons c .nil)) σ H Q):CB (Bs X.K) (hU (tE X.K T c) (hU (tC (.ty b)) qU)) σ H Q:=by
 obtain⟨P,env,F,re,p,hev,k⟩:=h;unfold ev bK bK at hev;obtain⟨l,h1,hev⟩:=Rs.bind_ok hev;obtain⟨q,h2,h1⟩:=Rs.bind_ok h1;cases h1;obtain⟨d',h3,hev⟩:=Rs.bind_ok hev;have h3:oQ (.isi b) [q.1]=some d':=bS h3;have hnd:(∀ kvs,q.1≠.dct kvs)/\(∀ ks,q.1≠.mpi ks)/\(∀ ks,q.1≠.mpt ks)/\∀ ks,q.1≠.mpz ks:=⟨fun kvs e=>(by rw[e] at h3;cases h3),fun kvs e=>(by rw[e] at h3;cases h3),fun kvs e=>(by rw[e] at h3;cases h3),fun kvs e=>(by rw[e] at h3;cases h3)⟩;have hd:d' = .bl (ti b q.1):=by
  cases hq:q.1 with
  |dct kvs=>exact absurd hq (hnd.1 kvs)
  |mpi ks=>exact absurd hq (hnd.2.1 ks)
  |mpt ks=>exact absurd hq (hnd.2.2.1 ks)
  |mpz ks=>exact absurd hq (hnd.2.2.2 ks)
  |_=>rw[hq] at h3;cases h3;rfl
 subst hd;cases hev;exact⟨P,env,F,re,q,h2,fun v H1 G s rp rt=>⟨v,b,q.1,G,rfl,hb,hnd,rp,k _ H1 [] s (.bl _) bG.nil⟩⟩
theorem mV:∀{r:List D},r.all D.isBl=true->∃ bs:List Bool,r=bs.map D.bl
 |[],_=>⟨[],rfl⟩
 | x::r,ha=>by
  rw[cv,ah] at ha;obtain⟨bs,rfl⟩:=mV ha.2;cases x with
  |bl c=>exact⟨c::bs,rfl⟩
  |_=>cases ha.1
theorem all_range (bs:List Bool):(List.range bs.length).all (fun i=>bs[i]?.getD true)=bs.all id:=by
 rw[Bool.eq_iff_iff,bt,bt];constructor
 ·intro h x hx;obtain⟨i,hi,rfl⟩:=List.mem_iff_getElem.mp hx;have:=h i (by simpa using hi);simpa[hi] using this
 ·intro h i hi;have hi:i<bs.length:=by simpa using hi
  simpa[hi] using h bs[i] (List.getElem_mem hi)
theorem jT:∀{ds:List D}{b:Bool},allB ds=some b->ds.all D.isBl=true->∃ bs:List Bool,ds=bs.map D.bl/\b=bs.all id
 |[],b,h,_=>by cases h;exact⟨[],rfl,rfl⟩
 | .bl c::r,b,h,ha=>by
  have ha':r.all D.isBl=true:=by simpa[D.isBl] using ha
  cases c with
  |false =>
   cases h;have:=mV ha';obtain⟨bs,rfl⟩:=this;exact⟨false::bs,rfl,by simp⟩
  |true =>
   obtain⟨bs,rfl,rfl⟩:=jT (ds:=r) h ha';exact⟨true::bs,rfl,by simp⟩
 |.non::r,b,h,_=>by cases h
 |.int _::r,b,h,_=>by cases h
 |.str _::r,b,h,_=>by cases h
 |.lst _::r,b,h,_=>by cases h
 |.tup _::r,b,h,_=>by cases h
theorem jM {K:Frag}{H:Hp}:∀{bs:List Bool}{vs:List V}{G:List Addr}{us:List Value},aD K H (bs.map D.bl) vs G->aK vs us->us=bs.map Value.bool
 |[],_,_,_,.nil,.nil=>rfl
 | b::bs,_,_,_,.cons h r,.cons x y=>by
  obtain⟨rfl,_⟩:=h.bl_inv;cases x;rw[ax,<-jM r y]
theorem rR (hc:X.calm=true):fL X (.builtin "all") (pI X.K .all):=by
 intro pins s σ H xs us Q I r h;obtain⟨ds,d,G,rs,hd,k⟩:=h
 match ds,hd with
 |[.lst ys],hd =>
  simp only[oQ,yN] at hd;by_cases hb:ys.all D.isBl=true
  ·rw[if_pos hb,aa] at hd;obtain⟨b,hb',rfl⟩:=hd;obtain⟨bs,rfl,rfl⟩:=jT hb' hb;obtain⟨x,rfl,rp⟩:=rs.of1;obtain⟨p,vs,g,rfl,rfl,a1,a2⟩:=rp.lst_inv;obtain⟨u,rfl,ru⟩:=r.one;cases ru;obtain⟨its,rv,pl,_⟩:=I.list (.inl a1);have ei:=jM a2 rv;subst ei;have hlt:p<s.heap.objs.size:=by
    obtain⟨o,ho,_⟩:=pl.isList;exact Heap.lt_size ho
   refine call_all_walk (wpAny_pyIter_list pl.isList ⟨s.heap.objs.size,[s.heap.objs.size,p],[s.heap.objs.size],(bs.map Value.bool).toArray.size,_,_,fun i=>bs[i]?.getD true,rfl,Walks.list (A:=X.A.in1) (show X.A.in1.handled=none from I.ok.hd hc) s.heap.objs.size p (ba hlt) (bs.map Value.bool).toArray,⟨⟨_,Heap.get?_push_size _ rfl,rfl,rfl⟩,pl.isList.at fun o e=>Heap.get?_push_of_some _ e⟩,fun i v s' Q' E' hP hQ=>?_,fun h' tk hk=>?_⟩)
   ·have hP:(bs.map Value.bool).toArray[i]? = some v:=hP;rw[List.getElem?_toArray,List.getElem?_map,aa] at hP;obtain⟨b,e1,rfl⟩:=hP;have hQ:Q' (bs[i]?.getD true) s':=hQ;rw[e1] at hQ;exact wpAny_truthy_bool hQ
   ·have e:(List.range (bs.map Value.bool).toArray.size).all (fun i=>bs[i]?.getD true)=bs.all id:=by
     simp only[List.size_toArray,List.length_map];exact all_range bs
    rw[e];refine⟨.bl (bs.all id),H,?_,rfl,k _ H [] (.bl _) fP.nil⟩;have I1:Inv X pins σ H { s with heap:=s.heap.push { cls:=.type "list_iterator",data:=.fields #[.ref p,.int 0 0] } }:=I.kept (t':=s.toks) fun b o e=>Heap.get?_push_of_some _ e
    obtain⟨f0,f1,f2,f3,f4,f5⟩:=I.fpOk (b:=s.heap.objs.size) (aq _) (I.hok.fresh (aq _));exact I1.turned (t':=tk) (fun b o hb e=>hk b o (by simpa using hb) e) f0 f1 f3 f4 f5
  ·rw[if_neg hb] at hd;cases hd
end
section
variable {X:Cx}{T:Tb}
theorem lM {K:Frag}{H:Hp}:∀ ks:List (Int×MV),aD K H (ks.map fun q=>D.int q.1) (ks.map fun q=>V.int q.1) []
 |[]=>.nil
 |k::ks=>.cons (G:=[]) (G':=[]) (.int k.1) (lM ks)
theorem lq {P:Program}{w:World}{K:Frag}{H:Hp}:∀{ks:List (Int×MV)}{xs:List (Key×V)}{vs:List (Key×Value)}{us:List Value},kE K H ks xs->KV xs vs->us.length=vs.length->(∀(j:Nat) u,us[j]? = some u->∃ k x,vs[j]? = some (k,x)/\(aM P w).is k u=true)->aK (ks.map fun q=>V.int q.1) us
 | [],[],_,us,_,r,hl,_=>by
  cases r;rw[List.length_eq_zero_iff.mp hl];exact .nil
 |[],_::_,_,_,h,_,_,_=>h.elim
 |_::_,[],_,_,h,_,_,_=>h.elim
 | (k,m)::ks,x::xs,_,us,⟨hk0,_,kr⟩,r,hl,h=>by
  have r:Paired _ (x::xs) _:=r;cases r with
  |@cons _ q _ qs h1 t =>
   cases us with
   |nil=>cases hl
   |cons u us =>
    obtain⟨k',y,e,hk⟩:=h 0 u rfl;have e:some q=some (k',y):=e;cases e;have h1:x.1=k':=h1.1;rw[hk0] at h1;have h1:(Sum.inl k:Key)=k':=h1;subst h1;obtain⟨i,t',e1,e2⟩ | ⟨x',t',e1,_⟩:=aZ (show jn (.inl k) u=true from hk)
    ·cases e1;exact .cons ⟨t',e2⟩ (lq kr t (Nat.succ.inj hl) fun j u hu=>h (j+1) u hu)
    ·cases e1
theorem oX (hc:X.calm=true):fL X (.type "list") (pI X.K .list):=by
 intro pins s σ H xs us Q I r h;obtain⟨ds,d,G,rs,hd,k⟩:=h;by_cases hm:∃ ks,ds=[.mpi ks]
 ·obtain⟨ks,rfl⟩:=hm;simp only[oQ,uq] at hd;by_cases hl:ks.length<=lim
  ·rw[if_pos hl] at hd;cases hd;obtain⟨x,rfl,rp⟩:=rs.of1;obtain⟨u,rfl,rx⟩:=r.one;cases rp with
   |@mpi p _ xs hr kr =>
    obtain rfl:u = .ref p:=rx;obtain⟨z,lo,vs,rel,dd⟩:=j7 I.hok (.inl hr);obtain⟨ep,hat⟩:=dd.dictAt;have hlen:vs.length=ks.length:=by rw[<-rel.length,kr.len]
    refine PySem.W.kdl_call (PySem.W.kdl_dict (knd:=aM X.prog X.w) (kvs:=vs) (ep:=ep) lo) (I.ok.hd hc) hat (by rw[hlen,sizeLine_eq];unfold lim at hl;omega) fun h' tk acc c hk hD hacc=>?_
    have hv:aK (ks.map fun q=>V.int q.1) acc.toList:=lq kr rel (by rw[du];exact hacc.1) fun j u hu=>hacc.2 j u (by rw[<-Array.getElem?_toList];exact hu)
    refine⟨.ref s.heap.objs.size,upd H s.heap.objs.size (.lst (ks.map fun q=>V.int q.1)),I.laid hk (aq _) ⟨by rw[aj,sizeLine_eq];unfold lim at hl;omega,acc.toList,c,hv,by rw[hD,Array.toArray_toList]⟩,rfl,?_⟩;obtain⟨n1,n2⟩:=hX (G0:=[p]) (lM (K:=X.K) (H:=H) ks) (fun a ha=>nomatch ha) I.fresh;exact k _ _ _ n1 n2
  ·rw[if_neg hl] at hd;cases hd
 ·exact n5 I r rs hd k fun ks e=>hm ⟨ks,e⟩
end
theorem bX.live' {P:Program}{w:World}{H:Hp}{h:Heap}{a:Addr}{o:HO}(x:bX P w H h a o):∃ ob,h.get? a=some ob:=by
 cases o with
 |lst xs=>obtain⟨_,_,_,_,e⟩:=x;exact⟨_,e⟩
 |tup xs=>obtain⟨_,_,_,ob,e,_⟩:=x;exact⟨_,e⟩
 |dK kvs=>obtain⟨_,_,_,_,o,_,_,e,_⟩:=x;exact⟨_,e⟩
 |dT kvs=>obtain⟨_,_,_,_,o,_,_,e,_⟩:=x;exact⟨_,e⟩
 |set S n=>obtain⟨o,_,_,_,e,_⟩:=x;exact⟨_,e⟩
 |ins C dx fs=>obtain⟨_,_,_,e,_⟩:=x;exact⟨_,e⟩
 |own y=>obtain⟨_,e⟩:=x;exact⟨_,e⟩
 |xd fs=>obtain⟨_,⟨_,_,_,e,_⟩,_⟩:=x;exact⟨_,e⟩
 |rng lo hi=>obtain⟨_,_,_,e⟩:=x;exact⟨_,e⟩
 |frz ob u=>obtain⟨e,_⟩:=x;exact⟨_,e⟩
 |tbl ps=>exact⟨_,(show h.get? a=some _ from x)⟩
 |met f y=>exact⟨_,(show h.get? a=some _ from x)⟩
 |ext φ=>obtain⟨_,⟨_,e⟩,_⟩:=x;exact⟨_,e⟩
theorem ua {X:Cx}{pins:List (Addr×Obj)}{σ:L2.St}{H:Hp}{s:Shared}{h':Heap}{m:Str->Option Value}{B:Addr}{o:HO}{t':Nat}(I:Inv X pins σ H s)(hn:s.heap.Ns X.env.locals m)(hn':h'.Ns X.env.locals m)
  (k:∀ b o,b≠X.env.locals->s.heap.get? b=some o->h'.get? b=some o) (hB:∀ b o,s.heap.get? b=some o->b≠B) (new:bX X.prog X.w (upd H B o) h' B o):Inv X pins σ (upd H B o) { s with heap:=h',toks:=t' }:=by
 have hnB:H B=none:=by
  cases e:H B with
  |none=>rfl
  |some u =>
   obtain⟨ob,q⟩:=bX.live' (I.hok B u e);exact absurd rfl (hB B ob q)
 have nL:∀ b u,H b=some u->b≠X.env.locals:=fun b u e z=>by rw[z,I.free] at e;cases e
 refine I.step (g':=s.gens) (d':=s.drawn) (ch:=[]) (fun b hb=>nomatch hb) (fun b o' hL _ _ e _=>k b o' hL e) (fun b o' hL _ _ e _=>⟨o'.slots,k b o' hL e⟩) (fun b o' _ e n=>by rw[aJ (hB b o' e)];exact n) (fun b o' _ e=>?_)
  (fun b xs e=>by rw[aJ (bO e hnB)];exact e) (fun b ob u e=>by rw[aJ (bO e hnB)];exact e) (fun b ps e=>⟨#[],by rw[aJ (bO e hnB),e];simp⟩) (fun m' hm=>?_) (fun b u e=>?_) I.bare
 ·by_cases hL:b=X.env.locals
  ·subst hL;obtain⟨o2,_,_,q,_⟩:=hn';exact⟨o2,q⟩
  ·exact⟨o',k b o' hL e⟩
 ·obtain⟨o1,es,ep,e1,e2,e3,e4⟩:=hn;obtain⟨o2,es',ep',f1,f2,f3,f4⟩:=hm;rw[e1] at f1;cases f1;rw[e2] at f2;cases f2;have:m'=m:=funext fun x=>by rw[<-f4 x,e4 x]
  rw[this];exact hn'
 ·by_cases hb:b=B
  ·subst hb;rw[aS] at e;cases e;exact new
  ·rw[aJ hb] at e;refine (I.hok b u e).stay (fun c v hc q=>k c v ?_ q) (fun c q=>?_) fun c xs q=>?_
   ·rcases hc with z | z
    ·rw[z];exact nL b u e
    ·exact nL c _ z
   ·rw[aJ (bO q hnB)];exact q
   ·rw[aJ (bO q hnB)];exact q
section
variable {prog:Program}{w:World}{A:Around}
end
section
variable {X:Cx}{pins:List (Addr×Obj)}{σ:L2.St}{H:Hp}{s:Shared}
end
section
variable {X:Cx}
end
section
variable {X:Cx}{T:Tb}
end
structure iu (ty:String):Prop where
 item:∀{prog:Program}{w:World}{A:Around}{E:Value->Shared->Prop}{s:Shared}{it:Addr}{x:Str}{t:Tok}{i c:Nat}{Q:Value->Shared->Prop},s.heap.IsStrIter it ty x t i->x.cps[i]? = some c ->
  (∀ h',h'.IsStrIter it ty x t (i+1)->Heap.SameBut it s.heap h'->Q (.str ⟨#[c]⟩ s.toks) { s with heap:=h',toks:=s.toks+1 })->wpAny (model prog w) A (Builtin.SmallTypes.nextOf (.ref it)) Q E s
 done:∀{prog:Program}{w:World}{A:Around}{E:Value->Shared->Prop}{s:Shared}{it:Addr}{x:Str}{t:Tok}{i:Nat}{Q:Value->Shared->Prop},A.handled=none->s.heap.IsStrIter it ty x t i->x.cps[i]? = none ->
  (∀ h' e,Heap.ExtBut it s.heap h'->(∃ o,h'.get? e=some o/\o.cls = .type "StopIteration")->E (.ref e) { s with heap:=h' })->wpAny (model prog w) A (Builtin.SmallTypes.nextOf (.ref it)) Q E s
 n1:ty≠"list"
theorem wY:iu "str_ascii_iterator":=⟨fun a b c=>wpAny_nextOf_ascii_item a b c,fun a b c d=>wpAny_nextOf_ascii_end a b c d,by decide⟩
theorem xj:iu "str_iterator":=⟨fun a b c=>wpAny_nextOf_wide_item a b c,fun a b c d=>wpAny_nextOf_wide_end a b c d,by decide⟩
section
variable {prog:Program}{w:World}{A:Around}{E:Value->Shared->Prop}{s:Shared}{z TI TO i1 i2 l1:Addr}{k1 k2:Nat}{xs:Array Value}{x a b:Value}{y:Str}{t:Tok}{c:Nat}{ty:String}
theorem xn {Q:Value->Shared->Prop}(S:iu ty)(D:ZipApart z TI TO i1 i2 l1 l1)(hz:IsZip s.heap z TI TO .none)(hTI:IsPair s.heap TI (.ref i1) (.ref i2))(hTO:IsPair s.heap TO a b)
  (h1:s.heap.IsListIter i1 l1 k1) (h2:s.heap.IsStrIter i2 ty y t k2) (hl1:s.heap.IsList l1 xs) (hx:xs[k1]? = some x) (hy:y.cps[k2]? = some c)
  (hQ:∀ h',IsZip h' z TI TO (rawInt s.heap.objs.size)->IsPair h' TO x (.str ⟨#[c]⟩ s.toks)->h'.IsListIter i1 l1 (k1+1)->h'.IsStrIter i2 ty y t (k2+1)->IsPair h' s.heap.objs.size x (.str ⟨#[c]⟩ s.toks)->h'.objs.size=s.heap.objs.size+1 ->
   (∀ c o,c≠z->c≠TO->c≠i1->c≠i2->s.heap.get? c=some o->h'.get? c=some o)->Q (.ref s.heap.objs.size) { s with heap:=h',toks:=s.toks+1 }) :
  wpAny (model prog w) A (Builtin.«zip.__next__» ⟨[.ref z],[]⟩) (fun fin s'=>∃ v,fin = .done (.ret v)/\Q v s') E s:=by
 show wpAny _ _ (field (.ref z) 2 >>= _) _ _ _;refine wpAny_bind (wpAny_field hz rfl (x:=.bool false) rfl ?_);show wpAny _ _ (field (.ref z) 3 >>= _) _ _ _;refine wpAny_bind (wpAny_field hz rfl (x:=.ref TI) rfl (wpAny_bind (wpAny_seqItems hTI rfl ?_)));show wpAny _ _ (Builtin.SmallTypes.ownedTupleIsFree (.ref z) >>= _) _ _ _;refine wpAny_bind ?_;unfold Builtin.SmallTypes.ownedTupleIsFree;refine wpAny_bind (wpAny_field hz rfl (x:=.none) rfl (wpAny_pure ?_));simp only[if_true];refine wpAny_bind (wpAny_rule (wpAny_bind (wpAny_field hz rfl (x:=.ref TO) rfl (wpAny_bind (wpAny_setField_rec hz (by simp) fun g1 e1 s1=>?_)))))
 replace e1:IsZip g1 z TI TO .ellipsis:=e1
 refine wpAny_bind ?_;simp only[List.zipIdx_cons,List.zipIdx_nil,List.forIn_cons,List.forIn_nil];refine wpAny_bind (wpAny_bind (wpAny_onRaise ?_));show wpAny _ _ (Builtin.SmallTypes.nextOf (.ref i1) >>= _) _ _ _;refine wpAny_bind (wpAny_nextOf_list_item (h1.extBut s1.extBut D.i1z) (hl1.extBut s1.extBut D.l1z) hx fun g2 f1 s2=>wpAny_pure ?_);have p2:IsPair g2 TO a b:=s2.extBut _ _ D.TOi1 (s1.extBut _ _ D.TOz hTO);refine wpAny_bind (wpAny_seqItems p2 rfl (wpAny_bind (wpAny_updateSeq_pair p2 fun g3 p3 s3=>wpAny_bind (wpAny_letGo (wpAny_pure ?_)))))
 replace p3:IsPair g3 TO x b:=p3
 refine wpAny_bind (wpAny_bind (wpAny_onRaise ?_));show wpAny _ _ (Builtin.SmallTypes.nextOf (.ref i2) >>= _) _ _ _;refine wpAny_bind (S.item (((h2.extBut s1.extBut D.i2z).extBut s2.extBut D.i12.symm).extBut s3.extBut D.TOi2.symm) hy fun g4 f2 s4=>wpAny_pure ?_);have p4:IsPair g4 TO x b:=s4.extBut _ _ D.TOi2 p3;refine wpAny_bind (wpAny_seqItems p4 rfl (wpAny_bind (wpAny_updateSeq_pair p4 fun g5 p5 s5=>wpAny_bind (wpAny_letGo (wpAny_pure (wpAny_pure ?_))))))
 replace p5:IsPair g5 TO x (.str ⟨#[c]⟩ s.toks):=p5
 refine wpAny_bind (wpAny_seqItems p5 rfl (wpAny_bind (wpAny_newTuple ?_)));have hsz:g5.objs.size=s.heap.objs.size:=by rw[s5.1,s4.1,s3.1,s2.1,s1.1]
 have z5:IsZip g5 z TI TO .ellipsis:=s5.extBut _ _ D.TOz.symm (s4.extBut _ _ D.i2z.symm (s3.extBut _ _ D.TOz.symm (s2.extBut _ _ D.i1z.symm e1)));have k5:∀ c o,c≠z->c≠TO->c≠i1->c≠i2->s.heap.get? c=some o->g5.get? c=some o:=fun c o c1 c2 c3 c4 e =>
  s5.extBut _ _ c2 (s4.extBut _ _ c4 (s3.extBut _ _ c2 (s2.extBut _ _ c3 (s1.extBut _ _ c1 e))))
 have n1:g5.IsListIter i1 l1 (k1+1):=((f1.extBut s3.extBut D.TOi1.symm).extBut s4.extBut D.i12).extBut s5.extBut D.TOi1.symm;have n2:g5.IsStrIter i2 ty y t (k2+1):=f2.extBut s5.extBut D.TOi2.symm;have zl:z<g5.objs.size:=Heap.lt_size z5;show wpAny _ _ (Builtin.SmallTypes.ownedTupleHandOut (.ref z) (.ref g5.objs.size) >>= _) _ _ _;refine wpAny_bind ?_;unfold Builtin.SmallTypes.ownedTupleHandOut;have z6:IsZip (g5.push { cls:=.type "tuple",data:=.seq #[x,.str ⟨#[c]⟩ s.toks] }) z TI TO .ellipsis:=Heap.get?_push_of_some _ z5;refine wpAny_bind (wpAny_setField_rec z6 (by simp) fun g7 z7 s7=>?_)
 replace z7:IsZip g7 z TI TO (rawInt g5.objs.size):=z7
 refine wpAny_setField_rec z7 (by simp) fun g8 z8 s8=>?_
 replace z8:IsZip g8 z TI TO (rawInt g5.objs.size):=z8
 have up:∀ c o,c≠z->g5.get? c=some o->g8.get? c=some o:=fun c o c1 e=>s8.extBut _ _ c1 (s7.extBut _ _ c1 (Heap.get?_push_of_some _ e))
 have t8:IsPair g8 g5.objs.size x (.str ⟨#[c]⟩ s.toks):=s8.extBut _ _ (gm zl) (s7.extBut _ _ (gm zl) (Heap.get?_push_size _ rfl));have y8:g8.objs.size=g5.objs.size+1:=by rw[s8.1,s7.1,Heap.size_push]
 rw[hsz] at z8 t8 y8;refine wpAny_pure ⟨_,rfl,?_⟩;show Q (.ref g5.objs.size) _;rw[hsz];exact hQ g8 z8 (up _ _ D.TOz p5) (n1.at fun o e=>up _ o D.i1z e) (n2.extBut (fun c o h e=>up c o h e) D.i2z) t8 y8 fun c o c1 c2 c3 c4 e=>up c o c1 (k5 c o c1 c2 c3 c4 e)
theorem Ag {Q:Fin->Shared->Prop}(S:iu ty)(hh:A.handled=none)(D:ZipApart z TI TO i1 i2 l1 l1)(hz:IsZip s.heap z TI TO .none)(hTI:IsPair s.heap TI (.ref i1) (.ref i2))(hTO:IsPair s.heap TO a b)
  (h1:s.heap.IsListIter i1 l1 k1) (h2:s.heap.IsStrIter i2 ty y t k2) (hl1:s.heap.IsList l1 xs) (hend:xs[k1]? = none\/y.cps[k2]? = none)
  (hE:∀ h' e,(∀ c o,c≠z->c≠TO->c≠i1->c≠i2->s.heap.get? c=some o->h'.get? c=some o)->(∃ o,h'.get? e=some o/\o.cls = .type "StopIteration")->E (.ref e) { s with heap:=h' }) :
  wpAny (model prog w) A (Builtin.«zip.__next__» ⟨[.ref z],[]⟩) Q E s:=by
 show wpAny _ _ (field (.ref z) 2 >>= _) _ _ _;refine wpAny_bind (wpAny_field hz rfl (x:=.bool false) rfl ?_);show wpAny _ _ (field (.ref z) 3 >>= _) _ _ _;refine wpAny_bind (wpAny_field hz rfl (x:=.ref TI) rfl (wpAny_bind (wpAny_seqItems hTI rfl ?_)));show wpAny _ _ (Builtin.SmallTypes.ownedTupleIsFree (.ref z) >>= _) _ _ _;refine wpAny_bind ?_;unfold Builtin.SmallTypes.ownedTupleIsFree;refine wpAny_bind (wpAny_field hz rfl (x:=.none) rfl (wpAny_pure ?_));simp only[if_true];refine wpAny_bind (wpAny_rule (wpAny_bind (wpAny_field hz rfl (x:=.ref TO) rfl (wpAny_bind (wpAny_setField_rec hz (by simp) fun g1 e1 s1=>?_)))))
 replace e1:IsZip g1 z TI TO .ellipsis:=e1
 refine wpAny_bind ?_;simp only[List.zipIdx_cons,List.zipIdx_nil,List.forIn_cons,List.forIn_nil];refine wpAny_bind (wpAny_bind (wpAny_onRaise ?_));show wpAny _ _ (Builtin.SmallTypes.nextOf (.ref i1) >>= _) _ _ _;cases hx:xs[k1]? with
 |none =>
  refine wpAny_bind (wpAny_nextOf_list_end hh (h1.extBut s1.extBut D.i1z) (hl1.extBut s1.extBut D.l1z) hx fun g2 e s2 ⟨oe,hoe,hce⟩=>?_);have z2:IsZip g2 z TI TO .ellipsis:=s2 _ _ D.i1z.symm e1;have hez:e≠z:=fun x=>by subst x;rw[z2] at hoe;cases hoe;simp at hce
  exact wpAny_setField_rec z2 (by simp) fun g3 _ s3=>hE g3 e (fun c o c1 _ c3 _ x=>s3.extBut _ _ c1 (s2 _ _ c3 (s1.extBut _ _ c1 x))) ⟨oe,s3.extBut _ _ hez hoe,hce⟩
 |some x =>
  have hy:y.cps[k2]? = none:=hend.resolve_left fun h=>by rw[hx] at h;cases h
  refine wpAny_bind (wpAny_nextOf_list_item (h1.extBut s1.extBut D.i1z) (hl1.extBut s1.extBut D.l1z) hx fun g2 f1 s2=>wpAny_pure ?_);have p2:IsPair g2 TO a b:=s2.extBut _ _ D.TOi1 (s1.extBut _ _ D.TOz hTO);refine wpAny_bind (wpAny_seqItems p2 rfl (wpAny_bind (wpAny_updateSeq_pair p2 fun g3 p3 s3=>wpAny_bind (wpAny_letGo (wpAny_pure ?_)))));refine wpAny_bind (wpAny_bind (wpAny_onRaise ?_));show wpAny _ _ (Builtin.SmallTypes.nextOf (.ref i2) >>= _) _ _ _;refine wpAny_bind (S.done hh (((h2.extBut s1.extBut D.i2z).extBut s2.extBut D.i12.symm).extBut s3.extBut D.TOi2.symm) hy fun g4 e s4 ⟨oe,hoe,hce⟩=>?_);have z4:IsZip g4 z TI TO .ellipsis:=s4 _ _ D.i2z.symm (s3.extBut _ _ D.TOz.symm (s2.extBut _ _ D.i1z.symm e1));have hez:e≠z:=fun x=>by subst x;rw[z4] at hoe;cases hoe;simp at hce
  exact wpAny_setField_rec z4 (by simp) fun g5 _ s5=>hE g5 e (fun c o c1 c2 c3 c4 x=>s5.extBut _ _ c1 (s4 _ _ c4 (s3.extBut _ _ c2 (s2.extBut _ _ c3 (s1.extBut _ _ c1 x))))) ⟨oe,s5.extBut _ _ hez hoe,hce⟩
theorem wF {Q:Option Value->Shared->Prop}(S:iu ty)(D:ZipApart z TI TO i1 i2 l1 l1)(hz:IsZip s.heap z TI TO .none)(hTI:IsPair s.heap TI (.ref i1) (.ref i2))(hTO:IsPair s.heap TO a b)
  (h1:s.heap.IsListIter i1 l1 k1) (h2:s.heap.IsStrIter i2 ty y t k2) (hl1:s.heap.IsList l1 xs) (hx:xs[k1]? = some x) (hy:y.cps[k2]? = some c)
  (hQ:∀ h',IsZip h' z TI TO (rawInt s.heap.objs.size)->IsPair h' TO x (.str ⟨#[c]⟩ s.toks)->h'.IsListIter i1 l1 (k1+1)->h'.IsStrIter i2 ty y t (k2+1)->IsPair h' s.heap.objs.size x (.str ⟨#[c]⟩ s.toks)->h'.objs.size=s.heap.objs.size+1 ->
   (∀ c o,c≠z->c≠TO->c≠i1->c≠i2->s.heap.get? c=some o->h'.get? c=some o)->Q (some (.ref s.heap.objs.size)) { s with heap:=h',toks:=s.toks+1 }) :
  wpAny (model prog w) A (pyNext (.ref z)) Q E s:=by
 have hT:s.TypeIs (.ref z) "zip":=⟨_,hz,rfl⟩;unfold pyNext;exact wpAny_bind (wpAny_attempt (wpAny_callSpecial?_slot (name:=Str.ofString "__next__") hT F.slot_zip_next
  (wpAny_call_entry F.slot_zip_next hT F.entry_zip_next
   (xn S D hz hTI hTO h1 h2 hl1 hx hy fun h' a1 a2 a3 a4 a5 a6 a7=>wpAny_pure (hQ h' a1 a2 a3 a4 a5 a6 a7)) (F.args_zip_next_1 _))))
theorem xI {Q:Option Value->Shared->Prop}(S:iu ty)(hh:A.handled=none)(D:ZipApart z TI TO i1 i2 l1 l1)(hz:IsZip s.heap z TI TO .none)(hTI:IsPair s.heap TI (.ref i1) (.ref i2))(hTO:IsPair s.heap TO a b)
  (h1:s.heap.IsListIter i1 l1 k1) (h2:s.heap.IsStrIter i2 ty y t k2) (hl1:s.heap.IsList l1 xs) (hend:xs[k1]? = none\/y.cps[k2]? = none)
  (hQ:∀ h',(∀ c o,c≠z->c≠TO->c≠i1->c≠i2->s.heap.get? c=some o->h'.get? c=some o)->Q none { s with heap:=h' }):wpAny (model prog w) A (pyNext (.ref z)) Q E s:=by
 have hT:s.TypeIs (.ref z) "zip":=⟨_,hz,rfl⟩;unfold pyNext;refine wpAny_bind (wpAny_attempt (wpAny_callSpecial?_slot (name:=Str.ofString "__next__") hT F.slot_zip_next
  (wpAny_call_entry F.slot_zip_next hT F.entry_zip_next (Ag S hh D hz hTI hTO h1 h2 hl1 hend fun h' e hk ⟨o,ho,hc⟩=>?_) (F.args_zip_next_1 _))))
 exact wpAny_bind (wpAny_isInstance (T:="StopIteration") (b:=true) ⟨o,ho,hc⟩ isSubtype_stop (wpAny_pure (hQ _ hk)))
end
section
variable {prog:Program}{w:World}{A:Around}{E:Value->Shared->Prop}{s:Shared}
noncomputable abbrev xW (h:Heap)(l1:Addr)(ty:String)(y:Str)(t:Tok):Heap:=(zipH1 h l1).push { cls:=.type ty,data:=.fields #[.str y t,.int 0 0] }
noncomputable abbrev xB (h:Heap)(l1:Addr)(ty:String)(y:Str)(t:Tok):Heap:=(xW h l1 ty y t).push { cls:=.type "tuple",data:=.seq #[.ref h.objs.size,.ref (zipH1 h l1).objs.size] }
noncomputable abbrev wV (h:Heap)(l1:Addr)(ty:String)(y:Str)(t:Tok):Heap:=(xB h l1 ty y t).push { cls:=.type "tuple",data:=.seq #[.none,.none] }
noncomputable abbrev rG (h:Heap)(l1:Addr)(ty:String)(y:Str)(t:Tok):Heap:=(wV h l1 ty y t).push { cls:=.type "zip",data:=.fields #[.none,.bool false,.bool false,.ref (xW h l1 ty y t).objs.size,.ref (xB h l1 ty y t).objs.size] }
noncomputable abbrev Gives (ty:String)(y:Str)(t:Tok):Prop:=∀{prog:Program}{w:World}{A:Around}{E:Value->Shared->Prop}{s:Shared}{Q:Value->Shared->Prop},Q (.ref s.heap.objs.size) { s with heap:=s.heap.push { cls:=.type ty,data:=.fields #[.str y t,.int 0 0] } }->wpAny (model prog w) A (pyIter (.str y t)) Q E s
theorem uz (l1:Addr)(xs:Array Value){ty:String}{y:Str}{t:Tok}(G:Gives ty y t) :
  Meets (Builtin.«zip.__new__» ⟨[.type "zip",.ref l1,.str y t],[]⟩) (fun _ R s=>s.heap.IsList l1 xs/\R (.ok (.ret (.ref (wV s.heap l1 ty y t).objs.size))) { s with heap:=rG s.heap l1 ty y t }) :=
 .of_wp fun prog w A R s h=>by
  obtain⟨hp,g,d,tk,os⟩:=s;obtain⟨hl1,h⟩:=h;have hsub:=sub_zip;have hL1:Heap.IsList (Shared.heap ⟨hp,g,d,tk,os⟩) l1 xs:=hl1
  wp_walk using wpAny_pyIter_list hL1,G
  exact⟨_,rfl,h⟩
theorem xN {l1:Addr}{xs:Array Value}{ty:String}{y:Str}{t:Tok}{Q:Value->Shared->Prop}(G:Gives ty y t)(hl1:s.heap.IsList l1 xs)
  (h:∀ h',IsZip h' (s.heap.objs.size+4) (s.heap.objs.size+2) (s.heap.objs.size+3) .none->IsPair h' (s.heap.objs.size+2) (.ref s.heap.objs.size) (.ref (s.heap.objs.size+1)) ->
   IsPair h' (s.heap.objs.size+3) .none .none->h'.IsListIter s.heap.objs.size l1 0->h'.IsStrIter (s.heap.objs.size+1) ty y t 0 ->
   (∀ c o,s.heap.get? c=some o->h'.get? c=some o)->Q (.ref (s.heap.objs.size+4)) { s with heap:=h' }) :
  wpAny (model prog w) A (call (.type "zip") [.ref l1,.str y t]) Q E s:=by
 refine callType_new F.called_zip (by decide) (F.typeCall_zip_2 _ _) (F.newCall_zip_2 _ _) (fun obj=>F.args_object_init_3 obj _ _) F.entry_zip_new (uz l1 xs G) ⟨hl1,?_⟩;have z1:(zipH1 s.heap l1).objs.size=s.heap.objs.size+1:=Heap.size_push ..;have z2:(xW s.heap l1 ty y t).objs.size=s.heap.objs.size+2:=by rw[Heap.size_push,z1]
 have z3:(xB s.heap l1 ty y t).objs.size=s.heap.objs.size+3:=by rw[Heap.size_push,z2]
 have z4:(wV s.heap l1 ty y t).objs.size=s.heap.objs.size+4:=by rw[Heap.size_push,z3]
 have g5:(rG s.heap l1 ty y t).get? (wV s.heap l1 ty y t).objs.size=some _:=Heap.get?_push_size _ rfl;have g4:(rG s.heap l1 ty y t).get? (xB s.heap l1 ty y t).objs.size=some _:=Heap.get?_push_of_some _ (Heap.get?_push_size _ rfl);have g3:(rG s.heap l1 ty y t).get? (xW s.heap l1 ty y t).objs.size=some _:=Heap.get?_push_of_some _ (Heap.get?_push_of_some _ (Heap.get?_push_size _ rfl));have g2:(rG s.heap l1 ty y t).get? (zipH1 s.heap l1).objs.size=some _:=Heap.get?_push_of_some _ (Heap.get?_push_of_some _ (Heap.get?_push_of_some _ (Heap.get?_push_size _ rfl)));have g1:(rG s.heap l1 ty y t).get? s.heap.objs.size=some _:=Heap.get?_push_of_some _ (Heap.get?_push_of_some _ (Heap.get?_push_of_some _ (Heap.get?_push_of_some _ (Heap.get?_push_size _ rfl))));show _/\_;rw[z2,z3,z4] at g5;rw[z1,z2] at g3;rw[z3] at g4;rw[z1] at g2;rw[z4];exact⟨⟨_,g5,rfl⟩,h _ g5 g3 g4 ⟨_,g1,rfl,rfl⟩ ⟨_,g2,rfl,rfl⟩ fun c o x=>Heap.get?_push_of_some _ (Heap.get?_push_of_some _ (Heap.get?_push_of_some _ (Heap.get?_push_of_some _ (Heap.get?_push_of_some _ x))))⟩
end
noncomputable def CK (K:Frag)(l:Addr)(y:Str):It:=⟨fun i H=>∃ xs x c,ig K H l xs/\xs[i]? = some x/\y.cps[i]? = some c,
 fun i H v H'=>∃ T x c,v = .ref T/\H T=none/\(∀ xs,ig K H l xs->xs[i]? = some x)/\y.cps[i]? = some c/\H'=upd H T (.tup [x,.str ⟨#[c]⟩]),fun i H=>∃ xs,ig K H l xs/\(xs.length<=i\/y.cps.size<=i)⟩
theorem m9 {h:Heap}{b l:Addr}{i j:Nat}{xs:Array Value}{u v:Value}{ty:String}{y:Str}{t:Tok}(S:iu ty)(hz:IsZip h (b+4) (b+2) (b+3) .none)(hTO:IsPair h (b+3) u v)(h1:h.IsListIter b l i)(h2:h.IsStrIter (b+1) ty y t j)
  (p:h.IsList l xs):ZipApart (b+4) (b+2) (b+3) b (b+1) l l:=by
 obtain⟨o1,e1,c1,_⟩:=h1;obtain⟨o2,e2,c2,_⟩:=h2;obtain⟨o3,e3,c3,_⟩:=p;have a1:=dQ e3 hz (by rw[c3];simp);have a2:=dQ e3 hTO (by rw[c3];simp);have a3:=dQ e3 e1 (by rw[c3,c1];simp);have a4:=dQ e3 e2 (by rw[c3,c2];intro z;injection z with z;exact S.n1 z.symm);exact⟨bT b 2 4 (by decide),bT b 3 4 (by decide),bT b 0 4 (by decide),bT b 1 4 (by decide),bT b 2 3 (by decide),bT b 2 0 (by decide),bT b 2 1 (by decide),bT b 3 0 (by decide),bT b 3 1 (by decide),bT b 0 1 (by decide),a1,a2,a3,a4,a1,a2,a3,a4⟩
theorem wX {P:Program}{w:World}{K:Frag}{elts:List Expr}{x1:Nat}{pos:Pos}{ty:String}(S:iu ty)(l b:Addr)(y:Str)(t:Tok):Turn P w K (.Tuple elts x1 pos) (CK K l y) [b+4,b+2,b+3,b,b+1] (b+4)
  (fun i h=>IsZip h (b+4) (b+2) (b+3) .none/\IsPair h (b+2) (.ref b) (.ref (b+1))/\(∃ u v,IsPair h (b+3) u v)/\h.IsListIter b l i/\h.IsStrIter (b+1) ty y t i) where
 mem:=by simp
 obj:=fun i h st c hc=>by
  obtain⟨hz,hTI,⟨u,v,hTO⟩,h1,h2⟩:=st;simp only[List.mem_cons,List.not_mem_nil,or_false] at hc;rcases hc with rfl | rfl | rfl | rfl | rfl
  ·exact⟨_,hz,fun v z=>by cases z⟩
  ·exact⟨_,hTI,fun v z=>by cases z⟩
  ·exact⟨_,hTO,fun v z=>by cases z⟩
  ·obtain⟨o,e,c,d⟩:=h1;exact⟨o,e,fun v z=>by rw[d] at z;cases z⟩
  ·obtain⟨o,e,c,d⟩:=h2;exact⟨o,e,fun v z=>by rw[d] at z;cases z⟩
 keep:=fun i h h' st k=>by
  obtain⟨hz,hTI,⟨u,v,hTO⟩,h1,⟨o,e,r⟩⟩:=st;exact⟨k _ (by simp) _ hz,k _ (by simp) _ hTI,⟨u,v,k _ (by simp) _ hTO⟩,h1.at fun o z=>k _ (by simp) o z,⟨o,k _ (by simp) o e,r⟩⟩
 item:=by
  intro X hP hw hK hc i pins s σ H E I hf st hg;subst hP hw hK;obtain⟨xs,x,c0,hq,hx,hy⟩:=hg;obtain⟨its,rv,p,_⟩:=I.list hq;obtain⟨u,hu,ru⟩:=rv.get hx;obtain⟨hz,hTI,⟨u0,v0,hTO⟩,h1,h2⟩:=st;have A:=m9 S hz hTO h1 h2 p.isList;have all:∀ c∈[b+4,b+2,b+3,b,b+1],c<s.heap.objs.size:=fun c hc=>by
   have:=Heap.lt_size hz;simp only[List.mem_cons,List.not_mem_nil,or_false] at hc;rcases hc with rfl | rfl | rfl | rfl | rfl
   ·exact cO _ _ 4 this (by decide)
   ·exact cO _ _ 2 this (by decide)
   ·exact cO _ _ 3 this (by decide)
   ·exact cO _ _ 0 this (by decide)
   ·exact cO _ _ 1 this (by decide)
  have sub:∀ c∈[b+4,b+3,b,b+1],c∈[b+4,b+2,b+3,b,b+1]:=fun c hc=>by
   simp only[List.mem_cons,List.not_mem_nil,or_false] at hc ⊢;rcases hc with rfl | rfl | rfl | rfl<;>simp
  refine wF S A hz hTI hTO h1 h2 p.isList (x:=u) (c:=c0) (by simpa using hu) hy fun h' a1 a2 a3 a4 a5 a6 hk=>?_
  have I2:Inv X pins σ (upd H s.heap.objs.size (.tup [x,.str ⟨#[c0]⟩])) { s with heap:=h',toks:=s.toks+1 } :=
   paired (t':=s.toks+1) (ch:=[b+4,b+3,b,b+1]) I ru ⟨_,rfl⟩ a5 (fun c o hc q=>hk c o (fun z=>hc (by simp[z])) (fun z=>hc (by simp[z])) (fun z=>hc (by simp[z])) (fun z=>hc (by simp[z])) q) (fun c hc=>hf c (sub c hc)) fun c hc=>all c (sub c hc)
  have f2:∀ c∈[b+4,b+2,b+3,b,b+1],gJ X pins (upd H s.heap.objs.size (.tup [x,.str ⟨#[c0]⟩])) c:=fun c hc=>by
   obtain⟨f0,f⟩:=hf c hc;exact⟨by rw[aJ (ba (all c hc))];exact f0,f⟩
  refine⟨_,rfl,wpAny_letOwnedTupleGo_zip (s:={ s with heap:=h',toks:=s.toks+1 }) a1 fun h3 hz3 hs3=>?_⟩;refine⟨.ref s.heap.objs.size,_,fR (t':=s.toks+1) (ch:=[b+4]) I2 (fun c o hc q=>hs3.extBut c o (fun z=>hc (by simp[z])) q) (fun c hc=>f2 c (by simp at hc;simp[hc])),rfl,
   ⟨_,x,c0,rfl,I.fresh,fun zs hz=>by rw[I.list_inj hz hq];exact hx,hy,rfl⟩,
   ⟨hz3,hs3.extBut _ _ A.TIz (hk _ _ A.TIz A.TITO A.TIi1 A.TIi2 hTI),⟨_,_,hs3.extBut _ _ A.TOz a2⟩,a3.at fun o z=>hs3.extBut _ o A.i1z z,a4.extBut hs3.extBut A.i2z⟩,fun c hc=>(f2 c hc).1⟩
 done:=by
  intro X hP hw hK hc i pins s σ H E I hf st hg;subst hP hw hK;obtain⟨xs,hq,hx⟩:=hg;obtain⟨its,rv,p,_⟩:=I.list hq;have hl:=rv.length;obtain⟨hz,hTI,⟨u0,v0,hTO⟩,h1,h2⟩:=st;have A:=m9 S hz hTO h1 h2 p.isList;refine xI S (I.ok.hd hc) A hz hTI hTO h1 h2 p.isList ?_ fun h' hk=>⟨rfl,fR (t':=s.toks) (ch:=[b+4,b+3,b,b+1]) I (fun c o hc q=>hk c o (fun z=>hc (by simp[z])) (fun z=>hc (by simp[z])) (fun z=>hc (by simp[z])) (fun z=>hc (by simp[z])) q) fun c hc=>hf c ?_⟩
  ·rcases hx with hx | hx
   ·left;simp;omega
   ·right;simp;omega
  ·simp only[List.mem_cons,List.not_mem_nil,or_false] at hc ⊢;rcases hc with rfl | rfl | rfl | rfl<;>simp
 self:=fun A i s Q E st h=>wpAny_pyIter_zip st.1 h
theorem wR {K:Frag}{P:Addr->Prop}{H0:Hp}{p:Addr}{vs:List V}{ds:List D}{G:List Addr}{y:Str}(h1:Rd H0 p (.lst vs))(h2:aD K H0 ds vs G)(hp:∀ a∈(p::G) ++ [],P a) :
  gH K P H0 (CK K p y) ((ds.zip (y.cps.toList.map fun c=>D.str ⟨#[c]⟩)).map fun z=>.tup [z.1,z.2]) ((p::G) ++ []):=fun H e=>by
 have ep:=e.keep p (hp p (by simp));have h1':Rd H p (.lst vs):=by
  rcases h1 with q | ⟨o,q⟩
  ·exact .inl (ep.trans q)
  ·exact .inr ⟨o,ep.trans q⟩
 have h2':=e.reps h2 fun a ha=>hp a (by simp[ha])
 refine⟨fun i d hd=>?_,⟨vs,.inl h1',?_⟩⟩
 ·obtain⟨d1,c,hd1,hd2,rfl⟩:∃ d1 c,ds[i]? = some d1/\y.cps[i]? = some c/\d = .tup [d1,.str ⟨#[c]⟩]:=by
   rw[List.getElem?_map,aa] at hd;obtain⟨⟨d1,d2⟩,hd,rfl⟩:=hd;rw[List.getElem?_zip_eq_some] at hd;obtain⟨e1,e2⟩:=hd;rw[List.getElem?_map,aa] at e2;obtain⟨c,e2,rfl⟩:=e2;exact⟨d1,c,e1,by simpa using e2,rfl⟩
  obtain⟨v1,g1,a1,b1,c1⟩:=h2'.get hd1;refine⟨⟨vs,v1,c,.inl h1',a1,hd2⟩,fun x H' ⟨T,x',c',e1,e2,e3,e4,e5⟩=>?_⟩;subst e1 e5;have t1:=e3 vs (.inl h1');rw[a1] at t1;cases t1;rw[hd2] at e4;cases e4;have sm:aG H (upd H T (.tup [v1,.str ⟨#[c]⟩])):=aG.new e2;refine⟨sm,g1++([] ++ []),.tup (.inl aS) (.cons (b1.same sm) (.cons (.str _) .nil)),fun z hz=>?_⟩;simp only[List.append_nil] at hz;simp only[List.append_nil];exact ae _ (c1.subset hz)
 ·rw[aj,List.length_zip,h2.len,aj,show y.cps.toList.length=y.cps.size from rfl];omega
theorem rM {d:D}{l:List D}(h:sU d=some l):d = .lst l\/∃ y,d = .str y/\l=y.cps.toList.map fun c=>D.str ⟨#[c]⟩:=by
 cases d<;>simp[sU] at h
 ·exact .inr ⟨_,rfl,h.symm⟩
 ·rw[h];exact .inl rfl
section
variable {X:Cx}{T:Tb}
theorem yU {e f:Expr}{c d:Ex}{elts:List Expr}{x1:Nat}{p tp pos:Pos}(hg:Gl X "zip") (hm:X.mg "zip" = none) (ha:PA X [e,f] (pF X.K T (.cons c (.cons d .nil)))) (hs:starEach [e,f] X.env=(false,eval e X.env)::starEach [f] X.env) (hpl:(backTo pos (starEach [f] X.env)).any (·.1)=false):PI X (.Tuple elts x1 tp) (.Call (.Name "zip" p) [e,f] [] pos) (tI X.K T (.zip c d)):=by
 intro pins s σ H R I hq;obtain⟨P,env,F,re,q,hev,k⟩:=hq;unfold dN at hev;obtain⟨r,h1,hev⟩:=Rs.bind_ok hev;obtain⟨t,h2,hev⟩:=Rs.bind_ok hev;obtain⟨l,h3,hev⟩:=Rs.bind_ok hev;obtain⟨m,h4,hev⟩:=Rs.bind_ok hev;have h3:=kL (bS h3);cases hev;have hl:bK T (.cons c (.cons d .nil)) env = .ok [r,t]:=by unfold bK;rw[h1];unfold bK;rw[h2];unfold bK;rfl
 refine Call_ (i0 I hg hm boot_zip (dq (cN (ha pos pins s σ H (fun vs H'=>∃ G,Args X.K env F H H' [r,t] vs G) I ⟨P,env,F,re,[r,t],hl,fun vs H' G ar=>⟨G,ar⟩⟩) fun us s1 ⟨vs,H1,I1,r1,G,ar⟩=>?_) hs hpl));have rs:aD X.K H1 [r.1,t.1] vs G:=ar.reps;rw[h3] at rs;rcases rM (bS h4) with e4 | ⟨y,e4,rfl⟩
 rotate_left
 ·rw[e4] at rs;cases rs with
  |cons rp rs =>
   obtain⟨x',rfl,rp'⟩:=rs.of1;obtain⟨a,vs,g,rfl,rfl,a1,a2⟩:=rp.lst_inv;obtain⟨rfl,rfl⟩:=rp'.str_inv;obtain⟨u,v,rfl,ru,rv⟩:=r1.two;cases ru;obtain⟨tk,rfl⟩:=rv;obtain⟨its,_,pl,_⟩:=I1.list (.inl a1);have go:∀{ty:String},iu ty->Gives ty y tk->wpAny (model X.prog X.w) X.A (call (.type "zip") [.ref a,.str y tk]) (fun v s1=>wpAny (model X.prog X.w) X.A (pyIter v) (yM X pins σ (.Tuple elts x1 tp) R) X.xe s1) X.xe s1:=fun {ty} S G=>by
    refine xN G pl.isList fun h' q1 q2 q3 q4 q5 hk=>wpAny_pyIter_zip q1 ⟨_,_,_,_,H1,rfl,I1.kept (t':=s1.toks) hk,wX S a s1.heap.objs.size y tk,⟨q1,q2,⟨_,_,q3⟩,q4,q5⟩,fun b hb=>?_,
     k _ H1 _ ar.same (jg ar fun q hq=>by simpa[aT] using hq) (fun b hb=>?_) fun P' hP=>wR a1 a2 hP⟩
    ·simp only[List.mem_cons,List.not_mem_nil,or_false] at hb;have hb:s1.heap.objs.size<=b:=qk _ _ hb;exact I1.fpOk hb (I1.hok.fresh hb)
    ·rw[az] at hb;exact rp.nn hb
   cases ha:y.cps.all (· < 128)
   ·exact go xj fun h=>wpAny_pyIter_wide ha h
   ·exact go wY fun h=>wpAny_pyIter_ascii ha h
 rw[e4] at rs;cases rs with
 |cons rp rs =>
  obtain⟨x',rfl,rp'⟩:=rs.of1;obtain⟨a,vs,g,rfl,rfl,a1,a2⟩:=rp.lst_inv;obtain⟨a',vs',g',rfl,rfl,a1',a2'⟩:=rp'.lst_inv;obtain⟨u,v,rfl,ru,rv⟩:=r1.two;cases ru;cases rv;obtain⟨its,_,pl,_⟩:=I1.list (.inl a1);obtain⟨its',_,pl',_⟩:=I1.list (.inl a1');refine call_zip_2 pl.isList pl'.isList fun h' q1 q2 q3 q4 q5 q6 hk=>wpAny_pyIter_zip q1 ⟨_,_,_,_,H1,rfl,I1.kept (t':=s1.toks) hk,vt a a' s1.heap.objs.size,⟨q1,q2,⟨_,_,q3⟩,q4,q5⟩,fun b hb=>?_,
   k _ H1 _ ar.same (jg ar fun q hq=>by simpa[aT] using hq) (fun b hb=>?_) fun P' hP=>uL a1 a2 a1' a2' hP⟩
  ·simp only[List.mem_cons,List.not_mem_nil,or_false] at hb;have hb:s1.heap.objs.size<=b:=qk _ _ hb;exact I1.fpOk hb (I1.hok.fresh hb)
  ·rcases List.mem_append.mp hb with hb | hb
   ·exact rp.nn hb
   ·exact rp'.nn hb
end
section
variable {prog:Program}{w:World}{A:Around}{E:Value->Shared->Prop}{s:Shared}
end
section
variable {X:Cx}{T:Tb}
end
section
variable {X:Cx}{T:Tb}
end
section
variable {prog:Program}{w:World}{A:Around}{R:Result->Shared->Prop}{it:Addr}{fp wr:List Addr}{n:Nat}{P:Nat->Value->Prop}{Sta:Nat->Heap->Prop}{dv:Value}{bx:Addr}
end
section
variable {X:Cx}{T:Tb}
end
section
variable {prog:Program}{w:World}{A:Around}{R:Result->Shared->Prop}{it:Addr}{fp wr:List Addr}{n:Nat}{P:Nat->Value->Prop}{Sta:Nat->Heap->Prop}{bx:Addr}{val:Nat->Value}{lt:Nat->Nat->Bool}{h0:Heap}
end
section
variable {X:Cx}{pins:List (Addr×Obj)}{σ:L2.St}{H:Hp}{s:Shared}
end
section
variable {X:Cx}
end
section
variable {X:Cx}
theorem r6:fL X (.type "int") (pI X.K .int):=by
 intro pins s σ H xs us Q I r h;obtain⟨ds,d,G,rs,hd,k⟩:=h
 match ds,hd with
 |[.str z],hd =>
  obtain⟨x,rfl,rp⟩:=rs.of1;obtain⟨rfl,rfl⟩:=rp.str_inv;obtain⟨u,rfl,⟨t,rfl⟩⟩:=r.one;have hd:(if z.length<=640 then (PySem.intText? z).map D.int else none)=some d:=hd;by_cases hz:z.length<=640
  ·rw[if_pos hz,aa] at hd;obtain⟨n,hn,rfl⟩:=hd;exact PySem.W.KIN.call_text hn hz ⟨.int n,H,I.tok _,⟨_,rfl⟩,k _ H [] (.int n) fP.nil⟩
  ·rw[if_neg hz] at hd;cases hd
 |[.int i],hd =>
  cases hd;obtain⟨x,rfl,rp⟩:=rs.of1;obtain⟨rfl,rfl⟩:=rp.int_inv;obtain⟨u,rfl,⟨t,rfl⟩⟩:=r.one;exact call_int_int ⟨.int i,H,I,⟨_,rfl⟩,k _ H [] (.int i) fP.nil⟩
 |[.bl b],hd =>
  cases hd;obtain⟨x,rfl,rp⟩:=rs.of1;obtain⟨rfl,rfl⟩:=rp.bl_inv;obtain⟨u,rfl,ru⟩:=r.one;cases ru;exact call_int_bool ⟨.int _,H,I.tok _,⟨_,rfl⟩,k _ H [] (.int _) fP.nil⟩
end
section
variable {X:Cx}
theorem kG:∀{xs:List D}{k:List Str},nK xs=some k->xs=k.map D.str
 |[],k,h=>by cases h;rfl
 | .str i::r,k,h=>by
  have h:(nK r).map (i :: ·)=some k:=h;rw[aa] at h;obtain⟨k',h1,rfl⟩:=h;rw[kG h1];rfl
theorem jI {K:Frag}{H:Hp}:∀{ns:List Str}{vs:List V}{G:List Addr}{us:List Value},aD K H (ns.map D.str) vs G->aK vs us->StrsAre us ns
 |[],_,_,_,.nil,.nil=>.nil
 | n::ns,_,_,_,.cons h r,.cons x y=>by
  obtain⟨rfl,_⟩:=h.str_inv;obtain⟨t,rfl⟩:=x;exact .cons _ _ (jI r y)
def rJoin (K:Frag):V->List V->Hp->VK->Prop:=fun x xs H Q=>∃(z:Str) (p:Addr) (ys:List Str) (G:List Addr),x = .str z/\xs=[.ref p]/\Rep K H (.lst (ys.map .str)) (.ref p) G/\(ys.map (·.length)).sum+ys.length*z.length<=lim/\Q (.str (Str.join z ys)) H
theorem vN:Bj X "str.join" (rJoin X.K):=by
 intro pins s σ H x xs v us Q I rx r h;obtain⟨z,p,ys,G,rfl,rfl,rp,hl,q⟩:=h;obtain⟨t,rfl⟩:=rx;obtain⟨u,rfl,ru⟩:=r.one;cases ru;obtain⟨p',vs,g,e,rfl,a1,a2⟩:=rp.lst_inv;cases e;obtain⟨its,rv,pl,_⟩:=I.list (.inl a1);refine join_list pl.isList (by simpa using jI a2 rv) (Nat.le_trans hl (by decide)) fun t' k=>⟨.str _,H,I.kept (t':=k) fun b o e=>e,?_,q⟩
 show RelV (.str _) (.str (Builtin.Str.glued z ys) t');rw[StrLaws.glued_eq_join];exact⟨t',rfl⟩
theorem qZ {T:Tb}{co ce:Ex}{σ:L2.St}{H:Hp}{Q:VK}(h:tE X.K T (.mth .sjoin co (.cons ce .nil)) σ H Q):tBM X.K "str" (rJoin X.K) (tE X.K T co) (pF X.K T (.cons ce .nil)) σ H Q:=by
 obtain⟨P,env,F,re,p,hev,k⟩:=h;unfold ev at hev;obtain⟨q,h1,hev⟩:=Rs.bind_ok hev;obtain⟨l,h2,hev⟩:=Rs.bind_ok hev;obtain⟨d,h3,hev⟩:=Rs.bind_ok hev;have h3:=bS h3;cases hev;have inv:∃(z:Str) (ys:List Str),q.1 = .str z/\l.map (·.1)=[.lst (ys.map .str)]/\(ys.map (·.length)).sum+ys.length*z.length<=lim/\d = .str (Str.join z ys):=by
  generalize q.1=a at h3;generalize l.map (·.1)=bs at h3
  match a,bs,h3 with
  |.str z,[.lst xs],h3 =>
   have h3:((nK xs).bind fun ys=>if (ys.map (·.length)).sum+ys.length*z.length<=lim then some (D.str (Str.join z ys)) else none)=some d:=h3;rw[ag] at h3;obtain⟨ys,hy,h3⟩:=h3;by_cases hc:(ys.map (·.length)).sum+ys.length*z.length<=lim
   ·rw[if_pos hc] at h3;cases h3;exact⟨z,ys,rfl,by rw[kG hy],hc,rfl⟩
   ·rw[if_neg hc] at h3;cases h3
 obtain⟨z,ys,e1,e2,hc,rfl⟩:=inv;refine⟨P,env,F,re,q,h1,fun v H1 G s rp rt=>?_⟩;rw[e1] at rp;obtain⟨rfl,rfl⟩:=rp.str_inv;refine⟨rfl,P,env,F,re.same s,l,h2,fun ws H2 G' ar=>?_⟩;have rs:=ar.reps;rw[e2] at rs;obtain⟨x,rfl,rp2⟩:=rs.of1;obtain⟨p',vs,g,rfl,rfl,a1,a2⟩:=id rp2.lst_inv;exact⟨z,p',ys,_,rfl,rfl,rp2,hc,k _ H2 [] (s.trans ar.same) (.str _) bG.nil⟩
def sX:V->List V->Hp->VK->Prop:=fun x xs H Q=>∃ z y:Str,x = .str z/\xs=[.str y]/\0<y.length/\z.length<=lim/\∀ l,H l=none->Q (.ref l) (upd H l (.lst ((gA z y).map V.str)))
theorem lI:∀ l:List (Str×Tok),aK ((l.map (·.1)).map V.str) (strValues l)
 |[]=>.nil
 | (_,t)::l=>.cons ⟨t,rfl⟩ (lI l)
theorem sZ:Bj X "str.split" sX:=by
 intro pins s σ H x xs v us Q I rx r h;obtain⟨z,y,rfl,rfl,hy,hz,q⟩:=h;obtain⟨t,rfl⟩:=rx;obtain⟨u,rfl,⟨t',rfl⟩⟩:=r.one;obtain⟨m,hn,_⟩:=id I.loc;have F:=xA.zk hn;have N:News (xA.mi s.heap) X.env.locals s.heap (xA.ledger s.heap X.env.locals X.env.locals):=fun ⟨a,o⟩ hp=>by
  obtain⟨n1,_,e⟩:=xA.jQ.mp hp;exact⟨e,n1,xA.kg _ _⟩
 have hw:=split_weight z y hy;have hs1:z.length+2<=sizeLine:=by rw[sizeLine_eq];have:lim=1000000:=rfl;omega
 refine splitN1A F N (by rw[dk];omega) (fun l h' k e _ _ pl F' N'=>?_) hs1;have hB:∀ b o,s.heap.get? b=some o->b≠s.heap.objs.size:=fun b o e=>ba (Heap.lt_size e)
 have hv:=lI l;rw[e] at hv;have hI:=ua (t':=k) (o:=.lst ((gA z y).map V.str)) (B:=s.heap.objs.size) I hn F'.ns (fun b o hb e=>N'.get (ae _ (xA.jQ.mpr ⟨hb,hb,e⟩))) hB ⟨by
  rw[aj,sizeLine_eq];show (Txt.split z y).length<=_;have:lim=1000000:=rfl;omega,_,0,hv,N'.get (ai ..)⟩
 refine⟨.ref s.heap.objs.size,_,hI,rfl,q _ ?_⟩;cases e:H s.heap.objs.size with
 |none=>rfl
 |some u =>
  obtain⟨ob,w⟩:=bX.live' (I.hok _ u e);exact absurd rfl (hB _ ob w)
theorem lG {K:Frag}{H:Hp}:∀ ys:List Str,aD K H (ys.map D.str) (ys.map V.str) []
 |[]=>.nil
 |y::ys=>.cons (G:=[]) (G':=[]) (.str y) (lG ys)
theorem pO {T:Tb}{co ce:Ex}{σ:L2.St}{H:Hp}{Q:VK}(h:tE X.K T (.mth .ssplit co (.cons ce .nil)) σ H Q):tBM X.K "str" sX (tE X.K T co) (pF X.K T (.cons ce .nil)) σ H Q:=by
 obtain⟨P,env,F,re,p,hev,k⟩:=h;unfold ev at hev;obtain⟨q,h1,hev⟩:=Rs.bind_ok hev;obtain⟨l,h2,hev⟩:=Rs.bind_ok hev;obtain⟨d,h3,hev⟩:=Rs.bind_ok hev;have h3:=bS h3;cases hev;have inv:∃ z y:Str,q.1 = .str z/\l.map (·.1)=[.str y]/\0<y.length/\z.length<=lim/\d = .lst ((gA z y).map .str):=by
  generalize q.1=a at h3;generalize l.map (·.1)=bs at h3
  match a,bs,h3 with
  |.str z,[.str y],h3 =>
   have h3:(if 0<y.length/\z.length<=lim then some (D.lst ((gA z y).map .str)) else none)=some d:=h3;by_cases hc:0<y.length/\z.length<=lim
   ·rw[if_pos hc] at h3;cases h3;exact⟨z,y,rfl,rfl,hc.1,hc.2,rfl⟩
   ·rw[if_neg hc] at h3;cases h3
 obtain⟨z,y,e1,e2,c1,c2,rfl⟩:=inv;refine⟨P,env,F,re,q,h1,fun v H1 G s rp rt=>?_⟩;rw[e1] at rp;obtain⟨rfl,rfl⟩:=rp.str_inv;refine⟨rfl,P,env,F,re.same s,l,h2,fun ws H2 G' ar=>?_⟩;have rs:=ar.reps;rw[e2] at rs;obtain⟨x,rfl,rp2⟩:=rs.of1;obtain⟨rfl,_⟩:=rp2.str_inv;refine⟨z,y,rfl,rfl,c1,c2,fun b hb=>?_⟩;obtain⟨n1,n2⟩:=hX (K:=X.K) (G0:=G') (lG (H:=H2) (gA z y)) (fun a ha=>nomatch ha) hb;exact k _ _ _ (s.trans (ar.same.trans n2.same)) n1 ((bG.new ar n2 fun _ z=>ak _ z).back s)
end
structure Sc where
 N:List Str
 sc:Scope
 fns:List Str
 se:List Str
 eD:List Str
noncomputable def idxOf:List Str->Str->Option Nat
 |[],_=>none
 |y::r,x=>if y=x then some 0 else (idxOf r x).map (· + 1)
theorem bV:∀{l:List Str}{x:Str}{i:Nat},idxOf l x=some i->l[i]? = some x
 | y::r,x,i,h=>by
  simp only[idxOf] at h;by_cases e:y=x
  ·rw[if_pos e] at h;cases h;rw[e];rfl
  ·rw[if_neg e,aa] at h;obtain⟨j,hj,rfl⟩:=h;simpa using bV hj
noncomputable def cK (sc:Scope)(x:Str):Option NameKind:=sc.names.lookup x
noncomputable def n9 (sc:Scope)(x:Str):Bool:=match cK sc x with
 |some .local=>true
 |some .cell=>true
 |some .free=>true
 |_=>false
noncomputable def je (sc:Scope)(x:Str):Bool:=match cK sc x with
 |some .local=>true
 |some .cell=>true
 |_=>false
noncomputable def qz (sc:Scope)(x:Str):Bool:=match cK sc x with
 |some .globalImplicit=>true
 |_=>false
noncomputable def dP (x:Str):Bool:=!(x==("__debug__" : Str)) && !(x==("__classdict__" : Str)) && !(x==("__name__" : Str))
noncomputable def notStar:Expr->Bool
 |.Starred _ _=>false
 |_=>true
noncomputable def eZ:Expr->Bool
 |.Set _ _ _=>false
 |_=>true
noncomputable def mH:Expr->Bool
 |.Slice _ _ _ _=>false
 |_=>true
noncomputable def gL:Expr->Bool
 |.ListComp _ _ _ _=>true
 |.SetComp _ _ _ _=>true
 |.DictComp _ _ _ _ _=>true
 |_=>false
noncomputable def cA (f:Expr->Option Ex):List Expr->Option kz
 |[]=>some .nil
 |e::es=>if notStar e then (f e).bind fun c=>(cA f es).map fun cs=>.cons c cs else none
noncomputable def Cv (f:Expr->Option Ex)(op:BoolOp):List Expr->Option Ex
 |[]=>none
 |[a]=>f a
 |a::r=>(f a).bind fun c=>(Cv f op r).map fun d=>match op with
  |.And=>.and c d
  |.Or=>.or c d
noncomputable def j6 (S:Sc):List Expr->Option (List Nat)
 |[]=>some []
 |.Name x _::r=>if je S.sc x then (idxOf S.N x).bind fun i=>(j6 S r).map fun is=>i::is else none
 |_::_=>none
noncomputable def ox (S:Sc):Expr->Option iT
 |.Name x _=>if je S.sc x then (idxOf S.N x).map .nm else none
 |.Tuple es _ _=>(j6 S es).map .tp
 |_=>none
noncomputable def uv (f:Expr->Option Ex):Option Expr->Option kx
 |none=>some .none
 |some e=>(f e).map .some
noncomputable def lW (S:Sc)(x:Str):Bool:=qz S.sc x&&S.eD.contains x
noncomputable def isTup:Expr->Bool
 |.Tuple _ _ _=>true
 |_=>false
noncomputable def zW (S:Sc)(f:Expr->Option Ex)(tp:Bool):Expr->Option ou
 | .Call (.Name x p) es [] pos=>if x = "range" then (if lW S "range" then (match cA f es with
   | some (.cons a .nil)=>some (.rng1 a)
   | some (.cons a (.cons b .nil))=>some (.rng2 a b)
   | some (.cons a (.cons b (.cons c .nil)))=>some (.rng3 a b c)
   |_=>none) else none) else if x = "enumerate" then (if lW S "enumerate" && tp then (match es with
   |[e]=>if notStar e then (f e).map .enum else none
   |_=>none) else none) else if x = "reversed" then none else if x = "zip" then (if lW S "zip" && tp then (match es with
   |[e,g]=>if notStar e&&notStar g then (f e).bind fun c=>(f g).map fun d=>.zip c d else none
   |_=>none) else none) else (f (.Call (.Name x p) es [] pos)).map .seq
 |e=>if eZ e then (f e).map .seq else none
noncomputable def bC (sc:Scope):List Str:=(sc.names.filter fun p=>(p.2 == .local || p.2 == .cell)&&p.1 != (".0" : Str)).map (·.1)
noncomputable def bE (sc:Scope):List Str:=(sc.names.filter fun p=>p.2 == .free).map (·.1)
noncomputable def iL:List (Option Nat)->Option (List Nat)
 |[]=>some []
 |some i::r=>(iL r).map (i :: ·)
 |none::_=>none
noncomputable def iU (S:Sc)(sc:Scope):Bool :=
 sc.kind == .function&&sc.names.all (fun p=>p.2 != .cell || cK sc p.1==some .cell)&&sc.names.all (fun p=>p.2 != .local || cK sc p.1==some .local)&&sc.names.all (fun p=>p.2 != .free || (cK sc p.1==some .free&&(cK S.sc p.1==some .cell || cK S.sc p.1==some .free))) &&
 decide (bC sc++bE sc).Nodup
noncomputable def qV (own:Nat):iT->Bool
 |.nm i=>decide (i<own)
 |.tp is=>is.all fun i=>decide (i<own)
noncomputable def CW (x:Str):Option Ad:=if x = "len" then some .len else if x = "all" then some .all else if x = "list" then some .list else if x = "int" then some .int else none
noncomputable def za (t:Str):Option String:=if t = "int" then some "int" else if t = "bool" then some "bool" else if t = "str" then some "str" else if t = "list" then some "list" else if t = "tuple" then some "tuple" else none
noncomputable def Cr (S:Sc)(f:Expr->Option Ex):List Expr->Option Ex
 |[a,.Name t _]=>if qz S.sc t&&S.eD.contains t&&dP t&&notStar a then (za t).bind fun u=>(f a).map fun ca=>.blt (.isi u) (.cons ca .nil) else none
 |_=>none
noncomputable def lL:List Expr->Bool
 | [.Call (.Name r _) [_] [] _]=>r==("reversed" : Str)
 |_=>false
noncomputable def CI (S:Sc)(f:Expr->Option Ex):List Expr->Option Ex
 |_=>none
noncomputable def kT:List Expr->Bool
 | [.Call (.Name r _) _ [] _]=>r==("range" : Str)
 |_=>false
noncomputable def C5 (S:Sc)(f:Expr->Option Ex):List Expr->Option Ex
 |_=>none
noncomputable def qu (S:Sc)(f:Expr->Option Ex)(x:Str)(es:List Expr):Option Ex :=
 if dP x&&qz S.sc x then (match idxOf S.fns x with
  |some i=>(cA f es).map fun cs=>.call i cs
  |none=>if S.eD.contains x then (if x = "isinstance" then Cr S f es else if x = "list"/\lL es=true then CI S f es else if x = "list"/\kT es=true then C5 S f es else match es with
    |[]=>none
    |e::r=>(CW x).bind fun b=>(cA f (e::r)).map fun cs=>.blt b cs) else none) else none
noncomputable def vp (S:Sc)(f:Expr->Option Ex)(x:Str)(a d:Expr)(k:Str):Option Ex :=
 none
noncomputable def sV:Expr->Bool
 |.Name _ _=>true
 |.Subscript _ _ _=>true
 |.Constant _ _ _=>true
 |_=>false
noncomputable def xl (f:Expr->Option Ex)(o:Expr)(name:Str)(es:List Expr)(apos cpos:Pos):Option Ex:=match es with
 |[e]=>if apos.endLine==cpos.line&&sV o then if name = "join" then (f o).bind fun co=>(cA f [e]).bind fun cs=>(match cs with
  |.cons ce .nil=>some (.mth .sjoin co (.cons ce .nil))
  |_=>none)
  else if name = "split" then (f o).bind fun co=>(cA f [e]).bind fun cs=>(match cs with
  |.cons ce .nil=>some (.mth .ssplit co (.cons ce .nil))
  |_=>none)
  else none
  else none
 |_=>none
noncomputable def Dj (f:Expr->Option Ex):List Expr->Option kx
 |[]=>some .none
 |[c]=>(f c).map .some
 |_=>none
noncomputable def nH (S:Sc)(f:Sc->Expr->Option Ex)(elt tg iter:Expr)(ifs:List Expr)(sc:Scope):Option Ex :=
 if iU S sc&&eZ iter then
  (zW S (f S) (isTup tg) iter).bind fun it=>(iL ((bE sc).map (idxOf S.N))).bind fun pick =>
   (ox { S with N:=bC sc++bE sc,sc:=sc } tg).bind fun t=>if qV (bC sc).length t then
    (Dj (f { S with N:=bC sc++bE sc,sc:=sc }) ifs).bind fun c=>(f { S with N:=bC sc++bE sc,sc:=sc } elt).map fun ce=>.comp (bC sc).length pick t it c ce
   else none
 else none
noncomputable def ug (S:Sc)(x:Str):Option Ex:=if dP x then (if n9 S.sc x then (idxOf S.N x).map .var else if qz S.sc x then (idxOf S.se x).map .glb else none) else none
noncomputable def CY:Const->Option Ex
 |.int i=>some (.cst (.int i))
 |.bool b=>some (.cst (.bl b))
 |.none=>some (.cst .non)
 |.str s=>some (.cst (.str s))
 |_=>none
noncomputable def cUn (op:UnaryOp)(o:Option Ex):Option Ex:=match op with
 |.USub=>o.map .neg
 |.Not=>o.map .not
 |_=>none
noncomputable def t5 (f:Expr->Option Ex)(a:Expr)(op:CmpOp)(b:Expr):Option Ex:=if behindInMarks op b then none else (f a).bind fun ca=>(f b).map fun cb=>.cmp op ca cb
noncomputable def xZ (f:Expr->Option Ex)(a:Expr)(op op':CmpOp)(b c:Expr):Option Ex:=none
noncomputable def C7 (f:Expr->Option Ex)(a:Expr):List CmpOp->List Expr->Option Ex
 |[],_=>none
 |[op],bs=>(match bs with
  |[]=>none
  |[b]=>t5 f a op b
  |_::_::_=>none)
 |op::op'::ops,bs=>(match ops with
  |[]=>(match bs with
   |[]=>none
   |[_]=>none
   |b::c::r=>(match r with
    |[]=>xZ f a op op' b c
    |_::_=>none))
  |_::_=>none)
noncomputable def yI (f:Expr->Option Ex)(a b:Expr):Option Ex:=match b with
 |.Slice lo hi st _=>(match st with
  |none=>(f a).bind fun ca=>(uv f lo).bind fun l=>(uv f hi).map fun h=>.sl ca l h
  |some _=>none)
 |b=>if mH b then (f a).bind fun ca=>(f b).map fun cb=>.ix ca cb else none
noncomputable def tR (S:Sc)(f:Expr->Option Ex)(x:Str)(es:List Expr):List Keyword->Option Ex
 |[]=>qu S f x es
 |[⟨k,d,_⟩]=>(match k with
  |none=>none
  |some k=>(match es with
   |[]=>none
   |[a]=>vp S f x a d k
   |_::_::_=>none))
 |_::_::_=>none
noncomputable def uJ (S:Sc)(f:Expr->Option Ex)(g:Expr)(es:List Expr)(ks:List Keyword)(cpos:Pos):Option Ex:=match g with
 |.Name x _=>tR S f x es ks
 |.Attribute o name apos=>(match ks with
  |[]=>xl f o name es apos cpos
  |_::_=>none)
 |_=>none
noncomputable def cLC (S:Sc)(f:Sc->Expr->Option Ex)(elt:Expr)(sc:Scope):List Comprehension->Option Ex
 |[]=>none
 |[⟨tg,iter,ifs,as⟩]=>if as=0 then nH S f elt tg iter ifs sc else none
 |_::_::_=>none
noncomputable def CJ:List (Option Expr)->List Expr->Option Ex
 |_,_=>none
noncomputable def cE:Nat->Sc->Expr->Option Ex
 |0,_,_=>none
 |n+1,S,e=>match e with
  |.Name x _=>ug S x
  |.Constant c _ _=>CY c
  |.BinOp a op b _=>(cE n S a).bind fun ca=>(cE n S b).map fun cb=>.bin op ca cb
  |.UnaryOp op a _=>cUn op (cE n S a)
  |.BoolOp op es _=>Cv (cE n S) op es
  |.Compare a ops bs _=>C7 (cE n S) a ops bs
  |.IfExp c a b _=>(cE n S c).bind fun cc=>(cE n S a).bind fun ca=>(cE n S b).map fun cb=>.ite cc ca cb
  |.List es _=>(cA (cE n S) es).map .lst
  |.Tuple es _ _=>(cA (cE n S) es).map .tup
  |.Subscript a b _=>yI (cE n S) a b
  |.Call g es ks pos=>uJ S (cE n S) g es ks pos
  |.ListComp elt gens sc _=>cLC S (cE n) elt sc gens
  |.Dict ks vs _=>CJ ks vs
  |_=>none
structure Ctx (X:Cx)(S:Sc)(T:Tb):Prop where
 N:X.N=S.N
 nd:S.N.Nodup
 vis:∀ x,n9 S.sc x=true->xY X.env.scope x
 loc:∀ x,je S.sc x=true->Loc X.env.scope x/\(X.fn x=true\/X.env.scope.names.lookup x=some .local)
 gl:∀ x,qz S.sc x=true->Gl X x
 cel:∀ x,(cK S.sc x=some .cell\/cK S.sc x=some .free)->(X.env.kindOf x=some .cell\/X.env.kindOf x=some .free)
 units:X.A.units+40<cLine/\rj X.w X.K
 calm:X.calm=true
 fns:∀ i x,idxOf S.fns x=some i->∃ f fd ps k,i8 X.prog X.w X.K X.mg X.base nT k f fd ps (yr X.K ps.length (T.cl i))/\eE k X.A/\X.mg x=some (.ref f)/\PySem.W.keepIn X.K (.ref f)=true/\Binds X.K fd ps []/\∀ ds r,T.cl i ds = .ok r->ds.length=ps.length
 se:∀ i x,idxOf S.se x=some i->∃ v u,X.mg x=some u/\RelV v u/\∀ H,Rep X.K H (T.gl i) v []
 eD:∀ x,S.eD.contains x=true->X.mg x=none
theorem aV {e:Expr}{es:List Expr}{env:Env}(h:notStar e=true):starEach (e::es) env=(false,eval e env)::starEach es env:=by
 cases e<;>first | rfl | (cases h)
theorem mJ {e:Expr}{env:Env}(h:eZ e=true)(x:Value):foldedSetIterable e env x=pure x:=by
 cases e<;>first | rfl | (cases h)
theorem u9 {e:Expr}(h:mH e=true):mF e:=by
 intro o i;cases e<;>first | rfl | (cases h)
theorem bD {f:Expr->Option Ex}{e:Expr}{es:List Expr}{cs:kz}(h:cA f (e::es)=some cs):notStar e=true/\∃ c d,f e=some c/\cA f es=some d/\cs = .cons c d:=by
 unfold cA at h;by_cases hs:notStar e=true
 ·rw[if_pos hs] at h;rw[ag] at h;obtain⟨c,h1,h2⟩:=h;rw[aa] at h2;obtain⟨d,h2,rfl⟩:=h2;exact⟨hs,c,d,h1,h2,rfl⟩
 ·rw[if_neg hs] at h;cases h
theorem cY {f:Expr->Option Ex}{env:Env}{pos:Pos}:∀{es:List Expr}{cs:kz},cA f es=some cs->(backTo pos (starEach es env)).any (·.1)=false
 |[],cs,_=>rfl
 | e::es,cs,h=>by
  obtain⟨hs,c,d,_,h2,_⟩:=bD h;rw[aV hs];show (false || (backTo pos (starEach es env)).any (·.1))=false;rw[cY h2];rfl
theorem cX {x:Str}(h:dP x=true):(x==("__debug__" : Str))=false/\(x==("__classdict__" : Str))=false/\x≠"__name__":=by
 unfold dP at h;rw[ah,ah] at h;obtain⟨⟨h1,h2⟩,h3⟩:=h;refine⟨by simpa using h1,by simpa using h2,fun e=>?_⟩;subst e;simp at h3
theorem AD {X:Cx}{T:Tb}{c a b:Expr}{cc ca cb:Ex}{pos:Pos}(hc:PT X c (mR X.K T cc))(ha:PT X a (mR X.K T ca))(hb:PT X b (mR X.K T cb)):PT X (.IfExp c a b pos) (mR X.K T (.ite cc ca cb)):=by
 intro pins s σ H Q I h;obtain⟨P,env,F,re,p,bb,hev,ht,k⟩:=h;unfold ev at hev;obtain⟨q,h1,hev⟩:=Rs.bind_ok hev;obtain⟨kb,h2,hev⟩:=Rs.bind_ok hev;refine isTrue_IfExp (cN (hc pins s σ H (fun d H'=>d=kb/\aG H H') I ⟨P,env,F,re,q,kb,h1,bS h2,fun H' s=>⟨rfl,s⟩⟩) fun d s1 ⟨H1,I1,e,s⟩=>?_);subst e;cases d with
 |true=>exact ha pins s1 σ H1 Q I1 ⟨P,env,F,re.same s,p,bb,hev,ht,fun H' s'=>k H' (s.trans s')⟩
 |false=>exact hb pins s1 σ H1 Q I1 ⟨P,env,F,re.same s,p,bb,hev,ht,fun H' s'=>k H' (s.trans s')⟩
theorem uP {T:Tb}{a:Ex}{env:En}{p}(hev:dN T (.rng1 a) env = .ok p):p.2=[]/\∃ l,bK T (.cons a .nil) env = .ok l/\((∃ j,l.map (·.1)=[.int j]/\gu j=true/\p.1=bU 0 1 j.toNat)\/(∃ i j,l.map (·.1)=[.int i,.int j]/\gu i=true/\gu j=true/\p.1=bU i 1 (j - i).toNat) \/
   ∃ i j k,l.map (·.1)=[.int i,.int j,.int k]/\gu i=true/\gu j=true/\k≠0/\k.natAbs<1073741824/\p.1=bU i k (Builtin.Range.rangeSize i j k).toNat):=by
 unfold dN at hev;obtain⟨q,h1,hev⟩:=Rs.bind_ok hev;split at hev
 ·rename_i j hj;split at hev
  ·rename_i ho;cases hev;exact⟨rfl,[q],by unfold bK;rw[h1];unfold bK;rfl,.inl ⟨j,by simp[hj],ho,rfl⟩⟩
  ·cases hev
 ·cases hev
theorem uX {T:Tb}{a b:Ex}{env:En}{p}(hev:dN T (.rng2 a b) env = .ok p):p.2=[]/\∃ l,bK T (.cons a (.cons b .nil)) env = .ok l/\((∃ j,l.map (·.1)=[.int j]/\gu j=true/\p.1=bU 0 1 j.toNat)\/(∃ i j,l.map (·.1)=[.int i,.int j]/\gu i=true/\gu j=true/\p.1=bU i 1 (j - i).toNat) \/
   ∃ i j k,l.map (·.1)=[.int i,.int j,.int k]/\gu i=true/\gu j=true/\k≠0/\k.natAbs<1073741824/\p.1=bU i k (Builtin.Range.rangeSize i j k).toNat):=by
 unfold dN at hev;obtain⟨q,h1,hev⟩:=Rs.bind_ok hev;obtain⟨r,h2,hev⟩:=Rs.bind_ok hev;split at hev
 ·rename_i i j hi hj;split at hev
  ·rename_i ho;cases hev;rw[ah] at ho;exact⟨rfl,[q,r],by unfold bK;rw[h1];unfold bK;rw[h2];unfold bK;rfl,.inr (.inl ⟨i,j,by simp[hi,hj],ho.1,ho.2,rfl⟩)⟩
  ·cases hev
 ·cases hev
theorem t7 {T:Tb}{a b c:Ex}{env:En}{p}(hev:dN T (.rng3 a b c) env = .ok p):p.2=[]/\∃ l,bK T (.cons a (.cons b (.cons c .nil))) env = .ok l/\((∃ j,l.map (·.1)=[.int j]/\gu j=true/\p.1=bU 0 1 j.toNat)\/(∃ i j,l.map (·.1)=[.int i,.int j]/\gu i=true/\gu j=true/\p.1=bU i 1 (j - i).toNat) \/
   ∃ i j k,l.map (·.1)=[.int i,.int j,.int k]/\gu i=true/\gu j=true/\k≠0/\k.natAbs<1073741824/\p.1=bU i k (Builtin.Range.rangeSize i j k).toNat):=by
 unfold dN at hev;obtain⟨q,h1,hev⟩:=Rs.bind_ok hev;obtain⟨r,h2,hev⟩:=Rs.bind_ok hev;obtain⟨t,h3,hev⟩:=Rs.bind_ok hev;split at hev
 ·rename_i i j k hi hj hk;split at hev
  ·rename_i ho;cases hev;simp only[Bool.and_eq_true,bne_iff_ne,decide_eq_true_eq] at ho;exact⟨rfl,[q,r,t],by unfold bK;rw[h1];unfold bK;rw[h2];unfold bK;rw[h3];unfold bK;rfl,.inr (.inr ⟨i,j,k,by simp[hi,hj,hk],ho.1.1.1,ho.1.1.2,ho.1.2,ho.2,rfl⟩)⟩
  ·cases hev
 ·cases hev
def SE (X:Cx)(T:Tb)(e:Expr)(c:Ex):Prop:=PE X e (tE X.K T c)/\PT X e (mR X.K T c)
section
variable {X:Cx}{S:Sc}{T:Tb}
theorem cG {f:Expr->Option Ex}(hf:∀ e c,f e=some c->SE X T e c):∀{es:List Expr}{cs:kz},cA f es=some cs->PA X es (pF X.K T cs)
 |[],cs,h=>by cases h;exact pG
 | e::es,cs,h=>by
  obtain⟨hs,c,d,h1,h2,rfl⟩:=bD h;exact jw (hf e c h1).1 (cG hf h2) (aV hs)
theorem ym {f:Expr->Option Ex}{op:BoolOp}{pos:Pos}(hf:∀ e c,f e=some c->SE X T e c):∀{es:List Expr}{c:Ex},Cv f op es=some c->PE X (.BoolOp op es pos) (tE X.K T c)/\PW X (.BoolOp op es pos) (mR X.K T c)
 |[],c,h=>by cases h
 | [a],c,h=>by
  have h:f a=some c:=h;have ⟨h1,h2⟩:=hf a c h;refine⟨zg h1,?_⟩;cases op with
  |And=>exact xQ h2
  |Or=>exact zO h2
 | a::b::r,c,h=>by
  unfold Cv at h;rw[ag] at h;obtain⟨ca,h1,h2⟩:=h;rw[aa] at h2;obtain⟨cb,h2,h3⟩:=h2;subst h3;have ⟨ia,ta⟩:=hf a ca h1;have ⟨ib,tb⟩:=ym (pos:=pos) hf h2;cases op with
  |And=>exact⟨A1 ia ib,zJ ta tb⟩
  |Or=>exact⟨Dg ia ib,CA ta tb⟩
theorem nh (C:Ctx X S T):∀{es:List Expr}{is:List Nat},j6 S es=some is->Bv X es (fX is)/\(assignEach es X.env).length=is.length/\(assignEach es X.env).findIdx? (·.1)=none:=by
 intro es
 induction es with
 |nil=>intro is h;cases h;exact⟨xU,rfl,rfl⟩
 |cons e es ih =>
  intro is h;cases e with
  |Name x p =>
   unfold j6 at h;by_cases hl:je S.sc x=true
   ·rw[if_pos hl,ag] at h;obtain⟨i,h1,h2⟩:=h;rw[aa] at h2;obtain⟨js,h2,rfl⟩:=h2;obtain⟨a,b,c⟩:=ih h2;have hN:=C.nd;rw[<-C.N] at hN;have hi:=bV h1;rw[<-C.N] at hi;refine⟨uQ (qf hN hi (C.loc x hl).1 (C.loc x hl).2) a,?_,?_⟩
    ·show (assignEach es X.env).length+1=js.length+1;rw[b]
    ·show List.findIdx? (·.1) ((false,_)::assignEach es X.env)=none;rw[List.findIdx?_cons];simp[c]
   ·rw[if_neg hl] at h;cases h
  |_=>cases h
theorem oz (C:Ctx X S T){e:Expr}{t:iT}(h:ox S e=some t):PG X e (nY X.K t):=by
 cases e with
 |Name x p =>
  unfold ox at h;dsimp only at h;by_cases hl:je S.sc x=true
  ·rw[if_pos hl,aa] at h;obtain⟨i,h1,rfl⟩:=h;have hN:=C.nd;rw[<-C.N] at hN;have hi:=bV h1;rw[<-C.N] at hi;exact qf hN hi (C.loc x hl).1 (C.loc x hl).2
  ·rw[if_neg hl] at h;cases h
 |Tuple es a b =>
  unfold ox at h;rw[aa] at h;obtain⟨is,h1,rfl⟩:=h;obtain⟨a,b,c⟩:=nh C h1;exact vq C.calm a b c
 |_=>cases h
theorem uA (C:Ctx X S T){f:Expr->Option Ex}(hf:∀ e c,f e=some c->SE X T e c){tg e:Expr}{it:ou}(h:zW S f (isTup tg) e=some it):PI X tg e (tI X.K T it):=by
 unfold zW at h;split at h
 ·rename_i x p es pos;by_cases hx:x = "range"
  ·subst hx;rw[if_pos rfl] at h;by_cases hg:lW S "range" = true
   ·rw[if_pos hg] at h;have hg2:qz S.sc "range" = true/\S.eD.contains "range" = true:=by
     unfold lW at hg
     rwa [ah] at hg
    cases hc:cA f es with
    |none=>rw[hc] at h;cases h
    |some cs =>
     rw[hc] at h;cases es with
     |nil=>cases hc;cases h
     |cons e0 rest =>
      obtain⟨hs,c0,d0,_,hd,rfl⟩:=bD hc;refine AU rfl (C.gl _ hg2.1) (C.eD _ hg2.2) (cG hf hc) (aV hs) (cY hd) ?_;intro env p hev;cases d0 with
      |nil =>
       cases h;exact uP hev
      |cons c1 d1 =>
       cases d1 with
       |nil =>
        cases h;exact uX hev
       |cons c2 d2 =>
        cases d2 with
        |nil =>
         cases h;exact t7 hev
        |cons c3 d3=>cases h
   ·rw[if_neg hg] at h;cases h
  rw[if_neg hx] at h;by_cases hx:x = "enumerate"
  ·subst hx;rw[if_pos rfl] at h;by_cases hg:(lW S "enumerate" && isTup tg)=true
   ·rw[if_pos hg] at h;rw[ah] at hg;have hg2:qz S.sc "enumerate" = true/\S.eD.contains "enumerate" = true:=by
     have:=hg.1;unfold lW at this
     rwa [ah] at this
    cases tg with
    |Tuple elts x1 tp =>
     split at h
     ·rename_i e0;by_cases hs:notStar e0=true
      ·rw[if_pos hs,aa] at h;obtain⟨c,h1,rfl⟩:=h;exact xF (C.gl _ hg2.1) (C.eD _ hg2.2) (jw (hf _ _ h1).1 pG (aV hs)) (aV hs)
      ·rw[if_neg hs] at h;cases h
     ·cases h
    |_=>cases hg.2
   ·rw[if_neg hg] at h;cases h
  rw[if_neg hx] at h;by_cases hx:x = "reversed"
  ·subst hx;rw[if_pos rfl] at h;cases h
  rw[if_neg hx] at h;by_cases hx:x = "zip"
  ·subst hx;rw[if_pos rfl] at h;by_cases hg:(lW S "zip" && isTup tg)=true
   ·rw[if_pos hg] at h;rw[ah] at hg;have hg2:qz S.sc "zip" = true/\S.eD.contains "zip" = true:=by
     have:=hg.1;unfold lW at this
     rwa [ah] at this
    cases tg with
    |Tuple elts x1 tp =>
     split at h
     ·rename_i e0 e1;by_cases hs:(notStar e0&&notStar e1)=true
      ·rw[if_pos hs,ag] at h;obtain⟨c,h1,h⟩:=h;rw[aa] at h;obtain⟨d,h2,rfl⟩:=h;rw[ah] at hs;exact yU (C.gl _ hg2.1) (C.eD _ hg2.2) (jw (hf _ _ h1).1 (jw (hf _ _ h2).1 pG (aV hs.2)) (aV hs.1)) (aV hs.1) (by rw[aV hs.2];rfl)
      ·rw[if_neg hs] at h;cases h
     ·cases h
    |_=>cases hg.2
   ·rw[if_neg hg] at h;cases h
  ·rw[if_neg hx,aa] at h;obtain⟨c,h1,rfl⟩:=h;exact uE (hf _ _ h1).1
 ·by_cases hn:eZ e=true
  ·rw[if_pos hn,aa] at h;obtain⟨c,h1,rfl⟩:=h;exact uE (hf _ _ h1).1
  ·rw[if_neg hn] at h;cases h
end
theorem fS {env:Env}:∀{names:List (Str×NameKind)}{x:Str}{k:NameKind},names.lookup x=some k->k≠.free ->
  (names.map fun (n,k)=>if (k==NameKind.free&&env.scope.kind == .function&&env.kindOf n==some .cell) then (n,NameKind.cell) else (n,k)).lookup x=some k
 |[],_,_,h,_=>by simp at h
 | (n,k0)::r,x,k,h,hk=>by
  rw[ax];by_cases hc:(k0==NameKind.free&&env.scope.kind == .function&&env.kindOf n==some .cell)=true
  ·simp only[hc,if_true,List.lookup_cons] at h ⊢;cases hx:x==n with
   |true =>
    rw[hx] at h;cases h;rw[ah,ah] at hc;exact absurd (by simpa using hc.1.1) hk
   |false=>rw[hx] at h;exact fS h hk
  ·have hc:(k0==NameKind.free&&env.scope.kind == .function&&env.kindOf n==some .cell)=false:=by simpa using hc
   simp only[hc,Bool.false_eq_true,if_false,List.lookup_cons] at h ⊢;cases hx:x==n with
   |true=>rw[hx] at h;exact h
   |false=>rw[hx] at h;exact fS h hk
theorem jk:∀{l:List (Option Nat)}{p:List Nat},iL l=some p->l=p.map some
 |[],p,h=>by cases h;rfl
 | some i::r,p,h=>by
  simp only[iL,Option.map_eq_some_iff] at h;obtain⟨q,h1,rfl⟩:=h;rw[jk h1];rfl
 |none::r,p,h=>by cases h
theorem jP {S:Sc}{sc:Scope}(h:iU S sc=true):sc.kind = .function/\(∀ y∈sc.names,y.2 = .cell->sc.names.lookup y.1=some .cell)/\(∀ y∈sc.names,y.2 = .local->sc.names.lookup y.1=some .local) /\
  (∀ y∈sc.names,y.2 = .free->sc.names.lookup y.1=some .free/\(cK S.sc y.1=some .cell\/cK S.sc y.1=some .free))/\(bC sc++bE sc).Nodup:=by
 unfold iU at h;simp only[Bool.and_eq_true,List.all_eq_true,Bool.or_eq_true,beq_iff_eq,bne_iff_ne,decide_eq_true_eq,cK] at h;obtain⟨⟨⟨⟨h1,h2⟩,h3⟩,h4⟩,h5⟩:=h;refine⟨h1,fun y hy e=>?_,fun y hy e=>?_,fun y hy e=>?_,h5⟩
 ·rcases h2 y hy with h | h
  ·exact absurd e h
  ·exact h
 ·rcases h3 y hy with h | h
  ·exact absurd e h
  ·exact h
 ·rcases h4 y hy with h | h
  ·exact absurd e h
  ·exact h
section
variable {X:Cx}{S:Sc}{T:Tb}{sc:Scope}{pick:List Nat}
theorem oy (C:Ctx X S T)(h:iU S sc=true)(hp:iL ((bE sc).map (idxOf S.N))=some pick):dA X sc (bC sc++bE sc) (dD (bC sc).length pick):=by
 obtain⟨h1,h2,h3,h4,h5⟩:=jP h;have hp:=jk hp;have hlen:(bE sc).length=pick.length:=by simpa using congrArg List.length hp
 refine⟨h1,h2,h3,by simp[dD,hlen],fun x hx=>C.cel x (h4 _ (PySem.mem_of_lookup hx) rfl).2,fun x hx=>(h4 _ hx rfl).1,fun i j x hi hx=>?_⟩;unfold dD at hi;by_cases hlt:i<(bC sc).length
 ·rw[List.getElem?_append_left (by simpa using hlt),List.getElem?_replicate] at hi;split at hi<;>cases hi
 ·have hle:=gc hlt;rw[List.getElem?_append_right (by simpa using hle),List.length_replicate,<-hp,List.getElem?_map] at hi;rw[List.getElem?_append_right hle] at hx;rw[hx] at hi;simp only[Option.map_some,Option.some.injEq] at hi;have hm:=List.mem_of_getElem? hx;unfold bE at hm;rw[List.mem_map] at hm;obtain⟨p,hp1,rfl⟩:=hm;rw[List.mem_filter] at hp1;have hf:p.2 = .free:=by simpa using hp1.2
  refine⟨(h4 p hp1.1 hf).1,?_⟩;rw[C.N];exact bV hi
theorem rY (C:Ctx X S T)(h:iU S sc=true)(Ca:Addr)(s0:Shared)(H0:Hp)(ex:List Addr):Ctx (inner X sc (bC sc++bE sc) Ca s0 H0 ex) { S with N:=bC sc++bE sc,sc:=sc } T:=by
 obtain⟨h1,h2,h3,h4,h5⟩:=jP h;have keep:∀ x k,sc.names.lookup x=some k->k≠.free->(relabel sc X.env).names.lookup x=some k:=fun x k e hk=>fS e hk
 refine⟨rfl,h5,fun x hx=>?_,fun x hx=>?_,fun x hx=>?_,fun x hx=>?_,C.units,C.calm,C.fns,C.se,C.eD⟩
 ·unfold n9 cK at hx;dsimp only at hx;split at hx
  ·rename_i e;exact .inl (keep _ _ e (by simp))
  ·rename_i e;exact .inr (.inl (keep _ _ e (by simp)))
  ·rename_i e;exact .inr (eK e)
  ·cases hx
 ·unfold je cK at hx;dsimp only at hx;split at hx
  ·rename_i e;exact⟨.inl (keep _ _ e (by simp)),.inr (keep _ _ e (by simp))⟩
  ·rename_i e;exact⟨.inr (keep _ _ e (by simp)),.inl (by show (sc.names.lookup x==some NameKind.cell)=true;rw[e];rfl)⟩
  ·cases hx
 ·unfold qz cK at hx;dsimp only at hx;split at hx
  ·rename_i e;exact keep _ _ e (by simp)
  ·cases hx
 ·unfold cK at hx;rcases hx with hx | hx
  ·exact .inl (keep _ _ hx (by simp))
  ·exact eK hx
end
theorem jd (n d:Nat)(o:Option Int):bI n d o=HT.bI n d o:=by cases o<;>rfl
theorem wc (n d:Nat)(hd:d<=n)(o:Option Int):bI n d o<=n\/∃ i,o=some i/\i<0/\(n:Int)<i+n:=by
 cases o with
 |none=>exact .inl hd
 |some i =>
  left;simp only[bI];split<;>omega
theorem mh {n d:Nat}(hd:d<=n)(o:Option Int):bI n d o<=n:=by
 rcases wc n d hd o with h | ⟨i,_,h1,h2⟩
 ·exact h
 ·omega
theorem Af (lo hi:Option Int)(n:Nat):Builtin.Str.strSliceIndices lo hi 1 n=(List.range (bI n n hi - bI n 0 lo)).map (bI n 0 lo + ·):=by
 unfold Builtin.Str.strSliceIndices;have h1:∀(o:Option Int) (d:Nat),d<=n->(match o with | none=>(d:Int) | some i=>if (1:Int) > 0 then max 0 (min (if i<0 then i+(n:Int) else i) n) else max (-1) (min (if i<0 then i+(n:Int) else i) (n - 1)))=((bI n d o:Nat):Int):=by
  intro o d hd;cases o with
  |none=>rfl
  |some i =>
   simp only[bI];rw[if_pos (by decide)];by_cases hi:i<0
   ·rw[if_pos hi,if_pos hi];omega
   ·rw[if_neg hi,if_neg hi];omega
 have e1:=h1 lo 0 (cx _);have e2:=h1 hi n (aq _);dsimp only;rw[if_pos (by decide),if_pos (by decide)];refine Eq.trans ?_ (sliceRange_one (bI n 0 lo) (bI n n hi));have gen:∀ a b a' b':Int,a=a'->b=b'->sliceRange a b 1=sliceRange a' b' 1:=fun a b a' b' h h'=>by rw[h,h']
 exact gen _ _ _ _ e1 e2
theorem Aq {X:Cx}:yz X (fun x lo hi H Q=>∃ z,x = .str z/\z.length<=lim/\Q (.str ⟨(cut z.cps.toList lo hi).toArray⟩) H):=by
 intro pins s σ H x v vl vu lo hi sl Q I rx hs pl pu h;obtain⟨z,rfl,hzl,q⟩:=h;obtain⟨t,rfl⟩:=rx;have part:∀{v:Value}{o:Option Int},IsPart v o->∃ l:Option (Int×Tok),partValue l=v/\l.map (·.1)=o:=fun h=>by
  cases h with
  |none=>exact⟨none,rfl,rfl⟩
  |int i t=>exact⟨some (i,t),rfl,rfl⟩
 obtain⟨l,rfl,rfl⟩:=part pl;obtain⟨u,rfl,rfl⟩:=part pu;refine⟨"str",_,PySem.F.slot_str_getitem.lookup,typeIs_str s z t,wpAny_getItem_str_slice (l:=l) (u:=u) (st:=none) hs rfl ?_⟩;have hp:slicePicked z l u none=(List.range (bI z.length z.length (u.map (·.1)) - bI z.length 0 (l.map (·.1)))).map (bI z.length 0 (l.map (·.1)) + ·):=Af _ _ _;have hc:(slicePicked z l u none).filterMap (z.cps[·]?)=cut z.cps.toList (l.map (·.1)) (u.map (·.1)):=by
  rw[hp,pick_run];rfl
 unfold sliceMade;split
 ·rename_i hw;have hl:(slicePicked z l u none).length=z.length:=by
   have:=(ah _ _ ▸ hw).2;simpa using this
  rw[hp,aj,List.length_range] at hl;have hz:(⟨(cut z.cps.toList (l.map (·.1)) (u.map (·.1))).toArray⟩:Str)=z:=by
   have a1:=mh (n:=z.length) (cx _) (l.map (·.1));have a2:=mh (n:=z.length) (aq _) (u.map (·.1));have:cut z.cps.toList (l.map (·.1)) (u.map (·.1))=z.cps.toList:=by
    have hlen:z.cps.toList.length=z.length:=rfl;unfold cut;rw[hlen];dsimp only;by_cases h0:z.length=0
    ·have:z.cps.toList=[]:=List.eq_nil_of_length_eq_zero (hlen.trans h0);rw[this];simp
    ·rw[show bI z.length 0 (l.map (·.1))=0 by omega,show bI z.length z.length (u.map (·.1))=z.length by omega,List.drop_zero,Nat.sub_zero];exact et (Nat.le_of_eq hlen)
   rw[this]
  rw[hz] at q;exact⟨.str z,H,I,⟨t,rfl⟩,q⟩
 ·rw[hc];refine⟨?_,.str _,H,I.tok _,⟨_,rfl⟩,q⟩;show (cut z.cps.toList (l.map (·.1)) (u.map (·.1))).toArray.size<=sizeLine;rw[ao];refine bc ?_ (eX hzl);unfold cut;rw[cn,c8];exact bc (gb _ _) (Nat.sub_le _ _)
section
variable {X:Cx}{T:Tb}{a:Expr}{ca:Ex}{lo hi:Option Expr}{cl ch:kx}{pos p2:Pos}
noncomputable def tO (K:Frag)(T:Tb)(c:kx):TO:=fun σ H Q=>∃ P env F,RE K P env σ H F/\∃ o,jc T c env = .ok o/\∀ H',aG H H'->Q o H'
theorem vm {X:Cx}{e:Option Expr}{t t':TO}(h:PO X e t)(k:∀ σ H Q,t' σ H Q->t σ H Q):PO X e t':=fun pins s σ H Q I q=>h pins s σ H Q I (k σ H Q q)
theorem wG:PO X none (tO X.K T .none):=vm wI fun σ H Q ⟨P,env,F,re,o,h,k⟩=>by
 unfold jc at h;cases h;exact k H (aG.refl _)
theorem wK (h:PE X a (tE X.K T ca)):PO X (some a) (tO X.K T (.some ca)):=vm (xh h) fun σ H Q ⟨P,env,F,re,o,h,k⟩=>by
 unfold jc at h;obtain⟨p,h1,h2⟩:=Rs.bind_ok h;refine⟨P,env,F,re,p,h1,fun v H' G s rp rt=>?_⟩;split at h2
 ·rename_i i hi;cases h2;rw[hi] at rp;obtain⟨rfl,rfl⟩:=rp.int_inv;exact⟨i,rfl,k H' s⟩
 ·cases h2
theorem Ct (ha:PE X a (tE X.K T ca))(hl:PO X lo (tO X.K T cl))(hh:PO X hi (tO X.K T ch)):PE X (.Subscript a (.Slice lo hi none p2) pos) (tE X.K T (.sl ca cl ch)):=by
 refine bF (uG (wW.or (Aq.or AE)) ha hl hh) fun σ H Q ⟨P,env,F,re,p,hev,k⟩=>?_
 unfold ev at hev;obtain⟨q,h1,hev⟩:=Rs.bind_ok hev;obtain⟨ol,h2,hev⟩:=Rs.bind_ok hev;obtain⟨oh,h3,hev⟩:=Rs.bind_ok hev;obtain⟨d,h4,hev⟩:=Rs.bind_ok hev;have h4:=bS h4;cases hev;refine⟨P,env,F,re,q,h1,fun v H1 G s rp rt=>⟨P,env,F,re.same s,ol,h2,fun H2 s2=>⟨P,env,F,re.same (s.trans s2),oh,h3,fun H3 s3=>?_⟩⟩⟩;have s23:=s2.trans s3;cases hq:q.1 with
 |lst xs =>
  rw[hq] at rp h4;cases h4;obtain⟨pa,vs,G',rfl,rfl,hr,rs⟩:=Rep.lst_inv (rp.same s23);refine .inl ⟨pa,vs,rfl,.inl hr,fun pn hn=>?_⟩;obtain⟨G1,r1,u1⟩:=rs.drop (bI xs.length 0 ol);obtain⟨G2,r2,u2⟩:=r1.take (bI xs.length xs.length oh - bI xs.length 0 ol);have hc:kB vs ol oh=(vs.drop (bI xs.length 0 ol)).take (bI xs.length xs.length oh - bI xs.length 0 ol):=by
   unfold kB;rw[rs.len,jd,jd]
  rw[hc];have sub:∀ a∈G2,a∈pa::G':=fun a ha=>ae _ (u1.mem (u2.mem ha))
  obtain⟨rp',nv⟩:=hX (G0:=pa::G') r2 sub hn;have ar:Args X.K env F H H3 [q] [.ref pa] ((pa::G') ++ []):=.cons s (by rw[hq];exact rp) rt (.nil s23);rw[az] at ar;exact k _ _ _ ((s.trans s23).trans nv.same) rp' (bG.new ar nv (by simp[aT]))
 |str z =>
  rw[hq] at rp h4;obtain⟨rfl,rfl⟩:=rp.str_inv;have h4:(if z.length<=lim then some (D.str ⟨(cut z.cps.toList ol oh).toArray⟩) else none)=some d:=h4;by_cases hz:z.length<=lim
  ·rw[if_pos hz] at h4;cases h4;exact .inr (.inl ⟨z,rfl,hz,k _ H3 [] (s.trans s23) (.str _) bG.nil⟩)
  ·rw[if_neg hz] at h4;cases h4
 |tup xs =>
  rw[hq] at rp h4;have h4:(if bI xs.length 0 ol=0/\bI xs.length xs.length oh=xs.length then none else some (D.tup (cut xs ol oh)))=some d:=h4;by_cases hw:bI xs.length 0 ol=0/\bI xs.length xs.length oh=xs.length
  ·rw[if_pos hw] at h4;cases h4
  ·rw[if_neg hw] at h4;cases h4;obtain⟨pa,vs,rfl,hr,rs⟩:=Rep.tup_inv (rp.same s23);refine .inr (.inr ⟨pa,vs,rfl,hr,by rw[<-rs.len,<-jd,<-jd];exact hw,fun pn hn=>?_⟩);obtain⟨G1,r1,u1⟩:=rs.drop (bI xs.length 0 ol);obtain⟨G2,r2,u2⟩:=r1.take (bI xs.length xs.length oh - bI xs.length 0 ol);have hc:kB vs ol oh=(vs.drop (bI xs.length 0 ol)).take (bI xs.length xs.length oh - bI xs.length 0 ol):=by
    unfold kB;rw[rs.len,jd,jd]
   rw[hc];obtain⟨rp',nv⟩:=vC (G0:=G) r2 (fun a ha=>u1.mem (u2.mem ha)) hn;have ar:Args X.K env F H H3 [q] [.ref pa] (G ++ []):=.cons s (by rw[hq];exact rp) rt (.nil s23);rw[az] at ar;exact k _ _ _ ((s.trans s23).trans nv.same) rp' (bG.new ar nv (by simp[aT]))
 |_=>rw[hq] at h4;cases h4
end
section
variable {X:Cx}{S:Sc}{T:Tb}
theorem tJ {f:Expr->Option Ex}(hf:∀ e c,f e=some c->SE X T e c){o:Option Expr}{c:kx}(h:uv f o=some c):PO X o (tO X.K T c):=by
 cases o with
 |none=>cases h;exact wG
 |some e =>
  have h:(f e).map kx.some=some c:=h;rw[aa] at h;obtain⟨d,h1,rfl⟩:=h;exact wK (hf e d h1).1
theorem CS {x id:String}{b:Ad}{f:Expr->Option Ex}(hf:∀ e c,f e=some c->SE X T e c){e:Expr}{r:List Expr}{cs:kz}{p pos:Pos}(hr:fL X (.builtin id) (pI X.K b))(hv:bootBuiltins x=some (.builtin id))(hg:Gl X x)(hm:X.mg x=none)(hn:dP x=true)(ha:cA f (e::r)=some cs) :
  PE X (.Call (.Name x p) (e::r) [] pos) (tE X.K T (.blt b cs)):=by
 obtain⟨hs,_,_,_,h2,_⟩:=bD ha;obtain⟨n1,n2,n3⟩:=cX hn;exact bF (gE hr hg hm hv (cG hf ha) n3 n1 (aV hs) (cY h2)) fun σ H Q h=>oa h
theorem B7 {x id:String}{b:Ad}{f:Expr->Option Ex}(hf:∀ e c,f e=some c->SE X T e c){e:Expr}{r:List Expr}{cs:kz}{p pos:Pos}(hr:fL X (.type id) (pI X.K b))(hv:bootBuiltins x=some (.type id))(hg:Gl X x)(hm:X.mg x=none)(hn:dP x=true)(ha:cA f (e::r)=some cs) :
  PE X (.Call (.Name x p) (e::r) [] pos) (tE X.K T (.blt b cs)):=by
 obtain⟨hs,_,_,_,h2,_⟩:=bD ha;obtain⟨n1,n2,n3⟩:=cX hn;exact bF (qT hr hg hm hv (cG hf ha) n3 n1 (aV hs) (cY h2)) fun σ H Q h=>oa h
theorem uT {t:Str}{u:String}(h:za t=some u):u∈gT/\bootBuiltins t=some (.type u):=by
 unfold za at h;split at h
 ·rename_i e;cases h;subst e;exact⟨by decide,boot_int⟩
 split at h
 ·rename_i e;cases h;subst e;exact⟨by decide,boot_bool⟩
 split at h
 ·rename_i e;cases h;subst e;exact⟨by decide,boot_str⟩
 split at h
 ·rename_i e;cases h;subst e;exact⟨by decide,boot_list⟩
 split at h
 ·rename_i e;cases h;subst e;exact⟨by decide,boot_tuple⟩
 cases h
theorem xS (C:Ctx X S T){f:Expr->Option Ex}(hf:∀ e c,f e=some c->SE X T e c){x:Str}{es:List Expr}{c:Ex}{p pos:Pos}(h:qu S f x es=some c):PE X (.Call (.Name x p) es [] pos) (tE X.K T c):=by
 unfold qu at h;by_cases hk:(dP x&&qz S.sc x)=true
 ·rw[if_pos hk] at h;rw[ah] at hk;obtain⟨hn,hg⟩:=hk;have hg:=C.gl x hg;obtain⟨n1,n2,n3⟩:=cX hn;cases hi:idxOf S.fns x with
  |some i =>
   rw[hi] at h;dsimp only at h;rw[aa] at h;obtain⟨cs,h1,rfl⟩:=h;obtain⟨fa,fd,ps,k,FO,hr,hm,hkp,hb,hl⟩:=C.fns i x hi;cases es with
   |nil =>
    cases h1;refine bF (uZ FO hr hg hm hkp hb .nil yy n1) fun σ H Q h=>?_
    have:=lK hl h;obtain⟨P,env,F,re,l,hev,k⟩:=this;unfold bK at hev;cases hev;exact k [] H [] (.nil (aG.refl _))
   |cons e r =>
    obtain⟨hs,_,_,_,h2,_⟩:=bD h1;exact bF (vT FO hr hg hm hkp hb .nil yy (cG hf h1) n1 (aV hs) (cY h2)) fun σ H Q h=>lK hl h
  |none =>
   rw[hi] at h;dsimp only at h;by_cases hb:S.eD.contains x=true
   ·rw[if_pos hb] at h;have hm:=C.eD x hb;by_cases hx:x = "isinstance"
    ·rw[if_pos hx] at h;subst hx;unfold Cr at h;split at h
     ·rename_i a t pt;by_cases hc:(qz S.sc t&&S.eD.contains t&&dP t&&notStar a)=true
      ·rw[if_pos hc] at h;simp only[Bool.and_eq_true] at hc;obtain⟨⟨⟨c1,c2⟩,c3⟩,c4⟩:=hc;rw[ag] at h;obtain⟨u,h1,h2⟩:=h;rw[aa] at h2;obtain⟨ca,h2,rfl⟩:=h2;obtain⟨hu,hbt⟩:=uT h1;obtain⟨m1,m2,m3⟩:=cX c3;refine bF (gE r8 hg hm boot_isinstance (bR (hf a ca h2).1 (bR (qv (v:=.ty u) (C.gl t c1) (C.eD t c2) hbt rfl m3 m1) fA rfl) (aV c4)) n3 n1 (aV c4) rfl) fun σ H Q h=>uV hu h
      ·rw[if_neg hc] at h;cases h
     ·cases h
    ·rw[if_neg hx] at h;by_cases hlr:x = "list"/\lL es=true
     ·rw[if_pos hlr] at h;obtain⟨rfl,_⟩:=hlr;cases h
     rw[if_neg hlr] at h;by_cases hlg:x = "list"/\kT es=true
     ·rw[if_pos hlg] at h;obtain⟨rfl,_⟩:=hlg;cases h
     rw[if_neg hlg] at h;cases es with
     |nil=>cases h
     |cons e r =>
      dsimp only at h;rw[ag] at h;obtain⟨b,h1,h2⟩:=h;rw[aa] at h2;obtain⟨cs,h2,rfl⟩:=h2;unfold CW at h1;split at h1
      ·rename_i e;cases h1;subst e;exact CS hf qY boot_len hg hm hn h2
      split at h1
      ·rename_i e;cases h1;subst e;exact CS hf (rR C.calm) boot_all hg hm hn h2
      split at h1
      ·rename_i e;cases h1;subst e;exact B7 hf (oX C.calm) boot_list hg hm hn h2
      split at h1
      ·rename_i e;cases h1;subst e;exact B7 hf r6 boot_int hg hm hn h2
      cases h1
   ·rw[if_neg hb] at h;cases h
 ·rw[if_neg hk] at h;cases h
theorem y3 {f:Expr->Option Ex}(hf:∀ e c,f e=some c->SE X T e c){o:Expr}{name:Str}{es:List Expr}{c:Ex}{apos cpos:Pos}(h:xl f o name es apos cpos=some c):PE X (.Call (.Attribute o name apos) es [] cpos) (tE X.K T c):=by
 unfold xl at h;split at h
 ·rename_i e;by_cases hk:(apos.endLine==cpos.line&&sV o)=true
  ·rw[if_pos hk] at h;rw[ah] at hk;have hb:attributeBase o name X.env (eval o X.env)=eval o X.env:=by
    obtain⟨_,hk⟩:=hk;cases o<;>first | rfl | (cases hk)
   by_cases hjn:name = "join"
   ·rw[if_pos hjn,ag] at h;subst hjn;obtain⟨co,ho,h⟩:=h;rw[ag] at h;obtain⟨cs,hc,h⟩:=h;obtain⟨ns,ce,d,he,hd,rfl⟩:=bD hc;cases hd;cases h;refine bF (qb PySem.F.plainAttrs_str PySem.F.slot_str_join PySem.F.type_str_join vN (hf o co ho).1 (cG hf hc) hb ?_ hk.1 (aV ns) rfl) fun σ H Q h=>qZ h
    rw[aV ns];rfl
   rw[if_neg hjn] at h;by_cases hsn:name = "split"
   ·rw[if_pos hsn,ag] at h;subst hsn;obtain⟨co,ho,h⟩:=h;rw[ag] at h;obtain⟨cs,hc,h⟩:=h;obtain⟨ns,ce,d,he,hd,rfl⟩:=bD hc;cases hd;cases h;refine bF (qb PySem.F.plainAttrs_str PySem.F.slot_str_split PySem.F.type_str_split sZ (hf o co ho).1 (cG hf hc) hb ?_ hk.1 (aV ns) rfl) fun σ H Q h=>pO h
    rw[aV ns];rfl
   rw[if_neg hsn] at h;cases h
  ·rw[if_neg hk] at h;cases h
 ·cases h
theorem pS {own:Nat}{pick:List Nat}{t:iT}(h:qV own t=true)(i:Nat)(hi:t = .nm i\/∃ is,t = .tp is/\i∈is):(dD own pick)[i]? = some none:=by
 have:i<own:=by
  rcases hi with rfl | ⟨is,rfl,hm⟩
  ·simpa[qV] using h
  ·simp only[qV,List.all_eq_true,decide_eq_true_eq] at h;exact h i hm
 unfold dD;rw[List.getElem?_append_left (by simpa using this),List.getElem?_replicate,if_pos this]
structure kY (X:Cx)(S:Sc)(T:Tb)(elt tg iter:Expr)(ifs:List Expr)(sc:Scope)(c:Ex):Prop where
 ex:∃ pick t it ci ce,c = .comp (bC sc).length pick t it ci ce/\dA X sc (bC sc++bE sc) (dD (bC sc).length pick)/\PI X tg iter (tI X.K T it) /\
  (∀ C s0 H0 ex,PG (inner X sc (bC sc++bE sc) C s0 H0 ex) tg (nY X.K t)/\Be (inner X sc (bC sc++bE sc) C s0 H0 ex) ifs (zK X.K T ci)/\PE (inner X sc (bC sc++bE sc) C s0 H0 ex) elt (tE X.K T ce)) /\
  qV (bC sc).length t=true/\eZ iter=true
theorem kf (C:Ctx X S T){f:Sc->Expr->Option Ex}(hf:∀{X:Cx}{S:Sc},Ctx X S T->∀ e c,f S e=some c->SE X T e c){elt tg iter:Expr}{ifs:List Expr}{sc:Scope}{c:Ex}(h:nH S f elt tg iter ifs sc=some c):kY X S T elt tg iter ifs sc c:=by
 unfold nH at h;by_cases hk:(iU S sc&&eZ iter)=true
 ·rw[if_pos hk] at h;rw[ah] at hk;rw[ag] at h;obtain⟨it,h1,h⟩:=h;rw[ag] at h;obtain⟨pick,h2,h⟩:=h;rw[ag] at h;obtain⟨t,h3,h⟩:=h;by_cases ho:qV (bC sc).length t=true
  ·rw[if_pos ho] at h;rw[ag] at h;obtain⟨ci,h4,h⟩:=h;rw[aa] at h;obtain⟨ce,h5,rfl⟩:=h;refine⟨pick,t,it,ci,ce,rfl,oy C hk.1 h2,uA C (hf C) h1,fun Ca s0 H0 ex=>?_,ho,hk.2⟩;have C':=rY C hk.1 Ca s0 H0 ex;refine⟨oz C' h3,?_,(hf C' elt ce h5).1⟩;unfold Dj at h4;split at h4
   ·cases h4;exact xH
   ·rw[aa] at h4;obtain⟨cc,h4,rfl⟩:=h4;exact wH (hf C' _ cc h4).2
   ·cases h4
  ·rw[if_neg ho] at h;cases h
 ·rw[if_neg hk] at h;cases h
theorem xJ (C:Ctx X S T){elt tg iter:Expr}{ifs:List Expr}{sc:Scope}{c:Ex}{pos:Pos}(h:kY X S T elt tg iter ifs sc c):PE X (.ListComp elt [⟨tg,iter,ifs,0⟩] sc pos) (tE X.K T c):=by
 obtain⟨pick,t,it,ci,ce,rfl,h1,h2,h3,h4,h5⟩:=h;exact bF (vY h1 C.calm h2 h3 (kK (pS h4)) (mJ h5)) fun σ H Q h=>kN h
theorem xM (C:Ctx X S T){f:Expr->Option Ex}(hf:∀ e c,f e=some c->SE X T e c){x kn:Str}{a d:Expr}{c:Ex}{p kp pos:Pos}(h:vp S f x a d kn=some c):PE X (.Call (.Name x p) [a] [⟨some kn,d,kp⟩] pos) (tE X.K T c):=by
 cases h
theorem fG:∀(n:Nat) {X:Cx}{S:Sc}{T:Tb}(C:Ctx X S T) (e:Expr) (c:Ex),cE n S e=some c->SE X T e c:=by
 intro n
 induction n with
 |zero=>intro X S T C e c h;cases h
 |succ n ih =>
  intro X S T C e c h;have ihX:=ih C;cases e with
  |Name x p =>
   have h:ug S x=some c:=h;unfold ug at h;by_cases hn:dP x=true
   ·rw[if_pos hn] at h;obtain⟨n1,n2,n3⟩:=cX hn;by_cases hv:n9 S.sc x=true
    ·rw[if_pos hv,aa] at h;obtain⟨i,h1,rfl⟩:=h;have hi:=bV h1;rw[<-C.N] at hi;have:=zM (T:=T) (pos:=p) hi (C.vis x hv) n1 n2;exact⟨this,cC this fun _=>rfl⟩
    ·rw[if_neg hv] at h;by_cases hg:qz S.sc x=true
     ·rw[if_pos hg,aa] at h;obtain⟨i,h1,rfl⟩:=h;obtain⟨v,u,g1,g2,g3⟩:=C.se i x h1;have:=zf (md (pos:=p) (C.gl x hg) g1 g2 n1) g3;exact⟨this,cC this fun _=>rfl⟩
     ·rw[if_neg hg] at h;cases h
   ·rw[if_neg hn] at h;cases h
  |Constant k x1 p =>
   have h:CY k=some c:=h;cases k with
   |int i=>cases h;exact⟨gM (T:=T) vb fun H=>Rep.int _,cC (gM (T:=T) vb fun H=>Rep.int _) fun _=>rfl⟩
   |bool b=>cases h;exact⟨gM (T:=T) yO fun H=>Rep.bl _,cC (gM (T:=T) yO fun H=>Rep.bl _) fun _=>rfl⟩
   |none=>cases h;exact⟨gM (T:=T) pH fun H=>Rep.non,cC (gM (T:=T) pH fun H=>Rep.non) fun _=>rfl⟩
   |str s=>cases h;exact⟨gM (T:=T) uo fun H=>Rep.str _,cC (gM (T:=T) uo fun H=>Rep.str _) fun _=>rfl⟩
   |_=>cases h
  |BinOp a op b p =>
   have h:((cE n S a).bind fun ca=>(cE n S b).map fun cb=>.bin op ca cb)=some c:=h;rw[ag] at h;obtain⟨ca,h1,h⟩:=h;rw[aa] at h;obtain⟨cb,h2,rfl⟩:=h;have:=z0 (pos:=p) (qd op) (ihX a ca h1).1 (ihX b cb h2).1;exact⟨this,cC this fun _=>rfl⟩
  |UnaryOp op a p =>
   have h:cUn op (cE n S a)=some c:=h;cases op with
   |USub =>
    have h:(cE n S a).map .neg=some c:=h;rw[aa] at h;obtain⟨ca,h1,rfl⟩:=h;have:=yT (pos:=p) (ihX a ca h1).1;exact⟨this,cC this fun _=>rfl⟩
   |Not =>
    have h:(cE n S a).map .not=some c:=h;rw[aa] at h;obtain⟨ca,h1,rfl⟩:=h;exact⟨zL (ihX a ca h1).1,Ah (ihX a ca h1).2⟩
   |_=>cases h
  |BoolOp op es p =>
   have h:Cv (cE n S) op es=some c:=h;have ⟨h1,h2⟩:=ym (pos:=p) ihX h;exact⟨h1,h2.pt⟩
  |Compare a ops bs p =>
   have h:C7 (cE n S) a ops bs=some c:=h;cases ops with
   |nil=>cases h
   |cons op r=>cases r with
    |nil=>cases bs with
     |nil=>cases h
     |cons b r2=>cases r2 with
      |cons _ _=>cases h
      |nil =>
       have h:t5 (cE n S) a op b=some c:=h;unfold t5 at h;by_cases hb:behindInMarks op b=true
       ·rw[if_pos hb] at h;cases h
       ·rw[if_neg hb] at h;have hb:behindInMarks op b=false:=by simpa using hb
        rw[ag] at h;obtain⟨ca,h1,h⟩:=h;rw[aa] at h;obtain⟨cb,h2,rfl⟩:=h;exact⟨yV (qB op C.units) (ihX a ca h1).1 (ihX b cb h2).1 hb,AV C.units (ihX a ca h1).1 (ihX b cb h2).1 hb⟩
    |cons op' r2=>cases r2 with
     |cons _ _=>cases bs<;>cases h
     |nil=>cases bs with
      |nil=>cases h
      |cons b r3=>cases r3 with
       |nil=>cases h
       |cons d r4=>cases r4 with
        |cons _ _=>cases h
        |nil =>
         have h:xZ (cE n S) a op op' b d=some c:=h;cases h
  |IfExp t a b p =>
   have h:((cE n S t).bind fun cc=>(cE n S a).bind fun ca=>(cE n S b).map fun cb=>.ite cc ca cb)=some c:=h;rw[ag] at h;obtain⟨cc,h1,h⟩:=h;rw[ag] at h;obtain⟨ca,h2,h⟩:=h;rw[aa] at h;obtain⟨cb,h3,rfl⟩:=h;exact⟨A3 (ihX t cc h1).2 (ihX a ca h2).1 (ihX b cb h3).1,AD (ihX t cc h1).2 (ihX a ca h2).2 (ihX b cb h3).2⟩
  |List es p =>
   have h:(cA (cE n S) es).map .lst=some c:=h;rw[aa] at h;obtain⟨cs,h1,rfl⟩:=h;have:=zw (pos:=p) (cG ihX h1);exact⟨this,cC this fun _=>rfl⟩
  |Dict ks vs p =>
   have h:CJ ks vs=some c:=h;cases h
  |Tuple es x1 p =>
   have h:(cA (cE n S) es).map .tup=some c:=h;rw[aa] at h;obtain⟨cs,h1,rfl⟩:=h;have:=Ab (pos:=p) (x1:=x1) (cG ihX h1);exact⟨this,cC this fun _=>rfl⟩
  |Subscript a b p =>
   have h:yI (cE n S) a b=some c:=h;by_cases hb:mH b=true
   ·have h:(if mH b then (cE n S a).bind fun ca=>(cE n S b).map fun cb=>.ix ca cb else none)=some c:=by
     cases b<;>first | exact h | cases hb
    rw[if_pos hb] at h;rw[ag] at h;obtain⟨ca,h1,h⟩:=h;rw[aa] at h;obtain⟨cb,h2,rfl⟩:=h;have:=Bn (pos:=p) (wM C.units.2) (ihX a ca h1).1 (ihX b cb h2).1 (u9 hb);exact⟨this,cC this fun _=>rfl⟩
   ·cases b with
    |Slice lo hi st p2 =>
     cases st with
     |none =>
      have h:((cE n S a).bind fun ca=>(uv (cE n S) lo).bind fun l=>(uv (cE n S) hi).map fun h=>.sl ca l h)=some c:=h;rw[ag] at h;obtain⟨ca,h1,h⟩:=h;rw[ag] at h;obtain⟨cl,h2,h⟩:=h;rw[aa] at h;obtain⟨ch,h3,rfl⟩:=h;have:=Ct (pos:=p) (p2:=p2) (ihX a ca h1).1 (tJ ihX h2) (tJ ihX h3);exact⟨this,cC this fun _=>rfl⟩
     |some _=>cases h
    |_=>exact absurd rfl hb
  |Call g es ks pos =>
   have h:uJ S (cE n S) g es ks pos=some c:=h;cases g with
   |Name x p =>
    have h:tR S (cE n S) x es ks=some c:=h;cases ks with
    |nil =>
     have h:qu S (cE n S) x es=some c:=h;have:=xS (p:=p) (pos:=pos) C ihX h;exact⟨this,cC this fun _=>rfl⟩
    |cons k r=>cases r with
     |cons _ _=>obtain⟨_,_,_⟩:=k;cases h
     |nil =>
      obtain⟨k,d,kp⟩:=k;cases k with
      |none=>cases h
      |some kn=>cases es with
       |nil=>cases h
       |cons a r2=>cases r2 with
        |cons _ _=>cases h
        |nil =>
         have h:vp S (cE n S) x a d kn=some c:=h;have:=xM (p:=p) (kp:=kp) (pos:=pos) C ihX h;exact⟨this,cC this fun _=>rfl⟩
   |Attribute o name apos =>
    cases ks with
    |nil =>
     have h:xl (cE n S) o name es apos pos=some c:=h;have:=y3 (apos:=apos) (cpos:=pos) ihX h;exact⟨this,cC this fun _=>rfl⟩
    |cons _ _=>cases h
   |_=>cases h
  |ListComp elt gens sc pos =>
   have h:cLC S (cE n) elt sc gens=some c:=h;cases gens with
   |nil=>cases h
   |cons g r=>cases r with
    |cons _ _=>obtain⟨_,_,_,_⟩:=g;cases h
    |nil =>
     obtain⟨tg,iter,ifs,as⟩:=g;have h:(if as=0 then nH S (cE n) elt tg iter ifs sc else none)=some c:=h;by_cases ha:as=0
     ·rw[if_pos ha] at h;subst ha;have:=xJ (pos:=pos) C (kf C (fun C'=>ih C') h);exact⟨this,cC this fun _=>rfl⟩
     ·rw[if_neg ha] at h;cases h
  |_=>cases h
end
section
variable {X:Cx}{T:Tb}
end
structure mU (X:Cx)(S:Sc)(T:Tb):Prop where
 c:Ctx X S T
 sc:X.env.scope=S.sc
 fn:S.sc.kind = .function
 own:PassesOwn (model X.prog X.w) X.A X.env X.xe
noncomputable def yR (m:Str):Option pf:=if m = "append" then some .append else none
noncomputable def vw (m:Str):Option pf:=none
noncomputable def lC (n:Nat)(S:Sc):Expr->Option (Nat×kx)
 |.Name x _=>if dP x&&n9 S.sc x then (idxOf S.N x).map fun i=>(i,.none) else none
 |_=>none
noncomputable def tM:Expr->Bool
 | .Constant (.bool true) _ _=>true
 |.Tuple _ _ _=>true
 |.IfExp _ _ _ _=>true
 |_=>false
noncomputable def xO (n:Nat)(S:Sc)(tg e:Expr):Option St:=match tg with
 |.Name x px=>match e with
  |.ListComp elt [⟨tg',iter,ifs,0⟩] sc p=>if je S.sc x then (idxOf S.N x).bind fun i=>(cE n S (.ListComp elt [⟨tg',iter,ifs,0⟩] sc p)).map fun c=>.asg (.nm i) c false else none
  |e=>if gL e then none else if je S.sc x then (idxOf S.N x).bind fun i=>(cE n S e).map fun c=>.asg (.nm i) c false else none
 |.Tuple es k p=>if gL e || isTup e then none else (j6 S es).bind fun is=>(cE n S e).map fun c=>.asg (.tp is) c false
 |.Subscript o ix p=>if tM e then none else none
 |_=>none
noncomputable def vK (n:Nat)(S:Sc)(o:Expr)(name:Str)(es:List Expr)(apos cpos:Pos):Option St :=
 if apos.endLine==cpos.line then (if es.isEmpty then (vw name).bind fun m=>(lC n S o).map fun q=>.mut q.1 q.2 m .nil else (yR name).bind fun m=>(lC n S o).bind fun q=>match es with
  |[a]=>(cA (cE n S) [a]).map fun cs=>.mut q.1 q.2 m cs
  |[a,b]=>(cA (cE n S) [a,b]).map fun cs=>.mut q.1 q.2 m cs
  |_=>none)
 else none
noncomputable def pW (n:Nat)(S:Sc)(o:Expr)(name:Str)(es:List Expr)(apos cpos:Pos):Option St:=match es with
 |_=>none
noncomputable def cAug (n:Nat)(S:Sc)(tg:Expr)(op:Operator)(e:Expr):Option St:=none
noncomputable def wa (n:Nat)(S:Sc)(tg e:Expr):Option St:=none
noncomputable def Bb (n:Nat)(S:Sc)(e:Expr):Option St:=if gL e then none else (cE n S e).map .expr
noncomputable def Cf (n:Nat)(S:Sc):Expr->Option St
 |.Constant k x1 p=>(match k with
  |.str _=>some .pass
  |k=>Bb n S (.Constant k x1 p))
 |.Call g es ks cpos=>(match g with
  |.Attribute o name apos=>(match ks with
   |[]=>(match pW n S o name es apos cpos with
    |some c=>some c
    |none=>vK n S o name es apos cpos)
   |k::ks=>Bb n S (.Call (.Attribute o name apos) es (k::ks) cpos))
  |g=>Bb n S (.Call g es ks cpos))
 |e=>Bb n S e
noncomputable def cAs (n:Nat)(S:Sc)(e:Expr):List Expr->Option St
 |[]=>none
 |[tg]=>(match wa n S tg e with
  |some c=>some c
  |none=>xO n S tg e)
 |_::_::_=>none
noncomputable def cRet (n:Nat)(S:Sc):Option Expr->Option St
 |none=>some .retN
 |some e=>(cE n S e).map .ret
noncomputable def qy:iT->bP->Option Nat
 |_,_=>none
theorem uB {t:iT}{cb:bP}{x:Nat}(h:qy t cb=some x):t = .nm x:=by
 cases h
noncomputable def CH (n:Nat)(S:Sc)(tg iter:Expr)(ob:Option bP):List Stmt->Option St
 |[]=>if eZ iter then (ox S tg).bind fun t=>ob.bind fun cb=>(match qy t cb with
  |some x=>(cE n S iter).map fun c=>.forw x c cb
  |none=>(zW S (cE n S) (isTup tg) iter).map fun it=>.forr t it cb) else none
 |_::_=>none
noncomputable def BH (S:Sc):Expr->Option St->Option St
 |_,o=>o
theorem sM {S:Sc}{e:Expr}{o:Option St}{c:St}(h:BH S e o=some c):o=some c:=h
noncomputable def cWhl (n:Nat)(S:Sc)(e:Expr)(ob:Option bP):List Stmt->Option St
 |[]=>none
 |_::_=>none
mutual
noncomputable def cS:Nat->Sc->Stmt->Option St
 |0,_,_=>none
 |n+1,S,st=>match st with
  |.Assign tgs e _=>cAs n S e tgs
  |.AugAssign tg op e _=>cAug n S tg op e
  |.Expr e _=>Cf n S e
  |.Return o _=>cRet n S o
  |.If e a b _=>(cE n S e).bind fun c=>(rW n S a).bind fun ca=>(rW n S b).map fun cb=>.ite c ca cb
  |.For tg iter b oe _=>BH S iter (CH n S tg iter (rW n S b) oe)
  |.While e b oe _=>cWhl n S e (rW n S b) oe
  |.Pass _=>some .pass
  |.Raise _ _ _=>some (.expr (.neg (.cst .non)))
  |_=>none
noncomputable def rW:Nat->Sc->List Stmt->Option bP
 |0,_,_=>none
 |_+1,_,[]=>some .nil
 |n+1,S,s::r=>(cS n S s).bind fun c=>(rW n S r).map fun d=>.cons c d
end
theorem lO {e:Expr}{t:Option Expr}{l:Nat}{env:Env}(h:gL e=false):swapsWith e t l env=pure false:=by
 cases e<;>first | rfl | (cases h)
theorem ro {e t:Expr}{l:Nat}{env:Env}(h:gL e=false):swapsWithSole [t] e l env=pure false:=lO h
section
variable {X:Cx}{S:Sc}{T:Tb}
theorem xR {st:Stmt}:PS X st (tS X.K T (.expr (.neg (.cst .non)))):=by
 intro pins s σ H D I h;obtain⟨P,Z,env,F,re,hz,zp,h⟩:=h;exact h.elim
theorem l7 (C:Ctx X S T){n:Nat}{o:Expr}{q:Nat×kx}(h:lC n S o=some q):PE X o (pX X.K T q.1 q.2):=by
 unfold lC at h;split at h
 ·rename_i x p;by_cases hk:(dP x&&n9 S.sc x)=true
  ·rw[if_pos hk,aa] at h;rw[ah] at hk;obtain⟨i,h1,rfl⟩:=h;obtain⟨n1,n2,n3⟩:=cX hk.1;have hi:=bV h1;rw[<-C.N] at hi;exact A4 hi (C.vis x hk.2) n1 n2
  ·rw[if_neg hk] at h;cases h
 ·cases h
theorem iW {n:Nat}{o:Expr}{q:Nat×kx}{name:Str}{env:Env}(h:lC n S o=some q):attributeBase o name env (eval o env)=eval o env:=by
 unfold lC at h;split at h
 ·rfl
 ·cases h
theorem zV (C:mU X S T){n:Nat}{tg e:Expr}{c:St}{pos:Pos}(h:xO n S tg e=some c):PS X (.Assign [tg] e pos) (tS X.K T c):=by
 have hN:=C.c.nd;rw[<-C.c.N] at hN;unfold xO at h;split at h
 ·rename_i x px;split at h
  ·rename_i elt tg' iter ifs sc p;by_cases hl:je S.sc x=true
   ·rw[if_pos hl,ag] at h;obtain⟨i,h1,h⟩:=h;rw[aa] at h;obtain⟨ce,h2,rfl⟩:=h;have hi:=bV h1;rw[<-C.c.N] at hi;have hsw:swapsWith (.ListComp elt [⟨tg',iter,ifs,0⟩] sc p) (some (.Name x px)) pos.line X.env=pure (X.env.blockKind == .function&&X.env.kindOf x==some .local&&px.line==p.line && !(sc.names.any fun (n,k)=>n==x&&(k == .local || k == .cell))):=rfl;cases hb:(X.env.blockKind == .function&&X.env.kindOf x==some .local&&px.line==p.line && !(sc.names.any fun (n,k)=>n==x&&(k == .local || k == .cell))) with
    |false =>
     rw[hb] at hsw;exact sQ hN hi (C.c.loc x hl).1 (fG n C.c _ _ h2).1 hsw (C.c.loc x hl).2
    |true =>
     rw[hb] at hsw;cases n with
     |zero=>cases h2
     |succ n =>
      have h2:nH S (cE n) elt tg' iter ifs sc=some ce:=h2;obtain⟨pick,t,it,ci,ce',rfl,g1,g2,g3,g4,g5⟩:=kf C.c (fun C'=>fG n C') h2;refine cR (pM g1 C.c.calm g2 g3 (kK (pS g4)) (mJ g5) hN hi (C.c.loc x hl).1 (C.c.loc x hl).2 hsw) fun D σ H h=>?_
      obtain⟨P,Z,env,F,re,hz,zp,h⟩:=h;unfold aN at h;obtain⟨p,hp,h⟩:=dY h;exact kN ⟨P,env,F,re,p,hp,fun v H' G s rp rt=>vH re hz zp s rp rt h⟩
   ·rw[if_neg hl] at h;cases h
  ·by_cases hc:gL e=true
   ·rw[if_pos hc] at h;cases h
   ·rw[if_neg hc] at h;by_cases hl:je S.sc x=true
    ·rw[if_pos hl,ag] at h;obtain⟨i,h1,h⟩:=h;rw[aa] at h;obtain⟨ce,h2,rfl⟩:=h;have hi:=bV h1;rw[<-C.c.N] at hi;exact sQ hN hi (C.c.loc x hl).1 (fG n C.c _ _ h2).1 (lO (by simpa using hc)) (C.c.loc x hl).2
    ·rw[if_neg hl] at h;cases h
 ·rename_i es k p;by_cases hc:(gL e || isTup e)=true
  ·rw[if_pos hc] at h;cases h
  ·rw[if_neg hc,ag] at h;simp only[Bool.or_eq_true,not_or,Bool.not_eq_true] at hc;obtain⟨is,h1,h⟩:=h;rw[aa] at h;obtain⟨ce,h2,rfl⟩:=h;obtain⟨a1,a2,a3⟩:=nh C.c h1;refine vR (vq C.c.calm a1 a2 a3) (fG n C.c _ _ h2).1 (ro hc.1) ?_ rfl;obtain⟨_,hc⟩:=hc;cases e<;>first | rfl | (cases hc)
 ·rename_i o ix p;by_cases ht:tM e=true
  ·rw[if_pos ht] at h;cases h
  rw[if_neg ht] at h;cases h
 ·cases h
theorem AG (C:mU X S T){n:Nat}{o:Expr}{name:Str}{es:List Expr}{c:St}{apos cpos pos:Pos}(h:vK n S o name es apos cpos=some c):PS X (.Expr (.Call (.Attribute o name apos) es [] cpos) pos) (tS X.K T c):=by
 unfold vK at h;by_cases hl:(apos.endLine==cpos.line)=true
 ·rw[if_pos hl] at h;by_cases he:es.isEmpty=true
  ·rw[if_pos he,ag] at h;have he:es=[]:=by simpa using he
   subst he;obtain⟨m,hm,h⟩:=h;rw[aa] at h;obtain⟨q,hq,rfl⟩:=h;have slot:∃ id,PySem.Slot "list" name id/\typeOf (.builtin id)=pure (.type "method_descriptor")/\Bj X id (ve X.K m):=by
    unfold vw at hm;cases hm
   obtain⟨id,s1,s2,s3⟩:=slot;exact cR (jC (zN f9 s1 s2 s3 (l7 C.c hq) (iW hq) hl) rfl) fun D σ H h=>rn h
  rw[if_neg he,ag] at h;obtain⟨m,hm,h⟩:=h;rw[ag] at h;obtain⟨q,hq,h⟩:=h;have slot:∃ id,PySem.Slot "list" name id/\typeOf (.builtin id)=pure (.type "method_descriptor")/\Bj X id (ve X.K m):=by
   unfold yR at hm;split at hm
   ·rename_i e;cases hm;subst e;exact⟨_,PySem.F.slot_list_append,by rfl,pL⟩
   cases hm
  obtain⟨id,s1,s2,s3⟩:=slot;split at h
  ·rename_i a;rw[aa] at h;obtain⟨cs,ha,rfl⟩:=h;obtain⟨n1,c1,d1,_,hd,_⟩:=bD ha;refine cR (jC (qb f9 s1 s2 s3 (l7 C.c hq) (cG (fG n C.c) ha) (iW hq) ?_ hl (aV n1) (cY hd)) rfl) fun D σ H h=>jN h
   rw[aV n1];rfl
  ·rename_i a b;rw[aa] at h;obtain⟨cs,ha,rfl⟩:=h;obtain⟨n1,c1,d1,_,hd,_⟩:=bD ha;obtain⟨n2,_,_,_,_,_⟩:=bD hd;refine cR (jC (qb f9 s1 s2 s3 (l7 C.c hq) (cG (fG n C.c) ha) (iW hq) ?_ hl (aV n1) (cY hd)) rfl) fun D σ H h=>jN h
   rw[aV n1,aV n2];rfl
  ·cases h
 ·rw[if_neg hl] at h;cases h
theorem wu (C:mU X S T){n:Nat}{o:Expr}{name:Str}{es:List Expr}{c:St}{apos cpos pos:Pos}(h:pW n S o name es apos cpos=some c):PS X (.Expr (.Call (.Attribute o name apos) es [] cpos) pos) (tS X.K T c):=by
 cases h
theorem zB (C:mU X S T){n:Nat}{tg e:Expr}{c:St}{pos:Pos}(h:wa n S tg e=some c):PS X (.Assign [tg] e pos) (tS X.K T c):=by
 cases h
theorem yJ (C:mU X S T):∀(n:Nat),(∀(st:Stmt) (c:St),cS n S st=some c->PS X st (tS X.K T c))/\∀(l:List Stmt) (c:bP),rW n S l=some c->ip X l (AQ X.K T c):=by
 intro n
 induction n with
 |zero=>exact⟨fun st c h=>(by cases h),fun l c h=>(by cases h)⟩
 |succ n ih =>
  obtain⟨i1,i2⟩:=ih;refine⟨fun st c h=>?_,fun l c h=>?_⟩
  ·cases st with
   |Assign tgs e p =>
    have h:cAs n S e tgs=some c:=h;cases tgs with
    |nil=>cases h
    |cons tg r=>cases r with
     |cons _ _=>cases h
     |nil =>
      have h:(match wa n S tg e with
       |some c=>some c
       |none=>xO n S tg e)=some c:=h
      cases hp:wa n S tg e with
      |some c'=>rw[hp] at h;cases h;exact zB C hp
      |none=>rw[hp] at h;exact zV C h
   |AugAssign tg op e p=>cases h
   |Expr e p =>
    have h:Cf n S e=some c:=h;have plain:Bb n S e=some c->PS X (.Expr e p) (tS X.K T c):=fun h=>by
     unfold Bb at h;by_cases hc:gL e=true
     ·rw[if_pos hc] at h;cases h
     ·rw[if_neg hc,aa] at h;obtain⟨ce,h1,rfl⟩:=h;exact wx (fG n C.c _ _ h1).1 (lO (by simpa using hc))
    cases e with
    |Constant k x1 q=>cases k with
     |str s=>cases h;exact zi
     |_=>exact plain h
    |Call g es ks q=>cases g with
     |Attribute o name apos=>cases ks with
      |nil =>
       have h:(match pW n S o name es apos q with
        |some c=>some c
        |none=>vK n S o name es apos q)=some c:=h
       cases ha:pW n S o name es apos q with
       |some c'=>rw[ha] at h;cases h;exact wu C ha
       |none=>rw[ha] at h;exact AG C h
      |cons k ks=>exact plain h
     |_=>exact plain h
    |_=>exact plain h
   |Return o p=>cases o with
    |none=>cases h;exact xq
    |some e =>
     have h:(cE n S e).map .ret=some c:=h;rw[aa] at h;obtain⟨ce,h1,rfl⟩:=h;exact An (fG n C.c _ _ h1).1
   |If e a b p =>
    have h:((cE n S e).bind fun c=>(rW n S a).bind fun ca=>(rW n S b).map fun cb=>St.ite c ca cb)=some c:=h;rw[ag] at h;obtain⟨cc,h1,h⟩:=h;rw[ag] at h;obtain⟨ca,h2,h⟩:=h;rw[aa] at h;obtain⟨cb,h3,rfl⟩:=h;exact Ac (fG n C.c _ _ h1).2 (i2 _ _ h2) (i2 _ _ h3)
   |For tg iter b oe p =>
    have key:∀ c,CH n S tg iter (rW n S b) oe=some c->PS X (.For tg iter b oe p) (tS X.K T c):=by
     intro c h;cases oe with
      |cons _ _=>cases h
      |nil =>
       have h:(if eZ iter then (ox S tg).bind fun t=>(rW n S b).bind fun cb=>(match qy t cb with
        |some x=>(cE n S iter).map fun c=>St.forw x c cb
        |none=>(zW S (cE n S) (isTup tg) iter).map fun it=>St.forr t it cb) else none)=some c:=h
       by_cases hs:eZ iter=true
       ·rw[if_pos hs,ag] at h;obtain⟨t,h1,h⟩:=h;rw[ag] at h;obtain⟨cb,h3,h⟩:=h;cases hx:qy t cb with
        |some x =>
         rw[hx] at h;have h:(cE n S iter).map (fun c=>St.forw x c cb)=some c:=h;rw[aa] at h;obtain⟨ci,h2,rfl⟩:=h;have ht:=uB hx;subst ht;cases hx
        |none =>
         rw[hx] at h;have h:(zW S (cE n S) (isTup tg) iter).map (fun it=>St.forr t it cb)=some c:=h;rw[aa] at h;obtain⟨it,h2,rfl⟩:=h;exact Aj C.own C.c.calm (uA C.c (fG n C.c) h2) (oz C.c h1) (i2 _ _ h3) (mJ hs)
       ·rw[if_neg hs] at h;cases h
    exact key c (sM (S:=S) (e:=iter) h)
   |While e b oe p=>cases oe with
    |cons _ _=>cases h
    |nil =>
     cases h
   |Pass p=>cases h;exact xC
   |Raise a b p=>cases h;exact xR
   |_=>cases h
  ·cases l with
   |nil=>cases h;exact vS
   |cons st r =>
    unfold rW at h;rw[ag] at h;obtain⟨cc,h1,h⟩:=h;rw[aa] at h;obtain⟨cb,h3,rfl⟩:=h;exact sj (i1 _ _ h1) (i2 _ _ h3)
end
structure Df where
 nm:Str
 st:Stmt
 ps:List Str
 N:List Str
 body:bP
structure Pg where
 dfs:List Df
 se:List Str
 eD:List Str
 gl:Nat->D
 fuel:Nat
noncomputable def Pg.fns (p:Pg):List Fn:=p.dfs.map fun d=>⟨d.ps.length,d.N.length,d.body⟩
noncomputable def Pg.run (p:Pg):Nat->Nat->List D->Rs (D×Bool):=Pc.run p.fns p.gl p.fuel
noncomputable def Pg.sc (p:Pg)(d:Df):Sc:=⟨d.N,aB d.st,p.dfs.map (·.nm),p.se,p.eD⟩
noncomputable def Df.okB (p:Pg)(n:Nat)(d:Df):Bool :=
 decide ((aB d.st).kind = .function) && !(aB d.st).isCoroutine && !(aB d.st).isGenerator&&decide d.N.Nodup&&decide (d.N.take d.ps.length=d.ps)&&d.ps.all (fun x=>je (aB d.st) x)&&(aB d.st).names.all (fun y=>decide (y.2≠.free))
structure Df.Ok (p:Pg)(d:Df):Prop where
 b:∃ n,rW n (p.sc d) (aY d.st)=some d.body
 S:cH d.N d.ps (aB d.st)
 bd:∀(kV doc pm:Value) (an:Option Addr) (cdv ct:Value) (us:List Value),us.length=d.ps.length->bindArgs (PySem.W.fnOf d.nm d.nm (cU d.st) (aY d.st) (aB d.st) .none kV doc pm an cdv ct) ⟨us,[]⟩=pure (d.ps.zip us)
theorem iC {sc:Scope}{x:Str}(h:je sc x=true):Loc sc x:=by
 unfold je cK at h;split at h
 ·rename_i e;exact .inl e
 ·rename_i e;exact .inr e
 ·cases h
theorem nJ {sc:Scope}{x:Str}(h:n9 sc x=true):xY sc x:=by
 unfold n9 cK at h;split at h
 ·rename_i e;exact .inl e
 ·rename_i e;exact .inr (.inl e)
 ·rename_i e;exact .inr (.inr e)
 ·cases h
theorem pQ {sc:Scope}{x:Str}(h:qz sc x=true):sc.names.lookup x=some .globalImplicit:=by
 unfold qz cK at h;split at h
 ·rename_i e;exact e
 ·cases h
theorem len0 {P:List Value->Prop}{us:List Value}(h:us.length=0)(f:P []):P us:=by
 cases us with
 |nil=>exact f
 |cons a r=>cases h
theorem xr {P:List Value->Prop}{us:List Value}(h:us.length=1)(f:∀ a,P [a]):P us:=by
 cases us with
 |nil=>cases h
 |cons a r=>exact len0 (P:=fun r=>P (a::r)) (Nat.succ.inj h) (f a)
theorem y4 {P:List Value->Prop}{us:List Value}(h:us.length=2)(f:∀ a b,P [a,b]):P us:=by
 cases us with
 |nil=>cases h
 |cons a r=>exact xr (P:=fun r=>P (a::r)) (Nat.succ.inj h) (f a)
theorem len3 {P:List Value->Prop}{us:List Value}(h:us.length=3)(f:∀ a b c,P [a,b,c]):P us:=by
 cases us with
 |nil=>cases h
 |cons a r=>exact y4 (P:=fun r=>P (a::r)) (Nat.succ.inj h) (f a)
theorem Df.ok_of {p:Pg}{d:Df}{n:Nat}(h:d.okB p n=true)(hb:rW n (p.sc d) (aY d.st)=some d.body)
  (bd:∀(kV doc pm:Value) (an:Option Addr) (cdv ct:Value) (us:List Value),us.length=d.ps.length->bindArgs (PySem.W.fnOf d.nm d.nm (cU d.st) (aY d.st) (aB d.st) .none kV doc pm an cdv ct) ⟨us,[]⟩=pure (d.ps.zip us)):d.Ok p:=by
 unfold Df.okB at h;simp only[Bool.and_eq_true,decide_eq_true_eq,Bool.not_eq_true',List.all_eq_true] at h;obtain⟨⟨⟨⟨⟨⟨h1,h2⟩,h3⟩,h4⟩,h5⟩,h6⟩,h7⟩:=h;exact⟨⟨n,hb⟩,⟨h1,h2,h3,h4,h5,fun x hx=>iC (h6 x hx),h7⟩,bd⟩
structure Pg.In (p:Pg)(K:Frag)(mg:Str->Option Value):Prop where
 fn:∀(i:Nat) (d:Df),p.dfs[i]? = some d->∃ f fd,L2.qJ K d.nm d.nm d.st f fd/\mg d.nm=some (.ref f)
 gl:∀ i x,idxOf p.se x=some i->∃ v u,mg x=some u/\RelV v u/\∀ H,Rep K H (p.gl i) v []
 blt:∀ x,p.eD.contains x=true->mg x=none
theorem jj {ds:List D}{n i:Nat}{d:D}{t:Tg}(h:(aO ds n)[i]? = some (some (d,t))):ds[i]? = some d/\t=cF d []:=by
 unfold aO at h;by_cases hi:i<ds.length
 ·rw[List.getElem?_append_left (by simpa using hi),List.getElem?_map] at h;rw[List.getElem?_eq_getElem hi] at h ⊢;simp only[Option.map_some,Option.some.injEq,Prod.mk.injEq] at h;obtain⟨h1,h2⟩:=h;subst h1;exact⟨rfl,h2.symm⟩
 ·rw[List.getElem?_append_right (by simpa using Nat.le_of_not_lt hi),List.getElem?_replicate] at h;split at h<;>cases h
theorem aD.parts {K:Frag}{H:Hp}:∀{ds:List D}{vs:List V}{G:List Addr},aD K H ds vs G->∃ F:Nat->List Addr,(∀ i d,ds[i]? = some d->∃ v,vs[i]? = some v/\Rep K H d v (F i))/\(∀ i,ds[i]? = none->F i=[])/\∀ i,∀ a∈F i,a∈G
 |_,_,_,.nil=>⟨fun _=>[],fun i d h=>(by simp at h),fun _ _=>rfl,fun _ _ h=>(nomatch h)⟩
 | _,_,_,.cons (d:=d) (v:=v) (ds:=ds) (vs:=vs) (G:=G1) (G':=G2) r s=>by
  obtain⟨F,h1,h2,h3⟩:=aD.parts s;refine⟨fun i=>match i with | 0=>G1 | j+1=>F j,fun i e h=>?_,fun i h=>?_,fun i a h=>?_⟩
  ·cases i with
   |zero=>cases h;exact⟨v,rfl,r⟩
   |succ j=>exact h1 j e (by simpa using h)
  ·cases i with
   |zero=>cases h
   |succ j=>exact h2 j (by simpa using h)
  ·cases i with
   |zero=>exact ay _ h
   |succ j=>exact ak _ (h3 j a h)
theorem entry {K:Frag}{H:Hp}{ds:List D}{vs:List V}{G:List Addr}{N:List Str}(hr:aD K H ds vs G)(hl:ds.length<=N.length):∃ F,RE K (fun a=>H a≠none) (aO ds N.length) (L2.start N vs) H F/\∀ i,∀ a∈F i,a∈G:=by
 obtain⟨F,h1,h2,h3⟩:=hr.parts;have flat:∀ i d t,(aO ds N.length)[i]? = some (some (d,t))->aX t=true->F i=[]:=fun i d t h o=>by
  obtain⟨e1,e2⟩:=jj h;obtain⟨v,_,rp⟩:=h1 i d e1;unfold cF at e2;by_cases hf:d.flat=true
  ·exact rp.flat hf
  ·rw[if_neg hf] at e2;subst e2;cases o
 refine⟨F,⟨?_,fun i d t h=>?_,fun i h=>?_,fun i d t h o=>?_,fun i d h a ha=>?_,fun a h=>h⟩,h3⟩
 ·simp only[aO,L2.start,List.length_append,List.length_map,List.length_replicate,hr.len]
 ·obtain⟨e1,e2⟩:=jj h;obtain⟨v,e3,rp⟩:=h1 i d e1;refine⟨v,?_,rp⟩;unfold L2.start;have hi:i<vs.length:=(List.getElem?_eq_some_iff.mp e3).1;rw[List.getElem?_append_left (by simpa using hi),List.getElem?_map,e3];rfl
 ·cases e:ds[i]? with
  |none=>exact h2 i e
  |some d =>
   refine absurd ?_ (h d (cF d []));unfold aO;have hi:i<ds.length:=(List.getElem?_eq_some_iff.mp e).1;rw[List.getElem?_append_left (by simpa using hi),List.getElem?_map,e];rfl
 ·rw[flat i d t h o];exact⟨bo,fun _ h=>(nomatch h),fun _ h=>(nomatch h)⟩
 ·rw[flat i d _ h rfl] at ha;cases ha
theorem kH {α:Type}{g:α->Str}:∀{l:List α}{x:Str}{i:Nat},idxOf (l.map g) x=some i->∃ a,l[i]? = some a/\g a=x:=by
 intro l x i h;have:=bV h;rw[List.getElem?_map,aa] at this;exact this
theorem gF {H H':Hp}(e:iE (fun a=>H a≠none) H H'):aG H H':=fun b u h=>(e.keep b (by rw[h];exact fun z=>(by cases z))).trans h
section
variable {p:Pg}{P:Program}{w:World}{K:Frag}{mg:Str->Option Value}{base:Heap}
end
noncomputable def noL (K:Frag):Bool:=K.all fun p=>match p.2.cls with
 |.type n=>!(n == "list")
 |_=>true
theorem lookup_mem:∀{K:Frag}{a:Addr}{o:Obj},K.lookup a=some o->(a,o)∈K
 |[],_,_,h=>by cases h
 | (b,x)::r,a,o,h=>by
  rw[bz] at h;cases e:a==b with
  |true =>
   rw[e] at h;cases h;rw[fb] at e;rw[e];exact ai
  |false=>rw[e] at h;exact ae _ (lookup_mem h)
theorem zx {K:Frag}{a:Addr}{o:Obj}(h:noL K=true)(l:K.lookup a=some o)(c:o.cls = .type "list"):False:=by
 unfold noL at h;rw[bt] at h;have:=h _ (lookup_mem l);rw[c] at this;simp at this
theorem lJ {K:Frag}{H:Hp}:∀ ns:List Int,aD K H (ns.map D.int) (ns.map V.int) []
 |[]=>.nil
 |n::r=>.cons (.int n) (lJ r)
theorem zZ {K:Frag}{H:Hp}{a:Addr}{ns:List Int}{f:List D->Rs (D×Bool)}{E:XK}{fr:Bool}(hL:noL K=true)(hS:ig K H a (ns.map V.int))(hf:f [.lst (ns.map D.int)] = .ok (.bl true,fr)):yr K 1 f [.ref a] H (fun v _=>v = .bl true) E:=by
 rcases hS with h | ⟨o,its,n,h1,h2,_⟩
 ·refine⟨[.lst (ns.map D.int)],[a] ++ [],rfl,.cons (.lst h (lJ ns)) .nil,(.bl true,fr),hf,fun v H' G' _ rp _ _=>?_⟩;exact rp.bl_inv.1
 ·exact (zx hL h1 h2).elim
noncomputable def pV (es:List DictEntry):Bool:=es.all (fun e=>match e.val with
  |.int _ _=>true
  |.none=>true
  |_=>false)&&es.any (fun e=>match e.key with
  |.str _ _=>true
  |_=>false)
noncomputable def noS (as:List Addr)(K:Frag):Bool:=K.all fun p=>as.contains p.1 || match p.2.data with
 |.dict es _=>!pV es.toList
 |_=>true
theorem fE.vals {es:List DictEntry}{kvs:List (Key×Option Int)}(h:fE es kvs):es.all (fun e=>match e.val with
  |.int _ _=>true
  |.none=>true
  |_=>false)=true:=by
 induction h with
 |nil=>rfl
 |cons hh hk hv r ih=>rw[cv,hv,ih];rfl
 |si hk hv r ih=>rw[cv,hv,ih];rfl
 |sn hk hv r ih=>rw[cv,hv,ih];rfl
theorem BS {w:World}{K:Frag}(as:List Addr)(h:noS as K=true)(h0:∀ a∈as,∀ o es ep,K.lookup a=some o->o.data = .dict es ep->∀ e∈es.toList,∀ s t,e.key = .str s t->(a==sysModules)=false/\e.hash=hashStr w s):rj w K:=by
 intro a o es ep hl hd kvs he e hm s t hk;by_cases ha:a∈as
 ·exact h0 a ha o es ep hl hd e hm s t hk
 ·unfold noS at h;rw[bt] at h;have:=h _ (lookup_mem hl);dsimp only at this;rw[hd,show as.contains a=false by rw[Bool.eq_false_iff];intro z;exact ha (List.contains_iff_mem.mp z),Bool.false_or] at this;dsimp only at this;unfold pV at this;rw[he.vals,Bool.true_and,dt] at this;have h2:es.toList.any (fun e=>match e.key with
   |.str _ _=>true
   |_=>false)=true:=by
   rw[List.any_eq_true];exact⟨e,hm,by rw[hk]⟩
  rw[h2] at this;cases this
noncomputable def hashes (w:World):List DictEntry->Prop
 |[]=>True
 |e::r=>(match e.key with
  |.str s _=>e.hash=hashStr w s
  |_=>True)/\hashes w r
theorem kl {w:World}:∀{es:List DictEntry},hashes w es->∀ e∈es,∀ s t,e.key = .str s t->e.hash=hashStr w s
 | e::r,h,e',hm,s,t,hk=>by
  rcases bw.mp hm with rfl | hm
  ·have:=h.1;rw[hk] at this;exact this
  ·exact kl h.2 e' hm s t hk
theorem t9 {w:World}{K:Frag}{x:Str}{a:Addr}{oc:Value}{od:Option Addr}{es:Array DictEntry}{ep:Nat}{sl:Array (Option Value)}(h:PySem.W.nsIn K mainGlobals x=some (some (.ref a)))
  (l:K.lookup a=some ⟨oc,od,.dict es ep,sl⟩) (hs:noS [a] K=true) (hm:(a==sysModules)=false) (he:hashes w es.toList):rj w K:=by
 refine BS [a] hs fun b hb o es' ep' hl hd e hme s t hk=>?_
 obtain rfl:=List.mem_singleton.mp hb;rw[l] at hl;cases hl;cases hd;exact⟨hm,kl he e hme s t hk⟩
def Has (K:Frag)(d:Df):Prop:=∃(f:Addr) (oc:Value) (od:Option Addr) (kV dc pm:Value) (an:Option Addr) (cd ct:Value) (sl:Array (Option Value)),
 PySem.W.nsIn K mainGlobals d.nm=some (some (.ref f))/\K.lookup f=some ⟨oc,od,.func (PySem.W.fnOf d.nm d.nm (cU d.st) (aY d.st) (aB d.st) .none kV dc pm an cd ct),sl⟩/\PySem.W.codeIn K cd d.nm=true/\PySem.W.keepIn K (.ref f)=true
def lx (K:Frag)(x:Str)(d:D):Prop:=∃ v u,PySem.W.nsIn K mainGlobals x=some (some u)/\RelV v u/\∀ H,Rep K H d v []
noncomputable def pb {α:Type}(P:α->Prop):List α->Prop
 |[]=>True
 |a::r=>P a/\pb P r
theorem eF {α:Type}{P:α->Prop}:∀{l:List α},pb P l->∀ a∈l,P a
 |[],_,a,h=>by cases h
 | b::r,⟨h1,h2⟩,a,h=>by
  rcases bw.mp h with rfl | h
  ·exact h1
  ·exact eF h2 a h
structure oM (p:Pg)(K:Frag):Prop where
 fn:pb (Has K) p.dfs
 gl:∀ i x,idxOf p.se x=some i->lx K x (p.gl i)
 blt:pb (fun x=>PySem.W.nsIn K mainGlobals x=some none) p.eD
theorem oM.isin {p:Pg}{K:Frag}{h:Heap}{mg:Str->Option Value}(s:oM p K)(X:K.In h)(G:h.Ns mainGlobals mg):p.In K mg where
 fn:=fun i d hd=>by
  obtain⟨f,oc,od,kV,dc,pm,an,cd,ct,sl,a,l,c,k⟩:=eF s.fn d (List.mem_of_getElem? hd);exact⟨f,_,z9 (st:=d.st) l c k,fv X G a⟩
 gl:=fun i x hx=>by
  obtain⟨v,u,a,b,c⟩:=s.gl i x hx;exact⟨v,u,fv X G a,b,c⟩
 blt:=fun x hx=>PySem.W.mg_none_of X G (eF s.blt x (by simpa using hx))
end Pc
end
section
namespace Pc
open PySem
theorem aA {α β:Type}(a:α)(f:α->Rs β):(Rs.ok a).bind f=f a:=rfl
theorem g6 {α:Type}(env:En)(a:α)(k:α->Fl):bH env (.ok a) k=k a:=rfl
theorem aF (e:En)(k:En->Fl):(Fl.nx e).andThen k=k e:=rfl
theorem then_rt (d:D)(b:Bool)(k:En->Fl):(Fl.rt d b).andThen k = .rt d b:=rfl
theorem bA {α:Type}(a:α):fD (some a) = .ok a:=rfl
theorem jK (op:Operator)(i j:Int):gr op (.int i) (.int j)=(Pc.binI op i j).map .int:=by cases op<;>rfl
theorem lF (i:Int)(R:List Nat):gK (.int i) R = .mv []:=rfl
theorem kh:∀ l:List Int,D.flats (l.map D.int)=true
 |[]=>rfl
 |_::r=>kh r
theorem hV (l:List Int)(R:List Nat):gK (.lst (l.map D.int)) R = .mv []:=by
 unfold gK;rw[if_pos];exact kh l
noncomputable def eA:Int->Int->Nat->List Int
 |_,_,0=>[]
 |a,s,n+1=>a::eA (a+s) s n
end Pc
end
section
namespace Pc
open PySem PySem.Spec PyProof.Rows L2
theorem yZ {K:Frag}{d:Df}{f:Addr}{oc:Value}{od:Option Addr}{kV dc pm:Value}{an:Option Addr}{cd ct:Value}{sl:Array (Option Value)}
 (a:PySem.W.nsIn K mainGlobals d.nm=some (some (.ref f))) (l:K.lookup f=some ⟨oc,od,.func (PySem.W.fnOf d.nm d.nm (cU d.st) (aY d.st) (aB d.st) .none kV dc pm an cd ct),sl⟩) (c:PySem.W.codeIn K cd d.nm=true) (k:PySem.W.keepIn K (.ref f)=true):Has K d :=
 ⟨f,oc,od,kV,dc,pm,an,cd,ct,sl,a,l,c,k⟩
theorem Av {K:Frag}{x:Str}{a:Addr}{oc:Value}{od:Option Addr}{its:Array Value}{n:Nat}{sl:Array (Option Value)}{ds:List D}{vs:List V}(h:PySem.W.nsIn K mainGlobals x=some (some (.ref a)))
  (l:K.lookup a=some ⟨oc,od,.seq its n,sl⟩) (c:oc = .type "tuple") (hz:its.size<=sizeLine) (hv:aK vs its.toList) (hr:∀ H,aD K H ds vs []) (hp:vv vs=false:=by rfl):lx K x (.tup ds) :=
 ⟨.ref a,_,h,rfl,fun H=>.tup (.inr ⟨hp,_,its,n,l,c,rfl,hz,hv⟩) (hr H)⟩
theorem y9 {K:Frag}{x:Str}{a:Addr}{oc:Value}{od:Option Addr}{es:Array DictEntry}{ep:Nat}{sl:Array (Option Value)}{kvs:List (Key×Option Int)}(h:PySem.W.nsIn K mainGlobals x=some (some (.ref a)))
  (l:K.lookup a=some ⟨oc,od,.dict es ep,sl⟩) (c:oc = .type "dict"/\od=none/\sl = #[]) (he:fE es.toList kvs) (hn:(kvs.map (·.1)).Nodup):lx K x (.dct kvs) :=
 ⟨.ref a,_,h,rfl,fun H=>.dct ⟨_,es,ep,l,c,rfl,he,hn⟩⟩
noncomputable def mP (K:Frag)(g:Nat->D):Nat->List Str->Prop
 |_,[]=>True
 |i,x::r=>lx K x (g i)/\mP K g (i+1) r
theorem ng {K:Frag}{g:Nat->D}:∀{l:List Str}{k i:Nat}{x:Str},mP K g k l->idxOf l x=some i->lx K x (g (k+i))
 | y::r,k,i,x,⟨h1,h2⟩,e=>by
  unfold idxOf at e;by_cases hx:y=x
  ·rw[if_pos hx] at e;cases e;subst hx;exact h1
  ·rw[if_neg hx,aa] at e;obtain⟨j,hj,rfl⟩:=e;have:=ng h2 hj;rw[show k+1+j=k+(j+1) by omega] at this;exact this
theorem vU {K:Frag}{g:Nat->D}{l:List Str}(h:mP K g 0 l):∀ i x,idxOf l x=some i->lx K x (g i):=fun i x e=>by
 have:=ng h e
 rwa [gj] at this
end Pc
end
section
namespace Pc.Hd
open PySem PySem.W L2
noncomputable def sv (x:String)(t:Tok):Value:=.str (Str.ofString x) t
noncomputable def kv (P:Params)(x:String)(t:Tok)(v:Value):DictEntry:=⟨PyData.keyHash P (Str.ofString x),sv x t,v⟩
noncomputable def uc:Stmt->Str
 |.FunctionDef n ..=>n
 |_=>Str.ofString ""
noncomputable def fo (a:Addr)(s:Stmt)(m c:Value):Addr×Obj:=(a,⟨.type "function",none,.func { name:=uc s,qualname:=uc s,params:=cU s,body:=.stmts (aY s),scope:=aB s,globals:=mainGlobals,closure:=[],defaults:=.none,kwdefaults:=.none,pyModule:=m,code:=c },#[]⟩)
noncomputable def co (a:Addr)(vs:Array Value):Addr×Obj:=(a,⟨.type "code",none,.fields vs,#[]⟩)
noncomputable def tu (a:Addr)(vs:Array Value):Addr×Obj:=(a,⟨.type "tuple",none,.seq vs 0,#[]⟩)
noncomputable def di (a:Addr)(es:Array DictEntry)(n:Nat):Addr×Obj:=(a,⟨.type "dict",none,.dict es n,#[]⟩)
end Pc.Hd
end
section
namespace Fl64
noncomputable def dbl (a:Nat):Nat:=if 64<=2*a then (2*a)^^^67 else 2*a
noncomputable def BL:Nat->Nat->Nat->Nat->Nat
 |0,p,_,_=>p
 |n+1,p,d,l=>if l=0 then p else BL n (if l%2=1 then p^^^d else p) (dbl d) (l / 2)
noncomputable def tm (a b:Nat):Nat:=BL 6 0 a b
noncomputable def allB (n:Nat)(f:Nat->Bool):Bool:=match n with
 |0=>true
 |k+1=>f k&&allB k f
end Fl64
end
section
namespace Pc
open PySem
noncomputable abbrev sI (i:Int):Slot:=some (.int i,.own)
noncomputable def ret (f:Fl):Rs (D×Bool):=match f with
 |.rt d fr=>.ok (d,fr)
 |.nx _=>.ok (.non,true)
 |.xc e _=>.exc e
 |_=>.bad
theorem dS {fns:List Fn}{gl:Nat->D}{fuel n i:Nat}{F:Fn}{ds:List D}(h:fns[i]? = some F)(hl:ds.length=F.ps):Pc.run fns gl fuel (n+1) i ds=ret (aC ⟨Pc.run fns gl fuel n,gl,fuel⟩ F.body (aO ds F.slots)):=by
 unfold Pc.run;rw[h];dsimp only;rw[if_pos hl];rfl
noncomputable abbrev sS (S:List D):Slot:=some (.lst S,.sh [])
theorem vA {x:Int}(h0:0<=x)(h1:x<2147483648):small x=true:=cw ⟨by omega,by omega⟩
theorem j8 (env:En):lock [] env=env:=by
 unfold lock;have:∀(l:En) (k:Nat),(l.mapIdx fun i (s:Slot)=>match s with
  | some (d,.own)=>if ([]:List Nat).contains i then some (d,.lk) else some (d,.own)
  |s=>s)=l:=fun l k=>by
  rw[List.mapIdx_eq_iff];intro i;cases h:l[i]? with
  |none=>rfl
  |some s =>
   cases s with
   |none=>rfl
   |some p=>obtain⟨d,t⟩:=p;cases t<;>rfl
 exact this env 0
theorem oB (e0 env:En):unlock [] e0 env=env:=by
 unfold unlock;rw[List.mapIdx_eq_iff];intro i;cases h:env[i]? with
 |none=>rfl
 |some s =>
  cases s with
  |none=>rfl
  |some p =>
   obtain⟨d,t⟩:=p;cases t with
   |lk =>
    simp only[Option.map_some];split<;>rfl
   |own=>rfl
   |sh R=>rfl
theorem iK {T:Tb}{t:iT}{it:ou}{b:bP}{env e:En}{l:List D}(hit:dN T it env = .ok (l,[]))(h:aU t [] (aC T b) l env = .nx e):aN T (.forr t it b) env = .nx e:=by
 rw[aN,hit,g6];dsimp only;rw[j8,h];dsimp only;rw[oB]
noncomputable abbrev sq (M:List (List D)):D:=.lst (M.map D.lst)
noncomputable def okC:D->Bool
 |.int _=>true
 |.non=>true
 |_=>false
structure Sqr (n:Nat)(M:List (List D)):Prop where
 len:M.length=n
 row:∀ r∈M,r.length=n
 cell:∀ r∈M,∀ d∈r,okC d=true
theorem eP {l:List D}(h:D.flats l=true)(R:List Nat):gK (.lst l) R = .mv []:=by
 unfold gK;rw[if_pos];exact h
theorem AL {T:Tb}{e:Ex}{env:En}{d:D}(h:ev T e env = .ok (d,.mv [])):ret (aC T (.cons (.ret e) .nil) env) = .ok (d,true):=by
 rw[aC,aN,h,g6];rfl
theorem fJ {n:Nat}(h:n<=1000):n<=lim:=bc h (by decide)
theorem wj (T:Tb)(env:En)(e:Ex)(j:Int)(r:Rt)(he:ev T e env = .ok (.int j,r))(h1:gu j=true):dN T (.rng1 e) env = .ok (bU 0 1 j.toNat,[]):=by
 rw[dN,he,aA];show (if gu j=true then Rs.ok (bU 0 1 j.toNat,[]) else .bad)=_;rw[if_pos h1]
theorem De {n:Nat}(h:n<=1000):gu (n:Int)=true:=by
 unfold gu;exact cw ⟨Int.le_trans (by decide) (Int.natCast_nonneg n),Int.lt_of_le_of_lt (Int.ofNat_le.mpr h) (by decide)⟩
def aR (s:Slot):Prop:=s=none\/(∃ d,s=some (d,.own))\/(∃ d,s=some (d,.sh []))\/∃ d,s=some (d,.lk)
def Tame (env:En):Prop:=∀ s∈env,aR s
theorem bJ:aR none:=.inl rfl
theorem aI (d:D):aR (some (d,.own)):=.inr (.inl ⟨d,rfl⟩)
theorem bW (d:D):aR (some (d,.sh [])):=.inr (.inr (.inl ⟨d,rfl⟩))
theorem vL (d:D):aR (some (d,.lk)):=.inr (.inr (.inr ⟨d,rfl⟩))
theorem Tame.nil:Tame []:=fun _ h=>(nomatch h)
theorem Tame.cons {s:Slot}{e:En}(h:aR s)(t:Tame e):Tame (s::e):=fun x hx=>by
 rcases bw.mp hx with rfl | hx
 ·exact h
 ·exact t x hx
theorem Tame.set {e:En}{s:Slot}(t:Tame e)(h:aR s)(i:Nat):Tame (e.set i s):=fun x hx=>by
 rcases List.mem_or_eq_of_mem_set hx with q | q
 ·exact t x q
 ·rw[q];exact h
theorem fH {env:En}(h:Tame env)(i:Nat)(d:D)(t:Tg):put env i d t=env.set i (some (d,t)):=by
 unfold put;have:env.map (fun (s:Slot)=>s.map fun (p:D×Tg)=>(p.1,p.2.drop i))=env:=by
  conv=>rhs;rw[<-List.map_id env]
  refine List.map_congr_left fun s hs=>?_
  rcases h s hs with rfl | ⟨d,rfl⟩ | ⟨d,rfl⟩ | ⟨d,rfl⟩<;>rfl
 rw[this]
theorem qR {env:En}(h:Tame env)(R:List Nat):kill R env=env.mapIdx fun i s=>if R.contains i then none else s:=by
 unfold kill;apply List.ext_getElem?;intro i;rw[List.getElem?_mapIdx,List.getElem?_mapIdx];cases q:env[i]? with
 |none=>rfl
 |some s =>
  rcases h s (List.mem_of_getElem? q) with rfl | ⟨d,rfl⟩ | ⟨d,rfl⟩ | ⟨d,rfl⟩
  ·simp
  ·simp[gX]
  ·simp[gX]
  ·simp[gX]
theorem tQ {env:En}(h:Tame env)(x:Nat)(s:Slot):(kill [x] env).set x s=env.set x s:=by
 rw[qR h];apply List.ext_getElem?;intro i;by_cases hi:i=x
 ·subst hi;by_cases hl:i<env.length
  ·rw[List.getElem?_set_self (by simpa using hl),List.getElem?_set_self hl]
  ·rw[List.getElem?_eq_none (by simp;omega),List.getElem?_eq_none (by simp;omega)]
 ·rw[List.getElem?_set_ne (cj hi),List.getElem?_set_ne (cj hi),List.getElem?_mapIdx];cases q:env[i]? with
  |none=>rfl
  |some s=>simp[hi]
section
variable {T:Tb}{env:En}
theorem aP {i:Nat}{e:Ex}{d:D}(ht:Tame env)(hi:i<env.length)(h:ev T e env = .ok (d,.mv [])):aN T (.asg (.nm i) e false) env = .nx (env.set i (some (d,.own))):=by
 rw[aN,h,g6];show (if i<env.length then Fl.nx (put env i d .own) else .bad)=_;rw[if_pos hi,fH ht]
theorem gG {i:Nat}{d:D}(ht:Tame env)(hi:i<env.length):bN [] (.nm i) d env=some (env.set i (some (d,cF d []))):=by
 show (if i<env.length then some (put env i d (cF d [])) else none)=_;rw[if_pos hi,fH ht]
theorem mC {i:Nat}{d:D}(h:env[i]? = some (some (d,.own)))(hf:d.flat=false):ev T (.var i) env = .ok (d,.mv [i]):=by
 rw[ev,h];dsimp only;rw[hf];rfl
theorem aE {i:Nat}{d:D}{t:Tg}(h:env[i]? = some (some (d,t)))(hf:d.flat=true):ev T (.var i) env = .ok (d,.mv []):=by
 rw[ev,h];dsimp only;rw[if_pos hf]
theorem bQ {i:Nat}{d:D}{t:Tg}(h:env[i]? = some (some (d,t))):∃ R,ev T (.var i) env = .ok (d,R):=by
 rw[ev,h];exact⟨_,rfl⟩
theorem ma {x:Nat}{e:Ex}{xs:List D}{d:D}(ht:Tame env)(hx:env[x]? = some (some (.lst xs,.own)))(h:ev T e env = .ok (d,.mv []))(hl:xs.length+1<=lim):aN T (.mut x .none .append (.cons e .nil)) env = .nx (env.set x (some (.lst (xs ++ [d]),.own))):=by
 have ho:ownAt env x=some (.lst xs):=by unfold ownAt;rw[hx]
 have hs:bK T (.cons e .nil) env = .ok [(d,.mv [])]:=by
  rw[bK,h,aA];rfl
 rw[aN,ho];simp only[jc,g6,D.at1,hs,List.map_cons,List.map_nil,wL,aT,Rt.roots,List.flatten_cons,List.flatten_nil,List.append_nil,List.contains_nil,Bool.false_eq_true,if_false,pf.copies,eT,eB,Option.map_some];have:(xs ++ [d]).length<=lim:=by rw[aw];exact hl
 simp only[List.nodup_nil,decide_true,gB,List.all_nil,Bool.not_false,Bool.and_self,this,if_true,D.set1,Bool.true_and];rw[tQ ht]
theorem ite_ff {c:Ex}{a:bP}{R:Rt}(h:ev T c env = .ok (.bl false,R)):aN T (.ite c a .nil) env = .nx env:=by
 rw[aN,h,g6];rfl
theorem sg {a b:Ex}{R R':Rt}(h:ev T a env = .ok (.bl false,R))(h':ev T b env = .ok (.bl false,R')):ev T (.or a b) env = .ok (.bl false,R'):=by
 rw[ev,h,aA,h']
theorem BN {a:Ex}{R:Rt}(h:ev T a env = .ok (.bl true,R)):ev T (.not a) env = .ok (.bl false,.mv []):=by
 rw[ev,h,aA];rfl
theorem tf {a b:Ex}{d:D}{R R':Rt}(h:ev T a env = .ok (d,R))(h':ev T b env = .ok (d,R'))(he:D.eqf 40 d d=some true):ev T (.cmp .NotEq a b) env = .ok (.bl false,.mv []):=by
 rw[ev,h,aA,h',aA];show (fD ((D.eqf 40 d d).map (!·))).bind _=_;rw[he];rfl
theorem va {x:Nat}{d:D}(hx:env[x]? = some (some (d,.own))):lock [x] env=env.set x (some (d,.lk)):=by
 unfold lock;apply List.ext_getElem?;intro i;rw[List.getElem?_mapIdx];by_cases hi:i=x
 ·subst hi;have hl:i<env.length:=(List.getElem?_eq_some_iff.mp hx).1;rw[List.getElem?_set_self hl,hx];simp
 ·rw[List.getElem?_set_ne (cj hi)];cases q:env[i]? with
  |none=>rfl
  |some s =>
   cases s with
   |none=>rfl
   |some p =>
    obtain⟨d,t⟩:=p;cases t with
    |own=>simp[hi]
    |lk=>rfl
    |sh R=>rfl
theorem ov {x:Nat}{d d':D}{e:En}(hx:env[x]? = some (some (d,.own)))(he:e[x]? = some (some (d',.lk))):unlock [x] env e=e.set x (some (d',.own)):=by
 unfold unlock;apply List.ext_getElem?;intro i;rw[List.getElem?_mapIdx];by_cases hi:i=x
 ·subst hi;have hl:i<e.length:=(List.getElem?_eq_some_iff.mp he).1;rw[List.getElem?_set_self hl,he];simp[hx]
 ·rw[List.getElem?_set_ne (cj hi)];cases q:e[i]? with
  |none=>rfl
  |some s =>
   cases s with
   |none=>rfl
   |some p =>
    obtain⟨d,t⟩:=p;cases t with
    |own=>rfl
    |lk =>
     simp only[Option.map_some];split
     ·simp[hi]
     ·rfl
    |sh R=>rfl
theorem vJ {t:iT}{it:ou}{b:bP}{e:En}{l:List D}{x:Nat}{d d':D}(hx:env[x]? = some (some (d,.own)))(hit:dN T it env = .ok (l,[x]))(h:aU t [x] (aC T b) l (env.set x (some (d,.lk))) = .nx e)(he:e[x]? = some (some (d',.lk))):aN T (.forr t it b) env = .nx (e.set x (some (d',.own))):=by
 rw[aN,hit,g6];dsimp only;rw[va hx,h];dsimp only;rw[ov hx he]
theorem qX {i j:Nat}{x y:D}{R:List Nat}(ht:Tame env)(hi:i<env.length)(hj:j<env.length)(fx:x.flat=true)(fy:y.flat=true):bN R (.tp [i,j]) (.tup [x,y]) env=some ((env.set i (some (x,.own))).set j (some (y,.own))):=by
 show bindM (fun d=>cF d R) [i,j] [x,y] env=_;have tx:cF x R = .own:=by unfold cF;rw[if_pos fx]
 have ty:cF y R = .own:=by unfold cF;rw[if_pos fy]
 simp only[bindM,hi,if_true,tx,ty];rw[fH ht,if_pos (by rw[List.length_set];exact hj),fH (ht.set (aI x) i)]
end
end Pc
end
section
namespace Pc
end Pc
namespace Pc.Sm
open PySem Pc
noncomputable def b6:bP:=(.cons (.ret (.bin .Mod (.bin .Mult (.bin .Add (.bin .Add (.var 0) (.bin .Mult (.var 1) (.var 1))) (.cst (.int (1)))) (.var 2)) (.cst (.int (2305843009213693951)))))
  .nil)
noncomputable def e7:Ex:=.comp 1 [] (.nm 0) (.seq (.sl (.var 0) .none (.some (.cst (.int (63)))))) .none (.bin .Mod (.var 0) (.cst (.int (1000003))))
noncomputable def b7:bP:=(.cons (.ret (.call 6 (.cons (.blt .sum (.cons e7 .nil)) (.cons (.bin .Mod (.blt .len (.cons (.var 0) .nil)) (.cst (.int (64)))) (.cons (.var 1) .nil)))))
  .nil)
noncomputable def b8:bP:=(.cons (.ret (.ix (.lst (.cons (.cst (.int (15))) (.cons (.cst (.int (15))) (.cons (.cst (.int (15))) (.cons (.cst (.int (19))) (.cons (.cst (.int (15))) (.cons (.cst (.int (15))) (.cons (.cst (.int (23))) (.cons (.cst (.int (15))) (.cons (.cst (.int (19))) (.cons (.cst (.int (15))) (.cons (.cst (.int (27))) (.cons (.cst (.int (15))) (.cons (.cst (.int (15))) (.cons (.cst (.int (19))) (.cons (.cst (.int (15))) (.cons (.cst (.int (31))) .nil))))))))))))))))) (.bin .Mod (.var 0) (.cst (.int (16))))))
  .nil)
noncomputable def b9c:bP:=(.cons (.asg (.nm 1) (.bin .Mod (.bin .Mult (.bin .Add (.var 1) (.var 5)) (.cst (.int (40692)))) (.cst (.int (2147483399)))) false)
  (.cons (.mut 4 .none .append (.cons (.ix (.lst (.cons (.cst (.int (0))) (.cons (.cst (.int (1))) (.cons (.cst (.int (0))) (.cons (.cst (.int (1))) (.cons (.cst .non) .nil)))))) (.bin .Mod (.bin .FloorDiv (.var 1) (.cst (.int (7)))) (.cst (.int (5))))) .nil))
  .nil))
noncomputable def s9:St:=.mut 2 .none .append (.cons (.var 4) .nil)
noncomputable def b9r:bP:=(.cons (.asg (.nm 4) (.lst .nil) false)
  (.cons (.forr (.nm 5) (.rng1 (.var 0)) b9c)
  (.cons s9
  .nil)))
noncomputable def b9:bP:=(.cons (.asg (.nm 2) (.lst .nil) false)
  (.cons (.forr (.nm 3) (.rng1 (.var 0)) b9r)
  (.cons (.ret (.var 2))
  .nil)))
theorem AA (p:D×Rt):List.map (fun x:D×Rt=>x.1) [p]=[p.1]:=rfl
theorem map2 (p q:D×Rt):List.map (fun x:D×Rt=>x.1) [p,q]=[p.1,q.1]:=rfl
theorem nO {T:Tb}{f:Nat}{e1:Ex}{env:En}{d1 r:D}{R1:Rt}(h1:ev T e1 env = .ok (d1,R1))(h:T.cl f [d1] = .ok (r,true)):ev T (.call f (.cons e1 .nil)) env = .ok (r,.mv []):=by
 have:bK T (.cons e1 .nil) env = .ok [(d1,R1)]:=by
  rw[bK,h1,aA];rfl
 rw[ev,this,aA,AA,h,aA];rfl
theorem tz {T:Tb}{f:Nat}{e1 e2:Ex}{env:En}{d1 d2 r:D}{R1 R2:Rt}(h1:ev T e1 env = .ok (d1,R1))(h2:ev T e2 env = .ok (d2,R2))(h:T.cl f [d1,d2] = .ok (r,true)):ev T (.call f (.cons e1 (.cons e2 .nil))) env = .ok (r,.mv []):=by
 have:bK T (.cons e1 (.cons e2 .nil)) env = .ok [(d1,R1),(d2,R2)]:=by
  rw[bK,h1,aA,bK,h2,aA];rfl
 rw[ev,this,aA,map2,h,aA];rfl
noncomputable def e8:Ex:=(.lst (.cons (.cst (.int (15))) (.cons (.cst (.int (15))) (.cons (.cst (.int (15))) (.cons (.cst (.int (19))) (.cons (.cst (.int (15))) (.cons (.cst (.int (15))) (.cons (.cst (.int (23))) (.cons (.cst (.int (15))) (.cons (.cst (.int (19))) (.cons (.cst (.int (15))) (.cons (.cst (.int (27))) (.cons (.cst (.int (15))) (.cons (.cst (.int (15))) (.cons (.cst (.int (19))) (.cons (.cst (.int (15))) (.cons (.cst (.int (31))) .nil)))))))))))))))))
end Pc.Sm
end
section
namespace Fl64
def Gr (l:List Nat):Prop:=∀ g∈l,g<64
noncomputable def hor (x w:Nat)(l:List Nat):Nat:=l.foldl (fun w g=>tm w x^^^g) w
noncomputable abbrev wth (x:Nat)(l:List Nat):Nat:=hor x 0 l
noncomputable def pw (x:Nat):Nat->Nat
 |0=>1
 |n+1=>tm (pw x n) x
noncomputable def vO (c:Nat):List Nat:=(List.range' 1 c).map (pw 2)
def isC (l:List Nat)(c:Nat):Prop:=∀ x∈vO c,wth x l=0
noncomputable instance (l:List Nat) (c:Nat):Decidable (isC l c):=by unfold isC;infer_instance
end Fl64
end
section
namespace Pc.Gr
open PySem Pc Pc.Sm
noncomputable abbrev gD (gs:List Nat):List D:=gs.map fun (g:Nat)=>D.int (g:Int)
noncomputable abbrev sG (gs:List Nat):Slot:=some (.lst (gD gs),.sh [])
noncomputable abbrev oG (gs:List Nat):Slot:=some (.lst (gD gs),.own)
structure CE (d:List Nat)(c:Nat)(D l:List Nat)(e:En):Prop where
 te:Tame e
 len:e.length=8
 h0:e[0]? = some (sG d)
 h2:e[2]? = some (oG D)
 h3:e[3]? = some (oG l)
end Pc.Gr
end
section
namespace Fl64
end Fl64
namespace Pc.Lw
open PySem Pc Pc.Sm Pc.Gr
def isF (gs:List Nat)(k m:Nat):Prop:=∀ x∈(List.range' (k+1) m).map (Fl64.pw 2),Fl64.wth x gs=0
noncomputable instance (gs:List Nat) (k m:Nat):Decidable (isF gs k m):=by unfold isF;infer_instance
end Pc.Lw
end
section
namespace Fl64
noncomputable def sm:List (Nat×Nat)->Nat->Nat
 |[],_=>0
 |p::r,j=>tm p.1 (pw p.2 j)^^^sm r j
end Fl64
end
section
namespace Pc.Lw
open PySem Pc Pc.Sm Pc.Gr
noncomputable abbrev cp (i:Nat):Ex:=.blt .list (.cons (.var i) .nil)
theorem aH {T:Tb}{env:En}(d:D):ev T (.cst d) env = .ok (d,.mv []):=by rw[ev]
theorem eS {T:Tb}{env:En}{a b:Ex}{x y:Int}{R R':Rt}(h:ev T a env = .ok (.int x,R))(h':ev T b env = .ok (.int y,R')):ev T (.bin .Add a b) env = .ok (.int (x+y),.mv []):=by
 rw[ev,h,aA,h',aA];rfl
theorem cI {T:Tb}{env:En}{a b:Ex}{x y:Int}{R R':Rt}(hy:0<y)(h:ev T a env = .ok (.int x,R))(h':ev T b env = .ok (.int y,R')):ev T (.bin .Mod a b) env = .ok (.int (x%y),.mv []):=by
 rw[ev,h,aA,h',aA,jK];have:Pc.binI .Mod x y=some (x%y):=by
  show (if 0<y then some (x%y) else none)=_;rw[if_pos hy]
 rw[this];rfl
theorem dW {T:Tb}{env:En}{a b:Ex}{x y:Int}{R R':Rt}(hy:0<y)(hy':y<1073741824)(h:ev T a env = .ok (.int x,R))(h':ev T b env = .ok (.int y,R')):ev T (.bin .FloorDiv a b) env = .ok (.int (x / y),.mv []):=by
 rw[ev,h,aA,h',aA,jK];have:Pc.binI .FloorDiv x y=some (x / y):=by
  show (if 0<y/\y<1073741824 then some (x / y) else none)=_;rw[if_pos ⟨hy,hy'⟩]
 rw[this];rfl
end Pc.Lw
end
section
namespace Pc.Nw
open PySem Pc Pc.Sm Pc.Lw Pc.Gr
theorem dJ {t:iT}{R:List Nat}{b:En->Fl}{x:D}{l:List D}{e e1 e2:En}(h1:bN R t x e=some e1)(h2:b e1 = .nx e2):aU t R b (x::l) e=aU t R b l e2:=by
 conv=>lhs;unfold aU
 rw[h1];dsimp only;rw[h2]
theorem rngN {T:Tb}{env:En}{e:Ex}{m:Nat}{R:Rt}(h:ev T e env = .ok (.int (m:Int),R))(hm:m<=1000):dN T (.rng1 e) env = .ok (bU ((0:Nat):Int) 1 m,[]):=by
 rw[wj _ _ _ _ _ h (De hm),fu];rfl
theorem dE {T:Tb}{env:En}{e:Ex}{xs:List D}{R:Rt}(h:ev T e env = .ok (.lst xs,R)):ev T (.blt .len (.cons e .nil)) env = .ok (.int (xs.length:Int),.mv []):=by
 rw[ev,bK,bK,h,aA,aA,aA,AA];show (fD (some (D.int (xs.length:Int)))).bind _=_;rw[bA,aA,lF]
theorem B1 {T:Tb}{f:Nat}{e1 e2 e3:Ex}{env:En}{d1 d2 d3 r:D}{R1 R2 R3:Rt}(h1:ev T e1 env = .ok (d1,R1))(h2:ev T e2 env = .ok (d2,R2))(h3:ev T e3 env = .ok (d3,R3))(h:T.cl f [d1,d2,d3] = .ok (r,true)):ev T (.call f (.cons e1 (.cons e2 (.cons e3 .nil)))) env = .ok (r,.mv []):=by
 rw[ev,bK,bK,bK,bK,h1,aA,h2,aA,h3,aA,aA,aA,aA,aA];show (T.cl f [d1,d2,d3]).bind _=_;rw[h];rfl
theorem ji {α:Type}{f:D->Rs (Option (D×Rt))}{g r:α->D}{c:α->Bool}:∀{l:List α},(∀ a∈l,f (g a) = .ok (if c a then some (r a,.mv []) else none))->eH f (l.map g) = .ok ((l.filter c).map fun a=>(r a,Rt.mv []))
 |[],_=>rfl
 | a::l,h=>by
  simp only[List.map_cons,eH];rw[h a ai,ji fun b hb=>h b (ae _ hb)];cases q:c a<;>simp[aA,List.filter_cons,q]
section
variable {T:Tb}{env:En}
theorem bM {s:St}{e:En}(h:aN T s env = .nx e):aC T (.cons s .nil) env = .nx e:=by
 rw[aC,h,aF,aC]
end
section
variable {T:Tb}{env:En}
end
end Pc.Nw
end
section
namespace Pc.Fr
open PySem Pc Pc.Sm Pc.Lw Pc.Gr Pc.Nw
noncomputable abbrev pD (p:Int×Int):D:=.tup [.int p.1,.int p.2]
noncomputable def cnt (s t:Int):Nat:=((if s<t+3 then s else t+3) - t).toNat
theorem gQ (a s:Int):∀ n:Nat,(eA a s n).length=n:=by
 intro n
 induction n generalizing a with
 |zero=>rfl
 |succ n ih=>simp[eA,ih]
noncomputable abbrev E7 (s:Int)(xs:List (Int×Int))(l:Bool)(a3 a4 a5 a6:Slot):En:=[sI s,some (.lst (xs.map pD),.own),some (.bl l,.own),a3,a4,a5,a6]
end Pc.Fr
end
section
namespace Pc
open PySem
def ku {α:Type}(x y:Rs α):Prop:=∀ a,x = .ok a->y = .ok a
def nr (a b:Fl):Prop:=a = .bad\/(∃ e env,a = .xc e env)\/a=b
theorem ku.refl {α:Type}(x:Rs α):ku x x:=fun _ h=>h
theorem nr.refl (x:Fl):nr x x:=.inr (.inr rfl)
theorem ku.bind {α β:Type}{x y:Rs α}{f g:α->Rs β}(h:ku x y)(k:∀ a,ku (f a) (g a)):ku (x.bind f) (y.bind g):=fun b e=>by
 cases x with
 |ok a=>rw[h a rfl];exact k a b e
 |exc _=>cases e
 |bad=>cases e
theorem nr.on {α:Type}{env:En}{x y:Rs α}{f g:α->Fl}(h:ku x y)(k:∀ a,nr (f a) (g a)):nr (bH env x f) (bH env y g):=by
 cases x with
 |ok a=>rw[h a rfl];exact k a
 |exc e=>exact .inr (.inl ⟨e,env,rfl⟩)
 |bad=>exact .inl rfl
theorem nr.then {a b:Fl}{f g:En->Fl}(h:nr a b)(k:∀ e,nr (f e) (g e)):nr (a.andThen f) (b.andThen g):=by
 rcases h with rfl | ⟨e,env,rfl⟩ | rfl
 ·exact .inl rfl
 ·exact .inr (.inl ⟨e,env,rfl⟩)
 ·cases a with
  |nx e=>exact k e
  |_=>exact .refl _
theorem kR {f g:D->Rs (Option (D×Rt))}(h:∀ d,ku (f d) (g d)):∀ l,ku (eH f l) (eH g l)
 |[]=>.refl _
 | d::r=>by
  unfold eH;exact (h d).bind fun o=>(kR h r).bind fun l=>.refl _
theorem mW {o:Option En}{c c':En->Rs Bool}{e e':En->Rs (D×Rt)}(h:∀ n,ku (c n) (c' n))(k:∀ n,ku (e n) (e' n)):ku (bY o c e) (bY o c' e'):=by
 cases o with
 |none=>exact .refl _
 |some env =>
  unfold bY;refine (h env).bind fun b=>?_
  cases b
  ·exact .refl _
  ·exact (k env).bind fun q=>.refl _
theorem jH {t:iT}{R:List Nat}{b b':En->Fl}(h:∀ e,nr (b e) (b' e)):∀(l:List D) (e:En),nr (aU t R b l e) (aU t R b' l e)
 |[],e=>.refl _
 | d::r,e=>by
  unfold aU;cases bN R t d e with
  |none=>exact .refl _
  |some e1 =>
   dsimp only;rcases h e1 with q | ⟨x,n,q⟩ | q
   ·rw[q];exact .inl rfl
   ·rw[q];exact .inr (.inl ⟨x,n,rfl⟩)
   ·rw[<-q];cases b e1 with
    |nx e2=>exact jH h r e2
    |ct e2=>exact jH h r e2
    |_=>exact .refl _
theorem nZ {x:Nat}{b b':En->Fl}(h:∀ e,nr (b e) (b' e)):∀(l:List D) (e:En),nr (nQ x b l e) (nQ x b' l e)
 |[],e=>.refl _
 | d::r,e=>by
  unfold nQ;by_cases hx:x<e.length
  ·rw[if_pos hx,if_pos hx];rcases h (put e x d .own) with q | ⟨y,n,q⟩ | q
   ·rw[q];exact .inl rfl
   ·rw[q];exact .inl rfl
   ·rw[<-q];cases b (put e x d .own) with
    |nx e2=>exact nZ h r e2
    |_=>exact .refl _
  ·rw[if_neg hx,if_neg hx];exact .refl _
theorem ki {c c':En->Rs Bool}{b b':En->Fl}(h:∀ e,ku (c e) (c' e))(k:∀ e,nr (b e) (b' e)):∀(n:Nat) (e:En),nr (kZ c b n e) (kZ c' b' n e)
 |0,e=>.refl _
 | n+1,e=>by
  unfold kZ;refine .on (h e) fun x=>?_
  cases x
  ·exact .refl _
  ·simp only[if_true];rcases k e with q | ⟨x,n,q⟩ | q
   ·rw[q];exact .inl rfl
   ·rw[q];exact .inr (.inl ⟨x,n,rfl⟩)
   ·rw[<-q];cases b e with
    |nx e2=>exact ki h k n e2
    |ct e2=>exact ki h k n e2
    |_=>exact .refl _
section
variable {c c':Nat->List D->Rs (D×Bool)}{gl:Nat->D}{fuel:Nat}(h:∀ f ds,ku (c f ds) (c' f ds))
include h
mutual
theorem aQ:∀(e:Ex) (env:En),ku (ev ⟨c,gl,fuel⟩ e env) (ev ⟨c',gl,fuel⟩ e env)
 |.var i,env=>by rw[ev,ev];exact .refl _
 |.cst d,env=>by rw[ev,ev];exact .refl _
 |.glb k,env=>by rw[ev,ev];exact .refl _
 |.bin op a b,env=>by rw[ev,ev];exact (aQ a env).bind fun p=>(aQ b env).bind fun q=>.refl _
 |.neg a,env=>by rw[ev,ev];exact (aQ a env).bind fun p=>.refl _
 |.cmp op a b,env=>by rw[ev,ev];exact (aQ a env).bind fun p=>(aQ b env).bind fun q=>.refl _
 | .chn op op' a b d,env=>by
  rw[ev,ev];refine (aQ a env).bind fun p=>(aQ b env).bind fun q=>(ku.refl _).bind fun k=>?_
  cases k
  ·exact .refl _
  ·exact (aQ d env).bind fun r=>.refl _
 | .and a b,env=>by
  rw[ev,ev];refine (aQ a env).bind fun p=>?_
  split
  ·exact aQ b env
  ·exact .refl _
  ·exact .refl _
 | .or a b,env=>by
  rw[ev,ev];refine (aQ a env).bind fun p=>?_
  split
  ·exact .refl _
  ·exact aQ b env
  ·exact .refl _
 |.not a,env=>by rw[ev,ev];exact (aQ a env).bind fun p=>.refl _
 | .ite d a b,env=>by
  rw[ev,ev];refine (aQ d env).bind fun p=>(ku.refl _).bind fun k=>?_
  cases k
  ·exact aQ b env
  ·exact aQ a env
 |.lst es,env=>by rw[ev,ev];exact (fN es env).bind fun l=>.refl _
 |.tup es,env=>by rw[ev,ev];exact (fN es env).bind fun l=>.refl _
 |.ix a i,env=>by rw[ev,ev];exact (aQ a env).bind fun p=>(aQ i env).bind fun q=>.refl _
 |.sl a lo hi,env=>by rw[ev,ev];exact (aQ a env).bind fun p=>(lP lo env).bind fun q=>(lP hi env).bind fun r=>.refl _
 |.call f es,env=>by rw[ev,ev];exact (fN es env).bind fun l=>(h f _).bind fun r=>.refl _
 |.blt b es,env=>by rw[ev,ev];exact (fN es env).bind fun l=>.refl _
 |.mth m o es,env=>by rw[ev,ev];exact (aQ o env).bind fun p=>(fN es env).bind fun l=>.refl _
 | .comp own pick t it d e,env=>by
  rw[ev,ev];exact (uF it env).bind fun p=>(kR (fun d'=>mW (fun n=>zz d n) (fun n=>aQ e n)) _).bind fun l=>.refl _
 |.dnew,env=>by rw[ev,ev];exact .refl _
theorem fN:∀(es:kz) (env:En),ku (bK ⟨c,gl,fuel⟩ es env) (bK ⟨c',gl,fuel⟩ es env)
 |.nil,env=>by rw[bK,bK];exact .refl _
 |.cons e es,env=>by rw[bK,bK];exact (aQ e env).bind fun p=>(fN es env).bind fun l=>.refl _
theorem lP:∀(o:kx) (env:En),ku (jc ⟨c,gl,fuel⟩ o env) (jc ⟨c',gl,fuel⟩ o env)
 |.none,env=>by rw[jc,jc];exact .refl _
 |.some e,env=>by rw[jc,jc];exact (aQ e env).bind fun p=>.refl _
theorem zz:∀(o:kx) (env:En),ku (oq ⟨c,gl,fuel⟩ o env) (oq ⟨c',gl,fuel⟩ o env)
 |.none,env=>by rw[oq,oq];exact .refl _
 |.some e,env=>by rw[oq,oq];exact (aQ e env).bind fun p=>.refl _
theorem uF:∀(it:ou) (env:En),ku (dN ⟨c,gl,fuel⟩ it env) (dN ⟨c',gl,fuel⟩ it env)
 |.seq e,env=>by rw[dN,dN];exact (aQ e env).bind fun p=>.refl _
 |.rng1 a,env=>by rw[dN,dN];exact (aQ a env).bind fun p=>.refl _
 |.rng2 a b,env=>by rw[dN,dN];exact (aQ a env).bind fun p=>(aQ b env).bind fun q=>.refl _
 |.rng3 a b d,env=>by rw[dN,dN];exact (aQ a env).bind fun p=>(aQ b env).bind fun q=>(aQ d env).bind fun r=>.refl _
 |.enum e,env=>by rw[dN,dN];exact (aQ e env).bind fun p=>.refl _
 |.zip a b,env=>by rw[dN,dN];exact (aQ a env).bind fun p=>(aQ b env).bind fun q=>.refl _
 |.rev e,env=>by rw[dN,dN];exact (aQ e env).bind fun p=>.refl _
end
mutual
theorem tF:∀(s:St) (env:En),nr (aN ⟨c,gl,fuel⟩ s env) (aN ⟨c',gl,fuel⟩ s env)
 |.asg t e mv,env=>by rw[aN,aN];exact .on (aQ h e env) fun p=>.refl _
 | .mut x path m es,env=>by
  rw[aN,aN];cases ownAt env x with
  |none=>exact .refl _
  |some d =>
   refine .on (lP h path env) fun p=>?_
   cases d.at1 p with
   |none=>exact .refl _
   |some xs=>exact .on (fN h es env) fun l=>.refl _
 | .putd x i v,env=>by
  rw[aN,aN];cases ownAt env x with
  |none=>exact .refl _
  |some d=>exact .on (aQ h v env) fun u=>.on (aQ h i env) fun p=>.refl _
 | .frzd x s,env=>by
  rw[aN,aN];exact tF s _
 | .apop y x es,env=>by
  rw[aN,aN];split
  ·exact .refl _
  cases ownAt env x with
  |none=>exact .refl _
  |some d =>
   dsimp only;cases d.at1 none with
   |none=>exact .refl _
   |some xs=>exact .on (fN h es env) fun l=>.refl _
 | .setix x path i e,env=>by
  rw[aN,aN];cases ownAt env x with
  |none=>exact .refl _
  |some d =>
   refine .on (aQ h e env) fun v=>.on (lP h path env) fun p=>?_
   cases d.at1 p with
   |none=>exact .refl _
   |some xs=>exact .on (aQ h i env) fun l=>.refl _
 | .aug x op e,env=>by
  rw[aN,aN];cases intAt env x with
  |none=>exact .refl _
  |some a=>exact .on (aQ h e env) fun p=>.refl _
 | .popa y x es,env=>by
  rw[aN,aN];cases ownAt env x with
  |none=>exact .refl _
  |some d =>
   dsimp only;cases d.at1 none with
   |none=>exact .refl _
   |some xs=>exact .on (fN h es env) fun l=>.refl _
 |.expr e,env=>by rw[aN,aN];exact .on (aQ h e env) fun p=>.refl _
 | .ite d a b,env=>by
  rw[aN,aN];refine .on (aQ h d env) fun p=>?_
  split
  ·exact fU a env
  ·exact fU b env
  ·exact .refl _
 | .forr t it b,env=>by
  rw[aN,aN];refine .on (uF h it env) fun p=>?_
  rcases jH (t:=t) (R:=p.2) (fun e=>fU b e) p.1 (lock p.2 env) with q | ⟨x,n,q⟩ | q
  ·rw[q];exact .inl rfl
  ·rw[q];exact .inr (.inl ⟨x,n,rfl⟩)
  ·rw[<-q];exact .refl _
 | .forw x e b,env=>by
  rw[aN,aN];refine .on (aQ h e env) fun p=>?_
  split
  ·exact nZ (fun e=>fU b e) _ _
  ·exact .refl _
 | .whl d b,env=>by
  rw[aN,aN];exact ki (fun e=>(aQ h d e).bind fun p=>.refl _) (fun e=>fU b e) fuel env
 |.ret e,env=>by rw[aN,aN];exact .on (aQ h e env) fun p=>.refl _
 |.retN,env=>by rw[aN,aN];exact .refl _
 |.brk,env=>by rw[aN,aN];exact .refl _
 |.cnt,env=>by rw[aN,aN];exact .refl _
 |.pass,env=>by rw[aN,aN];exact .refl _
theorem fU:∀(s:bP) (env:En),nr (aC ⟨c,gl,fuel⟩ s env) (aC ⟨c',gl,fuel⟩ s env)
 |.nil,env=>by rw[aC,aC];exact .refl _
 |.cons s r,env=>by rw[aC,aC];exact (tF s env).then fun e=>fU r e
end
end
theorem vg (fns:List Fn)(gl:Nat->D)(fuel:Nat):∀(n f:Nat) (ds:List D),ku (run fns gl fuel n f ds) (run fns gl fuel (n+1) f ds)
 |0,f,ds=>fun a e=>by cases e
 | n+1,f,ds=>fun a e=>by
  unfold run at e ⊢;cases hF:fns[f]? with
  |none=>rw[hF] at e;cases e
  |some F =>
   rw[hF] at e;dsimp only at e ⊢;by_cases hl:ds.length=F.ps
   ·rw[if_pos hl] at e ⊢;rcases fU (gl:=gl) (fuel:=fuel) (vg fns gl fuel n) F.body (aO ds F.slots) with q | ⟨x,m,q⟩ | q
    ·rw[q] at e;cases e
    ·rw[q] at e;cases e
    ·rw[<-q];exact e
   ·rw[if_neg hl] at e;cases e
theorem uR {fns:List Fn}{gl:Nat->D}{fuel n f:Nat}{ds:List D}{r:D×Bool}(h:run fns gl fuel n f ds = .ok r):∀ k,run fns gl fuel (n+k) f ds = .ok r
 |0=>h
 |k+1=>vg fns gl fuel (n+k) f ds r (uR h k)
end Pc
end
section
namespace Pc.Fr
open PySem Pc Pc.Sm Pc.Lw Pc.Gr Pc.Nw
noncomputable abbrev Tr:=Int×Int×Int
noncomputable abbrev iD (l:List Int):List D:=l.map D.int
noncomputable def wr (M:List (List Int))(t:Tr):List (List Int):=M.set t.1.toNat ((M.getD t.1.toNat []).set t.2.1.toNat t.2.2)
structure Rect (n:Nat)(M:List (List Int)):Prop where
 len:M.length=n
 row:∀ r∈M,r.length=n
noncomputable def zero (n:Nat):List (List Int):=List.replicate n (List.replicate n 0)
theorem oW {n:Nat}{i:Int}(h0:0<=i)(h1:i<n):Pc.jv n i=some i.toNat:=by
 unfold Pc.jv;rw[if_pos h0,if_pos h1]
section
variable {T:Tb}{env:En}
theorem zG {a b:Ex}{i j:Int}{R R':Rt}(hs:(small i || small j)=true)(ha:ev T a env = .ok (.int i,R))(hb:ev T b env = .ok (.int j,R')):ev T (.bin .Mult a b) env = .ok (.int (i*j),.mv []):=by
 rw[ev,ha,aA,hb,aA,jK];simp only[Pc.binI,hs,if_true,Option.map_some,bA,aA,lF]
theorem AK {a b:Ex}{i:Int}{R R':Rt}(ha:ev T a env = .ok (.int i,R))(hb:ev T b env = .ok (.int i,R')):ev T (.cmp .NotEq a b) env = .ok (.bl false,.mv []) :=
 tf ha hb (by show some (i==i)=_;rw[fw])
theorem o5 {a b:Ex}{l:List Int}{i:Int}{v:Int}{R R':Rt}(h0:0<=i)(hv:l[i.toNat]? = some v)(ha:ev T a env = .ok (.lst (iD l),R))(hb:ev T b env = .ok (.int i,R')):ev T (.ix a b) env = .ok (.int v,.mv []):=by
 have hi:=(List.getElem?_eq_some_iff.mp hv).1;have:o6 (.lst (iD l)) (.int i)=some (.int v):=by
  show ((Pc.jv (iD l).length i).bind fun j=>(iD l)[j]?)=_;rw[oW h0 (by rw[aj];omega),fe,List.getElem?_map,hv];rfl
 rw[ev,ha,aA,hb,aA,this];rfl
end
theorem ja:∀{n:Nat}{a i:Int},i∈eA a 1 n->a<=i/\i<a+n
 |0,a,i,h=>by cases h
 | n+1,a,i,h=>by
  rw[eA] at h;rcases bw.mp h with rfl | h
  ·omega
  ·have:=ja h;omega
theorem xG {T:Tb}{env:En}{e:Ex}{l:List Int}{R:Rt}(h:ev T e env = .ok (.lst (iD l),R)):ev T (.blt .list (.cons e .nil)) env = .ok (.lst (iD l),.mv []):=by
 rw[ev,bK,bK,h,aA,aA,aA,AA];show (fD (some (D.lst (iD l)))).bind _=_;rw[bA,aA,hV]
end Pc.Fr
end
section
namespace K44
open PySem Pc
noncomputable def b0:bP:=(.cons (.ret (.mth .sjoin (.cst (.str ("\n" : PySem.Str))) (.cons (.comp 1 [] (.nm 0) (.seq (.var 0)) .none (.call 1 (.cons (.var 0) .nil))) .nil)))
  .nil)
noncomputable def b1:bP:=(.cons (.ret (.mth .sjoin (.cst (.str ("" : PySem.Str))) (.cons (.comp 1 [] (.nm 0) (.seq (.var 0)) .none (.call 2 (.cons (.var 0) .nil))) .nil)))
  .nil)
noncomputable def b2:bP:=(.cons (.ite (.cmp .Is (.var 0) (.cst .non)) (.cons (.ret (.cst (.str ("?" : PySem.Str))))
  .nil) .nil)
  (.cons (.ret (.ite (.cmp .Eq (.var 0) (.cst (.int (1)))) (.cst (.str ("#" : PySem.Str))) (.cst (.str ("." : PySem.Str)))))
  .nil))
noncomputable def b3:bP:=(.cons (.asg (.nm 1) (.mth .ssplit (.var 0) (.cons (.cst (.str ("\n" : PySem.Str))) .nil)) false)
  (.cons (.ite (.cmp .NotIn (.blt .len (.cons (.var 1) .nil)) (.glb 0)) (.cons (.expr (.neg (.cst .non)))
  .nil) .nil)
  (.cons (.asg (.nm 2) (.lst .nil) false)
  (.cons (.forr (.tp [3,4]) (.enum (.var 1)) (.cons (.ite (.or (.cmp .NotEq (.blt .len (.cons (.var 4) .nil)) (.blt .len (.cons (.var 1) .nil))) (.not (.blt .all (.cons (.comp 1 [] (.nm 0) (.seq (.var 4)) .none (.cmp .In (.var 0) (.glb 1))) .nil)))) (.cons (.expr (.neg (.cst .non)))
  .nil) .nil)
  (.cons (.mut 2 .none .append (.cons (.comp 1 [] (.nm 0) (.seq (.var 4)) .none (.ix (.glb 1) (.var 0))) .nil))
  .nil)))
  (.cons (.ret (.var 2))
  .nil)))))
noncomputable def b4:bP:=(.cons (.ret (.bin .Mod (.bin .Mult (.var 0) (.var 1)) (.var 2)))
  .nil)
noncomputable def b5:bP:=(.cons (.ret (.ix (.lst (.cons (.cst (.int (15))) (.cons (.cst (.int (19))) (.cons (.cst (.int (15))) (.cons (.cst (.int (23))) (.cons (.cst (.int (15))) (.cons (.cst (.int (27))) (.cons (.cst (.int (19))) (.cons (.cst (.int (31))) (.cons (.cst (.int (15))) .nil)))))))))) (.bin .Mod (.bin .FloorDiv (.call 4 (.cons (.var 0) (.cons (.cst (.int (48271))) (.cons (.cst (.int (2147483647))) .nil)))) (.cst (.int (7)))) (.cst (.int (9))))))
  .nil)
noncomputable def b6:bP:=(.cons (.ret (.and (.blt (.isi "int") (.cons (.var 0) .nil)) (.not (.blt (.isi "bool") (.cons (.var 0) .nil)))))
  .nil)
noncomputable def b7:bP:=(.cons (.asg (.nm 3) (.lst .nil) false)
  (.cons (.forr (.nm 4) (.rng1 (.var 1)) (.cons (.asg (.nm 5) (.lst .nil) false)
  (.cons (.forr (.nm 6) (.rng1 (.var 1)) (.cons (.asg (.nm 7) (.bin .Add (.bin .Mult (.var 4) (.var 1)) (.var 6)) false)
  (.cons (.asg (.nm 8) (.bin .Mod (.ix (.var 0) (.bin .Mod (.var 7) (.blt .len (.cons (.var 0) .nil)))) (.cst (.int (2147483647)))) false)
  (.cons (.asg (.nm 9) (.bin .Mod (.bin .Mult (.bin .Add (.bin .Add (.var 8) (.var 2)) (.bin .Mult (.bin .Mult (.var 7) (.var 7)) (.cst (.int (69621))))) (.cst (.int (48271)))) (.cst (.int (2147483629)))) false)
  (.cons (.mut 5 .none .append (.cons (.ix (.lst (.cons (.cst (.int (0))) (.cons (.cst (.int (1))) (.cons (.cst (.int (0))) (.cons (.cst (.int (1))) (.cons (.cst (.int (0))) (.cons (.cst (.int (1))) (.cons (.cst .non) .nil)))))))) (.bin .Mod (.bin .FloorDiv (.var 9) (.cst (.int (11)))) (.cst (.int (7))))) .nil))
  .nil)))))
  (.cons (.mut 3 .none .append (.cons (.var 5) .nil))
  .nil))))
  (.cons (.ret (.var 3))
  .nil)))
noncomputable def b8:bP:=(.cons (.asg (.nm 1) (.lst .nil) false)
  (.cons (.forr (.nm 2) (.seq (.var 0)) (.cons (.asg (.nm 3) (.cst (.str ("" : PySem.Str))) false)
  (.cons (.forr (.nm 4) (.seq (.var 2)) (.cons (.ite (.cmp .Is (.var 4) (.cst .non)) (.cons (.asg (.nm 3) (.bin .Add (.var 3) (.cst (.str ("?" : PySem.Str)))) false)
  .nil) (.cons (.ite (.cmp .Eq (.var 4) (.cst (.int (1)))) (.cons (.asg (.nm 3) (.bin .Add (.var 3) (.cst (.str ("#" : PySem.Str)))) false)
  .nil) (.cons (.asg (.nm 3) (.bin .Add (.var 3) (.cst (.str ("." : PySem.Str)))) false)
  .nil))
  .nil))
  .nil))
  (.cons (.mut 1 .none .append (.cons (.var 3) .nil))
  .nil))))
  (.cons (.ret (.mth .sjoin (.cst (.str ("\n" : PySem.Str))) (.cons (.var 1) .nil)))
  .nil)))
noncomputable def b9:bP:=(.cons (.ite (.or (.not (.blt (.isi "list") (.cons (.var 0) .nil))) (.cmp .NotEq (.blt .len (.cons (.var 0) .nil)) (.blt .len (.cons (.var 1) .nil)))) (.cons (.ret (.cst (.bl false)))
  .nil) .nil)
  (.cons (.forr (.tp [2,3]) (.zip (.var 0) (.var 1)) (.cons (.ite (.or (.not (.blt (.isi "list") (.cons (.var 2) .nil))) (.cmp .NotEq (.blt .len (.cons (.var 2) .nil)) (.blt .len (.cons (.var 3) .nil)))) (.cons (.ret (.cst (.bl false)))
  .nil) .nil)
  (.cons (.forr (.tp [4,5]) (.zip (.var 2) (.var 3)) (.cons (.ite (.and (.cmp .Is (.var 5) (.cst .non)) (.cmp .IsNot (.var 4) (.cst .non))) (.cons (.ret (.cst (.bl false)))
  .nil) .nil)
  (.cons (.ite (.and (.cmp .IsNot (.var 5) (.cst .non)) (.or (.not (.call 6 (.cons (.var 4) .nil))) (.cmp .NotEq (.var 4) (.var 5)))) (.cons (.ret (.cst (.bl false)))
  .nil) .nil)
  .nil)))
  .nil)))
  (.cons (.ret (.cst (.bl true)))
  .nil)))
noncomputable def Bk:bP:=(.cons (.asg (.nm 1) (.bin .Add (.blt .list (.cons (.var 0) .nil)) (.lst (.cons (.blt .len (.cons (.var 0) .nil)) .nil))) false)
  (.cons (.asg (.nm 2) (.call 5 (.cons (.ix (.var 1) (.cst (.int (0)))) .nil)) false)
  (.cons (.asg (.nm 3) (.call 7 (.cons (.var 1) (.cons (.var 2) (.cons (.call 4 (.cons (.ix (.var 1) (.neg (.cst (.int (1))))) (.cons (.cst (.int (16807))) (.cons (.cst (.int (2147483647))) .nil)))) .nil)))) false)
  (.cons (.asg (.nm 4) (.comp 1 [] (.nm 0) (.seq (.var 3)) .none (.blt .list (.cons (.var 0) .nil))) false)
  (.cons (.asg (.nm 5) (.call 8 (.cons (.var 3) .nil)) false)
  (.cons (.asg (.nm 6) (.call 0 (.cons (.var 4) .nil)) false)
  (.cons (.ite (.or (.cmp .NotEq (.var 4) (.var 3)) (.or (.not (.blt (.isi "str") (.cons (.var 6) .nil))) (.cmp .NotEq (.var 6) (.var 5)))) (.cons (.ret (.cst (.bl false)))
  .nil) .nil)
  (.cons (.asg (.nm 7) (.call 3 (.cons (.var 5) .nil)) false)
  (.cons (.ite (.not (.call 9 (.cons (.var 7) (.cons (.var 3) .nil)))) (.cons (.ret (.cst (.bl false)))
  .nil) .nil)
  (.cons (.setix 7 (.some (.cst (.int (0)))) (.cst (.int (0))) (.cst (.int (5))))
  (.cons (.mut 7 .none .reverse .nil)
  (.cons (.ret (.call 9 (.cons (.call 3 (.cons (.var 5) .nil)) (.cons (.var 3) .nil))))
  .nil))))))))))))
noncomputable def fns:List Fn:=[⟨1,1,b0⟩,⟨1,1,b1⟩,⟨1,1,b2⟩,⟨1,5,b3⟩,⟨3,3,b4⟩,⟨1,1,b5⟩,⟨1,1,b6⟩,⟨3,10,b7⟩,⟨1,5,b8⟩,⟨2,6,b9⟩,⟨1,8,Bk⟩]
noncomputable def gl:Nat->D
 |0=>.tup [.int 15,.int 19,.int 23,.int 27,.int 31]
 |1=>.dct [(.inr "#",some 1),(.inr ".",some 0),(.inr "?",none)]
 |_=>.non
noncomputable abbrev T (n:Nat):Tb:=⟨Pc.run fns gl 1000 n,gl,1000⟩
end K44
end
section
namespace K44
open PySem Pc Pc.Sm Pc.Lw Pc.Gr Pc.Nw Pc.Fr
noncomputable abbrev Ce:=Option Bool
noncomputable def cD:Ce->D
 |none=>.non
 |some true=>.int 1
 |some false=>.int 0
noncomputable def cp:Ce->Nat
 |none=>63
 |some true=>35
 |some false=>46
theorem B2 (c:Ce):cp c≠10:=by
 cases c with
 |none=>decide
 |some b=>cases b<;>decide
noncomputable def aL (r:List Ce):Str:=⟨(r.map cp).toArray⟩
noncomputable abbrev one (c:Ce):Str:=⟨#[cp c]⟩
noncomputable abbrev qE (r:List Ce):D:=.lst (r.map cD)
noncomputable abbrev eO (M:List (List Ce)):List D:=M.map qE
noncomputable def nl:Str:=⟨#[10]⟩
noncomputable def sH (M:List (List Ce)):Str:=Str.join nl (M.map aL)
theorem jD {a b:Str}(h:a.cps.toList=b.cps.toList):a=b:=by
 cases a;cases b;congr 1;exact Array.toList_inj.mp h
theorem kF (a b:Str):(a++b).cps.toList=a.cps.toList++b.cps.toList:=by
 show (a.cps++b.cps).toList=_;simp
theorem i7 (r:List Ce):(aL r).cps.toList=r.map cp:=by simp[aL]
theorem gC (r:List Ce):(aL r).length=r.length:=by simp[aL,Str.length]
theorem jX (s x y:Str)(r:List Str):Str.join s (x::y::r)=x++s++Str.join s (y::r):=rfl
theorem join_one:∀ r:List Ce,Str.join ⟨#[]⟩ (r.map one)=aL r
 |[]=>rfl
 |[c]=>rfl
 | c::d::r=>by
  have ih:Str.join ⟨#[]⟩ (one d::r.map one)=aL (d::r):=join_one (d::r);show Str.join ⟨#[]⟩ (one c::one d::r.map one)=_;rw[jX,ih];refine jD ?_;rw[kF,kF,i7,i7];rfl
theorem Bx {c:Nat}:∀{a b x y:List Nat},c∉a->c∉b->a++c::x=b++c::y->a=b/\x=y
 |[],[],x,y,_,_,h=>⟨rfl,by simpa using h⟩
 | [],b::bs,x,y,_,hb,h=>by
  simp only[List.nil_append,List.cons_append,List.cons.injEq] at h;exact absurd (by rw[h.1];exact ai) hb
 | a::as,[],x,y,ha,_,h=>by
  simp only[List.nil_append,List.cons_append,List.cons.injEq] at h;exact absurd (by rw[h.1];exact ai) ha
 | a::as,b::bs,x,y,ha,hb,h=>by
  simp only[List.cons_append,List.cons.injEq] at h;obtain⟨h1,h2⟩:=Bx (fun z=>ha (ae _ z)) (fun z=>hb (ae _ z)) h.2;exact⟨by rw[h.1,h1],h2⟩
theorem my (c:Nat)(x y:Str)(r:List Str):(Str.join ⟨#[c]⟩ (x::y::r)).cps.toList=x.cps.toList++c::(Str.join ⟨#[c]⟩ (y::r)).cps.toList:=by
 rw[jX,kF,kF,dg];rfl
theorem mem_join {c:Nat}{x y:Str}{r:List Str}:c∈(Str.join ⟨#[c]⟩ (x::y::r)).cps.toList:=by
 rw[my];exact ak _ ai
theorem om {c:Nat}:∀{a b:List Str},a≠[]->b≠[]->(∀ p∈a,c∉p.cps.toList)->(∀ p∈b,c∉p.cps.toList)->Str.join ⟨#[c]⟩ a=Str.join ⟨#[c]⟩ b->a=b
 |[],_,h,_,_,_,_=>absurd rfl h
 |_,[],_,h,_,_,_=>absurd rfl h
 | [x],[y],_,_,_,_,h=>by
  have h:x=y:=h;rw[h]
 | [x],y::z::r,_,_,ha,_,h=>by
  have h:x=_:=h;exact absurd (by rw[h];exact mem_join) (ha x ai)
 | y::z::r,[x],_,_,_,hb,h=>by
  have h:_=x:=h;exact absurd (by rw[<-h];exact mem_join) (hb x ai)
 | x::x'::r,y::y'::q,_,_,ha,hb,h=>by
  have h':=fk (fun s:Str=>s.cps.toList) h;have h':(Str.join ⟨#[c]⟩ (x::x'::r)).cps.toList=(Str.join ⟨#[c]⟩ (y::y'::q)).cps.toList:=h';rw[my,my] at h';obtain⟨h1,h2⟩:=Bx (ha x ai) (hb y ai) h';have:=om (a:=x'::r) (b:=y'::q) (by simp) (by simp) (fun p hp=>ha p (List.mem_cons_of_mem _ hp)) (fun p hp=>hb p (List.mem_cons_of_mem _ hp)) (jD h2);rw[jD h1,this]
theorem vG (x:Str)(c:Nat):Txt.split x ⟨#[c]⟩≠[]:=by
 unfold Txt.split;split
 ·simp
 ·split
  ·simp
  ·rw[StrLaws.partsBetween_eq];obtain⟨p,r,e⟩:=StrLaws.partsFrom_ne x (⟨#[c]⟩:Str).length 0 (Builtin.Str.occurrences x ⟨#[c]⟩ 0 x.length (x.length+1));rw[e];simp
theorem nS (c:Nat):∀ l:List Str,(Str.join ⟨#[c]⟩ l).length<=(l.map (·.length)).sum+l.length
 |[]=>cx _
 |[x]=>by show x.length<=x.length+0+1;omega
 | x::y::r=>by
  have ih:=nS c (y::r);have:(Str.join ⟨#[c]⟩ (x::y::r)).length=x.length+1+(Str.join ⟨#[c]⟩ (y::r)).length:=by
   show (x.cps ++ #[c]++(Str.join ⟨#[c]⟩ (y::r)).cps).size=_;rw[Array.size_append,Array.size_append];rfl
  rw[this,ax,List.sum_cons,be];omega
theorem nU {α:Type}{T:Tb}{own:Nat}{pick:List Nat}{t:iT}{it:ou}{e:Ex}{env:En}{l:List α}{R:List Nat}{g r:α->D}(hit:dN T it env = .ok (l.map g,R))(hl:l.length<=1000)
  (hg:∀ a∈l,bY (bN [] t (g a) (cZ env own pick)) (oq T .none) (ev T e) = .ok (some (r a,.mv []))):ev T (.comp own pick t it .none e) env = .ok (.lst (l.map r),.mv []):=by
 rw[ev,hit,aA,ji (f:=fun d=>bY (bN [] t d (cZ env own pick)) (oq T .none) (ev T e)) (c:=fun _=>true) (r:=r) (fun a ha=>by rw[hg a ha];rfl),aA];dsimp only;rw[List.filter_eq_self.mpr fun _ _=>rfl,if_pos (by rw[aj];exact fJ hl),if_pos,gn]
 ·rfl
 ·rw[bt];intro q hq;obtain⟨a,_,rfl⟩:=List.mem_map.mp hq;show ((r a).flat || true)=true;rw[eu]
theorem yC {T:Tb}{e:Ex}{env:En}{d:D}(h:ev T e env = .ok (d,.mv [])):bY (some env) (oq T .none) (ev T e) = .ok (some (d,.mv [])):=by
 unfold bY;dsimp only;rw[oq,aA,if_pos rfl,h,aA]
noncomputable abbrev sT (s:Str):Slot:=some (.str s,.own)
noncomputable abbrev sC (c:Ce):Slot:=some (cD c,.own)
theorem xp (c:Ce):(cD c).flat=true:=by
 cases c with
 |none=>rfl
 |some b=>cases b<;>rfl
theorem qr:(("" : PySem.Str))=⟨#[]⟩:=by decide +kernel
theorem y0:(("\n" : PySem.Str))=nl:=by decide +kernel
theorem e_q:(("?" : PySem.Str))=one none:=by decide +kernel
theorem e_h:(("#" : PySem.Str))=one (some true):=by decide +kernel
theorem e_d:(("." : PySem.Str))=one (some false):=by decide +kernel
theorem nW:∀ l:List Str,nK (l.map D.str)=some l
 |[]=>rfl
 | a::l=>by
  show (nK (l.map D.str)).map (a :: ·)=_;rw[nW l];rfl
theorem me {T:Tb}{env:En}{e:Ex}{x:Str}{ys:List Str}{R:Rt}(h:ev T e env = .ok (.lst (ys.map D.str),R))(hl:(ys.map (·.length)).sum+ys.length*x.length<=1000000):ev T (.mth .sjoin (.cst (.str x)) (.cons e .nil)) env = .ok (.str (Str.join x ys),.mv []):=by
 rw[ev,aH,aA,bK,h,aA,bK,aA,aA];show (fD ((nK (ys.map D.str)).bind fun ys=>if (ys.map (·.length)).sum+ys.length*x.length<=lim then some (D.str (Str.join x ys)) else none)).bind _=_;rw[nW,fe,if_pos (show _<=lim from hl),bA,aA];rfl
theorem nF:∀ r:List Ce,((r.map one).map (·.length)).sum=r.length
 |[]=>rfl
 | c::r=>by
  rw[ax,ax,List.sum_cons,nF r,be];show 1+_=_;omega
structure Sq (n:Nat)(M:List (List Ce)):Prop where
 len:M.length=n
 row:∀ r∈M,r.length=n
theorem gZ {T:Tb}{env:En}{a b:Ex}{x y:Str}{R R':Rt}(ha:ev T a env = .ok (.str x,R))(hb:ev T b env = .ok (.str y,R'))(hl:x.length+y.length<=1000):ev T (.bin .Add a b) env = .ok (.str (x++y),.mv []):=by
 rw[ev,ha,aA,hb,aA];show (fD (ck (x.length+y.length) (.str (x++y)))).bind _=_;unfold ck;rw[if_pos (fJ hl),bA,aA];rfl
theorem A9:gl 1 = .dct [(.inr (one (some true)),some 1),(.inr (one (some false)),some 0),(.inr (one none),none)]:=by
 show D.dct [(.inr ("#" : PySem.Str),some 1),(.inr ("." : PySem.Str),some 0),(.inr ("?" : PySem.Str),none)]=_;rw[e_q,e_h,e_d]
theorem wD (c:Ce):o6 (gl 1) (.str (one c))=some (cD c):=by
 rw[A9];cases c with
 |none=>rfl
 |some b=>cases b<;>rfl
theorem ub {env:En}{own:Str}:bN [] (.nm 0) (.str own) (cZ env 1 [])=some [sT own]:=rfl
theorem jA {T:Tb}{env:En}{e:Ex}{s:Str}{R:Rt}(h:ev T e env = .ok (.str s,R))(hl:s.length<=1000):ev T (.blt .len (.cons e .nil)) env = .ok (.int (s.length:Int),.mv []):=by
 rw[ev,bK,h,aA,bK,aA,aA];show (fD (if s.length<=lim then some (D.int (s.length:Int)) else none)).bind _=_;rw[if_pos (fJ hl)];rfl
noncomputable abbrev r9 (ys:List Str):Slot:=some (.lst (ys.map D.str),.lk)
noncomputable def rF:bP:=(.cons (.ret (.cst (.bl false))) .nil)
theorem Cp {T:Tb}{env:En}{a b:Ex}{R:Rt}(h:ev T a env = .ok (.bl false,R)):ev T (.and a b) env = .ok (.bl false,.mv []):=by
 rw[ev,h,aA]
theorem Cq {T:Tb}{env:En}{a b:Ex}{R:Rt}{r:Rs (D×Rt)}(h:ev T a env = .ok (.bl true,R))(h':ev T b env=r):ev T (.and a b) env=r:=by
 rw[ev,h,aA];exact h'
theorem iq {T:Tb}{env:En}{a b:Ex}{i j:Int}{R R':Rt}(hs:(small i || small j)=true)(ha:ev T a env = .ok (.int i,R))(hb:ev T b env = .ok (.int j,R')):ev T (.bin .Mult a b) env = .ok (.int (i*j),.mv []):=Fr.zG hs ha hb
theorem mD {α:Type}{l:List α}{i:Nat}(h:i<l.length):∃ v,l[i]? = some v:=⟨l[i],List.getElem?_eq_getElem h⟩
theorem lp {k:Int}(h0:0<=k)(h:k<=1000000):small k=true:=vA h0 (by omega)
theorem xo {T:Tb}{env:En}{e:Ex}{n:Nat}{R:Rt}(h:ev T e env = .ok (.int (n:Int),R))(hn:n<=1000):dN T (.rng1 e) env = .ok ((eA 0 1 n).map D.int,[]):=by
 rw[rngN h hn];congr 2;have:∀(n:Nat) (a:Int),bU a 1 n=(eA a 1 n).map D.int:=fun n=>by
  induction n with
  |zero=>intro a;rfl
  |succ n ih=>intro a;show D.int a::bU (a+1) 1 n=_;rw[ih];rfl
 exact this n 0
end K44
end
section
namespace K45
open PySem Pc
noncomputable def b0:bP:=(.cons (.asg (.nm 1) (.mth .ssplit (.var 0) (.cons (.cst (.str ("\n" : PySem.Str))) .nil)) false)
  (.cons (.ite (.cmp .NotIn (.blt .len (.cons (.var 1) .nil)) (.glb 0)) (.cons (.expr (.neg (.cst .non)))
  .nil) .nil)
  (.cons (.asg (.nm 2) (.lst .nil) false)
  (.cons (.forr (.tp [3,4]) (.enum (.var 1)) (.cons (.ite (.or (.cmp .NotEq (.blt .len (.cons (.var 4) .nil)) (.blt .len (.cons (.var 1) .nil))) (.not (.blt .all (.cons (.comp 1 [] (.nm 0) (.seq (.var 4)) .none (.cmp .In (.var 0) (.glb 1))) .nil)))) (.cons (.expr (.neg (.cst .non)))
  .nil) .nil)
  (.cons (.mut 2 .none .append (.cons (.comp 1 [] (.nm 0) (.seq (.var 4)) .none (.ix (.glb 1) (.var 0))) .nil))
  .nil)))
  (.cons (.ret (.var 2))
  .nil)))))
noncomputable def b1:bP:=(.cons (.ret (.bin .Mod (.bin .Mult (.var 0) (.var 1)) (.var 2)))
  .nil)
noncomputable def b2:bP:=(.cons (.ret (.and (.blt (.isi "int") (.cons (.var 0) .nil)) (.not (.blt (.isi "bool") (.cons (.var 0) .nil)))))
  .nil)
noncomputable def b3:bP:=(.cons (.asg (.nm 2) (.lst .nil) false)
  (.cons (.forr (.nm 3) (.rng1 (.var 1)) (.cons (.asg (.nm 4) (.lst .nil) false)
  (.cons (.forr (.nm 5) (.rng1 (.var 1)) (.cons (.asg (.nm 6) (.bin .Add (.bin .Mult (.var 3) (.var 1)) (.var 5)) false)
  (.cons (.asg (.nm 7) (.bin .Mod (.ix (.var 0) (.bin .Mod (.var 6) (.blt .len (.cons (.var 0) .nil)))) (.cst (.int (2147483647)))) false)
  (.cons (.asg (.nm 7) (.bin .Mod (.bin .Mult (.bin .Add (.bin .Add (.var 7) (.bin .Mult (.bin .Mult (.var 6) (.var 6)) (.cst (.int (69621))))) (.cst (.int (7)))) (.cst (.int (48271)))) (.cst (.int (2147483629)))) false)
  (.cons (.mut 4 .none .append (.cons (.ix (.cst (.str ("#.#.#.?" : PySem.Str))) (.bin .Mod (.bin .FloorDiv (.var 7) (.cst (.int (11)))) (.cst (.int (7))))) .nil))
  .nil)))))
  (.cons (.mut 2 .none .append (.cons (.mth .sjoin (.cst (.str ("" : PySem.Str))) (.cons (.var 4) .nil)) .nil))
  .nil))))
  (.cons (.ret (.var 2))
  .nil)))
noncomputable def b4:bP:=(.cons (.asg (.nm 1) (.cst (.str (" !\"#$&'()*+,-./0123456789:;<=>?@ABCDEFGHIJKLMNOPQRSTUVWXYZ[\\]^_`" : PySem.Str))) false)
  (.cons (.asg (.nm 1) (.bin .Add (.var 1) (.cst (.str ("abcdefghijklmnopqrstuvwxyz{|}~" : PySem.Str)))) false)
  (.cons (.ret (.ix (.var 1) (.bin .Mod (.var 0) (.cst (.int (94))))))
  .nil)))
noncomputable def b5:bP:=(.cons (.asg (.nm 2) (.call 1 (.cons (.var 1) (.cons (.cst (.int (39373))) (.cons (.cst (.int (2147483587))) .nil)))) false)
  (.cons (.ite (.cmp .Eq (.var 0) (.lst .nil)) (.cons (.ret (.var 0))
  .nil) .nil)
  (.cons (.asg (.nm 3) (.bin .Mod (.bin .FloorDiv (.var 2) (.cst (.int (7)))) (.blt .len (.cons (.var 0) .nil))) false)
  (.cons (.asg (.nm 4) (.ix (.var 0) (.var 3)) false)
  (.cons (.asg (.nm 5) (.bin .Mod (.bin .FloorDiv (.var 2) (.cst (.int (300)))) (.bin .Add (.blt .len (.cons (.var 4) .nil)) (.cst (.int (1))))) false)
  (.cons (.asg (.nm 6) (.bin .Mod (.var 2) (.cst (.int (7)))) false)
  (.cons (.asg (.nm 7) (.lst (.cons (.var 4) .nil)) false)
  (.cons (.ite (.cmp .Lt (.var 6) (.cst (.int (2)))) (.cons (.asg (.nm 7) (.lst (.cons (.bin .Add (.bin .Add (.sl (.var 4) .none (.some (.var 5))) (.call 4 (.cons (.bin .FloorDiv (.var 2) (.cst (.int (12000)))) .nil))) (.sl (.var 4) (.some (.bin .Add (.var 5) (.cst (.int (1))))) .none)) .nil)) false)
  .nil) .nil)
  (.cons (.ite (.cmp .Eq (.var 6) (.cst (.int (2)))) (.cons (.asg (.nm 7) (.lst (.cons (.bin .Add (.bin .Add (.sl (.var 4) .none (.some (.var 5))) (.cst (.str ("#" : PySem.Str)))) (.sl (.var 4) (.some (.var 5)) .none)) .nil)) false)
  .nil) .nil)
  (.cons (.ite (.cmp .Eq (.var 6) (.cst (.int (3)))) (.cons (.asg (.nm 7) (.lst (.cons (.bin .Add (.sl (.var 4) .none (.some (.var 5))) (.sl (.var 4) (.some (.bin .Add (.var 5) (.cst (.int (1))))) .none)) .nil)) false)
  .nil) .nil)
  (.cons (.ite (.cmp .Eq (.var 6) (.cst (.int (4)))) (.cons (.asg (.nm 7) (.lst (.cons (.cst (.str ("" : PySem.Str))) .nil)) false)
  .nil) .nil)
  (.cons (.ite (.cmp .Eq (.var 6) (.cst (.int (5)))) (.cons (.asg (.nm 7) (.lst (.cons (.var 4) (.cons (.var 4) .nil))) false)
  .nil) .nil)
  (.cons (.ite (.cmp .Eq (.var 6) (.cst (.int (6)))) (.cons (.asg (.nm 7) (.lst .nil) false)
  .nil) .nil)
  (.cons (.ret (.bin .Add (.bin .Add (.sl (.var 0) .none (.some (.var 3))) (.var 7)) (.sl (.var 0) (.some (.bin .Add (.var 3) (.cst (.int (1))))) .none)))
  .nil))))))))))))))
noncomputable def b6:bP:=(.cons (.ite (.cmp .NotIn (.blt .len (.cons (.var 0) .nil)) (.lst (.cons (.cst (.int (15))) (.cons (.cst (.int (19))) (.cons (.cst (.int (23))) (.cons (.cst (.int (27))) (.cons (.cst (.int (31))) .nil))))))) (.cons (.ret (.cst (.int (0))))
  .nil) .nil)
  (.cons (.forr (.nm 1) (.rng1 (.blt .len (.cons (.var 0) .nil))) (.cons (.ite (.cmp .NotEq (.blt .len (.cons (.ix (.var 0) (.var 1)) .nil)) (.blt .len (.cons (.var 0) .nil))) (.cons (.ret (.var 1))
  .nil) .nil)
  (.cons (.forr (.nm 2) (.seq (.ix (.var 0) (.var 1))) (.cons (.ite (.cmp .NotIn (.var 2) (.lst (.cons (.cst (.str ("#" : PySem.Str))) (.cons (.cst (.str ("." : PySem.Str))) (.cons (.cst (.str ("?" : PySem.Str))) .nil))))) (.cons (.ret (.var 1))
  .nil) .nil)
  .nil))
  .nil)))
  (.cons (.ret (.neg (.cst (.int (1)))))
  .nil)))
noncomputable def b7:bP:=(.cons (.asg (.nm 1) (.mth .ssplit (.var 0) (.cons (.cst (.str ("\n" : PySem.Str))) .nil)) false)
  (.cons (.ite (.cmp .NotIn (.blt .len (.cons (.var 1) .nil)) (.glb 0)) (.cons (.expr (.ite (.cmp .Lt (.cst (.int (0))) (.cst (.int (18446744073709551616)))) (.ite (.cmp .Lt (.cst (.int (0))) (.cst (.int (0)))) (.neg (.cst .non)) (.cst (.int (0)))) (.neg (.cst .non)))) (.cons (.ret (.cst (.int (0)))) .nil)) .nil)
  (.cons (.asg (.nm 2) (.lst .nil) false)
  (.cons (.forr (.tp [3,4]) (.enum (.var 1)) (.cons (.ite (.or (.cmp .NotEq (.blt .len (.cons (.var 4) .nil)) (.blt .len (.cons (.var 1) .nil))) (.not (.blt .all (.cons (.comp 1 [] (.nm 0) (.seq (.var 4)) .none (.cmp .In (.var 0) (.glb 1))) .nil)))) (.cons (.expr (.ite (.cmp .Lt (.var 3) (.cst (.int (18446744073709551616)))) (.ite (.cmp .Lt (.var 3) (.cst (.int (0)))) (.neg (.cst .non)) (.var 3)) (.neg (.cst .non)))) (.cons (.ret (.var 3)) .nil)) .nil)
  (.cons (.mut 2 .none .append (.cons (.comp 1 [] (.nm 0) (.seq (.var 4)) .none (.ix (.glb 1) (.var 0))) .nil))
  .nil)))
  (.cons (.expr (.var 2)) (.cons (.ret (.cst .non)) .nil))))))
noncomputable def b8:bP:=(.cons (.asg (.nm 1) (.mth .ssplit (.var 0) (.cons (.cst (.str ("\n" : PySem.Str))) .nil)) false)
  (.cons (.ite (.cmp .NotIn (.blt .len (.cons (.var 1) .nil)) (.glb 0)) (.cons (.expr (.ite (.cmp .Lt (.cst (.int (0))) (.cst (.int (18446744073709551616)))) (.ite (.cmp .Lt (.cst (.int (0))) (.cst (.int (0)))) (.neg (.cst .non)) (.cst (.int (0)))) (.neg (.cst .non)))) (.cons (.ret (.lst (.cons (.cst (.bl true)) (.cons (.cst (.bl true)) (.cons (.cst (.bl false)) (.cons (.cst (.bl false)) (.cons (.cst (.bl false)) .nil))))))) .nil)) .nil)
  (.cons (.asg (.nm 2) (.lst .nil) false)
  (.cons (.forr (.tp [3,4]) (.enum (.var 1)) (.cons (.ite (.or (.cmp .NotEq (.blt .len (.cons (.var 4) .nil)) (.blt .len (.cons (.var 1) .nil))) (.not (.blt .all (.cons (.comp 1 [] (.nm 0) (.seq (.var 4)) .none (.cmp .In (.var 0) (.glb 1))) .nil)))) (.cons (.expr (.ite (.cmp .Lt (.var 3) (.cst (.int (18446744073709551616)))) (.ite (.cmp .Lt (.var 3) (.cst (.int (0)))) (.neg (.cst .non)) (.var 3)) (.neg (.cst .non)))) (.cons (.ret (.lst (.cons (.cst (.bl true)) (.cons (.cst (.bl true)) (.cons (.cst (.bl false)) (.cons (.cst (.bl false)) (.cons (.cst (.bl false)) .nil))))))) .nil)) .nil)
  (.cons (.mut 2 .none .append (.cons (.comp 1 [] (.nm 0) (.seq (.var 4)) .none (.ix (.glb 1) (.var 0))) .nil))
  .nil)))
  (.cons (.expr (.var 2)) (.cons (.ret (.lst .nil)) .nil))))))
noncomputable def b9:bP:=(.cons (.asg (.nm 2) (.call 0 (.cons (.var 0) .nil)) false)
  (.cons (.ite (.or (.not (.blt (.isi "list") (.cons (.var 2) .nil))) (.cmp .NotEq (.blt .len (.cons (.var 2) .nil)) (.blt .len (.cons (.var 1) .nil)))) (.cons (.ret (.cst (.bl false)))
  .nil) .nil)
  (.cons (.forr (.tp [3,4]) (.zip (.var 2) (.var 1)) (.cons (.ite (.or (.not (.blt (.isi "list") (.cons (.var 3) .nil))) (.cmp .NotEq (.blt .len (.cons (.var 3) .nil)) (.blt .len (.cons (.var 4) .nil)))) (.cons (.ret (.cst (.bl false)))
  .nil) .nil)
  (.cons (.forr (.tp [5,6]) (.zip (.var 3) (.var 4)) (.cons (.ite (.and (.cmp .Eq (.var 6) (.cst (.str ("?" : PySem.Str)))) (.cmp .IsNot (.var 5) (.cst .non))) (.cons (.ret (.cst (.bl false)))
  .nil) .nil)
  (.cons (.ite (.and (.cmp .NotEq (.var 6) (.cst (.str ("?" : PySem.Str)))) (.or (.not (.call 2 (.cons (.var 5) .nil))) (.cmp .NotEq (.var 5) (.blt .int (.cons (.cmp .Eq (.var 6) (.cst (.str ("#" : PySem.Str)))) .nil))))) (.cons (.ret (.cst (.bl false)))
  .nil) .nil)
  .nil)))
  .nil)))
  (.cons (.ret (.cst (.bl true)))
  .nil))))
noncomputable def Bk:bP:=(.cons (.asg (.nm 1) (.bin .Add (.blt .list (.cons (.var 0) .nil)) (.lst (.cons (.blt .len (.cons (.var 0) .nil)) .nil))) false)
  (.cons (.asg (.nm 2) (.call 1 (.cons (.ix (.var 1) (.cst (.int (0)))) (.cons (.cst (.int (48271))) (.cons (.cst (.int (2147483647))) .nil)))) false)
  (.cons (.asg (.nm 3) (.ix (.lst (.cons (.cst (.int (15))) (.cons (.cst (.int (19))) (.cons (.cst (.int (15))) (.cons (.cst (.int (23))) (.cons (.cst (.int (15))) (.cons (.cst (.int (27))) (.cons (.cst (.int (19))) (.cons (.cst (.int (31))) (.cons (.cst (.int (15))) (.cons (.bin .Add (.cst (.int (2))) (.bin .Mod (.bin .FloorDiv (.var 2) (.cst (.int (11)))) (.cst (.int (60))))) (.cons (.bin .Add (.cst (.int (13))) (.bin .Mod (.bin .FloorDiv (.var 2) (.cst (.int (11)))) (.cst (.int (21))))) (.cons (.cst (.int (1))) (.cons (.cst (.int (0))) .nil)))))))))))))) (.bin .Mod (.var 2) (.cst (.int (13))))) false)
  (.cons (.asg (.nm 4) (.call 3 (.cons (.var 1) (.cons (.var 3) .nil))) false)
  (.cons (.forr (.nm 5) (.seq (.sl (.var 1) (.some (.bin .Sub (.neg (.cst (.int (1)))) (.bin .Mod (.bin .FloorDiv (.var 2) (.cst (.int (231)))) (.cst (.int (3)))))) .none)) (.cons (.ite (.cmp .Gt (.bin .Mod (.bin .FloorDiv (.var 2) (.cst (.int (700)))) (.cst (.int (4)))) (.cst (.int (0)))) (.cons (.asg (.nm 4) (.call 5 (.cons (.var 4) (.cons (.var 5) .nil))) false)
  .nil) .nil)
  .nil))
  (.cons (.ite (.and (.cmp .NotEq (.var 4) (.lst .nil)) (.cmp .Eq (.bin .Mod (.bin .FloorDiv (.var 2) (.cst (.int (2800)))) (.cst (.int (8)))) (.cst (.int (0))))) (.cons (.asg (.nm 4) (.bin .Add (.var 4) (.lst (.cons (.cst (.str ("" : PySem.Str))) .nil))) false)
  .nil) .nil)
  (.cons (.asg (.nm 6) (.mth .sjoin (.cst (.str ("\n" : PySem.Str))) (.cons (.var 4) .nil)) false)
  (.cons (.ite (.cmp .Eq (.var 4) (.lst .nil)) (.cons (.asg (.nm 4) (.lst (.cons (.cst (.str ("" : PySem.Str))) .nil)) false)
  .nil) .nil)
  (.cons (.asg (.nm 7) (.call 6 (.cons (.var 4) .nil)) false)
  (.cons (.ite (.cmp .Lt (.var 7) (.cst (.int (0)))) (.cons (.ret (.call 9 (.cons (.var 6) (.cons (.var 4) .nil))))
  .nil) .nil)
  (.cons (.asg (.nm 8) (.call 7 (.cons (.var 6) .nil)) false)
  (.cons (.ite (.or (.not (.call 2 (.cons (.var 8) .nil))) (.cmp .NotEq (.var 8) (.var 7))) (.cons (.ret (.cst (.bl false)))
  .nil) .nil)
  (.cons (.ret (.cmp .Eq (.call 8 (.cons (.var 6) .nil)) (.lst (.cons (.cst (.bl true)) (.cons (.cst (.bl true)) (.cons (.cst (.bl false)) (.cons (.cst (.bl false)) (.cons (.cst (.bl false)) .nil))))))))
  .nil)))))))))))))
noncomputable def fns:List Fn:=[⟨1,5,b0⟩,⟨3,3,b1⟩,⟨1,1,b2⟩,⟨2,8,b3⟩,⟨1,2,b4⟩,⟨2,8,b5⟩,⟨1,3,b6⟩,⟨1,5,b7⟩,⟨1,5,b8⟩,⟨2,7,b9⟩,⟨1,9,Bk⟩]
noncomputable def gl:Nat->D
 |0=>.tup [.int 15,.int 19,.int 23,.int 27,.int 31]
 |1=>.dct [(.inr "#",some 1),(.inr ".",some 0),(.inr "?",none)]
 |_=>.non
noncomputable abbrev T (n:Nat):Tb:=⟨Pc.run fns gl 1000 n,gl,1000⟩
theorem wN (n:Nat):(T n).cl=Pc.run fns gl 1000 n:=rfl
end K45
end
section
namespace K45
open PySem Pc Pc.Sm Pc.Lw Pc.Gr Pc.Nw Pc.Fr
open K44 (Ce cD cp aL one qE eO nl sH sT sC r9 Sq)
noncomputable def dZ (c:Nat):Bool:=c==35 || c==46 || c==63
noncomputable def cV (n:Nat)(s:Str):Bool:=s.length==n&&s.cps.toList.all dZ
noncomputable def vM (c:Nat):Ce:=if c=35 then some true else if c=46 then some false else none
theorem yn {c:Nat}(h:dZ c=true):cp (vM c)=c:=by
 unfold dZ at h;simp only[Bool.or_eq_true,beq_iff_eq] at h;rcases h with (rfl | rfl) | rfl<;>rfl
theorem zY {n:Nat}{s:Str}(h:cV n s=true):∃ r:List Ce,s=aL r/\r.length=n:=by
 unfold cV at h;simp only[Bool.and_eq_true,beq_iff_eq] at h;have hall:=bt.mp h.2;refine⟨s.cps.toList.map vM,K44.jD ?_,?_⟩
 ·rw[K44.i7,gn]
  conv=>lhs;rw[<-List.map_id s.cps.toList]
  exact (List.map_congr_left fun c hc=>(yn (hall c hc)).symm)
 ·rw[aj];exact h.1
theorem oH {rows:List Str}(h:rows≠[])(hf:∀ p∈rows,10∉p.cps.toList):gA (Str.join nl rows) nl=rows:=by
 show Txt.split (Str.join nl rows) ⟨#[10]⟩=_;exact K44.om (c:=10) (K44.vG _ _) h (StrLaws.split_free _ 10) hf (StrLaws.join_split _ _)
theorem A9:gl 1 = .dct [(.inr (one (some true)),some 1),(.inr (one (some false)),some 0),(.inr (one none),none)]:=K44.A9
theorem wO (c:Nat):eY .In (.str ⟨#[c]⟩) (gl 1)=some (dZ c):=by
 rw[A9];show some (_:Bool)=_;unfold dZ;congr 1;by_cases h1:c=35
 ·subst h1;rfl
 ·by_cases h2:c=46
  ·subst h2;rfl
  ·by_cases h3:c=63
   ·subst h3;rfl
   ·rw[show (c==35)=false by simpa using h1,show (c==46)=false by simpa using h2,show (c==63)=false by simpa using h3];simp[o8];exact⟨fun z=>h1 z.symm,fun z=>h2 z.symm,fun z=>h3 z.symm⟩
theorem uK {n:Nat}{env:En}{x:Nat}{s:Str}(hs:s.length<=1000)(h:env[x]? = some (sT s)):dN (T n) (.seq (.var x)) env = .ok (s.cps.toList.map (fun c=>D.str ⟨#[c]⟩),[]):=by
 rw[dN,aE h rfl,aA];show (fD (if s.length<=lim then some (s.cps.toList.map fun c=>D.str ⟨#[c]⟩) else none)).bind _=_;rw[if_pos (fJ hs),bA,aA];rfl
theorem vy {n:Nat}{env:En}{x:Nat}{s:Str}(hs:s.length<=1000)(h:env[x]? = some (sT s)):ev (T n) (.blt .all (.cons (.comp 1 [] (.nm 0) (.seq (.var x)) .none (.cmp .In (.var 0) (.glb 1))) .nil)) env = .ok (.bl (s.cps.toList.all dZ),.mv []):=by
 have ec:=K44.nU (own:=1) (pick:=[]) (t:=.nm 0) (e:=.cmp .In (.var 0) (.glb 1)) (r:=fun c=>D.bl (dZ c)) (uK (n:=n) hs h) hs (fun c _=>by
  rw[K44.ub];refine K44.yC ?_;rw[ev,aE (d:=.str ⟨#[c]⟩) (t:=.own) rfl rfl,aA,ev,aA];show (fD (eY .In (.str ⟨#[c]⟩) (gl 1))).bind _=_;rw[wO];rfl)
 rw[ev,bK,ec,aA,bK,aA,aA];have ha:∀ l:List Nat,(l.map fun c=>D.bl (dZ c)).all D.isBl=true:=fun l=>by
  rw[bt];intro d hd;obtain⟨_,_,rfl⟩:=List.mem_map.mp hd;rfl
 have hb:∀ l:List Nat,allB (l.map fun c=>D.bl (dZ c))=some (l.all dZ):=fun l=>by
  induction l with
  |nil=>rfl
  |cons a l ih =>
   rw[ax,cv];show (if dZ a then allB (l.map fun c=>D.bl (dZ c)) else some false)=_;rw[ih];cases dZ a<;>rfl
 show (fD (if (s.cps.toList.map fun c=>D.bl (dZ c)).all D.isBl then (allB (s.cps.toList.map fun c=>D.bl (dZ c))).map D.bl else none)).bind _=_;rw[if_pos (ha _),hb];rfl
theorem Au {n:Nat}{env:En}{x:Nat}{r:List Ce}(hr:r.length<=1000)(h:env[x]? = some (sT (aL r))):ev (T n) (.comp 1 [] (.nm 0) (.seq (.var x)) .none (.ix (.glb 1) (.var 0))) env = .ok (qE r,.mv []):=by
 have hi:=uK (n:=n) (s:=aL r) (by rw[K44.gC];exact hr) h;rw[K44.i7,gn] at hi;exact K44.nU (own:=1) (pick:=[]) (t:=.nm 0) (e:=.ix (.glb 1) (.var 0)) (r:=cD) (g:=fun c=>D.str (one c)) (l:=r) hi hr (fun c _=>by
  rw[K44.ub];refine K44.yC ?_;have eg:∃ R,ev (T n) (.glb 1) [sT (one c)] = .ok (gl 1,R):=⟨_,by rw[ev]⟩;obtain⟨R,eg⟩:=eg;rw[ev,eg,aA,aE (d:=.str (one c)) (t:=.own) rfl rfl,aA];have:o6 (gl 1) (.str (one c))=some (cD c):=K44.wD c;show (fD (o6 (gl 1) (.str (one c)))).bind _=_;rw[this,bA,aA];unfold pN;rw[if_pos (K44.xp c)])
noncomputable def eC:Ex:=.or (.cmp .NotEq (.blt .len (.cons (.var 4) .nil)) (.blt .len (.cons (.var 1) .nil))) (.not (.blt .all (.cons (.comp 1 [] (.nm 0) (.seq (.var 4)) .none (.cmp .In (.var 0) (.glb 1))) .nil)))
noncomputable def bL (rs:bP):bP:=.cons (.ite eC rs .nil) (.cons (.mut 2 .none .append (.cons (.comp 1 [] (.nm 0) (.seq (.var 4)) .none (.ix (.glb 1) (.var 0))) .nil)) .nil)
noncomputable abbrev E5 (t:Str)(ys:List Str)(a2:Slot)(a3 a4:Slot):En:=[sT t,r9 ys,a2,a3,a4]
theorem Cy {k n:Nat}{t s:Str}{ys:List Str}{a2 a3:Slot}(hn:n<=100)(hy:ys.length=n)(hs:s.length<=900):ev (T k) eC (E5 t ys a2 a3 (sT s)) = .ok (.bl (!cV n s),.mv []):=by
 obtain⟨R1,v1⟩:∃ R,ev (T k) (.var 1) (E5 t ys a2 a3 (sT s)) = .ok (.lst (ys.map D.str),R):=bQ rfl;have l4:=K44.jA (T:=T k) (env:=E5 t ys a2 a3 (sT s)) (aE (i:=4) (d:=.str s) (t:=.own) rfl rfl) (by omega);have l1:=dE v1;rw[aj,hy] at l1;have c1:ev (T k) (.cmp .NotEq (.blt .len (.cons (.var 4) .nil)) (.blt .len (.cons (.var 1) .nil))) (E5 t ys a2 a3 (sT s)) = .ok (.bl (!(s.length==n)),.mv []):=by
  rw[ev,l4,aA,l1,aA];have e:D.eqf 40 (.int (s.length:Int)) (.int (n:Int))=some (s.length==n):=by
   show some ((s.length:Int)==(n:Int))=_;congr 1;by_cases e:s.length=n
   ·simp[e]
   ·rw[show (s.length==n)=false by simpa using e,beq_eq_false_iff_ne];omega
  show (fD ((D.eqf 40 (.int (s.length:Int)) (.int (n:Int))).map (!·))).bind _=_;rw[e];rfl
 have c2:ev (T k) (.not (.blt .all (.cons (.comp 1 [] (.nm 0) (.seq (.var 4)) .none (.cmp .In (.var 0) (.glb 1))) .nil))) (E5 t ys a2 a3 (sT s)) = .ok (.bl (!s.cps.toList.all dZ),.mv []):=by
  rw[ev,vy (n:=k) (env:=E5 t ys a2 a3 (sT s)) (x:=4) (s:=s) (by omega) rfl];rfl
 unfold eC cV;rw[ev,c1,aA];cases hq:(s.length==n) with
 |false=>rfl
 |true=>exact c2.trans (by rfl)
noncomputable abbrev itR (L:List Str)(j:Nat):List D:=((L.map D.str).zipIdx j).map fun q=>D.tup [.int q.2,q.1]
noncomputable def Bh:Option (D×Bool)->Fl
 |some q=>.rt q.1 q.2
 |none=>.bad
theorem t4 {k n:Nat}(hn:n<=100){t:Str}{ys:List Str}(hy:ys.length=n){rs:bP}{f:Nat->Option (D×Bool)}(hrs:∀(a2:Slot) (i:Nat) (s:Str),i<=900->aC (T k) rs (E5 t ys a2 (sI i) (sT s))=Bh (f i)) :
  ∀(L:List Str) (Q:List (List Ce)) (j:Nat) (a3 a4:Slot),aR a3->aR a4->(∀ s∈L,s.length<=900)->Q.length+L.length<=900->j+L.length<=900 ->
  (∃ i,L.findIdx? (fun s=>!cV n s)=some i/\aU (.tp [3,4]) [1] (aC (T k) (bL rs)) (itR L j) (E5 t ys (some (.lst (eO Q),.own)) a3 a4)=Bh (f (j+i))) \/
  (L.findIdx? (fun s=>!cV n s)=none/\∃ M b3 b4,L=M.map aL/\aR b3/\aR b4/\aU (.tp [3,4]) [1] (aC (T k) (bL rs)) (itR L j) (E5 t ys (some (.lst (eO Q),.own)) a3 a4) = .nx (E5 t ys (some (.lst (eO (Q++M)),.own)) b3 b4))
 |[],Q,j,a3,a4,h3,h4,_,_,_=>.inr ⟨rfl,[],a3,a4,rfl,h3,h4,by rw[az];rfl⟩
 | s::L,Q,j,a3,a4,h3,h4,hs,hl,hj=>by
  have to:=aI;rw[be] at hl hj;have hs0:=hs s ai;have tm:∀{a3 a4:Slot},aR a3->aR a4->Tame (E5 t ys (some (.lst (eO Q),.own)) a3 a4):=fun x y=>.cons (to _) (.cons (vL _) (.cons (to _) (.cons x (.cons y .nil))))
  have hb:bN [1] (.tp [3,4]) (.tup [.int (j:Int),.str s]) (E5 t ys (some (.lst (eO Q),.own)) a3 a4)=some (E5 t ys (some (.lst (eO Q),.own)) (sI j) (sT s)):=qX (tm h3 h4) (show (3:Nat)<5 by decide) (show (4:Nat)<5 by decide) rfl rfl;have c:=Cy (k:=k) (n:=n) (t:=t) (s:=s) (ys:=ys) (a2:=some (.lst (eO Q),.own)) (a3:=sI j) hn hy hs0;rw[List.findIdx?_cons];show (∃ i,_/\aU (.tp [3,4]) [1] (aC (T k) (bL rs)) (D.tup [.int (j:Int),.str s]::itR L (j+1)) _=_)\/(_/\∃ M b3 b4,_/\_/\_/\aU (.tp [3,4]) [1] (aC (T k) (bL rs)) (D.tup [.int (j:Int),.str s]::itR L (j+1)) _=_);cases hok:cV n s with
  |false =>
   rw[hok] at c;left;refine⟨0,rfl,?_⟩;unfold aU;rw[hb];dsimp only;have e:aC (T k) (bL rs) (E5 t ys (some (.lst (eO Q),.own)) (sI j) (sT s))=Bh (f j):=by
    unfold bL;rw[aC,aN,c,bH];show ((aC (T k) rs (E5 t ys (some (.lst (eO Q),.own)) (sI j) (sT s))).andThen _)=_;rw[hrs _ j s (by omega)];cases f j<;>rfl
   rw[e,Nat.add_zero];cases f j<;>rfl
  |true =>
   rw[hok] at c;obtain⟨r,rfl,hr⟩:=zY hok;have s2:aN (T k) (.mut 2 .none .append (.cons (.comp 1 [] (.nm 0) (.seq (.var 4)) .none (.ix (.glb 1) (.var 0))) .nil)) (E5 t ys (some (.lst (eO Q),.own)) (sI j) (sT (aL r))) = .nx (E5 t ys (some (.lst (eO Q ++ [qE r]),.own)) (sI j) (sT (aL r))) :=
    ma (tm (to _) (to _)) rfl (Au (by omega) rfl) (by rw[aj];exact fJ (by omega))
   have g:aC (T k) (bL rs) (E5 t ys (some (.lst (eO Q),.own)) (sI j) (sT (aL r))) = .nx (E5 t ys (some (.lst (eO (Q ++ [r])),.own)) (sI j) (sT (aL r))):=by
    unfold bL;rw[aC,ite_ff c,aF];refine bM (s2.trans ?_);rw[eO,eO,c9];rfl
   have ih:=t4 hn hy hrs L (Q ++ [r]) (j+1) (sI j) (sT (aL r)) (to _) (to _) (fun x hx=>hs x (ae _ hx)) (by rw[aw,bp];omega) (by omega);rw[dJ hb g];rcases ih with ⟨i,e1,e2⟩ | ⟨e1,M,b3,b4,e2,u3,u4,e3⟩
   ·left;refine⟨i+1,?_,?_⟩
    ·rw[e1];rfl
    ·rw[e2,show j+1+i=j+(i+1) by omega]
   ·right;refine⟨?_,r::M,b3,b4,by rw[e2];rfl,u3,u4,?_⟩
    ·rw[e1];rfl
    ·rw[e3,dg];rfl
open K44 (Ce cD cp aL one qE eO nl sH sT sC r9 Sq)
noncomputable def lE (n:Nat):Bool:=n==15 || n==19 || n==23 || n==27 || n==31
theorem qH (n:Nat):eY .NotIn (.int (n:Int)) (gl 0)=some (!lE n):=by
 by_cases h:n<=31
 ·have:∀ n:Nat,n<=31->eY .NotIn (.int (n:Int)) (gl 0)=some (!lE n):=by
   intro n hn;rcases n with _|_|_|_|_|_|_|_|_|_|_|_|_|_|_|_|_|_|_|_|_|_|_|_|_|_|_|_|_|_|_|_|n
   all_goals first | rfl | omega
  exact this n h
 ·have hs:lE n=false:=by
   unfold lE;simp;omega
  rw[hs];have g:∀ k:Int,k<=31->D.eqs (.int k) (.int (n:Int))=false:=fun k hk=>by
   show (k==(n:Int))=false;rw[dk];omega
  have e:inD (.int (n:Int)) (gl 0)=some false:=by
   show some (D.eqs (.int 15) (.int (n:Int)) || (D.eqs (.int 19) (.int (n:Int)) || (D.eqs (.int 23) (.int (n:Int)) || (D.eqs (.int 27) (.int (n:Int)) || (D.eqs (.int 31) (.int (n:Int)) || false)))))=_;rw[g 15 (by omega),g 19 (by omega),g 23 (by omega),g 27 (by omega),g 31 (by omega)];rfl
  show (inD (.int (n:Int)) (gl 0)).map (!·)=_;rw[e];rfl
noncomputable def bB (rs0 rs tl:bP):bP:=.cons (.asg (.nm 1) (.mth .ssplit (.var 0) (.cons (.cst (.str ("\n" : PySem.Str))) .nil)) false)
 (.cons (.ite (.cmp .NotIn (.blt .len (.cons (.var 1) .nil)) (.glb 0)) rs0 .nil)
 (.cons (.asg (.nm 2) (.lst .nil) false)
 (.cons (.forr (.tp [3,4]) (.enum (.var 1)) (bL rs)) tl)))
structure rl (rows:List Str):Prop where
 ne:rows≠[]
 free:∀ p∈rows,10∉p.cps.toList
 len:∀ p∈rows,p.length<=100
 many:rows.length<=100
theorem AB {rows:List Str}:(∀ p∈rows,p.length<=100)->(rows.map (·.length)).sum<=100*rows.length:=by
 induction rows with
 |nil=>intro _;exact aq _
 |cons a l ih =>
  intro h;have h1:=h a ai;have h2:=ih fun p hp=>h p (ae _ hp)
  rw[ax,List.sum_cons,be];omega
theorem rl.sum {rows:List Str}(h:rl rows):(rows.map (·.length)).sum<=10000:=by
 have:=AB h.len;have:=h.many;omega
noncomputable abbrev tO (rows:List Str):Slot:=some (.lst (rows.map D.str),.own)
theorem pre {k:Nat}{rows:List Str}(h:rl rows){rs0 rs tl:bP}:aC (T k) (bB rs0 rs tl) [sT (Str.join nl rows),none,none,none,none] =
  if lE rows.length then aC (T k) (.cons (.forr (.tp [3,4]) (.enum (.var 1)) (bL rs)) tl) [sT (Str.join nl rows),tO rows,some (.lst (eO []),.own),none,none]
  else (aC (T k) rs0 [sT (Str.join nl rows),tO rows,none,none,none]).andThen (aC (T k) (.cons (.asg (.nm 2) (.lst .nil) false) (.cons (.forr (.tp [3,4]) (.enum (.var 1)) (bL rs)) tl))):=by
 have tn:=bJ;have to:=aI;have hlen:(Str.join nl rows).length<=1000000:=by
  have:=K44.nS 10 rows;have h2:=h.sum;have h3:=h.many;exact bc this (by omega)
 have e1:ev (T k) (.mth .ssplit (.var 0) (.cons (.cst (.str nl)) .nil)) [sT (Str.join nl rows),none,none,none,none] = .ok (.lst (rows.map D.str),.mv []):=by
  rw[ev,aE (d:=.str (Str.join nl rows)) (t:=.own) rfl rfl,aA,bK,aH,aA,bK,aA,aA];show (fD (if 0<nl.length/\(Str.join nl rows).length<=lim then some (D.lst ((gA (Str.join nl rows) nl).map .str)) else none)).bind _=_;rw[if_pos ⟨by decide,hlen⟩,oH h.ne h.free,bA,aA];have hf:∀ l:List Str,D.flats (l.map D.str)=true:=fun l=>by
   induction l with
   |nil=>rfl
   |cons a l ih=>exact ih
  rw[eP (hf _)]
 have s1:aN (T k) (.asg (.nm 1) (.mth .ssplit (.var 0) (.cons (.cst (.str nl)) .nil)) false) [sT (Str.join nl rows),none,none,none,none] = .nx [sT (Str.join nl rows),tO rows,none,none,none] :=
  aP (.cons (to _) (.cons tn (.cons tn (.cons tn (.cons tn .nil))))) (show (1:Nat)<5 by decide) e1
 obtain⟨R1,v1⟩:∃ R,ev (T k) (.var 1) [sT (Str.join nl rows),tO rows,none,none,none] = .ok (.lst (rows.map D.str),R):=bQ rfl;have c:ev (T k) (.cmp .NotIn (.blt .len (.cons (.var 1) .nil)) (.glb 0)) [sT (Str.join nl rows),tO rows,none,none,none] = .ok (.bl (!lE rows.length),.mv []):=by
  have l1:=dE v1;rw[aj] at l1;rw[ev,l1,aA,ev,aA];show (fD (eY .NotIn (.int (rows.length:Int)) (gl 0))).bind _=_;rw[qH];rfl
 have s3:aN (T k) (.asg (.nm 2) (.lst .nil) false) [sT (Str.join nl rows),tO rows,none,none,none] = .nx [sT (Str.join nl rows),tO rows,some (.lst (eO []),.own),none,none] :=
  aP (.cons (to _) (.cons (to _) (.cons tn (.cons tn (.cons tn .nil))))) (show (2:Nat)<5 by decide) rfl
 unfold bB;rw[K44.y0,aC,s1,aF,aC];cases hz:lE rows.length with
 |true =>
  rw[hz] at c;rw[ite_ff c,aF,aC,s3,aF,if_pos rfl]
 |false =>
  rw[hz] at c;rw[aN,c,bH,if_neg av];rfl
theorem yb {k:Nat}{t:Str}{rows:List Str}{a2:Slot}:dN (T k) (.enum (.var 1)) [sT t,tO rows,a2,none,none] = .ok (itR rows 0,[1]):=by
 rw[dN,mC (i:=1) (d:=.lst (rows.map D.str)) rfl rfl,aA];rfl
theorem runG {k:Nat}{rows:List Str}(h:rl rows)(hs:lE rows.length=true){rs0 rs tl:bP}{f:Nat->Option (D×Bool)}(hrs:∀(a2:Slot) (i:Nat) (s:Str),i<=900->aC (T k) rs (E5 (Str.join nl rows) rows a2 (sI i) (sT s))=Bh (f i))
  (hg:rows.findIdx? (fun s=>!cV rows.length s)=none):∃ M b3 b4,rows=M.map aL/\aC (T k) (bB rs0 rs tl) [sT (Str.join nl rows),none,none,none,none]=aC (T k) tl [sT (Str.join nl rows),tO rows,some (.lst (eO M),.own),b3,b4]:=by
 have tn:=bJ;have hm:=h.many;rcases t4 (k:=k) (n:=rows.length) h.many (t:=Str.join nl rows) (ys:=rows) rfl hrs rows [] 0 none none tn tn (fun s hx=>bc (h.len s hx) (by decide)) (by show 0+_<=_;omega) (by omega) with ⟨i,e1,_⟩ | ⟨_,M,b3,b4,e2,u3,u4,q⟩
 ·rw[hg] at e1;cases e1
 refine⟨M,b3,b4,e2,?_⟩;have s4:=vJ (T:=T k) (t:=.tp [3,4]) (b:=bL rs) (x:=1) (d:=.lst (rows.map D.str)) (d':=.lst (rows.map D.str)) (env:=[sT (Str.join nl rows),tO rows,some (.lst (eO []),.own),none,none]) rfl yb q rfl;rw[pre h,if_pos hs,aC,s4,aF];rfl
theorem BG {k:Nat}{rows:List Str}(h:rl rows)(hs:lE rows.length=true){rs0 rs tl:bP}{f:Nat->Option (D×Bool)}(hrs:∀(a2:Slot) (i:Nat) (s:Str),i<=900->aC (T k) rs (E5 (Str.join nl rows) rows a2 (sI i) (sT s))=Bh (f i))
  {i:Nat}(hg:rows.findIdx? (fun s=>!cV rows.length s)=some i):aC (T k) (bB rs0 rs tl) [sT (Str.join nl rows),none,none,none,none]=Bh (f i):=by
 have tn:=bJ;have hm:=h.many;rcases t4 (k:=k) (n:=rows.length) h.many (t:=Str.join nl rows) (ys:=rows) rfl hrs rows [] 0 none none tn tn (fun s hx=>bc (h.len s hx) (by decide)) (by show 0+_<=_;omega) (by omega) with ⟨j,e1,q⟩ | ⟨e1,_⟩
 ·rw[hg] at e1;cases e1;rw[gj] at q;rw[pre h,if_pos hs,aC,aN,yb,bH];show Fl.andThen (match aU (.tp [3,4]) [1] (aC (T k) (bL rs)) (itR rows 0) (E5 (Str.join nl rows) rows (some (.lst (eO []),.own)) none none) with | .nx e=>_ | x=>x) _=_;rw[q];cases f i<;>rfl
 ·rw[hg] at e1;cases e1
theorem C1 {k:Nat}{rows:List Str}(h:rl rows)(hs:lE rows.length=false){rs0 rs tl:bP}{d:D}{fr:Bool}(h0:aC (T k) rs0 [sT (Str.join nl rows),tO rows,none,none,none] = .rt d fr):aC (T k) (bB rs0 rs tl) [sT (Str.join nl rows),none,none,none,none] = .rt d fr:=by
 rw[pre h,if_neg (by rw[hs];exact av),h0];rfl
open K44 (Ce cD cp aL one qE eO nl sH sT sC r9 Sq)
noncomputable def ck (e:Ex):Ex:=.ite (.cmp .Lt e (.cst (.int (18446744073709551616)))) (.ite (.cmp .Lt e (.cst (.int (0)))) (.neg (.cst .non)) e) (.neg (.cst .non))
noncomputable def A8 (h e:Ex):bP:=.cons (.expr (ck e)) (.cons (.ret h) .nil)
noncomputable def CU:Ex:=.lst (.cons (.cst (.bl true)) (.cons (.cst (.bl true)) (.cons (.cst (.bl false)) (.cons (.cst (.bl false)) (.cons (.cst (.bl false)) .nil)))))
theorem Bw:b7=bB (A8 (.cst (.int 0)) (.cst (.int 0))) (A8 (.var 3) (.var 3)) (.cons (.expr (.var 2)) (.cons (.ret (.cst .non)) .nil)):=rfl
theorem Cb:b8=bB (A8 CU (.cst (.int 0))) (A8 CU (.var 3)) (.cons (.expr (.var 2)) (.cons (.ret (.lst .nil)) .nil)):=rfl
theorem CF:b0=bB (.cons (.expr (.neg (.cst .non))) .nil) (.cons (.expr (.neg (.cst .non))) .nil) (.cons (.ret (.var 2)) .nil):=rfl
theorem Dk {T:Tb}{env:En}{e:Ex}{i:Int}{R:Rt}(h:ev T e env = .ok (.int i,R))(h0:0<=i)(h1:i<18446744073709551616):ev T (ck e) env = .ok (.int i,R):=by
 have c1:ev T (.cmp .Lt e (.cst (.int (18446744073709551616)))) env = .ok (.bl true,.mv []):=by
  rw[ev,h,aA,aH,aA];show (fD (some (decide (i<18446744073709551616)))).bind _=_;rw[cw h1];rfl
 have c2:ev T (.cmp .Lt e (.cst (.int (0)))) env = .ok (.bl false,.mv []):=by
  rw[ev,h,aA,aH,aA];show (fD (some (decide (i<0)))).bind _=_;rw[bj (by omega)];rfl
 unfold ck;rw[ev,c1,aA];show ev T (.ite (.cmp .Lt e (.cst (.int (0)))) (.neg (.cst .non)) e) env=_;rw[ev,c2,aA];exact h
theorem mw {T:Tb}{env:En}{h e:Ex}{i:Int}{R:Rt}{d:D}(he:ev T e env = .ok (.int i,R))(h0:0<=i)(h1:i<18446744073709551616)(hh:ev T h env = .ok (d,.mv [])):aC T (A8 h e) env = .rt d true:=by
 unfold A8;rw[aC,aN,Dk he h0 h1,bH,aF,aC,aN,hh];rfl
theorem uI {T:Tb}{env:En}:ev T CU env = .ok (.lst [.bl true,.bl true,.bl false,.bl false,.bl false],.mv []):=rfl
noncomputable def mq (rows:List Str):Option Nat:=if lE rows.length then rows.findIdx? (fun s=>!cV rows.length s) else some 0
theorem ref7 {rows:List Str}(h:rl rows){i:Nat}(hd:mq rows=some i):(T 1).cl 7 [.str (Str.join nl rows)] = .ok (.int (i:Int),true):=by
 rw[wN,dS (F:=⟨1,5,b7⟩) rfl rfl];have hst:aO [.str (Str.join nl rows)] 5=[sT (Str.join nl rows),none,none,none,none]:=rfl;dsimp only;rw[hst,Bw];unfold mq at hd;cases hs:lE rows.length with
 |false =>
  rw[hs,if_neg av] at hd;cases hd;rw[C1 (k:=0) h hs (mw (aH _) (by decide) (by decide) (aH _))];rfl
 |true =>
  rw[hs,if_pos rfl] at hd;rw[BG (k:=0) h hs (f:=fun i=>some (.int (i:Int),true)) (fun a2 i s hi=>mw (i:=(i:Int)) (aE (i:=3) (d:=.int (i:Int)) (t:=.own) rfl rfl) (by omega) (by omega) (aE (i:=3) (d:=.int (i:Int)) (t:=.own) rfl rfl)) hd];rfl
theorem cls8 {rows:List Str}(h:rl rows){i:Nat}(hd:mq rows=some i):(T 1).cl 8 [.str (Str.join nl rows)] = .ok (.lst [.bl true,.bl true,.bl false,.bl false,.bl false],true):=by
 rw[wN,dS (F:=⟨1,5,b8⟩) rfl rfl];have hst:aO [.str (Str.join nl rows)] 5=[sT (Str.join nl rows),none,none,none,none]:=rfl;dsimp only;rw[hst,Cb];unfold mq at hd;cases hs:lE rows.length with
 |false =>
  rw[C1 (k:=0) h hs (mw (aH _) (by decide) (by decide) uI)];rfl
 |true =>
  rw[hs,if_pos rfl] at hd;rw[BG (k:=0) h hs (f:=fun _=>some (.lst [.bl true,.bl true,.bl false,.bl false,.bl false],true)) (fun a2 i s hi=>mw (i:=(i:Int)) (aE (i:=3) (d:=.int (i:Int)) (t:=.own) rfl rfl) (by omega) (by omega) uI) hd];rfl
theorem rd0 {rows:List Str}(h:rl rows)(hs:lE rows.length=true)(hg:rows.findIdx? (fun s=>!cV rows.length s)=none):∃ M,rows=M.map aL/\(T 1).cl 0 [.str (Str.join nl rows)] = .ok (.lst (eO M),true):=by
 obtain⟨M,b3,b4,e,q⟩:=runG (k:=0) h hs (rs0:=.cons (.expr (.neg (.cst .non))) .nil) (rs:=.cons (.expr (.neg (.cst .non))) .nil) (tl:=.cons (.ret (.var 2)) .nil) (f:=fun _=>none) (fun a2 i s hi=>rfl) hg;refine⟨M,e,?_⟩;rw[wN,dS (F:=⟨1,5,b0⟩) rfl rfl];have hst:aO [.str (Str.join nl rows)] 5=[sT (Str.join nl rows),none,none,none,none]:=rfl;dsimp only;rw[hst,CF,q,aC,aN,mC (i:=2) (d:=.lst (eO M)) rfl rfl];rfl
noncomputable def eSg:Ex:=.cmp .NotIn (.var 2) (.lst (.cons (.cst (.str ("#" : PySem.Str))) (.cons (.cst (.str ("." : PySem.Str))) (.cons (.cst (.str ("?" : PySem.Str))) .nil))))
noncomputable def yf:bP:=.cons (.ite eSg (.cons (.ret (.var 1)) .nil) .nil) .nil
noncomputable def yj:bP:=.cons (.ite (.cmp .NotEq (.blt .len (.cons (.ix (.var 0) (.var 1)) .nil)) (.blt .len (.cons (.var 0) .nil))) (.cons (.ret (.var 1)) .nil) .nil)
 (.cons (.forr (.nm 2) (.seq (.ix (.var 0) (.var 1))) yf) .nil)
noncomputable def eSz:Ex:=.cmp .NotIn (.blt .len (.cons (.var 0) .nil)) (.lst (.cons (.cst (.int (15))) (.cons (.cst (.int (19))) (.cons (.cst (.int (23))) (.cons (.cst (.int (27))) (.cons (.cst (.int (31))) .nil))))))
theorem C6:b6 = .cons (.ite eSz (.cons (.ret (.cst (.int (0)))) .nil) .nil) (.cons (.forr (.nm 1) (.rng1 (.blt .len (.cons (.var 0) .nil))) yj) (.cons (.ret (.neg (.cst (.int (1))))) .nil)):=rfl
theorem wQ (c:Nat):eY .NotIn (.str ⟨#[c]⟩) (.lst [.str (one (some true)),.str (one (some false)),.str (one none)])=some (!dZ c):=by
 have e:inD (.str ⟨#[c]⟩) (.lst [.str (one (some true)),.str (one (some false)),.str (one none)])=some (dZ c):=by
  show some (((one (some true))==(⟨#[c]⟩:Str)) || (((one (some false))==(⟨#[c]⟩:Str)) || (((one none)==(⟨#[c]⟩:Str)) || false)))=_;congr 1;have g:∀ k:Nat,((⟨#[k]⟩:Str) == ⟨#[c]⟩)=(c==k):=fun k=>by
   by_cases h:c=k
   ·subst h;simp
   ·rw[show (c==k)=false by simpa using h,beq_eq_false_iff_ne];intro z;injection z with z
    simp at z;exact h z.symm
  rw[g,g,g,Bool.or_false];unfold dZ;rw[Bool.or_assoc];rfl
 have e2:∀ x y:D,eY .NotIn x y=(inD x y).map (!·):=fun x y=>by unfold eY;rfl
 rw[e2,e];rfl
theorem CT {n:Nat}{S:List D}{i:Nat}{c:Nat}:ev (T n) eSg [sS S,sI i,sT ⟨#[c]⟩] = .ok (.bl (!dZ c),.mv []):=by
 unfold eSg;rw[ev,aE (i:=2) (d:=.str ⟨#[c]⟩) (t:=.own) rfl rfl,aA,K44.e_h,K44.e_d,K44.e_q];have el:ev (T n) (.lst (.cons (.cst (.str (one (some true)))) (.cons (.cst (.str (one (some false)))) (.cons (.cst (.str (one none))) .nil)))) [sS S,sI i,sT ⟨#[c]⟩] = .ok (.lst [.str (one (some true)),.str (one (some false)),.str (one none)],.mv []):=rfl;rw[el,aA,wQ];rfl
theorem sgs {n:Nat}{S:List D}{i:Nat}:∀(cs:List Nat) (a2:Slot),aR a2->(cs.all dZ=false/\aU (.nm 2) [] (aC (T n) yf) (cs.map fun c=>D.str ⟨#[c]⟩) [sS S,sI i,a2] = .rt (.int (i:Int)) true)\/(cs.all dZ=true/\∃ b2,aR b2/\aU (.nm 2) [] (aC (T n) yf) (cs.map fun c=>D.str ⟨#[c]⟩) [sS S,sI i,a2] = .nx [sS S,sI i,b2])
 |[],a2,h2=>.inr ⟨rfl,a2,h2,rfl⟩
 | c::cs,a2,h2=>by
  have hb:bN [] (.nm 2) (.str ⟨#[c]⟩) [sS S,sI i,a2]=some [sS S,sI i,sT ⟨#[c]⟩]:=gG (.cons (bW _) (.cons (aI _) (.cons h2 .nil))) (show (2:Nat)<3 by decide);have e:=CT (n:=n) (S:=S) (i:=i) (c:=c);rw[ax,cv];cases hc:dZ c with
  |false =>
   rw[hc] at e;left;refine⟨rfl,?_⟩;unfold aU;rw[hb];dsimp only;have g:aC (T n) yf [sS S,sI i,sT ⟨#[c]⟩] = .rt (.int (i:Int)) true:=by
    unfold yf;rw[aC,aN,e,bH];show (aC (T n) (.cons (.ret (.var 1)) .nil) [sS S,sI i,sT ⟨#[c]⟩]).andThen _=_;rw[aC,aN,aE (i:=1) (d:=.int (i:Int)) (t:=.own) rfl rfl];rfl
   rw[g]
  |true =>
   rw[hc] at e;have g:aC (T n) yf [sS S,sI i,sT ⟨#[c]⟩] = .nx [sS S,sI i,sT ⟨#[c]⟩]:=by
    unfold yf;exact bM (ite_ff e)
   rw[dJ hb g];exact sgs cs (sT ⟨#[c]⟩) (aI _)
open K44 (Ce cD cp aL one qE eO nl sH sT sC r9 Sq)
theorem sE {T:Tb}{env:En}{a b:Ex}{rows:List Str}{j:Nat}{s:Str}{R R':Rt}(ha:ev T a env = .ok (.lst (rows.map D.str),R))(hb:ev T b env = .ok (.int (j:Int),R'))(hs:rows[j]? = some s):ev T (.ix a b) env = .ok (.str s,.mv []):=by
 have hj:j<rows.length:=(List.getElem?_eq_some_iff.mp hs).1;rw[ev,ha,aA,hb,aA];have:o6 (.lst (rows.map D.str)) (.int (j:Int))=some (.str s):=by
  show ((Pc.jv _ (j:Int)).bind fun j=>(rows.map D.str)[j]?)=_;rw[oW (by omega) (by rw[aj];omega),fe,List.getElem?_map,fu,hs];rfl
 rw[this,bA,aA];rfl
theorem vF {T:Tb}{env:En}{a b:Ex}{i j:Nat}{R R':Rt}(ha:ev T a env = .ok (.int (i:Int),R))(hb:ev T b env = .ok (.int (j:Int),R')):ev T (.cmp .NotEq a b) env = .ok (.bl (!(i==j)),.mv []):=by
 rw[ev,ha,aA,hb,aA];have e:D.eqf 40 (.int (i:Int)) (.int (j:Int))=some (i==j):=by
  show some ((i:Int)==(j:Int))=_;congr 1;by_cases e:i=j
  ·simp[e]
  ·rw[show (i==j)=false by simpa using e,beq_eq_false_iff_ne];omega
 show (fD ((D.eqf 40 (.int (i:Int)) (.int (j:Int))).map (!·))).bind _=_;rw[e];rfl
theorem du1 {n:Nat}{rows:List Str}{j:Nat}{s:Str}{a2:Slot}(h2:aR a2)(hs:rows[j]? = some s)(hl:s.length<=100) :
  (cV rows.length s=false/\aC (T n) yj [sS (rows.map D.str),sI j,a2] = .rt (.int (j:Int)) true)\/(cV rows.length s=true/\∃ b2,aR b2/\aC (T n) yj [sS (rows.map D.str),sI j,a2] = .nx [sS (rows.map D.str),sI j,b2]):=by
 obtain⟨R0,v0⟩:∃ R,ev (T n) (.var 0) [sS (rows.map D.str),sI j,a2] = .ok (.lst (rows.map D.str),R):=bQ rfl;have vj:ev (T n) (.var 1) [sS (rows.map D.str),sI j,a2] = .ok (.int (j:Int),.mv []):=aE rfl rfl;have vx:=sE v0 vj hs;have l0:=dE v0;rw[aj] at l0;have c:=vF (K44.jA vx (by omega)) l0;have hit:dN (T n) (.seq (.ix (.var 0) (.var 1))) [sS (rows.map D.str),sI j,a2] = .ok (s.cps.toList.map (fun c=>D.str ⟨#[c]⟩),[]):=by
  rw[dN,vx,aA];show (fD (if s.length<=lim then some (s.cps.toList.map fun c=>D.str ⟨#[c]⟩) else none)).bind _=_;rw[if_pos (fJ (by omega)),bA,aA];rfl
 unfold cV yj;rw[aC];cases hq:(s.length==rows.length) with
 |false =>
  rw[hq] at c;left;refine⟨rfl,?_⟩;rw[aN,c,bH];show Fl.andThen (aC (T n) (.cons (.ret (.var 1)) .nil) _) _=_;rw[aC,aN,vj];rfl
 |true =>
  rw[hq] at c;rw[ite_ff c,aF];rcases sgs (n:=n) (S:=rows.map D.str) (i:=j) s.cps.toList a2 h2 with ⟨e,q⟩ | ⟨e,b2,u,q⟩
  ·left;refine⟨by rw[e];rfl,?_⟩;rw[aC,aN,hit,bH];show Fl.andThen (match aU (.nm 2) [] (aC (T n) yf) (s.cps.toList.map fun c=>D.str ⟨#[c]⟩) (lock [] [sS (rows.map D.str),sI j,a2]) with | .nx e=>_ | x=>x) _=_;rw[j8,q];rfl
  ·right;exact⟨by rw[e];rfl,b2,u,bM (iK hit q)⟩
theorem duL {n:Nat}{rows:List Str}(hl:∀ s∈rows,s.length<=100):∀(L P:List Str) (a1 a2:Slot),aR a1->aR a2->rows=P++L ->
  (∃ i,L.findIdx? (fun s=>!cV rows.length s)=some i/\aU (.nm 1) [] (aC (T n) yj) ((eA (P.length:Int) 1 L.length).map D.int) [sS (rows.map D.str),a1,a2] = .rt (.int ((P.length+i:Nat):Int)) true) \/
  (L.findIdx? (fun s=>!cV rows.length s)=none/\∃ b1 b2,aR b1/\aR b2/\aU (.nm 1) [] (aC (T n) yj) ((eA (P.length:Int) 1 L.length).map D.int) [sS (rows.map D.str),a1,a2] = .nx [sS (rows.map D.str),b1,b2])
 |[],P,a1,a2,h1,h2,_=>.inr ⟨rfl,a1,a2,h1,h2,rfl⟩
 | s::L,P,a1,a2,h1,h2,e=>by
  have hs:rows[P.length]? = some s:=by rw[e];simp
  have hb:bN [] (.nm 1) (.int (P.length:Int)) [sS (rows.map D.str),a1,a2]=some [sS (rows.map D.str),sI P.length,a2]:=gG (.cons (bW _) (.cons h1 (.cons h2 .nil))) (show (1:Nat)<3 by decide);rw[List.findIdx?_cons];have ep:(eA (P.length:Int) 1 (s::L).length).map D.int=D.int (P.length:Int)::(eA ((P ++ [s]).length:Int) 1 L.length).map D.int:=by
   rw[aw,bp];rfl
  rw[ep];rcases du1 (n:=n) (rows:=rows) (j:=P.length) (s:=s) h2 hs (hl s (List.mem_of_getElem? hs)) with ⟨ok,q⟩ | ⟨ok,b2,u,q⟩
  ·left;refine⟨0,by rw[ok];rfl,?_⟩;unfold aU;rw[hb];dsimp only;rw[q];rfl
  ·rw[ok,dJ hb q];rcases duL hl L (P ++ [s]) (sI P.length) b2 (aI _) u (by rw[e,dg];rfl) with ⟨i,e1,e2⟩ | ⟨e1,c1,c2,u1,u2,e2⟩
   ·left;refine⟨i+1,by rw[e1];rfl,?_⟩;rw[e2,aw,bp,show P.length+1+i=P.length+(i+1) by omega]
   ·right;exact⟨by rw[e1];rfl,c1,c2,u1,u2,e2⟩
theorem due6 {rows:List Str}(h:rl rows):(T 1).cl 6 [.lst (rows.map D.str)] = .ok (.int (match mq rows with | some i=>(i:Int) | none=>-1),true):=by
 rw[wN,dS (F:=⟨1,3,b6⟩) rfl rfl];have hst:aO [.lst (rows.map D.str)] 3=[sS (rows.map D.str),none,none]:=rfl;dsimp only;rw[hst,C6];obtain⟨R0,v0⟩:∃ R,ev (T 0) (.var 0) [sS (rows.map D.str),none,none] = .ok (.lst (rows.map D.str),R):=bQ rfl;have l0:=dE v0;rw[aj] at l0;have c:ev (T 0) eSz [sS (rows.map D.str),none,none] = .ok (.bl (!lE rows.length),.mv []):=by
  unfold eSz;have el:ev (T 0) (.lst (.cons (.cst (.int (15))) (.cons (.cst (.int (19))) (.cons (.cst (.int (23))) (.cons (.cst (.int (27))) (.cons (.cst (.int (31))) .nil)))))) [sS (rows.map D.str),none,none] = .ok (.lst [.int 15,.int 19,.int 23,.int 27,.int 31],.mv []):=rfl;rw[ev,l0,aA,el,aA];have e:eY .NotIn (.int (rows.length:Int)) (.lst [.int 15,.int 19,.int 23,.int 27,.int 31])=some (!lE rows.length):=qH rows.length;rw[e];rfl
 unfold mq;rw[aC];cases hs:lE rows.length with
 |false =>
  rw[hs] at c;rw[aN,c,bH];rfl
 |true =>
  rw[hs] at c;rw[ite_ff c,aF,if_pos rfl];have hm:=h.many;rcases duL (n:=0) h.len rows [] none none bJ bJ rfl with ⟨i,e1,q⟩ | ⟨e1,b1,b2,u1,u2,q⟩
  ·rw[e1,aC,aN,K44.xo l0 (by omega),bH];show ret (Fl.andThen (match aU (.nm 1) [] (aC (T 0) yj) ((eA 0 1 rows.length).map D.int) (lock [] [sS (rows.map D.str),none,none]) with | .nx e=>_ | x=>x) _)=_;rw[j8,show aU (.nm 1) [] (aC (T 0) yj) ((eA 0 1 rows.length).map D.int) [sS (rows.map D.str),none,none]=_ from q,dz,gj];rfl
  ·rw[e1,aC,iK (T:=T 0) (K44.xo l0 (by omega)) q,aF];rfl
open K44 (Ce cD cp aL one qE eO nl sH sT sC r9 Sq)
noncomputable def rF:bP:=.cons (.ret (.cst (.bl false))) .nil
noncomputable def bGi:bP:=.cons (.ite (.and (.cmp .Eq (.var 6) (.cst (.str ("?" : PySem.Str)))) (.cmp .IsNot (.var 5) (.cst .non))) rF .nil)
 (.cons (.ite (.and (.cmp .NotEq (.var 6) (.cst (.str ("?" : PySem.Str)))) (.or (.not (.call 2 (.cons (.var 5) .nil))) (.cmp .NotEq (.var 5) (.blt .int (.cons (.cmp .Eq (.var 6) (.cst (.str ("#" : PySem.Str)))) .nil))))) rF .nil) .nil)
noncomputable def Ba:bP:=.cons (.ite (.or (.not (.blt (.isi "list") (.cons (.var 3) .nil))) (.cmp .NotEq (.blt .len (.cons (.var 3) .nil)) (.blt .len (.cons (.var 4) .nil)))) rF .nil)
 (.cons (.forr (.tp [5,6]) (.zip (.var 3) (.var 4)) bGi) .nil)
theorem B0:b9 = .cons (.asg (.nm 2) (.call 0 (.cons (.var 0) .nil)) false)
 (.cons (.ite (.or (.not (.blt (.isi "list") (.cons (.var 2) .nil))) (.cmp .NotEq (.blt .len (.cons (.var 2) .nil)) (.blt .len (.cons (.var 1) .nil)))) rF .nil)
 (.cons (.forr (.tp [3,4]) (.zip (.var 2) (.var 1)) Ba) (.cons (.ret (.cst (.bl true))) .nil))):=rfl
def ow (a:Slot):Prop:=a=none\/∃ d,a=some (d,.own)
noncomputable abbrev E7 (t:Str)(R S:List D)(x:List D)(y:Str)(a5 a6:Slot):En:=[sT t,sS R,some (.lst S,.lk),some (.lst x,.sh [2]),sT y,a5,a6]
theorem gi {t:Str}{R S x:List D}{y:Str}(c:Ce):aC (T 1) bGi (E7 t R S x y (sC c) (sT (one c))) = .nx (E7 t R S x y (sC c) (sT (one c))):=by
 rcases c with _ | _ | _<;>rfl
theorem Ae {t:Str}{R S x:List D}{y:Str}{a5 a6:Slot}(c:Ce):bN [2] (.tp [5,6]) (.tup [cD c,.str (one c)]) (E7 t R S x y a5 a6)=some (E7 t R S x y (sC c) (sT (one c))):=by
 rcases c with _ | _ | _<;>rfl
theorem gis {t:Str}{R S x:List D}{y:Str}:∀(r:List Ce) (a5 a6:Slot),ow a5->ow a6->∃ b5 b6,ow b5/\ow b6/\aU (.tp [5,6]) [2] (aC (T 1) bGi) (((r.map cD).zip (r.map fun c=>D.str (one c))).map fun z=>D.tup [z.1,z.2]) (E7 t R S x y a5 a6) = .nx (E7 t R S x y b5 b6)
 |[],a5,a6,h5,h6=>⟨a5,a6,h5,h6,rfl⟩
 | c::r,a5,a6,h5,h6=>by
  obtain⟨b5,b6,u5,u6,q⟩:=gis (t:=t) (R:=R) (S:=S) (x:=x) (y:=y) r (sC c) (sT (one c)) (.inr ⟨_,rfl⟩) (.inr ⟨_,rfl⟩);refine⟨b5,b6,u5,u6,?_⟩;rw[ax,ax,List.zip_cons_cons,ax,dJ (Ae c) (gi c),q]
theorem go1 {t:Str}{R S:List D}(r:List Ce)(hr:r.length<=100){a5 a6:Slot}(h5:ow a5)(h6:ow a6):∃ b5 b6,ow b5/\ow b6/\aC (T 1) Ba (E7 t R S (r.map cD) (aL r) a5 a6) = .nx (E7 t R S (r.map cD) (aL r) b5 b6):=by
 have v3:ev (T 1) (.var 3) (E7 t R S (r.map cD) (aL r) a5 a6) = .ok (.lst (r.map cD),.sh [2]):=rfl;have v4:ev (T 1) (.var 4) (E7 t R S (r.map cD) (aL r) a5 a6) = .ok (.str (aL r),.mv []):=rfl;have l3:=dE v3;have l4:=K44.jA v4 (by rw[K44.gC];omega);rw[aj] at l3;rw[K44.gC] at l4;have c:ev (T 1) (.or (.not (.blt (.isi "list") (.cons (.var 3) .nil))) (.cmp .NotEq (.blt .len (.cons (.var 3) .nil)) (.blt .len (.cons (.var 4) .nil)))) (E7 t R S (r.map cD) (aL r) a5 a6) = .ok (.bl false,.mv []):=sg rfl (by
  have:=vF l3 l4;rw[show (r.length==r.length)=true by simp] at this;exact this)
 have hit:dN (T 1) (.zip (.var 3) (.var 4)) (E7 t R S (r.map cD) (aL r) a5 a6) = .ok (((r.map cD).zip (r.map fun c=>D.str (one c))).map fun z=>D.tup [z.1,z.2],[2]):=by
  rw[dN,v3,aA,v4,aA];show Rs.ok (((r.map cD).zip ((aL r).cps.toList.map fun c=>D.str ⟨#[c]⟩)).map fun z=>D.tup [z.1,z.2],[2])=_;rw[K44.i7,gn];rfl
 obtain⟨b5,b6,u5,u6,q⟩:=gis (t:=t) (R:=R) (S:=S) (x:=r.map cD) (y:=aL r) r a5 a6 h5 h6;refine⟨b5,b6,u5,u6,?_⟩;unfold Ba;rw[aC,ite_ff c,aF];refine bM ?_;rw[aN,hit,bH];have hlk:lock [2] (E7 t R S (r.map cD) (aL r) a5 a6)=E7 t R S (r.map cD) (aL r) a5 a6:=by
  rcases h5 with rfl | ⟨d5,rfl⟩<;>rcases h6 with rfl | ⟨d6,rfl⟩<;>rfl
 dsimp only;rw[hlk,q];show Fl.nx (unlock [2] (E7 t R S (r.map cD) (aL r) a5 a6) (E7 t R S (r.map cD) (aL r) b5 b6))=_;rcases u5 with rfl | ⟨d5,rfl⟩<;>rcases u6 with rfl | ⟨d6,rfl⟩<;>rfl
noncomputable abbrev E7' (t:Str)(R S:List D)(a3 a4 a5 a6:Slot):En:=[sT t,sS R,some (.lst S,.lk),a3,a4,a5,a6]
theorem Am {t:Str}{R S:List D}{a3 a4 a5 a6:Slot}(h5:ow a5)(h6:ow a6)(x:List D)(y:Str):bN [2] (.tp [3,4]) (.tup [.lst x,.str y]) (E7' t R S a3 a4 a5 a6)=some (E7 t R S x y a5 a6):=by
 rcases h5 with rfl | ⟨d5,rfl⟩<;>rcases h6 with rfl | ⟨d6,rfl⟩<;>rfl
theorem gos {t:Str}{R S:List D}:∀(M:List (List Ce)) (a3 a4 a5 a6:Slot),ow a5->ow a6->(∀ r∈M,r.length<=100)->∃ e,aU (.tp [3,4]) [2] (aC (T 1) Ba) (((eO M).zip ((M.map aL).map D.str)).map fun z=>D.tup [z.1,z.2]) (E7' t R S a3 a4 a5 a6) = .nx e
 |[],a3,a4,a5,a6,_,_,_=>⟨_,rfl⟩
 | r::M,a3,a4,a5,a6,h5,h6,hr=>by
  obtain⟨b5,b6,u5,u6,q⟩:=go1 (t:=t) (R:=R) (S:=S) r (hr r ai) h5 h6;obtain⟨e,p⟩:=gos (t:=t) (R:=R) (S:=S) M _ _ b5 b6 u5 u6 fun x hx=>hr x (ae _ hx)
  refine⟨e,?_⟩;show aU (.tp [3,4]) [2] (aC (T 1) Ba) (D.tup [.lst (r.map cD),.str (aL r)]::(((eO M).zip ((M.map aL).map D.str)).map fun z=>D.tup [z.1,z.2])) _=_;rw[dJ (Am h5 h6 _ _) q];exact p
theorem Dc {rows:List Str}(h:rl rows)(hs:lE rows.length=true)(hg:rows.findIdx? (fun s=>!cV rows.length s)=none):(T 2).cl 9 [.str (Str.join nl rows),.lst (rows.map D.str)] = .ok (.bl true,true):=by
 obtain⟨M,rfl,hc⟩:=rd0 h hs hg;rw[wN,dS (F:=⟨2,7,b9⟩) rfl rfl];generalize Str.join nl (M.map aL)=t at hc;have hst:aO [.str t,.lst ((M.map aL).map D.str)] 7=[sT t,sS ((M.map aL).map D.str),none,none,none,none,none]:=rfl;dsimp only;rw[hst,B0];have tn:=bJ;have to:=aI;have hr:∀ r∈M,r.length<=100:=fun r hr=>by
  have:=h.len (aL r) (List.mem_map.mpr ⟨r,hr,rfl⟩)
  rwa [K44.gC] at this
 have s1:aN (T 1) (.asg (.nm 2) (.call 0 (.cons (.var 0) .nil)) false) [sT t,sS ((M.map aL).map D.str),none,none,none,none,none] = .nx [sT t,sS ((M.map aL).map D.str),some (.lst (eO M),.own),none,none,none,none]:=by
  refine aP (.cons (to _) (.cons (bW _) (.cons tn (.cons tn (.cons tn (.cons tn (.cons tn .nil))))))) (show (2:Nat)<7 by decide) ?_;rw[ev,bK,aE (d:=.str t) (t:=.own) rfl rfl,aA,bK,aA,aA];show ((T 1).cl 0 [.str t]).bind _=_;rw[hc];rfl
 have v2:ev (T 1) (.var 2) [sT t,sS ((M.map aL).map D.str),some (.lst (eO M),.own),none,none,none,none] = .ok (.lst (eO M),.mv [2]):=rfl;have v1:ev (T 1) (.var 1) [sT t,sS ((M.map aL).map D.str),some (.lst (eO M),.own),none,none,none,none] = .ok (.lst ((M.map aL).map D.str),.sh []):=rfl;have l2:=dE v2;have l1:=dE v1;rw[aj] at l2 l1;rw[aj] at l1;have c:ev (T 1) (.or (.not (.blt (.isi "list") (.cons (.var 2) .nil))) (.cmp .NotEq (.blt .len (.cons (.var 2) .nil)) (.blt .len (.cons (.var 1) .nil)))) [sT t,sS ((M.map aL).map D.str),some (.lst (eO M),.own),none,none,none,none] = .ok (.bl false,.mv []):=sg rfl (by
  have:=vF l2 l1;rw[show (M.length==M.length)=true by simp] at this;exact this)
 obtain⟨e,q⟩:=gos (t:=t) (R:=(M.map aL).map D.str) (S:=eO M) M none none none none (.inl rfl) (.inl rfl) hr;have hit:dN (T 1) (.zip (.var 2) (.var 1)) [sT t,sS ((M.map aL).map D.str),some (.lst (eO M),.own),none,none,none,none] = .ok (((eO M).zip ((M.map aL).map D.str)).map (fun z=>D.tup [z.1,z.2]),[2]):=by
  rw[dN,v2,aA,v1,aA];rfl
 rw[aC,s1,aF,aC,ite_ff c,aF,aC,aN,hit,bH];show ret (Fl.andThen (match aU (.tp [3,4]) [2] (aC (T 1) Ba) (((eO M).zip ((M.map aL).map D.str)).map fun z=>D.tup [z.1,z.2]) (E7' t ((M.map aL).map D.str) (eO M) none none none none) with | .nx e=>Fl.nx (unlock [2] _ e) | x=>x) _)=_;rw[q];rfl
open K44 (Ce cD cp aL one qE eO nl sH sT sC r9 Sq)
noncomputable abbrev oD (q:List Ce):List D:=(q.map one).map D.str
noncomputable def eT7:Ex:=.cst (.str ("#.#.#.?" : PySem.Str))
noncomputable def BE:bP:=.cons (.asg (.nm 6) (.bin .Add (.bin .Mult (.var 3) (.var 1)) (.var 5)) false)
 (.cons (.asg (.nm 7) (.bin .Mod (.ix (.var 0) (.bin .Mod (.var 6) (.blt .len (.cons (.var 0) .nil)))) (.cst (.int (2147483647)))) false)
 (.cons (.asg (.nm 7) (.bin .Mod (.bin .Mult (.bin .Add (.bin .Add (.var 7) (.bin .Mult (.bin .Mult (.var 6) (.var 6)) (.cst (.int (69621))))) (.cst (.int (7)))) (.cst (.int (48271)))) (.cst (.int (2147483629)))) false)
 (.cons (.mut 4 .none .append (.cons (.ix eT7 (.bin .Mod (.bin .FloorDiv (.var 7) (.cst (.int (11)))) (.cst (.int (7))))) .nil)) .nil)))
noncomputable def C3:bP:=.cons (.asg (.nm 4) (.lst .nil) false)
 (.cons (.forr (.nm 5) (.rng1 (.var 1)) BE)
 (.cons (.mut 2 .none .append (.cons (.mth .sjoin (.cst (.str ("" : PySem.Str))) (.cons (.var 4) .nil)) .nil)) .nil))
theorem Bo:b3 = .cons (.asg (.nm 2) (.lst .nil) false) (.cons (.forr (.nm 3) (.rng1 (.var 1)) C3) (.cons (.ret (.var 2)) .nil)):=rfl
theorem lQ {s:Str}{i:Int}(h0:0<=i)(hs:s.length<=1000)(hi:i<(s.length:Int)):∃ c,c∈s.cps.toList/\o6 (.str s) (.int i)=some (.str ⟨#[c]⟩):=by
 have hl:s.cps.toList.length=s.length:=by simp[Str.length]
 have hj:i.toNat<s.cps.toList.length:=by omega
 refine⟨s.cps.toList[i.toNat],List.getElem_mem hj,?_⟩;show (if s.length<=lim then ((Pc.jv s.cps.toList.length i).bind fun j=>s.cps.toList[j]?).map fun c=>D.str ⟨#[c]⟩ else none)=_;rw[if_pos (fJ hs),oW h0 (by omega),fe,List.getElem?_eq_getElem hj];rfl
noncomputable def T7:Str:=⟨#[35,46,35,46,35,46,63]⟩
theorem e_T7:("#.#.#.?" : PySem.Str)=T7:=by decide +kernel
theorem CD {i:Int}(h0:0<=i)(h7:i<7):∃ c:Ce,o6 (.str ("#.#.#.?" : PySem.Str)) (.int i)=some (.str (one c)):=by
 rw[e_T7];obtain⟨c,hc,e⟩:=lQ (s:=T7) h0 (by decide) h7;refine⟨vM c,?_⟩;have ha:T7.cps.toList.all dZ=true:=by decide
 rw[e];show _=some (D.str ⟨#[K44.cp (vM c)]⟩);rw[yn (bt.mp ha c hc)]
theorem CZ {T:Tb}{env:En}{e:Ex}{i:Int}{R:Rt}(h0:0<=i)(h7:i<7)(h:ev T e env = .ok (.int i,R)):∃ c,ev T (.ix eT7 e) env = .ok (.str (one c),.mv []):=by
 obtain⟨c,hc⟩:=CD h0 h7;refine⟨c,?_⟩;unfold eT7;rw[ev,aH,aA,h,aA];dsimp only;rw[hc,bA,aA];rfl
noncomputable abbrev ER (S:List D)(n:Int)(a2 a3 a4 a5 a6 a7:Slot):En:=[sS S,sI n,a2,a3,a4,a5,a6,a7]
theorem eW {S:List D}{n:Int}{a2 a3 a4 a5 a6 a7:Slot}(h2:aR a2)(h3:aR a3)(h4:aR a4)(h5:aR a5)(h6:aR a6)(h7:aR a7):Tame (ER S n a2 a3 a4 a5 a6 a7) :=
 .cons (bW _) (.cons (aI _) (.cons h2 (.cons h3 (.cons h4 (.cons h5 (.cons h6 (.cons h7 .nil)))))))
noncomputable abbrev oO (q:List Ce):Slot:=some (.lst (oD q),.own)
theorem inR {k:Nat}{cs:List Int}(hc:cs≠[]){n:Int}(hn0:0<=n)(hn:n<=100){a2:Slot}(h2:aR a2)(r c:Int)(hr:0<=r/\r<n)(hcc:0<=c/\c<n)(q:List Ce)(hq:q.length<=900)(a6 a7:Slot)(h6:aR a6)(h7:aR a7) :
  ∃ x b6 b7,aR b6/\aR b7/\aC (T k) BE (ER (iD cs) n a2 (sI r) (oO q) (sI c) a6 a7) = .nx (ER (iD cs) n a2 (sI r) (oO (q ++ [x])) (sI c) b6 b7):=by
 have to:=aI;have hrn:0<=r*n/\r*n<=10000:=⟨Int.mul_nonneg hr.1 hn0,by
  have:r*n<=100*100:=Int.mul_le_mul (by omega) hn hn0 (by omega);omega⟩
 have s1:aN (T k) (.asg (.nm 6) (.bin .Add (.bin .Mult (.var 3) (.var 1)) (.var 5)) false) (ER (iD cs) n a2 (sI r) (oO q) (sI c) a6 a7) = .nx (ER (iD cs) n a2 (sI r) (oO q) (sI c) (sI (r*n+c)) a7) :=
  aP (eW h2 (to _) (to _) (to _) h6 h7) (show (6:Nat)<8 by decide) (eS (K44.iq (by rw[K44.lp hr.1 (by omega),Bool.true_or]) (aE (i:=3) (d:=.int r) (t:=.own) rfl rfl) (aE (i:=1) (d:=.int n) (t:=.own) rfl rfl)) (aE (i:=5) (d:=.int c) (t:=.own) rfl rfl))
 generalize hkk:r*n+c=kk at s1;have k0:0<=kk:=by omega
 have k1:kk<=20000:=by omega
 have hlen:0<cs.length:=by
  cases cs with
  |nil=>exact absurd rfl hc
  |cons a l=>exact Nat.succ_pos _
 obtain⟨R0,v0⟩:∃ R,ev (T k) (.var 0) (ER (iD cs) n a2 (sI r) (oO q) (sI c) (sI kk) a7) = .ok (.lst (iD cs),R):=bQ rfl;have vk:ev (T k) (.var 6) (ER (iD cs) n a2 (sI r) (oO q) (sI c) (sI kk) a7) = .ok (.int kk,.mv []):=aE rfl rfl;have l0:=dE v0;rw[aj] at l0;have hmod:0<=kk%(cs.length:Int)/\kk%(cs.length:Int)<cs.length:=⟨de _ (by omega),eo _ (by omega)⟩;obtain⟨v,hv⟩:=K44.mD (l:=cs) (i:=(kk%(cs.length:Int)).toNat) (by omega);have s2:aN (T k) (.asg (.nm 7) (.bin .Mod (.ix (.var 0) (.bin .Mod (.var 6) (.blt .len (.cons (.var 0) .nil)))) (.cst (.int (2147483647)))) false) (ER (iD cs) n a2 (sI r) (oO q) (sI c) (sI kk) a7) = .nx (ER (iD cs) n a2 (sI r) (oO q) (sI c) (sI kk) (sI (v%2147483647))) :=
  aP (eW h2 (to _) (to _) (to _) (to _) h7) (show (7:Nat)<8 by decide) (cI (by omega) (o5 hmod.1 hv v0 (cI (by omega) vk l0)) (aH _))
 generalize v%2147483647=cc at s2;have v6:ev (T k) (.var 6) (ER (iD cs) n a2 (sI r) (oO q) (sI c) (sI kk) (sI cc)) = .ok (.int kk,.mv []):=aE rfl rfl;have s3:aN (T k) (.asg (.nm 7) (.bin .Mod (.bin .Mult (.bin .Add (.bin .Add (.var 7) (.bin .Mult (.bin .Mult (.var 6) (.var 6)) (.cst (.int (69621))))) (.cst (.int (7)))) (.cst (.int (48271)))) (.cst (.int (2147483629)))) false) (ER (iD cs) n a2 (sI r) (oO q) (sI c) (sI kk) (sI cc)) = .nx (ER (iD cs) n a2 (sI r) (oO q) (sI c) (sI kk) (sI ((cc+kk*kk*69621+7)*48271%2147483629))) :=
  aP (eW h2 (to _) (to _) (to _) (to _) (to _)) (show (7:Nat)<8 by decide) (cI (by omega) (K44.iq (by rw[show small 48271=true by decide,eu]) (eS (eS (aE (i:=7) (d:=.int cc) (t:=.own) rfl rfl) (K44.iq (by rw[show small 69621=true by decide,eu]) (K44.iq (by rw[K44.lp k0 (by omega),Bool.true_or]) v6 v6) (aH _))) (aH _)) (aH _)) (aH _))
 have d0:0<=(cc+kk*kk*69621+7)*48271%2147483629:=de _ (by omega);generalize (cc+kk*kk*69621+7)*48271%2147483629=dd at s3 d0;obtain⟨x,hx⟩:=CZ (T:=T k) (env:=ER (iD cs) n a2 (sI r) (oO q) (sI c) (sI kk) (sI dd)) (e:=.bin .Mod (.bin .FloorDiv (.var 7) (.cst (.int (11)))) (.cst (.int (7)))) (i:=dd / 11%7) (by omega) (by omega) (cI (by omega) (dW (by omega) (by omega) (aE (i:=7) (d:=.int dd) (t:=.own) rfl rfl) (aH _)) (aH _));have s4:aN (T k) (.mut 4 .none .append (.cons (.ix eT7 (.bin .Mod (.bin .FloorDiv (.var 7) (.cst (.int (11)))) (.cst (.int (7))))) .nil)) (ER (iD cs) n a2 (sI r) (oO q) (sI c) (sI kk) (sI dd)) = .nx (ER (iD cs) n a2 (sI r) (some (.lst (oD q ++ [.str (one x)]),.own)) (sI c) (sI kk) (sI dd)) :=
  ma (eW h2 (to _) (to _) (to _) (to _) (to _)) rfl hx (by rw[aj,aj];exact fJ (by omega))
 refine⟨x,_,_,to (.int kk),to (.int dd),?_⟩;unfold BE;rw[aC,s1,aF,aC,s2,aF,aC,s3,aF];refine bM (s4.trans ?_);have e:oD (q ++ [x])=oD q ++ [.str (one x)]:=by rw[oD,c9,c9];rfl
 exact fk (fun z=>Fl.nx (ER (iD cs) n a2 (sI r) (some (.lst z,.own)) (sI c) (sI kk) (sI dd))) e.symm
theorem Cj {k:Nat}{cs:List Int}(hc:cs≠[]){n:Int}(hn0:0<=n)(hn:n<=100){a2:Slot}(h2:aR a2)(r:Int)(hr:0<=r/\r<n):∀(js:List Int) (q:List Ce) (a5 a6 a7:Slot),aR a5->aR a6->aR a7->(∀ j∈js,0<=j/\j<n)->q.length+js.length<=900 ->
  ∃ p b5 b6 b7,p.length=q.length+js.length/\aR b5/\aR b6/\aR b7/\aU (.nm 5) [] (aC (T k) BE) (js.map D.int) (ER (iD cs) n a2 (sI r) (oO q) a5 a6 a7) = .nx (ER (iD cs) n a2 (sI r) (oO p) b5 b6 b7)
 |[],q,a5,a6,a7,h5,h6,h7,_,_=>⟨q,a5,a6,a7,rfl,h5,h6,h7,rfl⟩
 | j::js,q,a5,a6,a7,h5,h6,h7,hj,hl=>by
  rw[be] at hl;obtain⟨x,c6,c7,w6,w7,g⟩:=inR (k:=k) hc hn0 hn h2 r j hr (hj j ai) q (by omega) a6 a7 h6 h7;obtain⟨p,b5,b6,b7,e,u5,u6,u7,w⟩:=Cj (k:=k) hc hn0 hn h2 r hr js (q ++ [x]) (sI j) c6 c7 (aI _) w6 w7 (fun i hi=>hj i (ae _ hi)) (by rw[aw,bp];omega);refine⟨p,b5,b6,b7,?_,u5,u6,u7,?_⟩
  ·rw[e,aw,bp,be];omega
  ·have hb:bN [] (.nm 5) (.int j) (ER (iD cs) n a2 (sI r) (oO q) a5 a6 a7)=some (ER (iD cs) n a2 (sI r) (oO q) (sI j) a6 a7):=gG (eW h2 (aI _) (aI _) h5 h6 h7) (show (5:Nat)<8 by decide);rw[ax,dJ hb g,w]
noncomputable abbrev rO (M:List (List Ce)):Slot:=some (.lst ((M.map aL).map D.str),.own)
theorem yB {k:Nat}{cs:List Int}(hc:cs≠[]){n:Nat}(hn:n<=100):∀(rs:List Int) (M:List (List Ce)) (a3 a4 a5 a6 a7:Slot),aR a3->aR a4->aR a5->aR a6->aR a7->(∀ j∈rs,0<=j/\j<(n:Int))->M.length+rs.length<=900->(∀ r∈M,r.length=n) ->
  ∃(P:List (List Ce)) (b3 b4 b5 b6 b7:Slot),P.length=M.length+rs.length/\(∀ r∈P,r.length=n)/\aU (.nm 3) [] (aC (T k) C3) (rs.map D.int) (ER (iD cs) n (rO M) a3 a4 a5 a6 a7) = .nx (ER (iD cs) n (rO P) b3 b4 b5 b6 b7)
 |[],M,a3,a4,a5,a6,a7,_,_,_,_,_,_,_,hM=>⟨M,a3,a4,a5,a6,a7,rfl,hM,rfl⟩
 | r::rs,M,a3,a4,a5,a6,a7,h3,h4,h5,h6,h7,hr,hl,hM=>by
  have to:=aI;rw[be] at hl;have hr0:=hr r ai;have hb:bN [] (.nm 3) (.int r) (ER (iD cs) n (rO M) a3 a4 a5 a6 a7)=some (ER (iD cs) n (rO M) (sI r) a4 a5 a6 a7):=gG (eW (to _) h3 h4 h5 h6 h7) (show (3:Nat)<8 by decide);have s1:aN (T k) (.asg (.nm 4) (.lst .nil) false) (ER (iD cs) n (rO M) (sI r) a4 a5 a6 a7) = .nx (ER (iD cs) n (rO M) (sI r) (oO []) a5 a6 a7):=aP (eW (to _) (to _) h4 h5 h6 h7) (show (4:Nat)<8 by decide) rfl;obtain⟨p,b5,b6,b7,e,u5,u6,u7,q⟩:=Cj (k:=k) hc (n:=(n:Int)) (by omega) (by omega) (to (.lst ((M.map aL).map D.str))) r hr0 (eA 0 1 n) [] a5 a6 a7 h5 h6 h7 (fun j hj=>by have:=ja hj;omega) (by rw[gQ];show 0+_<=_;omega);rw[gQ,dz,gj] at e;have s2:=iK (T:=T k) (t:=.nm 5) (it:=.rng1 (.var 1)) (b:=BE) (env:=ER (iD cs) n (rO M) (sI r) (oO []) a5 a6 a7) (K44.xo (aE (i:=1) (d:=.int (n:Int)) (t:=.own) rfl rfl) (by omega)) q;have v4:∃ R,ev (T k) (.var 4) (ER (iD cs) n (rO M) (sI r) (oO p) b5 b6 b7) = .ok (.lst (oD p),R):=bQ rfl;obtain⟨R4,v4⟩:=v4;have ej:ev (T k) (.mth .sjoin (.cst (.str ("" : PySem.Str))) (.cons (.var 4) .nil)) (ER (iD cs) n (rO M) (sI r) (oO p) b5 b6 b7) = .ok (.str (aL p),.mv []):=by
   rw[K44.qr,K44.me (ys:=p.map one) v4 (by rw[K44.nF];show _+_*0<=_;omega),K44.join_one]
  have s3:aN (T k) (.mut 2 .none .append (.cons (.mth .sjoin (.cst (.str ("" : PySem.Str))) (.cons (.var 4) .nil)) .nil)) (ER (iD cs) n (rO M) (sI r) (oO p) b5 b6 b7) = .nx (ER (iD cs) n (some (.lst ((M.map aL).map D.str ++ [.str (aL p)]),.own)) (sI r) (oO p) b5 b6 b7) :=
   ma (eW (to _) (to _) (to _) u5 u6 u7) rfl ej (by rw[aj,aj];exact fJ (by omega))
  have g:aC (T k) C3 (ER (iD cs) n (rO M) (sI r) a4 a5 a6 a7) = .nx (ER (iD cs) n (rO (M ++ [p])) (sI r) (oO p) b5 b6 b7):=by
   unfold C3;rw[aC,s1,aF,aC,s2,aF];refine bM (s3.trans ?_);have e:((M ++ [p]).map aL).map D.str=(M.map aL).map D.str ++ [.str (aL p)]:=by rw[c9,c9];rfl
   exact fk (fun z=>Fl.nx (ER (iD cs) n (some (.lst z,.own)) (sI r) (oO p) b5 b6 b7)) e.symm
  obtain⟨P,c3,c4,c5,c6,c7,f1,f2,w⟩:=yB (k:=k) hc hn rs (M ++ [p]) (sI r) (oO p) b5 b6 b7 (to _) (to _) u5 u6 u7 (fun j hj=>hr j (ae _ hj)) (by rw[aw,bp];omega) (fun x hx=>by
   rcases List.mem_append.mp hx with hx | hx
   ·exact hM x hx
   ·rw[List.mem_singleton.mp hx,e])
  refine⟨P,c3,c4,c5,c6,c7,?_,f2,?_⟩
  ·rw[f1,aw,bp,be];omega
  ·rw[ax,dJ hb g,w]
theorem B9 {cs:List Int}(hc:cs≠[]){n:Nat}(hn:n<=100):∃ M:List (List Ce),M.length=n/\(∀ r∈M,r.length=n)/\(T 1).cl 3 [.lst (iD cs),.int (n:Int)] = .ok (.lst ((M.map aL).map D.str),true):=by
 have tn:=bJ;obtain⟨P,x3,x4,x5,x6,x7,f1,f2,q⟩:=yB (k:=0) hc hn (eA 0 1 n) [] none none none none none tn tn tn tn tn (fun j hj=>by have:=ja hj;omega) (by rw[gQ];show 0+_<=_;omega) (fun r hr=>(nomatch hr));rw[gQ,dz,gj] at f1;refine⟨P,f1,f2,?_⟩;rw[wN,dS (F:=⟨2,8,b3⟩) rfl rfl];have hst:aO [.lst (iD cs),.int (n:Int)] 8=ER (iD cs) n none none none none none none:=rfl;dsimp only;rw[hst,Bo];have s1:aN (T 0) (.asg (.nm 2) (.lst .nil) false) (ER (iD cs) n none none none none none none) = .nx (ER (iD cs) n (rO []) none none none none none):=rfl;have s2:=iK (T:=T 0) (t:=.nm 3) (it:=.rng1 (.var 1)) (b:=C3) (env:=ER (iD cs) n (rO []) none none none none none) (K44.xo (aE (i:=1) (d:=.int (n:Int)) (t:=.own) rfl rfl) (by omega)) q;rw[aC,s1,aF,aC,s2,aF,aC,aN,mC (i:=2) (d:=.lst ((P.map aL).map D.str)) rfl rfl];rfl
noncomputable def sA:Str:=(" !\"#$&'()*+,-./0123456789:;<=>?@ABCDEFGHIJKLMNOPQRSTUVWXYZ[\\]^_`" : PySem.Str)
noncomputable def sB:Str:=("abcdefghijklmnopqrstuvwxyz{|}~" : PySem.Str)
theorem sAB:(sA++sB).length=94/\(sA++sB).cps.toList.all (fun c=>c != 10)=true:=by decide +kernel
theorem AM:sA.length+sB.length<=1000:=by decide +kernel
theorem C4:b4 = .cons (.asg (.nm 1) (.cst (.str sA)) false) (.cons (.asg (.nm 1) (.bin .Add (.var 1) (.cst (.str sB))) false) (.cons (.ret (.ix (.var 1) (.bin .Mod (.var 0) (.cst (.int (94)))))) .nil)):=rfl
theorem odd4 (d:Int):∃ c,c≠10/\(T 1).cl 4 [.int d] = .ok (.str ⟨#[c]⟩,true):=by
 obtain⟨c,hc,e⟩:=lQ (s:=sA++sB) (i:=d%94) (de _ (by decide)) (by rw[sAB.1];decide) (by rw[sAB.1];exact eo _ (by decide));refine⟨c,by simpa using List.all_eq_true.mp sAB.2 c hc,?_⟩;rw[wN,dS (F:=⟨1,2,b4⟩) rfl rfl];have hst:aO [.int d] 2=[sI d,none]:=rfl;dsimp only;rw[hst,C4];have to:=aI;have s1:aN (T 0) (.asg (.nm 1) (.cst (.str sA)) false) [sI d,none] = .nx [sI d,sT sA]:=aP (.cons (to _) (.cons bJ .nil)) (show (1:Nat)<2 by decide) (aH _);have s2:aN (T 0) (.asg (.nm 1) (.bin .Add (.var 1) (.cst (.str sB))) false) [sI d,sT sA] = .nx [sI d,sT (sA++sB)]:=aP (.cons (to _) (.cons (to _) .nil)) (show (1:Nat)<2 by decide) (K44.gZ (aE (i:=1) (d:=.str sA) (t:=.own) rfl rfl) (aH _) AM);have e3:ev (T 0) (.ix (.var 1) (.bin .Mod (.var 0) (.cst (.int (94))))) [sI d,sT (sA++sB)] = .ok (.str ⟨#[c]⟩,.mv []):=by
  rw[ev,aE (i:=1) (d:=.str (sA++sB)) (t:=.own) rfl rfl,aA,cI (by decide) (aE (i:=0) (d:=.int d) (t:=.own) rfl rfl) (aH _),aA];dsimp only;rw[e,bA,aA];rfl
 rw[aC,s1,aF,aC,s2,aF,aC,aN,e3];rfl
open K44 (Ce cD cp aL one qE eO nl sH sT sC r9 Sq)
theorem ue {α:Type}(xs:List α)(k:Nat):cut xs none (some (k:Int))=xs.take k:=by
 show (xs.drop 0).take ((if (k:Int)<0 then ((k:Int)+(xs.length:Int)).toNat else min (k:Int).toNat xs.length) - 0)=_;rw[if_neg (by omega),List.drop_zero,Nat.sub_zero,fu];by_cases h:k<=xs.length
 ·rw[Nat.min_eq_left h]
 ·rw[Nat.min_eq_right (by omega),List.take_length,et (by omega)]
theorem tP {α:Type}(xs:List α)(k:Nat):cut xs (some (k:Int)) none=xs.drop k:=by
 show (xs.drop (if (k:Int)<0 then ((k:Int)+(xs.length:Int)).toNat else min (k:Int).toNat xs.length)).take (xs.length - (if (k:Int)<0 then ((k:Int)+(xs.length:Int)).toNat else min (k:Int).toNat xs.length))=_;rw[if_neg (by omega),fu];by_cases h:k<=xs.length
 ·rw[Nat.min_eq_left h,et (by rw[c8];omega)]
 ·rw[Nat.min_eq_right (by omega),Nat.sub_self,List.take_zero,List.drop_of_length_le (by omega)]
noncomputable def tk (s:Str)(k:Nat):Str:=⟨(s.cps.toList.take k).toArray⟩
noncomputable def dp (s:Str)(k:Nat):Str:=⟨(s.cps.toList.drop k).toArray⟩
theorem vD (s:Str):s.length=s.cps.toList.length:=by simp[Str.length]
theorem gN (s:Str)(k:Nat):(tk s k).length=min k s.length:=by simp[tk,Str.length]
theorem iV (s:Str)(k:Nat):(dp s k).length=s.length - k:=by simp[dp,Str.length]
theorem fO (a b:Str):(a++b).length=a.length+b.length:=by rw[vD,K44.kF,aw,<-vD,<-vD]
section
variable {T:Tb}{env:En}
theorem lU:∀ l:List Str,D.flats (l.map D.str)=true
 |[]=>rfl
 |a::l=>lU l
theorem m7 {b:Ex}{k:Int}{R:Rt}(h:ev T b env = .ok (.int k,R)):jc T (.some b) env = .ok (some k):=by rw[jc,h];rfl
theorem oo:jc T .none env = .ok none:=by rw[jc]
theorem o9 {a b:Ex}{s:Str}{k:Nat}{R R':Rt}(ha:ev T a env = .ok (.str s,R))(hb:ev T b env = .ok (.int (k:Int),R'))(hs:s.length<=1000):ev T (.sl a .none (.some b)) env = .ok (.str (tk s k),.mv []):=by
 rw[ev,ha,aA,oo,aA,m7 hb,aA];show (fD (if s.length<=lim then some (D.str ⟨(cut s.cps.toList none (some (k:Int))).toArray⟩) else none)).bind _=_;rw[if_pos (fJ hs),ue];rfl
theorem oP {a b:Ex}{s:Str}{k:Nat}{R R':Rt}(ha:ev T a env = .ok (.str s,R))(hb:ev T b env = .ok (.int (k:Int),R'))(hs:s.length<=1000):ev T (.sl a (.some b) .none) env = .ok (.str (dp s k),.mv []):=by
 rw[ev,ha,aA,m7 hb,aA,oo,aA];show (fD (if s.length<=lim then some (D.str ⟨(cut s.cps.toList (some (k:Int)) none).toArray⟩) else none)).bind _=_;rw[if_pos (fJ hs),tP];rfl
theorem zI {a b:Ex}{xs:List Str}{k:Nat}{R R':Rt}(ha:ev T a env = .ok (.lst (xs.map D.str),R))(hb:ev T b env = .ok (.int (k:Int),R')):ev T (.sl a .none (.some b)) env = .ok (.lst ((xs.take k).map D.str),.mv []):=by
 rw[ev,ha,aA,oo,aA,m7 hb,aA];show (fD (some (D.lst (cut (xs.map D.str) none (some (k:Int)))))).bind _=_;rw[ue,<-List.map_take,bA,aA,eP (lU _)]
theorem zo {a b:Ex}{xs:List Str}{k:Nat}{R R':Rt}(ha:ev T a env = .ok (.lst (xs.map D.str),R))(hb:ev T b env = .ok (.int (k:Int),R')):ev T (.sl a (.some b) .none) env = .ok (.lst ((xs.drop k).map D.str),.mv []):=by
 rw[ev,ha,aA,m7 hb,aA,oo,aA];show (fD (some (D.lst (cut (xs.map D.str) (some (k:Int)) none)))).bind _=_;rw[tP,<-List.map_drop,bA,aA,eP (lU _)]
theorem l9 {a b:Ex}{x y:List Str}{R R':Rt}(ha:ev T a env = .ok (.lst (x.map D.str),R))(hb:ev T b env = .ok (.lst (y.map D.str),R'))(hl:x.length+y.length<=1000):ev T (.bin .Add a b) env = .ok (.lst ((x++y).map D.str),.mv []):=by
 rw[ev,ha,aA,hb,aA];have e:gr .Add (.lst (x.map D.str)) (.lst (y.map D.str))=some (.lst ((x++y).map D.str)):=by
  rw[c9];show (if (x.map D.str).length+(y.map D.str).length<=lim then some (D.lst (x.map D.str++y.map D.str)) else none)=_;rw[if_pos (by rw[aj,aj];exact fJ hl)]
 dsimp only;rw[e,bA,aA,eP (lU _)]
end
structure Tx (L:Nat)(p:Str):Prop where
 free:10∉p.cps.toList
 len:p.length<=L
theorem Tx.tk {L:Nat}{p:Str}(h:Tx L p)(k:Nat):10∉(K45.tk p k).cps.toList:=fun z=>h.free (List.mem_of_mem_take (by simpa[K45.tk] using z))
theorem Tx.dp {L:Nat}{p:Str}(h:Tx L p)(k:Nat):10∉(K45.dp p k).cps.toList:=fun z=>h.free (List.mem_of_mem_drop (by simpa[K45.dp] using z))
theorem Tx.app {a b:Str}(ha:10∉a.cps.toList)(hb:10∉b.cps.toList):10∉(a++b).cps.toList:=fun z=>by
 rw[K44.kF] at z;exact (List.mem_append.mp z).elim ha hb
theorem BF (a f p:Int)(hf:small f=true)(hp:0<p):(T 1).cl 1 [.int a,.int f,.int p] = .ok (.int (a*f%p),true):=by
 rw[wN,dS (F:=⟨3,3,b1⟩) rfl rfl];have hst:aO [.int a,.int f,.int p] 3=[sI a,sI f,sI p]:=rfl;dsimp only;rw[hst];unfold b1;exact AL (cI hp (K44.iq (by rw[hf,eu]) (aE rfl rfl) (aE rfl rfl)) (aE rfl rfl))
open K44 (Ce cD cp aL one qE eO nl sH sT sC r9 Sq)
noncomputable def yh (c e:Ex):St:=.ite c (.cons (.asg (.nm 7) e false) .nil) .nil
noncomputable def c1:Ex:=.cmp .Lt (.var 6) (.cst (.int (2)))
noncomputable def cQ (k:Int):Ex:=.cmp .Eq (.var 6) (.cst (.int k))
noncomputable def e1:Ex:=.lst (.cons (.bin .Add (.bin .Add (.sl (.var 4) .none (.some (.var 5))) (.call 4 (.cons (.bin .FloorDiv (.var 2) (.cst (.int (12000)))) .nil))) (.sl (.var 4) (.some (.bin .Add (.var 5) (.cst (.int (1))))) .none)) .nil)
noncomputable def e2:Ex:=.lst (.cons (.bin .Add (.bin .Add (.sl (.var 4) .none (.some (.var 5))) (.cst (.str ("#" : PySem.Str)))) (.sl (.var 4) (.some (.var 5)) .none)) .nil)
noncomputable def e3:Ex:=.lst (.cons (.bin .Add (.sl (.var 4) .none (.some (.var 5))) (.sl (.var 4) (.some (.bin .Add (.var 5) (.cst (.int (1))))) .none)) .nil)
noncomputable def e4:Ex:=.lst (.cons (.cst (.str ("" : PySem.Str))) .nil)
noncomputable def e5:Ex:=.lst (.cons (.var 4) (.cons (.var 4) .nil))
noncomputable def e6:Ex:=.lst .nil
noncomputable def eR:Ex:=.bin .Add (.bin .Add (.sl (.var 0) .none (.some (.var 3))) (.var 7)) (.sl (.var 0) (.some (.bin .Add (.var 3) (.cst (.int (1))))) .none)
noncomputable def tl5:bP:=.cons (.asg (.nm 3) (.bin .Mod (.bin .FloorDiv (.var 2) (.cst (.int (7)))) (.blt .len (.cons (.var 0) .nil))) false)
 (.cons (.asg (.nm 4) (.ix (.var 0) (.var 3)) false)
 (.cons (.asg (.nm 5) (.bin .Mod (.bin .FloorDiv (.var 2) (.cst (.int (300)))) (.bin .Add (.blt .len (.cons (.var 4) .nil)) (.cst (.int (1))))) false)
 (.cons (.asg (.nm 6) (.bin .Mod (.var 2) (.cst (.int (7)))) false)
 (.cons (.asg (.nm 7) (.lst (.cons (.var 4) .nil)) false)
 (.cons (yh c1 e1) (.cons (yh (cQ 2) e2) (.cons (yh (cQ 3) e3) (.cons (yh (cQ 4) e4) (.cons (yh (cQ 5) e5) (.cons (yh (cQ 6) e6)
 (.cons (.ret eR) .nil)))))))))))
theorem BJ:b5 = .cons (.asg (.nm 2) (.call 1 (.cons (.var 1) (.cons (.cst (.int (39373))) (.cons (.cst (.int (2147483587))) .nil)))) false)
 (.cons (.ite (.cmp .Eq (.var 0) (.lst .nil)) (.cons (.ret (.var 0)) .nil) .nil) tl5):=rfl
noncomputable abbrev mO (m:List Str):Slot:=some (.lst (m.map D.str),.own)
noncomputable abbrev EM (S:List D)(c d:Int)(at_:Nat)(row:Str)(sp:Nat)(kd:Int)(m:List Str):En:=[sS S,sI c,sI d,sI at_,sT row,sI sp,sI kd,mO m]
theorem xE {S:List D}{c d:Int}{at_:Nat}{row:Str}{sp:Nat}{kd:Int}{m:List Str}:Tame (EM S c d at_ row sp kd m) :=
 .cons (bW _) (.cons (aI _) (.cons (aI _) (.cons (aI _) (.cons (aI _) (.cons (aI _) (.cons (aI _) (.cons (aI _) .nil)))))))
section
variable {S:List D}{c d:Int}{at_:Nat}{row:Str}{sp:Nat}{kd:Int}{m m':List Str}
theorem Bi {k:Nat}{x e:Ex}{b:Bool}(hc:ev (T k) x (EM S c d at_ row sp kd m) = .ok (.bl b,.mv []))(he:ev (T k) e (EM S c d at_ row sp kd m) = .ok (.lst (m'.map D.str),.mv [])):aN (T k) (yh x e) (EM S c d at_ row sp kd m) = .nx (EM S c d at_ row sp kd (if b then m' else m)):=by
 unfold yh;cases b with
 |false=>exact ite_ff hc
 |true =>
  rw[aN,hc,bH];show aC (T k) (.cons (.asg (.nm 7) e false) .nil) _=_;exact bM (aP xE (show (7:Nat)<8 by decide) he)
theorem lB {T:Tb}{env:En}{e:Ex}{s:Str}(h:ev T e env = .ok (.str s,.mv [])):ev T (.lst (.cons e .nil)) env = .ok (.lst ([s].map D.str),.mv []):=by
 rw[ev,bK,h,aA,bK,aA,aA];rfl
theorem CL {k:Nat}:ev (T k) c1 (EM S c d at_ row sp kd m) = .ok (.bl (decide (kd<2)),.mv []):=rfl
theorem mY {k:Nat}{q:Int}:ev (T k) (cQ q) (EM S c d at_ row sp kd m) = .ok (.bl (kd==q),.mv []):=rfl
theorem v4 {k:Nat}:ev (T k) (.var 4) (EM S c d at_ row sp kd m) = .ok (.str row,.mv []):=rfl
theorem v5 {k:Nat}:ev (T k) (.var 5) (EM S c d at_ row sp kd m) = .ok (.int (sp:Int),.mv []):=rfl
theorem v5s {k:Nat}:ev (T k) (.bin .Add (.var 5) (.cst (.int (1)))) (EM S c d at_ row sp kd m) = .ok (.int ((sp+1:Nat):Int),.mv []):=by
 rw[eS v5 (aH _)];rfl
def Mk (L:Nat)(m:List Str):Prop:=m.length<=2/\∀ p∈m,Tx L p
theorem Mk.ite {L:Nat}{a b:List Str}{x:Bool}(h:Mk L a)(h':Mk L b):Mk L (if x then a else b):=by
 cases x
 ·exact h'
 ·exact h
theorem Mk.one {L:Nat}{p:Str}(h:Tx L p):Mk L [p]:=⟨by simp,fun q hq=>by rw[List.mem_singleton.mp hq];exact h⟩
theorem BU {L:Nat}(hL:L<=90)(hr:Tx L row):∃ p,Tx (L+1) p/\∀ m,ev (T 1) e1 (EM S c d at_ row sp kd m) = .ok (.lst ([p].map D.str),.mv []):=by
 obtain⟨q,hq,e⟩:=odd4 (d / 12000);refine⟨tk row sp ++ ⟨#[q]⟩++dp row (sp+1),⟨Tx.app (Tx.app (hr.tk _) (by simpa using fun z=>hq z.symm)) (hr.dp _),?_⟩,fun m=>?_⟩
 ·have:=hr.len;rw[fO,fO,gN,iV];show min sp row.length+1+_<=_;omega
 ·have hl:=hr.len;have ec:ev (T 1) (.call 4 (.cons (.bin .FloorDiv (.var 2) (.cst (.int (12000)))) .nil)) (EM S c d at_ row sp kd m) = .ok (.str ⟨#[q]⟩,.mv []):=by
   have ea:ev (T 1) (.bin .FloorDiv (.var 2) (.cst (.int (12000)))) (EM S c d at_ row sp kd m) = .ok (.int (d / 12000),.mv []):=dW (by decide) (by decide) (aE (i:=2) (d:=.int d) (t:=.own) rfl rfl) (aH _);rw[ev,bK,ea,aA,bK,aA,aA];show ((T 1).cl 4 [.int (d / 12000)]).bind _=_;rw[e];rfl
  exact lB (K44.gZ (K44.gZ (o9 v4 v5 (by omega)) ec (by rw[gN];show _+1<=_;omega)) (oP v4 v5s (by omega)) (by rw[fO,gN,iV];show _+1+_<=_;omega))
theorem CQ {L:Nat}(hL:L<=90)(hr:Tx L row):∃ p,Tx (L+1) p/\∀ k m,ev (T k) e2 (EM S c d at_ row sp kd m) = .ok (.lst ([p].map D.str),.mv []):=by
 refine⟨tk row sp++one (some true)++dp row sp,⟨Tx.app (Tx.app (hr.tk _) (by decide)) (hr.dp _),?_⟩,fun k m=>?_⟩
 ·have:=hr.len;rw[fO,fO,gN,iV];show min sp row.length+1+_<=_;omega
 ·have hl:=hr.len;unfold e2;rw[K44.e_h];exact lB (K44.gZ (K44.gZ (o9 v4 v5 (by omega)) (aH _) (by rw[gN];show _+1<=_;omega)) (oP v4 v5 (by omega)) (by rw[fO,gN,iV];show _+1+_<=_;omega))
theorem Cw {L:Nat}(hL:L<=90)(hr:Tx L row):∃ p,Tx (L+1) p/\∀ k m,ev (T k) e3 (EM S c d at_ row sp kd m) = .ok (.lst ([p].map D.str),.mv []):=by
 refine⟨tk row sp++dp row (sp+1),⟨Tx.app (hr.tk _) (hr.dp _),?_⟩,fun k m=>?_⟩
 ·have:=hr.len;rw[fO,gN,iV];omega
 ·have hl:=hr.len;exact lB (K44.gZ (o9 v4 v5 (by omega)) (oP v4 v5s (by omega)) (by rw[gN,iV];omega))
theorem Ck {k:Nat}:ev (T k) e4 (EM S c d at_ row sp kd m) = .ok (.lst ([(⟨#[]⟩:Str)].map D.str),.mv []):=by
 unfold e4;rw[K44.qr];rfl
theorem C0 {k:Nat}:ev (T k) e5 (EM S c d at_ row sp kd m) = .ok (.lst ([row,row].map D.str),.mv []):=rfl
theorem Cc {k:Nat}:ev (T k) e6 (EM S c d at_ row sp kd m) = .ok (.lst (([]:List Str).map D.str),.mv []):=rfl
end
theorem AN {L:Nat}(hL:L<=90){rows:List Str}(hm:rows.length<=90)(hr:∀ p∈rows,Tx L p)(cell:Int):∃ rows' fr,(rows'.length<=rows.length+1/\∀ p∈rows',Tx (L+1) p)/\(fr=false->rows'=[])/\(T 2).cl 5 [.lst (rows.map D.str),.int cell] = .ok (.lst (rows'.map D.str),fr):=by
 have to:=aI;have tn:=bJ;rw[wN,dS (F:=⟨2,8,b5⟩) rfl rfl];have hst:aO [.lst (rows.map D.str),.int cell] 8=[sS (rows.map D.str),sI cell,none,none,none,none,none,none]:=rfl;dsimp only;rw[hst,BJ];have s1:aN (T 1) (.asg (.nm 2) (.call 1 (.cons (.var 1) (.cons (.cst (.int (39373))) (.cons (.cst (.int (2147483587))) .nil)))) false) [sS (rows.map D.str),sI cell,none,none,none,none,none,none] = .nx [sS (rows.map D.str),sI cell,sI (cell*39373%2147483587),none,none,none,none,none]:=by
  refine aP (.cons (bW _) (.cons (to _) (.cons tn (.cons tn (.cons tn (.cons tn (.cons tn (.cons tn .nil)))))))) (show (2:Nat)<8 by decide) ?_;rw[ev,bK,aE (i:=1) (d:=.int cell) (t:=.own) rfl rfl,aA,bK,aH,aA,bK,aH,aA,bK,aA,aA,aA,aA];show ((T 1).cl 1 [.int cell,.int 39373,.int 2147483587]).bind _=_;rw[BF _ _ _ (by decide) (by decide)];rfl
 have d0:0<=cell*39373%2147483587:=de _ (by decide);generalize cell*39373%2147483587=d at s1 d0;rw[aC,s1,aF,aC];cases rows with
 |nil=>exact⟨[],false,⟨by simp,fun p hp=>(nomatch hp)⟩,fun _=>rfl,rfl⟩
 |cons r0 rs =>
  have hlen:0<(r0::rs).length:=Nat.succ_pos _;have c0:ev (T 1) (.cmp .Eq (.var 0) (.lst .nil)) [sS ((r0::rs).map D.str),sI cell,sI d,none,none,none,none,none] = .ok (.bl false,.mv []):=rfl;rw[ite_ff c0,aF];generalize hrw:r0::rs=rows at hlen hm hr;clear hrw c0 s1;obtain⟨R0,v0⟩:∃ R,ev (T 1) (.var 0) [sS (rows.map D.str),sI cell,sI d,none,none,none,none,none] = .ok (.lst (rows.map D.str),R):=bQ rfl;have l0:=dE v0;rw[aj] at l0;have hat:0<=d / 7%(rows.length:Int)/\d / 7%(rows.length:Int)<rows.length:=⟨de _ (by omega),eo _ (by omega)⟩;obtain⟨a,ha⟩:∃ a:Nat,d / 7%(rows.length:Int)=(a:Int):=⟨_,(Int.toNat_of_nonneg hat.1).symm⟩;have s3:aN (T 1) (.asg (.nm 3) (.bin .Mod (.bin .FloorDiv (.var 2) (.cst (.int (7)))) (.blt .len (.cons (.var 0) .nil))) false) [sS (rows.map D.str),sI cell,sI d,none,none,none,none,none] = .nx [sS (rows.map D.str),sI cell,sI d,sI a,none,none,none,none]:=by
   have hE:ev (T 1) (.bin .Mod (.bin .FloorDiv (.var 2) (.cst (.int (7)))) (.blt .len (.cons (.var 0) .nil))) [sS (rows.map D.str),sI cell,sI d,none,none,none,none,none] = .ok (.int (d / 7%(rows.length:Int)),.mv []) :=
    cI (by omega) (dW (by decide) (by decide) (aE (i:=2) (d:=.int d) (t:=.own) rfl rfl) (aH _)) l0
   have:=aP (i:=3) (.cons (bW _) (.cons (to _) (.cons (to _) (.cons tn (.cons tn (.cons tn (.cons tn (.cons tn .nil)))))))) (show (3:Nat)<8 by decide) hE;rw[ha] at this;exact this
  rw[ha] at hat;obtain⟨row,hrow⟩:=K44.mD (l:=rows) (i:=a) (by omega);have hx:=hr row (List.mem_of_getElem? hrow);have hlr:=hx.len;obtain⟨R1,w0⟩:∃ R,ev (T 1) (.var 0) [sS (rows.map D.str),sI cell,sI d,sI a,none,none,none,none] = .ok (.lst (rows.map D.str),R):=bQ rfl;have s4:aN (T 1) (.asg (.nm 4) (.ix (.var 0) (.var 3)) false) [sS (rows.map D.str),sI cell,sI d,sI a,none,none,none,none] = .nx [sS (rows.map D.str),sI cell,sI d,sI a,sT row,none,none,none] :=
   aP (.cons (bW _) (.cons (to _) (.cons (to _) (.cons (to _) (.cons tn (.cons tn (.cons tn (.cons tn .nil)))))))) (show (4:Nat)<8 by decide) (sE w0 (aE (i:=3) (d:=.int (a:Int)) (t:=.own) rfl rfl) hrow)
  have hsp:0<=d / 300%((row.length:Int)+1):=de _ (by omega);obtain⟨sp,hs⟩:∃ a:Nat,d / 300%((row.length:Int)+1)=(a:Int):=⟨_,(Int.toNat_of_nonneg hsp).symm⟩;have s5:aN (T 1) (.asg (.nm 5) (.bin .Mod (.bin .FloorDiv (.var 2) (.cst (.int (300)))) (.bin .Add (.blt .len (.cons (.var 4) .nil)) (.cst (.int (1))))) false) [sS (rows.map D.str),sI cell,sI d,sI a,sT row,none,none,none] = .nx [sS (rows.map D.str),sI cell,sI d,sI a,sT row,sI sp,none,none]:=by
   have hE:ev (T 1) (.bin .Mod (.bin .FloorDiv (.var 2) (.cst (.int (300)))) (.bin .Add (.blt .len (.cons (.var 4) .nil)) (.cst (.int (1))))) [sS (rows.map D.str),sI cell,sI d,sI a,sT row,none,none,none] = .ok (.int (d / 300%((row.length:Int)+1)),.mv []) :=
    cI (by omega) (dW (by decide) (by decide) (aE (i:=2) (d:=.int d) (t:=.own) rfl rfl) (aH _)) (eS (K44.jA (aE (i:=4) (d:=.str row) (t:=.own) rfl rfl) (by omega)) (aH _))
   have:=aP (i:=5) (.cons (bW _) (.cons (to _) (.cons (to _) (.cons (to _) (.cons (to _) (.cons tn (.cons tn (.cons tn .nil)))))))) (show (5:Nat)<8 by decide) hE;rw[hs] at this;exact this
  have s6:aN (T 1) (.asg (.nm 6) (.bin .Mod (.var 2) (.cst (.int (7)))) false) [sS (rows.map D.str),sI cell,sI d,sI a,sT row,sI sp,none,none] = .nx [sS (rows.map D.str),sI cell,sI d,sI a,sT row,sI sp,sI (d%7),none] :=
   aP (.cons (bW _) (.cons (to _) (.cons (to _) (.cons (to _) (.cons (to _) (.cons (to _) (.cons tn (.cons tn .nil)))))))) (show (6:Nat)<8 by decide) (cI (by decide) (aE (i:=2) (d:=.int d) (t:=.own) rfl rfl) (aH _))
  have s7:aN (T 1) (.asg (.nm 7) (.lst (.cons (.var 4) .nil)) false) [sS (rows.map D.str),sI cell,sI d,sI a,sT row,sI sp,sI (d%7),none] = .nx (EM (rows.map D.str) cell d a row sp (d%7) [row]) :=
   aP (.cons (bW _) (.cons (to _) (.cons (to _) (.cons (to _) (.cons (to _) (.cons (to _) (.cons (to _) (.cons tn .nil)))))))) (show (7:Nat)<8 by decide) (lB (aE (i:=4) (d:=.str row) (t:=.own) rfl rfl))
  generalize d%7=kd at s6 s7;obtain⟨p1,t1,g1⟩:=BU (S:=rows.map D.str) (c:=cell) (d:=d) (at_:=a) (sp:=sp) (kd:=kd) hL hx;obtain⟨p2,t2,g2⟩:=CQ (S:=rows.map D.str) (c:=cell) (d:=d) (at_:=a) (sp:=sp) (kd:=kd) hL hx;obtain⟨p3,t3,g3⟩:=Cw (S:=rows.map D.str) (c:=cell) (d:=d) (at_:=a) (sp:=sp) (kd:=kd) hL hx;have hx':Tx (L+1) row:=⟨hx.free,dr hx.len⟩;have i1:=Bi (k:=1) (m:=[row]) CL (g1 [row]);have M1:Mk (L+1) (if decide (kd<2)=true then [p1] else [row]):=Mk.ite (Mk.one t1) (Mk.one hx');generalize (if decide (kd<2)=true then [p1] else [row])=m1 at i1 M1;have i2:=Bi (k:=1) (m:=m1) (mY (q:=2)) (g2 1 m1);have M2:Mk (L+1) (if (kd==2)=true then [p2] else m1):=Mk.ite (Mk.one t2) M1;generalize (if (kd==2)=true then [p2] else m1)=m2 at i2 M2;have i3:=Bi (k:=1) (m:=m2) (mY (q:=3)) (g3 1 m2);have M3:Mk (L+1) (if (kd==3)=true then [p3] else m2):=Mk.ite (Mk.one t3) M2;generalize (if (kd==3)=true then [p3] else m2)=m3 at i3 M3;have i4:=Bi (S:=rows.map D.str) (c:=cell) (d:=d) (at_:=a) (row:=row) (sp:=sp) (kd:=kd) (k:=1) (m:=m3) (mY (q:=4)) Ck;have M4:Mk (L+1) (if (kd==4)=true then [(⟨#[]⟩:Str)] else m3):=Mk.ite (Mk.one ⟨by simp,Nat.zero_le _⟩) M3;generalize (if (kd==4)=true then [(⟨#[]⟩:Str)] else m3)=m4 at i4 M4;have i5:=Bi (S:=rows.map D.str) (c:=cell) (d:=d) (at_:=a) (row:=row) (sp:=sp) (kd:=kd) (k:=1) (m:=m4) (mY (q:=5)) C0;have M5:Mk (L+1) (if (kd==5)=true then [row,row] else m4):=Mk.ite ⟨by simp,fun q hq=>by
   have:q=row:=by simpa using hq
   rw[this];exact hx'⟩ M4
  generalize (if (kd==5)=true then [row,row] else m4)=m5 at i5 M5;have i6:=Bi (S:=rows.map D.str) (c:=cell) (d:=d) (at_:=a) (row:=row) (sp:=sp) (kd:=kd) (k:=1) (m:=m5) (mY (q:=6)) Cc;have M6:Mk (L+1) (if (kd==6)=true then ([]:List Str) else m5):=Mk.ite ⟨by simp,fun q hq=>(nomatch hq)⟩ M5;generalize (if (kd==6)=true then ([]:List Str) else m5)=m6 at i6 M6;obtain⟨R2,u0⟩:∃ R,ev (T 1) (.var 0) (EM (rows.map D.str) cell d a row sp kd m6) = .ok (.lst (rows.map D.str),R):=bQ rfl;obtain⟨R7,u7⟩:∃ R,ev (T 1) (.var 7) (EM (rows.map D.str) cell d a row sp kd m6) = .ok (.lst (m6.map D.str),R):=bQ rfl;have u3:ev (T 1) (.var 3) (EM (rows.map D.str) cell d a row sp kd m6) = .ok (.int (a:Int),.mv []):=rfl;have u3s:ev (T 1) (.bin .Add (.var 3) (.cst (.int (1)))) (EM (rows.map D.str) cell d a row sp kd m6) = .ok (.int ((a+1:Nat):Int),.mv []):=by
   rw[eS u3 (aH _)];rfl
  have hM:=M6.1;have lt:(rows.take a).length<=rows.length:=by rw[cn];omega
  have er:=l9 (l9 (zI u0 u3) u7 (by omega)) (zo u0 u3s) (by rw[aw,cn,c8];omega);refine⟨rows.take a++m6++rows.drop (a+1),true,⟨?_,fun p hp=>?_⟩,fun z=>(nomatch z),?_⟩
  ·rw[aw,aw,cn,c8];omega
  ·rcases List.mem_append.mp hp with hp | hp
   ·rcases List.mem_append.mp hp with hp | hp
    ·have:=hr p (List.mem_of_mem_take hp);exact⟨this.free,dr this.len⟩
    ·exact M6.2 p hp
   ·have:=hr p (List.mem_of_mem_drop hp);exact⟨this.free,dr this.len⟩
  ·unfold tl5;rw[aC,s3,aF,aC,s4,aF,aC,s5,aF,aC,s6,aF,aC,s7,aF,aC,i1,aF,aC,i2,aF,aC,i3,aF,aC,i4,aF,aC,i5,aF,aC,i6,aF,aC,aN];unfold eR;rw[er];rfl
open K44 (Ce cD cp aL one qE eO nl sH sT sC r9 Sq)
theorem up {n:Nat}{f:Nat}{ds:List D}{r:D×Bool}(h:(T n).cl f ds = .ok r)(m:Nat)(hm:n<=m):(T m).cl f ds = .ok r:=by
 obtain⟨k,rfl⟩:=Nat.exists_eq_add_of_le hm;exact uR h k
noncomputable def eMa:Ex:=.ix (.lst (.cons (.cst (.int (15))) (.cons (.cst (.int (19))) (.cons (.cst (.int (15))) (.cons (.cst (.int (23))) (.cons (.cst (.int (15))) (.cons (.cst (.int (27))) (.cons (.cst (.int (19))) (.cons (.cst (.int (31))) (.cons (.cst (.int (15))) (.cons (.bin .Add (.cst (.int (2))) (.bin .Mod (.bin .FloorDiv (.var 2) (.cst (.int (11)))) (.cst (.int (60))))) (.cons (.bin .Add (.cst (.int (13))) (.bin .Mod (.bin .FloorDiv (.var 2) (.cst (.int (11)))) (.cst (.int (21))))) (.cons (.cst (.int (1))) (.cons (.cst (.int (0))) .nil)))))))))))))) (.bin .Mod (.var 2) (.cst (.int (13))))
noncomputable def bSp:bP:=.cons (.ite (.cmp .Gt (.bin .Mod (.bin .FloorDiv (.var 2) (.cst (.int (700)))) (.cst (.int (4)))) (.cst (.int (0)))) (.cons (.asg (.nm 4) (.call 5 (.cons (.var 4) (.cons (.var 5) .nil))) false) .nil) .nil) .nil
noncomputable def eSl:Ex:=.sl (.var 1) (.some (.bin .Sub (.neg (.cst (.int (1)))) (.bin .Mod (.bin .FloorDiv (.var 2) (.cst (.int (231)))) (.cst (.int (3)))))) .none
noncomputable def tA:bP:=.cons (.asg (.nm 7) (.call 6 (.cons (.var 4) .nil)) false)
 (.cons (.ite (.cmp .Lt (.var 7) (.cst (.int (0)))) (.cons (.ret (.call 9 (.cons (.var 6) (.cons (.var 4) .nil)))) .nil) .nil)
 (.cons (.asg (.nm 8) (.call 7 (.cons (.var 6) .nil)) false)
 (.cons (.ite (.or (.not (.call 2 (.cons (.var 8) .nil))) (.cmp .NotEq (.var 8) (.var 7))) (.cons (.ret (.cst (.bl false))) .nil) .nil)
 (.cons (.ret (.cmp .Eq (.call 8 (.cons (.var 6) .nil)) (.lst (.cons (.cst (.bl true)) (.cons (.cst (.bl true)) (.cons (.cst (.bl false)) (.cons (.cst (.bl false)) (.cons (.cst (.bl false)) .nil)))))))) .nil))))
noncomputable def x9:bP:=.cons (.ite (.and (.cmp .NotEq (.var 4) (.lst .nil)) (.cmp .Eq (.bin .Mod (.bin .FloorDiv (.var 2) (.cst (.int (2800)))) (.cst (.int (8)))) (.cst (.int (0))))) (.cons (.asg (.nm 4) (.bin .Add (.var 4) (.lst (.cons (.cst (.str ("" : PySem.Str))) .nil))) false) .nil) .nil)
 (.cons (.asg (.nm 6) (.mth .sjoin (.cst (.str ("\n" : PySem.Str))) (.cons (.var 4) .nil)) false)
 (.cons (.ite (.cmp .Eq (.var 4) (.lst .nil)) (.cons (.asg (.nm 4) (.lst (.cons (.cst (.str ("" : PySem.Str))) .nil)) false) .nil) .nil) tA))
theorem Ap:Bk = .cons (.asg (.nm 1) (.bin .Add (.blt .list (.cons (.var 0) .nil)) (.lst (.cons (.blt .len (.cons (.var 0) .nil)) .nil))) false)
 (.cons (.asg (.nm 2) (.call 1 (.cons (.ix (.var 1) (.cst (.int (0)))) (.cons (.cst (.int (48271))) (.cons (.cst (.int (2147483647))) .nil)))) false)
 (.cons (.asg (.nm 3) eMa false)
 (.cons (.asg (.nm 4) (.call 3 (.cons (.var 1) (.cons (.var 3) .nil))) false)
 (.cons (.forr (.nm 5) (.seq eSl) bSp) x9)))):=rfl
def yH (rows:List Str)(a:Slot):Prop:=a=mO rows\/(rows=[]/\a=some (.lst [],.sh []))
theorem yH.aR {rows:List Str}{a:Slot}(h:yH rows a):aR a:=by
 rcases h with rfl | ⟨_,rfl⟩
 ·exact aI _
 ·exact bW _
noncomputable abbrev E9 (S:List D)(cs:List Int)(sd n:Int)(a4 a5 a6 a7 a8:Slot):En:=[sS S,some (.lst (iD cs),.own),sI sd,sI n,a4,a5,a6,a7,a8]
theorem dF {S:List D}{cs:List Int}{sd n:Int}{a4 a5 a6 a7 a8:Slot}(h4:aR a4)(h5:aR a5)(h6:aR a6)(h7:aR a7)(h8:aR a8):Tame (E9 S cs sd n a4 a5 a6 a7 a8) :=
 .cons (bW _) (.cons (aI _) (.cons (aI _) (.cons (aI _) (.cons h4 (.cons h5 (.cons h6 (.cons h7 (.cons h8 .nil))))))))
section
variable {S:List D}{cs:List Int}{sd n:Int}{a4 a5 a6 a7 a8:Slot}{rows:List Str}
theorem Bl {k:Nat}(h:yH rows a4):∃ R,ev (T k) (.var 4) (E9 S cs sd n a4 a5 a6 a7 a8) = .ok (.lst (rows.map D.str),R):=by
 rcases h with rfl | ⟨rfl,rfl⟩
 ·exact bQ rfl
 ·exact bQ rfl
theorem sp1 {L:Nat}(hL:L<=90)(hm:rows.length<=90)(hr:∀ p∈rows,Tx L p)(h4:yH rows a4)(j:Int)(h6:aR a6)(h7:aR a7)(h8:aR a8):∃ rows' b4,rows'.length<=rows.length+1/\(∀ p∈rows',Tx (L+1) p)/\yH rows' b4/\aC (T 2) bSp (E9 S cs sd n a4 (sI j) a6 a7 a8) = .nx (E9 S cs sd n b4 (sI j) a6 a7 a8):=by
 have c:ev (T 2) (.cmp .Gt (.bin .Mod (.bin .FloorDiv (.var 2) (.cst (.int (700)))) (.cst (.int (4)))) (.cst (.int (0)))) (E9 S cs sd n a4 (sI j) a6 a7 a8) = .ok (.bl (decide (0<sd / 700%4)),.mv []):=by
  have e:ev (T 2) (.bin .Mod (.bin .FloorDiv (.var 2) (.cst (.int (700)))) (.cst (.int (4)))) (E9 S cs sd n a4 (sI j) a6 a7 a8) = .ok (.int (sd / 700%4),.mv []):=cI (by decide) (dW (by decide) (by decide) (aE (i:=2) (d:=.int sd) (t:=.own) rfl rfl) (aH _)) (aH _);rw[ev,e,aA,aH,aA];rfl
 unfold bSp;cases hb:decide (0<sd / 700%4) with
 |false =>
  rw[hb] at c;exact⟨rows,a4,Nat.le_succ _,fun p hp=>⟨(hr p hp).free,dr (hr p hp).len⟩,h4,bM (ite_ff c)⟩
 |true =>
  rw[hb] at c;obtain⟨rows',fr,⟨f1,f2⟩,f3,q⟩:=AN hL hm hr j;have v5:ev (T 2) (.var 5) (E9 S cs sd n a4 (sI j) a6 a7 a8) = .ok (.int j,.mv []):=rfl;cases fr with
  |true =>
   refine⟨rows',mO rows',f1,f2,.inl rfl,bM ?_⟩;obtain⟨R,w4⟩:=Bl (k:=2) (S:=S) (cs:=cs) (sd:=sd) (n:=n) (a5:=sI j) (a6:=a6) (a7:=a7) (a8:=a8) h4;rw[aN,c,bH];show aC (T 2) (.cons (.asg (.nm 4) (.call 5 (.cons (.var 4) (.cons (.var 5) .nil))) false) .nil) _=_;exact bM (aP (dF h4.aR (aI _) h6 h7 h8) (show (4:Nat)<9 by decide) (tz w4 v5 q))
  |false =>
   have e:=f3 rfl;subst e;refine⟨[],some (.lst [],.sh []),f1,f2,.inr ⟨rfl,rfl⟩,bM ?_⟩;rw[aN,c,bH];show aC (T 2) (.cons (.asg (.nm 4) (.call 5 (.cons (.var 4) (.cons (.var 5) .nil))) false) .nil) _=_;refine bM ?_;have ht:Tame (E9 S cs sd n a4 (sI j) a6 a7 a8):=dF h4.aR (aI _) h6 h7 h8;have ec:ev (T 2) (.call 5 (.cons (.var 4) (.cons (.var 5) .nil))) (E9 S cs sd n a4 (sI j) a6 a7 a8) = .ok (.lst [],.sh [])\/ev (T 2) (.call 5 (.cons (.var 4) (.cons (.var 5) .nil))) (E9 S cs sd n a4 (sI j) a6 a7 a8) = .ok (.lst [],.sh [4]):=by
    rcases h4 with rfl | ⟨rfl,rfl⟩
    ·right;have w4:ev (T 2) (.var 4) (E9 S cs sd n (mO rows) (sI j) a6 a7 a8) = .ok (.lst (rows.map D.str),.mv [4]):=rfl;rw[ev,bK,w4,aA,bK,v5,aA,bK,aA,aA,aA];show ((T 2).cl 5 [.lst (rows.map D.str),.int j]).bind _=_;rw[q];rfl
    ·left;have w4:ev (T 2) (.var 4) (E9 S cs sd n (some (.lst [],.sh [])) (sI j) a6 a7 a8) = .ok (.lst [],.sh []):=rfl;rw[ev,bK,w4,aA,bK,v5,aA,bK,aA,aA,aA];show ((T 2).cl 5 [.lst (([]:List Str).map D.str),.int j]).bind _=_;rw[q];rfl
   rcases ec with ec | ec
   ·rw[aN,ec,bH];show Fl.nx (put (E9 S cs sd n a4 (sI j) a6 a7 a8) 4 (.lst []) (.sh []))=_;rw[fH ht];rfl
   ·rw[aN,ec,bH];show Fl.nx (put (E9 S cs sd n a4 (sI j) a6 a7 a8) 4 (.lst []) (.sh []))=_;rw[fH ht];rfl
end
theorem sps {S:List D}{cs:List Int}{sd n:Int}{a6 a7 a8:Slot}(h6:aR a6)(h7:aR a7)(h8:aR a8):∀(js:List Int) (L:Nat) (rows:List Str) (a4 a5:Slot),L+js.length<=90->rows.length+js.length<=90->(∀ p∈rows,Tx L p)->yH rows a4->aR a5->∃ rows' b4 b5,rows'.length<=rows.length+js.length/\(∀ p∈rows',Tx (L+js.length) p)/\yH rows' b4/\aR b5/\aU (.nm 5) [] (aC (T 2) bSp) (js.map D.int) (E9 S cs sd n a4 a5 a6 a7 a8) = .nx (E9 S cs sd n b4 b5 a6 a7 a8)
 |[],L,rows,a4,a5,_,_,hr,h4,h5=>⟨rows,a4,a5,aq _,hr,h4,h5,rfl⟩
 | j::js,L,rows,a4,a5,h1,h2,hr,h4,h5=>by
  rw[be] at h1 h2;obtain⟨r1,b4,f1,f2,f3,q⟩:=sp1 (S:=S) (cs:=cs) (sd:=sd) (n:=n) (by omega) (by omega) hr h4 j h6 h7 h8;obtain⟨r2,c4,c5,g1,g2,g3,g4,w⟩:=sps (S:=S) (cs:=cs) (sd:=sd) (n:=n) h6 h7 h8 js (L+1) r1 b4 (sI j) (by omega) (by omega) f2 f3 (aI _);have hb:bN [] (.nm 5) (.int j) (E9 S cs sd n a4 a5 a6 a7 a8)=some (E9 S cs sd n a4 (sI j) a6 a7 a8):=gG (dF h4.aR h5 h6 h7 h8) (show (5:Nat)<9 by decide);refine⟨r2,c4,c5,?_,fun p hp=>?_,g3,g4,?_⟩
  ·rw[be];omega
  ·have:=g2 p hp;rw[be,show L+(js.length+1)=L+1+js.length by omega];exact this
  ·rw[ax,dJ hb q,w]
open K44 (Ce cD cp aL one qE eO nl sH sT sC r9 Sq)
section
variable {S:List D}{cs:List Int}{sd n:Int}{a4 a5 a6 a7 a8:Slot}{rows:List Str}
theorem whl (i:Int):(T 1).cl 2 [.int i] = .ok (.bl true,true):=rfl
theorem Bp (h:rl rows)(h5:aR a5):ret (aC (T 2) tA (E9 S cs sd n (mO rows) a5 (sT (Str.join nl rows)) none none)) = .ok (.bl true,true):=by
 have to:=aI;have tn:=bJ;obtain⟨R4,v4⟩:=Bl (k:=2) (S:=S) (cs:=cs) (sd:=sd) (n:=n) (a5:=a5) (a6:=sT (Str.join nl rows)) (a7:=none) (a8:=none) (rows:=rows) (.inl rfl);have d6:=due6 h;cases hd:mq rows with
 |none =>
  rw[hd] at d6;have s7:aN (T 2) (.asg (.nm 7) (.call 6 (.cons (.var 4) .nil)) false) (E9 S cs sd n (mO rows) a5 (sT (Str.join nl rows)) none none) = .nx (E9 S cs sd n (mO rows) a5 (sT (Str.join nl rows)) (sI (-1)) none) :=
   aP (dF (to _) h5 (to _) tn tn) (show (7:Nat)<9 by decide) (nO v4 (up d6 2 (by decide)))
  have c:ev (T 2) (.cmp .Lt (.var 7) (.cst (.int (0)))) (E9 S cs sd n (mO rows) a5 (sT (Str.join nl rows)) (sI (-1)) none) = .ok (.bl true,.mv []):=rfl;obtain⟨R5,w4⟩:=Bl (k:=2) (S:=S) (cs:=cs) (sd:=sd) (n:=n) (a5:=a5) (a6:=sT (Str.join nl rows)) (a7:=sI (-1)) (a8:=none) (rows:=rows) (.inl rfl);have hs:lE rows.length=true:=by
   unfold mq at hd;cases hs:lE rows.length with
   |true=>rfl
   |false=>rw[hs,if_neg av] at hd;cases hd
  have hg:rows.findIdx? (fun s=>!cV rows.length s)=none:=by
   unfold mq at hd;rw[hs,if_pos rfl] at hd;exact hd
  have e9:ev (T 2) (.call 9 (.cons (.var 6) (.cons (.var 4) .nil))) (E9 S cs sd n (mO rows) a5 (sT (Str.join nl rows)) (sI (-1)) none) = .ok (.bl true,.mv []) :=
   tz (aE (i:=6) (d:=.str (Str.join nl rows)) (t:=.own) rfl rfl) w4 (Dc h hs hg)
  unfold tA;rw[aC,s7,aF,aC,aN,c,bH];show ret (Fl.andThen (aC (T 2) (.cons (.ret (.call 9 (.cons (.var 6) (.cons (.var 4) .nil)))) .nil) _) _)=_;rw[aC,aN,e9];rfl
 |some i =>
  rw[hd] at d6;have s7:aN (T 2) (.asg (.nm 7) (.call 6 (.cons (.var 4) .nil)) false) (E9 S cs sd n (mO rows) a5 (sT (Str.join nl rows)) none none) = .nx (E9 S cs sd n (mO rows) a5 (sT (Str.join nl rows)) (sI i) none) :=
   aP (dF (to _) h5 (to _) tn tn) (show (7:Nat)<9 by decide) (nO v4 (up d6 2 (by decide)))
  have c:ev (T 2) (.cmp .Lt (.var 7) (.cst (.int (0)))) (E9 S cs sd n (mO rows) a5 (sT (Str.join nl rows)) (sI i) none) = .ok (.bl false,.mv []):=by
   show Rs.ok (D.bl (decide ((i:Int)<0)),Rt.mv [])=_;rw[bj (by omega)]
  have s8:aN (T 2) (.asg (.nm 8) (.call 7 (.cons (.var 6) .nil)) false) (E9 S cs sd n (mO rows) a5 (sT (Str.join nl rows)) (sI i) none) = .nx (E9 S cs sd n (mO rows) a5 (sT (Str.join nl rows)) (sI i) (sI i)) :=
   aP (dF (to _) h5 (to _) (to _) tn) (show (8:Nat)<9 by decide) (nO (aE (i:=6) (d:=.str (Str.join nl rows)) (t:=.own) rfl rfl) (up (ref7 h hd) 2 (by decide)))
  have v8:ev (T 2) (.var 8) (E9 S cs sd n (mO rows) a5 (sT (Str.join nl rows)) (sI i) (sI i)) = .ok (.int (i:Int),.mv []):=rfl;have v7:ev (T 2) (.var 7) (E9 S cs sd n (mO rows) a5 (sT (Str.join nl rows)) (sI i) (sI i)) = .ok (.int (i:Int),.mv []):=rfl;have c2:=sg (BN (nO v8 (up (whl (i:Int)) 2 (by decide)))) (AK v8 v7);have e8:ev (T 2) (.call 8 (.cons (.var 6) .nil)) (E9 S cs sd n (mO rows) a5 (sT (Str.join nl rows)) (sI i) (sI i)) = .ok (.lst [.bl true,.bl true,.bl false,.bl false,.bl false],.mv []) :=
   nO (aE (i:=6) (d:=.str (Str.join nl rows)) (t:=.own) rfl rfl) (up (cls8 h hd) 2 (by decide))
  have er:ev (T 2) (.cmp .Eq (.call 8 (.cons (.var 6) .nil)) (.lst (.cons (.cst (.bl true)) (.cons (.cst (.bl true)) (.cons (.cst (.bl false)) (.cons (.cst (.bl false)) (.cons (.cst (.bl false)) .nil))))))) (E9 S cs sd n (mO rows) a5 (sT (Str.join nl rows)) (sI i) (sI i)) = .ok (.bl true,.mv []):=by
   rw[ev,e8,aA];rfl
  unfold tA;rw[aC,s7,aF,aC,ite_ff c,aF,aC,s8,aF,aC,ite_ff c2,aF,aC,aN,er];rfl
theorem endB (hm:rows.length<=90)(hr:∀ p∈rows,Tx 90 p)(h4:yH rows a4)(h5:aR a5):ret (aC (T 2) x9 (E9 S cs sd n a4 a5 none none none)) = .ok (.bl true,true):=by
 have to:=aI;have tn:=bJ;have tx:∀{p:Str},Tx 90 p->p.length<=100:=fun h=>bc h.len (by decide)
 have t0:Tx 90 (⟨#[]⟩:Str):=⟨by simp,Nat.zero_le _⟩;unfold x9;rw[aC];cases rows with
 |nil =>
  have e4:a4=some (.lst [],.own)\/a4=some (.lst [],.sh []):=by
   rcases h4 with rfl | ⟨_,rfl⟩
   ·exact .inl rfl
   ·exact .inr rfl
  have c:ev (T 2) (.and (.cmp .NotEq (.var 4) (.lst .nil)) (.cmp .Eq (.bin .Mod (.bin .FloorDiv (.var 2) (.cst (.int (2800)))) (.cst (.int (8)))) (.cst (.int (0))))) (E9 S cs sd n a4 a5 none none none) = .ok (.bl false,.mv []):=by
   rcases e4 with rfl | rfl<;>exact K44.Cp (R:=.mv []) rfl
  obtain⟨R4,v4⟩:=Bl (k:=2) (S:=S) (cs:=cs) (sd:=sd) (n:=n) (a5:=a5) (a6:=none) (a7:=none) (a8:=none) h4;have s6:aN (T 2) (.asg (.nm 6) (.mth .sjoin (.cst (.str ("\n" : PySem.Str))) (.cons (.var 4) .nil)) false) (E9 S cs sd n a4 a5 none none none) = .nx (E9 S cs sd n a4 a5 (sT (Str.join nl [(⟨#[]⟩:Str)])) none none):=by
   rw[K44.y0];exact aP (dF h4.aR h5 tn tn tn) (show (6:Nat)<9 by decide) (K44.me (x:=nl) (ys:=[]) v4 (by decide))
  have c2:ev (T 2) (.cmp .Eq (.var 4) (.lst .nil)) (E9 S cs sd n a4 a5 (sT (Str.join nl [(⟨#[]⟩:Str)])) none none) = .ok (.bl true,.mv []):=by
   rcases e4 with rfl | rfl<;>rfl
  have s8:aC (T 2) (.cons (.asg (.nm 4) (.lst (.cons (.cst (.str ("" : PySem.Str))) .nil)) false) .nil) (E9 S cs sd n a4 a5 (sT (Str.join nl [(⟨#[]⟩:Str)])) none none) = .nx (E9 S cs sd n (mO [(⟨#[]⟩:Str)]) a5 (sT (Str.join nl [(⟨#[]⟩:Str)])) none none):=by
   rw[K44.qr];exact bM (aP (dF h4.aR h5 (to _) tn tn) (show (4:Nat)<9 by decide) (lB (aH _)))
  rw[ite_ff c,aF,aC,s6,aF,aC,aN,c2,bH];show ret (Fl.andThen (aC (T 2) (.cons (.asg (.nm 4) (.lst (.cons (.cst (.str ("" : PySem.Str))) .nil)) false) .nil) (E9 S cs sd n a4 a5 (sT (Str.join nl [(⟨#[]⟩:Str)])) none none)) (aC (T 2) tA))=_;rw[s8];exact Bp (rows:=[(⟨#[]⟩:Str)]) ⟨by simp,fun p hp=>by rw[List.mem_singleton.mp hp];exact t0.free,fun p hp=>by rw[List.mem_singleton.mp hp];exact tx t0,by decide⟩ h5
 |cons r0 rs =>
  have e4:a4=mO (r0::rs):=by
   rcases h4 with rfl | ⟨z,_⟩
   ·rfl
   ·cases z
  subst e4;have fin:∀{R:List Str}(z:R≠[]),R.length<=91->(∀ p∈R,Tx 90 p)->ret (aC (T 2) (.cons (.asg (.nm 6) (.mth .sjoin (.cst (.str ("\n" : PySem.Str))) (.cons (.var 4) .nil)) false) (.cons (.ite (.cmp .Eq (.var 4) (.lst .nil)) (.cons (.asg (.nm 4) (.lst (.cons (.cst (.str ("" : PySem.Str))) .nil)) false) .nil) .nil) tA)) (E9 S cs sd n (mO R) a5 none none none)) = .ok (.bl true,true):=by
   intro R z hR hT;have hw:rl R:=⟨z,fun p hp=>(hT p hp).free,fun p hp=>tx (hT p hp),by omega⟩;obtain⟨R4,v4⟩:=Bl (k:=2) (S:=S) (cs:=cs) (sd:=sd) (n:=n) (a5:=a5) (a6:=none) (a7:=none) (a8:=none) (rows:=R) (.inl rfl);have s6:aN (T 2) (.asg (.nm 6) (.mth .sjoin (.cst (.str nl)) (.cons (.var 4) .nil)) false) (E9 S cs sd n (mO R) a5 none none none) = .nx (E9 S cs sd n (mO R) a5 (sT (Str.join nl R)) none none) :=
    aP (dF (to _) h5 tn tn tn) (show (6:Nat)<9 by decide) (K44.me (x:=nl) (ys:=R) v4 (by
     have:=hw.sum;show _+_*1<=_;omega))
   have c2:ev (T 2) (.cmp .Eq (.var 4) (.lst .nil)) (E9 S cs sd n (mO R) a5 (sT (Str.join nl R)) none none) = .ok (.bl false,.mv []):=by
    cases R with
    |nil=>exact absurd rfl z
    |cons a l=>rfl
   rw[K44.y0,aC,s6,aF,aC,ite_ff c2,aF];exact Bp hw h5
  have c1:ev (T 2) (.cmp .NotEq (.var 4) (.lst .nil)) (E9 S cs sd n (mO (r0::rs)) a5 none none none) = .ok (.bl true,.mv []):=rfl;have e2:ev (T 2) (.bin .Mod (.bin .FloorDiv (.var 2) (.cst (.int (2800)))) (.cst (.int (8)))) (E9 S cs sd n (mO (r0::rs)) a5 none none none) = .ok (.int (sd / 2800%8),.mv []):=cI (by decide) (dW (by decide) (by decide) (aE (i:=2) (d:=.int sd) (t:=.own) rfl rfl) (aH _)) (aH _);have c2:ev (T 2) (.cmp .Eq (.bin .Mod (.bin .FloorDiv (.var 2) (.cst (.int (2800)))) (.cst (.int (8)))) (.cst (.int (0)))) (E9 S cs sd n (mO (r0::rs)) a5 none none none) = .ok (.bl (sd / 2800%8==0),.mv []):=by
   rw[ev,e2,aA,aH,aA];rfl
  have c:=K44.Cq c1 c2;cases hb:(sd / 2800%8==0) with
  |false =>
   rw[hb] at c;rw[ite_ff c,aF];exact fin (by simp) (by omega) hr
  |true =>
   rw[hb] at c;obtain⟨R4,v4⟩:=Bl (k:=2) (S:=S) (cs:=cs) (sd:=sd) (n:=n) (a5:=a5) (a6:=none) (a7:=none) (a8:=none) (rows:=r0::rs) (.inl rfl);have s4:aC (T 2) (.cons (.asg (.nm 4) (.bin .Add (.var 4) (.lst (.cons (.cst (.str ("" : PySem.Str))) .nil))) false) .nil) (E9 S cs sd n (mO (r0::rs)) a5 none none none) = .nx (E9 S cs sd n (mO ((r0::rs) ++ [(⟨#[]⟩:Str)])) a5 none none none):=by
    rw[K44.qr];exact bM (aP (dF (to _) h5 tn tn tn) (show (4:Nat)<9 by decide) (l9 v4 (lB (aH _)) (by rw[bp];omega)))
   rw[aN,c,bH];show ret (Fl.andThen (aC (T 2) (.cons (.asg (.nm 4) (.bin .Add (.var 4) (.lst (.cons (.cst (.str ("" : PySem.Str))) .nil))) false) .nil) (E9 S cs sd n (mO (r0::rs)) a5 none none none)) _)=_;rw[s4];exact fin (by simp) (by rw[List.length_append,List.length_singleton];omega) (fun p hp=>by
    rcases List.mem_append.mp hp with hp | hp
    ·exact hr p hp
    ·rw[List.mem_singleton.mp hp];exact t0)
end
theorem many {S:List D}{cs:List Int}{sd:Int}:∃ m:Nat,m<=61/\ev (T 2) eMa [sS S,some (.lst (iD cs),.own),sI sd,none,none,none,none,none,none] = .ok (.int (m:Int),.mv []):=by
 have h13:0<=sd%13/\sd%13<13:=⟨de _ (by decide),eo _ (by decide)⟩;obtain⟨v,hv⟩:=K44.mD (l:=[15,19,15,23,15,27,19,31,15,2+sd / 11%60,13+sd / 11%21,1,0]) (i:=(sd%13).toNat) (by show _<13;omega);have hb:0<=v/\v<=61:=by
  have:=List.mem_of_getElem? hv;simp only[List.mem_cons,List.not_mem_nil,or_false] at this;omega
 refine⟨v.toNat,by omega,?_⟩;have vs:ev (T 2) (.var 2) [sS S,some (.lst (iD cs),.own),sI sd,none,none,none,none,none,none] = .ok (.int sd,.mv []):=rfl;have f1:ev (T 2) (.bin .Add (.cst (.int (2))) (.bin .Mod (.bin .FloorDiv (.var 2) (.cst (.int (11)))) (.cst (.int (60))))) [sS S,some (.lst (iD cs),.own),sI sd,none,none,none,none,none,none] = .ok (.int (2+sd / 11%60),.mv []):=eS (aH _) (cI (by decide) (dW (by decide) (by decide) vs (aH _)) (aH _));have f2:ev (T 2) (.bin .Add (.cst (.int (13))) (.bin .Mod (.bin .FloorDiv (.var 2) (.cst (.int (11)))) (.cst (.int (21))))) [sS S,some (.lst (iD cs),.own),sI sd,none,none,none,none,none,none] = .ok (.int (13+sd / 11%21),.mv []):=eS (aH _) (cI (by decide) (dW (by decide) (by decide) vs (aH _)) (aH _));rw[Int.toNat_of_nonneg hb.1];unfold eMa;refine o5 (l:=[15,19,15,23,15,27,19,31,15,2+sd / 11%60,13+sd / 11%21,1,0]) (i:=sd%13) h13.1 hv (R:=.mv []) ?_ (cI (by decide) vs (aH _));simp only[ev,bK,aH,aA] at f1 f2 ⊢;simp only[f1,f2,aA];rfl
open K44 (Ce cD cp aL one qE eO nl sH sT sC r9 Sq)
theorem law (ns:List Int)(hl:ns.length<=63):∃ fr,Pc.run fns gl 1000 3 10 [.lst (ns.map D.int)] = .ok (.bl true,fr):=by
 rw[dS (F:=⟨1,9,Bk⟩) rfl rfl];have hst:aO [.lst (iD ns)] 9=[sS (iD ns),none,none,none,none,none,none,none,none]:=rfl;dsimp only;rw[hst,Ap];have tn:=bJ;have to:=aI;have tm:∀{a b c:Slot},aR a->aR b->aR c->Tame [sS (iD ns),a,b,c,none,none,none,none,none]:=fun x1 x2 x3=>.cons (bW _) (.cons x1 (.cons x2 (.cons x3 (.cons tn (.cons tn (.cons tn (.cons tn (.cons tn .nil))))))))
 refine⟨true,?_⟩;obtain⟨R0,v0⟩:∃ R,ev (T 2) (.var 0) [sS (iD ns),none,none,none,none,none,none,none,none] = .ok (.lst (iD ns),R):=bQ rfl;have e0:=xG v0;have l0:=dE v0;rw[aj] at l0;have e1:ev (T 2) (.lst (.cons (.blt .len (.cons (.var 0) .nil)) .nil)) [sS (iD ns),none,none,none,none,none,none,none,none] = .ok (.lst (iD [(ns.length:Int)]),.mv []):=by
  rw[ev,bK,l0,aA,bK,aA,aA];rfl
 have e2:ev (T 2) (.bin .Add (.blt .list (.cons (.var 0) .nil)) (.lst (.cons (.blt .len (.cons (.var 0) .nil)) .nil))) [sS (iD ns),none,none,none,none,none,none,none,none] = .ok (.lst (iD (ns ++ [(ns.length:Int)])),.mv []):=by
  rw[ev,e0,aA,e1,aA];show (fD (Pc.ck ((iD ns).length+(iD [(ns.length:Int)]).length) (.lst (iD ns++iD [(ns.length:Int)])))).bind _=_;unfold Pc.ck;rw[if_pos (by rw[aj];show ns.length+1<=_;exact fJ (by omega)),bA,aA,show iD ns++iD [(ns.length:Int)]=(ns ++ [(ns.length:Int)]).map D.int by rw[c9],hV]
 generalize hcs:ns ++ [(ns.length:Int)]=cs at e2;have hc:cs≠[]:=by rw[<-hcs];simp
 have hlen:0<cs.length:=by rw[<-hcs,aw];show 0<_+1;omega
 have s1:aN (T 2) (.asg (.nm 1) (.bin .Add (.blt .list (.cons (.var 0) .nil)) (.lst (.cons (.blt .len (.cons (.var 0) .nil)) .nil))) false) [sS (iD ns),none,none,none,none,none,none,none,none] = .nx [sS (iD ns),some (.lst (iD cs),.own),none,none,none,none,none,none,none] :=
  aP (tm tn tn tn) (show (1:Nat)<9 by decide) e2
 obtain⟨R1,v1⟩:∃ R,ev (T 2) (.var 1) [sS (iD ns),some (.lst (iD cs),.own),none,none,none,none,none,none,none] = .ok (.lst (iD cs),R):=bQ rfl;obtain⟨x,hx⟩:=K44.mD (l:=cs) (i:=0) hlen;have h1:=BF x 48271 2147483647 (by decide) (by decide);have s2:aN (T 2) (.asg (.nm 2) (.call 1 (.cons (.ix (.var 1) (.cst (.int (0)))) (.cons (.cst (.int (48271))) (.cons (.cst (.int (2147483647))) .nil)))) false) [sS (iD ns),some (.lst (iD cs),.own),none,none,none,none,none,none,none] = .nx [sS (iD ns),some (.lst (iD cs),.own),sI (x*48271%2147483647),none,none,none,none,none,none] :=
  aP (tm (to _) tn tn) (show (2:Nat)<9 by decide) (B1 (o5 (l:=cs) (i:=0) (by omega) hx v1 (aH _)) (aH _) (aH _) (up h1 2 (by decide)))
 generalize x*48271%2147483647=sd at s2;obtain⟨n,hn,en⟩:=many (S:=iD ns) (cs:=cs) (sd:=sd);have s3:aN (T 2) (.asg (.nm 3) eMa false) [sS (iD ns),some (.lst (iD cs),.own),sI sd,none,none,none,none,none,none] = .nx [sS (iD ns),some (.lst (iD cs),.own),sI sd,sI n,none,none,none,none,none] :=
  aP (tm (to _) (to _) tn) (show (3:Nat)<9 by decide) en
 obtain⟨M,m1,m2,h3⟩:=B9 hc (n:=n) (by omega);obtain⟨R2,w1⟩:∃ R,ev (T 2) (.var 1) [sS (iD ns),some (.lst (iD cs),.own),sI sd,sI n,none,none,none,none,none] = .ok (.lst (iD cs),R):=bQ rfl;have s4:aN (T 2) (.asg (.nm 4) (.call 3 (.cons (.var 1) (.cons (.var 3) .nil))) false) [sS (iD ns),some (.lst (iD cs),.own),sI sd,sI n,none,none,none,none,none] = .nx (E9 (iD ns) cs sd n (mO (M.map aL)) none none none none) :=
  aP (tm (to _) (to _) (to _)) (show (4:Nat)<9 by decide) (tz w1 (aE (i:=3) (d:=.int (n:Int)) (t:=.own) rfl rfl) (up h3 2 (by decide)))
 obtain⟨R3,z1⟩:∃ R,ev (T 2) (.var 1) (E9 (iD ns) cs sd n (mO (M.map aL)) none none none none) = .ok (.lst (iD cs),R):=bQ rfl;have h3m:0<=sd / 231%3/\sd / 231%3<3:=⟨de _ (by decide),eo _ (by decide)⟩;have ev0:ev (T 2) (.bin .Sub (.neg (.cst (.int (1)))) (.bin .Mod (.bin .FloorDiv (.var 2) (.cst (.int (231)))) (.cst (.int (3))))) (E9 (iD ns) cs sd n (mO (M.map aL)) none none none none) = .ok (.int (-1 - sd / 231%3),.mv []):=by
  have q1:ev (T 2) (.neg (.cst (.int (1)))) (E9 (iD ns) cs sd n (mO (M.map aL)) none none none none) = .ok (.int (-1),.mv []):=rfl;have q2:ev (T 2) (.bin .Mod (.bin .FloorDiv (.var 2) (.cst (.int (231)))) (.cst (.int (3)))) (E9 (iD ns) cs sd n (mO (M.map aL)) none none none none) = .ok (.int (sd / 231%3),.mv []):=cI (by decide) (dW (by decide) (by decide) (aE (i:=2) (d:=.int sd) (t:=.own) rfl rfl) (aH _)) (aH _);rw[ev,q1,aA,q2,aA];rfl
 generalize sd / 231%3=kk at ev0 h3m;obtain⟨js,hj,ej⟩:∃ js:List Int,js.length<=3/\cut (iD cs) (some (-1 - kk)) none=js.map D.int:=by
  refine⟨cs.drop ((-1 - kk+(cs.length:Int)).toNat),by rw[c8];omega,?_⟩;show ((iD cs).drop (if -1 - kk<0 then (-1 - kk+((iD cs).length:Int)).toNat else min (-1 - kk).toNat (iD cs).length)).take ((iD cs).length - (if -1 - kk<0 then (-1 - kk+((iD cs).length:Int)).toNat else min (-1 - kk).toNat (iD cs).length))=_;rw[if_pos (by omega),et (by rw[c8];omega),List.map_drop,aj]
 have hit:dN (T 2) (.seq eSl) (E9 (iD ns) cs sd n (mO (M.map aL)) none none none none) = .ok (js.map D.int,[]):=by
  have es:ev (T 2) eSl (E9 (iD ns) cs sd n (mO (M.map aL)) none none none none) = .ok (.lst (js.map D.int),.mv []):=by
   unfold eSl;rw[ev,z1,aA,m7 ev0,aA,oo,aA];show (fD (some (D.lst (cut (iD cs) (some (-1 - kk)) none)))).bind _=_;rw[ej,bA,aA,hV]
  rw[dN,es,aA];rfl
 have hTx:∀ p∈M.map aL,Tx 61 p:=fun p hp=>by
  obtain⟨r,hr,rfl⟩:=List.mem_map.mp hp;refine⟨fun z=>?_,by rw[K44.gC,m2 r hr];exact hn⟩;rw[K44.i7] at z;obtain⟨c,_,e⟩:=List.mem_map.mp z;exact K44.B2 c e
 obtain⟨rows',b4,b5,g1,g2,g3,g4,q⟩:=sps (S:=iD ns) (cs:=cs) (sd:=sd) (n:=n) tn tn tn js 61 (M.map aL) (mO (M.map aL)) none (by omega) (by rw[aj,m1];omega) hTx (.inl rfl) tn;rw[aj,m1] at g1;rw[aC,s1,aF,aC,s2,aF,aC,s3,aF,aC,s4,aF,aC,iK hit q,aF];exact endB (by omega) (fun p hp=>⟨(g2 p hp).free,by have:=(g2 p hp).len;omega⟩) g3 g4
end K45
end
section
namespace Pc
open PySem PySem.Spec PyProof.Rows L2
section
variable {X:Cx}
end
def Bf (B:Heap)(fr:List Addr)(H':Hp)(h h':Heap):Prop:=∀ b o,h'.get? b=some o->b∈fr\/B.get? b=some o\/(h.get? b=none/\H' b=none)
theorem nX {P:Program}{w:World}{H:Hp}{h h':Heap}(x:g9 P w H h)(k:∀ b o,H b≠none->h.get? b=some o->h'.get? b=some o):g9 P w H h':=fun a o e =>
 (x a o e).stay (fun b u hb q=>k b u (by rcases hb with rfl | hb<;>(intro z;simp_all)) q) (fun _ q=>q) fun _ _ q=>q
structure ya (X:Cx)(H H':Hp)(s:Shared)(B h:Heap):Prop where
 un:Un (eN X.stack) [] H H' s.heap h
 hok:g9 X.prog X.w H' h
 bf:Bf B (eN X.stack) H' s.heap h
section
variable {X:Cx}{pins:List (Addr×Obj)}{σ:L2.St}{H H':Hp}{s:Shared}{B h h':Heap}
theorem ya.frFree (F:ya X H H' s B h)(I:Inv X pins σ H s):∀ b∈eN X.stack,H' b=none:=fun b hb=>by
 obtain⟨_,o,e,_⟩:=I.stack.mem hb;exact F.un.free b o e (I.stkFree b hb) (by simp)
theorem ya.next (F:ya X H H' s B h)(I:Inv X pins σ H s)(st:B.StaysIn h')(fr:∀ b∈eN X.stack,∃ o,h.get? b=some o/\∀ vs,o.data≠.fields vs)(ut:h.UpToSlots h'):ya X H H' s B h':=by
 have keep:∀ b o,h.get? b=some o->b∉eN X.stack->(s.heap.get? b≠none\/H' b≠none)->h'.get? b=some o:=fun b o e hf hn=>by
  rcases F.bf b o e with z | z | ⟨z1,z2⟩
  ·exact absurd z hf
  ·exact st b o z
  ·rcases hn with hn | hn
   ·exact absurd z1 hn
   ·exact absurd z2 hn
 have slot:∀ b o,h.get? b=some o->b∈eN X.stack->∃ sl,h'.get? b=some { o with slots:=sl }:=fun b o e hf=>by
  obtain⟨o',e',hd⟩:=fr b hf;rw[e] at e';cases e';exact ut b o e hd
 refine⟨⟨fun b o e n hf _=>?_,fun b o e n hf _=>?_,fun b o e n hx=>F.un.free b o e n hx,fun b o e hx=>?_,F.un.tups,F.un.frzs,F.un.tbls⟩,nX F.hok fun b o hb e=>?_,fun b o e=>?_⟩
 ·exact keep b o (F.un.keep b o e n hf (by simp)) hf (.inl (by rw[e];simp))
 ·obtain⟨sl,e1⟩:=F.un.slot b o e n hf (by simp);obtain⟨sl',e2⟩:=slot b _ e1 hf;exact⟨sl',e2⟩
 ·obtain⟨o1,e1⟩:=F.un.there b o e (by simp);by_cases hf:b∈eN X.stack
  ·obtain⟨sl',e2⟩:=slot b _ e1 hf;exact⟨_,e2⟩
  ·exact⟨o1,keep b o1 e1 hf (.inl (by rw[e];simp))⟩
 ·exact keep b o e (fun z=>hb (F.frFree I b z)) (.inr hb)
 ·by_cases hf:b∈eN X.stack
  ·exact .inl hf
  ·cases e1:h.get? b with
   |none =>
    refine .inr (.inr ⟨?_,?_⟩)
    ·cases e0:s.heap.get? b with
     |none=>rfl
     |some o0 =>
      obtain⟨o1,e2⟩:=F.un.there b o0 e0 (by simp);rw[e1] at e2;cases e2
    ·cases e0:H' b with
     |none=>rfl
     |some u =>
      obtain⟨ob,e2⟩:=bX.live' (F.hok b u e0);rw[e1] at e2;cases e2
   |some o1 =>
    rcases F.bf b o1 e1 with z | z | z
    ·exact absurd z hf
    ·have:=st b o1 z;rw[e] at this;cases this;exact .inr (.inl z)
    ·exact .inr (.inr z)
theorem ya.inv {g':Array GenState}{d':Drawn}{t':Nat}(F:ya X H H' s B h)(I:Inv X pins σ H s)(hg:AllBare g'):Inv X pins σ H' { s with heap:=h,gens:=g',drawn:=d',toks:=t' } :=
 I.call (ch:=[]) F.un F.hok hg fun b z=>nomatch z
theorem ic {a:Addr}{C a0:Value}(f:Heap.FlyingW B X.stack a C a0 h):∀ b∈eN X.stack,∃ o,h.get? b=some o/\∀ vs,o.data≠.fields vs:=fun b hb=>(f.2.2.1.mem hb).2
theorem mX {a L:Addr}{C a0:Value}(f:Heap.HeldW B X.stack a C a0 L h):∀ b∈eN X.stack,∃ o,h.get? b=some o/\∀ vs,o.data≠.fields vs:=fun b hb=>(f.2.2.1.mem hb).2
noncomputable abbrev markX (X:Cx)(a:Addr):Cx:={ X with A:=X.A.mark (some (.ref a)),calm:=false,xe:=fun _ _=>False }
theorem tG (I:Inv X pins σ H s)(a:Addr)(hf:(X.A.mark (some (.ref a))).frames=some X.stack):Inv (markX X a) pins σ H s :=
 ⟨⟨I.ok.mod,I.ok.kind,I.ok.glob,I.ok.blt,I.ok.above,I.ok.inj,I.ok.has,I.ok.cab,fun z=>(by cases z),hf,I.ok.stk,I.ok.exf,I.ok.bs,I.ok.bsz,I.ok.noex,I.ok.exfs,I.ok.funs,I.ok.frf⟩,I.os,I.bare,I.base,I.loc,I.cell,I.free,I.freeC,I.pin,I.hok,I.len⟩
end
section
variable {M:Model}{A:Around}{E:Value->Shared->Prop}{prog:Program}{w:World}
theorem nN {nm q:Str}{C N:Addr}{bs bm:List Value}{hdct:Bool}{sn:List Str}{sub:List Value}{ab:Bool}{col:Option Bool}{dd:Option Addr}{k0 k1 k2 k3 k5:Option Value}{newId:String}
  {nm' q':Str}{C' N':Addr}{bs' bm':List Value}{hdct':Bool}{sn':List Str}{sub':List Value}{ab':Bool}{col':Option Bool}{dd':Option Addr}{j0 j1 j2 j3 j5:Option Value}{newId':String}
  {h:Heap}{g:Array GenState}{d:Drawn}{t:Nat}{os:OsState}{e:Addr}{oe:Obj}{Q:Bool->Shared->Prop}
  (hC:h.get? C=some (excClassObj nm q C N bs bm hdct sn sub ab col dd k0 k1 k2 k3 k5 newId)) (hC':h.get? C'=some (excClassObj nm' q' C' N' bs' bm' hdct' sn' sub' ab' col' dd' j0 j1 j2 j3 j5 newId')) (he:h.get? e=some oe) (hcls:oe.cls = .ref C)
  (hbase:bm'.contains (.type "BaseException")=true) (hq:Q ((Value.ref C::bm).contains (.ref C')) ⟨h,g,d,t,os⟩):wpAny M A (excMatches (.ref e) (.ref C')) Q E ⟨h,g,d,t,os⟩:=by
 have hcB:(Value.ref C'::bm').contains (.type "BaseException")=true:=by rw[cq,hbase,eu]
 have f:=tc_notTuple;unfold excMatches
 repeat (first | (with_reducible refine wpAny_loadPart_at he ?_;rw[hcls]) | with_reducible refine wpAny_loadPart_at hC' ?_ | (with_reducible refine wpAny_isSubtype_exc hC' ?_;rw[hcB]) | (with_reducible refine wpAny_isSubtype_exc hC ?_) | wp_step)
 cases hb:(Value.ref C::bm).contains (.ref C')<;>(rw[hb] at hq;first | exact hq | (wp_walk;exact hq))
end
section
variable {X:Cx}{pins:List (Addr×Obj)}{σ:L2.St}{H:Hp}{s:Shared}{D:Ends}
end
section
variable {X:Cx}{pins:List (Addr×Obj)}{σ:L2.St}{H:Hp}{s:Shared}{D:Ends}
theorem nk {M:Model}{A:Around}{E:Value->Shared->Prop}{i:Nat}{x:Str}{v:V}{Q:Unit->Shared->Prop}(I:Inv X pins σ H s)(hN:X.N.Nodup)(hi:X.N[i]? = some x)(hk:X.env.scope.names.lookup x=some .local)(hv:σ[i]? = some (some v))
  (h:∀ s',Inv X pins (σ.set i none) H s'->Q () s'):wpAny M A (unbindName X.env x) Q E s:=by
 obtain⟨m,hn,hl⟩:=id I.loc;have hcls:(X.env.scope.kind == .class || (X.env.scope.kind == .module&&X.env.locals != X.env.globals))=false:=by rw[I.ok.kind];rfl
 have hiσ:i<σ.length:=by rw[I.len];exact (List.getElem?_eq_some_iff.mp hi).1
 have cne:=I.cne;have tracked:∀{a:Addr}{h':Heap},(∃ o,s.heap.get? a=some o/\H a=none)->Heap.SameBut a s.heap h'->g9 X.prog X.w H h':=fun {a h'} ha hs b ob e=>by
  obtain⟨_,_,hfree⟩:=ha;refine (I.hok b ob e).stay (fun c w' hc q=>(hs.2 c ?_).trans q) (fun _ q=>q) fun _ _ q=>q
  rintro rfl;rcases hc with rfl | hc
  ·rw[hfree] at e;cases e
  ·rw[hfree] at hc;cases hc
 have hm:∃ u,m x=some u:=by
  obtain⟨u,_,q⟩:=hl i x v hi hv (.inl hk);rcases q with ⟨_,e⟩ | ⟨k,_⟩
  ·exact⟨u,e⟩
  ·have:X.env.kindOf x=some .local:=hk;rcases k with k | k<;>(rw[this] at k;cases k)
 obtain⟨u,hu⟩:=hm;refine wpAny_unbindName_local hk hn hu hcls fun h' u' hn' hs=>?_
 obtain⟨oL,_,_,hoL,_⟩:=id hn;refine h _ ⟨I.ok,I.os,I.bare,⟨fun b o e n hb hx=>?_,fun b o e n hb hx=>?_,I.base.free,fun b o e hx=>?_,I.base.tups,I.base.frzs,I.base.tbls⟩,⟨_,hn',fun j y v' e1 e2 e3=>?_⟩,fun y c e=>?_,I.free,I.freeC,fun p hp=>?_,tracked ⟨oL,hoL,I.free⟩ hs,by simpa using I.len⟩
 ·exact (hs.2 b (ba (au (Heap.lt_size e) I.ok.above))).trans (I.base.keep b o e n hb hx)
 ·obtain⟨sl,e1⟩:=I.base.slot b o e n hb hx;exact⟨sl,(hs.2 b (ba (au (Heap.lt_size e) I.ok.above))).trans e1⟩
 ·obtain⟨o',e1⟩:=I.base.there b o e hx;exact⟨o',(hs.2 b (ba (au (Heap.lt_size e) I.ok.above))).trans e1⟩
 ·by_cases hj:j=i
  ·subst hj;rw[List.getElem?_set_self hiσ] at e2;cases e2
  ·rw[List.getElem?_set_ne (cj hj)] at e2;obtain⟨u',r',q⟩:=hl j y v' e1 e2 e3;refine⟨u',r',?_⟩;rcases q with ⟨k,e⟩ | ⟨k,c,e,z⟩
   ·refine .inl ⟨k,?_⟩;have:y≠x:=fun e=>hj (jL hN e1 (e ▸ hi))
    simp[this,e]
   ·exact .inr ⟨k,c,e,z.sameBut hs (cne y c e)⟩
 ·obtain⟨w',z⟩:=I.cell y c e;exact⟨w',z.sameBut hs (cne y c e)⟩
 ·obtain⟨e,n,ne,nf,d⟩:=I.pin p hp;exact⟨(hs.2 p.1 ne).trans e,n,ne,nf,d⟩
theorem gS {M:Model}{A:Around}{E:Value->Shared->Prop}{i:Nat}{x:Str}{pos:Pos}{Q:Unit->Shared->Prop}(I:Inv X pins σ H s)(hN:X.N.Nodup)(hi:X.N[i]? = some x)(hk:X.env.scope.names.lookup x=some .local)
  (h:∀ s',Inv X pins (σ.set i none) H s'->Q () s'):wpAny M A (do bindName X.env x .none;unbindBehindTheSuite X.env x pos) Q E s:=by
 refine wpAny_bind (wpAny_bindName (gw I hN hi (.inl hk) (show RelV .non .none from rfl) (fun s1 I1=>?_) (.inr hk)));unfold unbindBehindTheSuite;refine wpAny_onRaise (nk I1 hN hi hk (List.getElem?_set_self (by rw[I.len];exact (List.getElem?_eq_some_iff.mp hi).1)) fun s2 I2=>h s2 ?_);rw[List.set_set] at I2;exact I2
noncomputable abbrev fZ (X:Cx)(a:Addr)(o:Obj):Cx:={ X with A:=X.A.mark (some (.ref a)),calm:=false,xe:=fun _ _=>False,pn:=(a,o)::X.pn }
theorem rC (I:Inv X pins σ H s)(a:Addr)(o:Obj)(hf:(X.A.mark (some (.ref a))).frames=some X.stack)(ha:s.heap.get? a=some o/\H a=none/\a≠X.env.locals/\a∉X.fs/\∀ v,o.data≠.cell v):Inv (fZ X a o) pins σ H s :=
 ⟨⟨I.ok.mod,I.ok.kind,I.ok.glob,I.ok.blt,I.ok.above,I.ok.inj,I.ok.has,I.ok.cab,fun z=>(by cases z),hf,I.ok.stk,I.ok.exf,I.ok.bs,I.ok.bsz,I.ok.noex,I.ok.exfs,I.ok.funs,I.ok.frf⟩,I.os,I.bare,I.base,I.loc,I.cell,I.free,I.freeC,fun p hp=>by
  rcases bw.mp hp with rfl | hp
  ·exact ha
  ·exact I.pin p hp,I.hok,I.len⟩
theorem eU {a:Addr}{o:Obj}(I:Inv (fZ X a o) pins σ H s)(ok:X.Ok):Inv X pins σ H s:=⟨ok,I.os,I.bare,I.base,I.loc,I.cell,I.free,I.freeC,fun p hp=>I.pin p (ae _ hp),I.hok,I.len⟩
noncomputable def uj (D:Ends)(i:Nat):Ends:={ nx:=fun σ H=>D.nx (σ.set i none) H,rt:=D.rt,bk:=fun σ H=>D.bk (σ.set i none) H,ct:=fun σ H=>D.ct (σ.set i none) H }
end
inductive fT (h:Heap) (bmB:List Value) (ns:List Str):List Value->Prop
 | base:fT h bmB ns bmB
 | own {A:Addr}{c0:Value}{dd:Option Addr}{cd:ClassData}{sl:Array (Option Value)}{mA:Str->Option Value}{tl:List Value} :
   h.get? A=some { cls:=c0,dict:=dd,data:=.cls cd,slots:=sl }->h.Ns cd.ns mA->(∀ n∈ns,mA n=none)->fT h bmB ns tl->fT h bmB ns (.ref A::tl)
noncomputable def lY:List Str:=["__getattribute__","__getattr__","__class__"]
section
variable {M:Model}{A:Around}{E:Value->Shared->Prop}{h:Heap}{g:Array GenState}{d:Drawn}{t:Nat}{os:OsState}
theorem rA {bmB tl:List Value}{ns:List Str}{n:Str}{y:Option Value}{Q:Option Value->Shared->Prop}(hn:n∈ns)(T:fT h bmB ns tl)(hrest:lookupAlong bmB n=pure y)(hq:Q y ⟨h,g,d,t,os⟩) :
  wpAny M A (lookupAlong tl n) Q E ⟨h,g,d,t,os⟩:=by
 induction T with
 |base=>rw[hrest];exact wpAny_pure hq
 |own hA hN hni _ ih =>
  rw[lookupAlong_cons];refine wpAny_bind (wpAny_classOwn_cls hA hN ?_);rw[hni n hn];exact ih
variable {nm q:Str}{C N:Addr}{bs bm bmB:List Value}{hdct:Bool}{sn:List Str}{sub:List Value}{ab:Bool}{col:Option Bool}{dd:Option Addr}{k0 k1 k2 k3 k5:Option Value}{B newId:String}
theorem dH {mN:Str->Option Value}{ns:List Str}{n:Str}{y:Option Value}{Q:Option Value->Shared->Prop}(hn:n∈ns)
  (hC:h.get? C=some (excClassObj nm q C N bs bm hdct sn sub ab col dd k0 k1 k2 k3 k5 newId)) (hN:h.Ns N mN) (hmN:∀ n∈ns,mN n=none) (T:fT h bmB ns bm) (hbm:mroOf (.type B)=pure bmB)
  (hB:typeLookup (.type B) n=pure y) (hq:Q y ⟨h,g,d,t,os⟩):wpAny M A (typeLookup (.ref C) n) Q E ⟨h,g,d,t,os⟩:=by
 have hrest:lookupAlong bmB n=pure y:=by rw[typeLookup_eq,hbm] at hB;exact hB
 rw[typeLookup_eq];refine wpAny_bind (wpAny_mroOf_exc hC ?_);rw[lookupAlong_cons];refine wpAny_bind (wpAny_classOwn_exc hC hN ?_);rw[hmN n hn];exact rA hn T hrest hq
end
theorem uf:typeLookup (.type "ValueError") "__class__" = pure (some (.builtin "object.__class__")):=by rw[typeLookup_type,builtinLookup_eq_fast];kernel_rfl
noncomputable abbrev fM:List Value:=[.type "ValueError",.type "Exception",.type "BaseException",.type "object"]
section
variable {prog:Program}{w:World}{A:Around}{E:Value->Shared->Prop}{h:Heap}{g:Array GenState}{d:Drawn}{t:Nat}{os:OsState}{a:Addr}{o:Obj}
 {nm q:Str}{C N:Addr}{bs bm:List Value}{hdct:Bool}{sn:List Str}{sub:List Value}{ab:Bool}{col:Option Bool}{dd:Option Addr}{k0 k1 k2 k3 k5:Option Value}{newId:String}{mN:Str->Option Value}
theorem wt {R:Result->Shared->Prop}(hC:h.get? C=some (excClassObj nm q C N bs bm hdct sn sub ab col dd k0 k1 k2 k3 k5 newId))(T:OwnTail h fM bm)(hx:h.get? a=some o)(hc:o.cls = .ref C)(hq:R (.ok (.ret (.ref C))) ⟨h,g,d,t,os⟩) :
  codeAny (model prog w) A (.call (.builtin "getset_descriptor.__get__") ⟨[.builtin "object.__class__",.ref a,.ref C],[]⟩) R ⟨h,g,d,t,os⟩:=by
 have hT5:(⟨h,g,d,t,os⟩:Shared).TypeIs (.builtin "object.__class__") "getset_descriptor":=F.typeOf_object_class;have hcB:(Value.ref C::bm).contains (.type (".".intercalate ("object.__class__".cutAt '.').dropLast))=true:=by
  rw[F.owner_object_class,cq,T.hasType (show fM.contains (.type "object")=true by decide)];rfl
 refine codeAny_call_builtin F.slot_gs_get.plain F.entry_gs_get (F.slot_gs_get.check _ _ _ _ _ _ _ _ hT5 (F.args_gs_get _ _ _) ?_)
 repeat (any_goals (first | assumption | (with_reducible refine wpAny_loadPart_at hx ?_;rw[hc]) | (with_reducible refine wpAny_isSubtype_exc hC ?_;rw[hcB]) | wp_step))
 refine⟨Code.quiet_builtin _ (by decide +kernel),codeAny_builtin F.entry_object_class ?_⟩
 repeat (any_goals (first | assumption | (with_reducible refine wpAny_loadPart_at hx ?_;rw[hc]) | wp_step))
theorem nP {M:Model}{nameV:Value}{Q:Unit->Shared->Prop}(hC:h.get? C=some (excClassObj nm q C N bs bm hdct sn sub ab col dd k0 k1 k2 k3 k5 newId))(T:OwnTail h fM bm)
  (hx:h.get? a=some o) (hc:o.cls = .ref C) (hq:Q () ⟨h,g,d,t,os⟩):wpAny M A (checkBuiltinCall "BaseException.__getattribute__" ⟨[.ref a,nameV],[]⟩) Q E ⟨h,g,d,t,os⟩:=by
 have hk:builtinKind "BaseException.__getattribute__" = some .slot:=by decide +kernel
 have hsplit:splitId "BaseException.__getattribute__" = some ("BaseException","__getattribute__"):=by decide +kernel
 have hcB:(Value.ref C::bm).contains (.type "BaseException")=true:=by rw[cq,T.hasType (show fM.contains (.type "BaseException")=true by decide)];rfl
 have ha:=F.args_bexc_ga (.ref a) nameV;simp only[checkBuiltinCall,hk,hsplit];refine wpAny_bind ?_
 ·unfold isInstance
  repeat (first | (with_reducible refine wpAny_loadPart_at hx ?_;rw[hc]) | (with_reducible refine wpAny_isSubtype_exc hC ?_;rw[hcB]) | wp_step)
  exact hq
theorem rJ {tk:Tok}{Q:Fin->Shared->Prop}(hC:h.get? C=some (excClassObj nm q C N bs bm hdct sn sub ab col dd k0 k1 k2 k3 k5 newId))(hN:h.Ns N mN)(hmN:∀ n∈lY,mN n=none)(T:OwnTail h fM bm)(TN:fT h fM lY bm)
  (hx:h.get? a=some o) (hc:o.cls = .ref C) (hq:Q (.done (.ret (.ref C))) ⟨h,g,d,t,os⟩) :
  wpAny (model prog w) A (Builtin.«object.__getattribute__» ⟨[.ref a,.str "__class__" tk],[]⟩) Q E ⟨h,g,d,t,os⟩:=by
 have hT5:(⟨h,g,d,t,os⟩:Shared).TypeIs (.builtin "object.__class__") "getset_descriptor":=F.typeOf_object_class;have f5:=F.typeOf_object_class;have f6:=F.slot_gs_get.lookup;have f7:=F.slot_gs_set.lookup;have hmA:("__class__" : Str)∈lY:=.tail _ (.tail _ (.head _))
 repeat (any_goals (first | assumption | (with_reducible refine wpAny_loadPart_at hx ?_;rw[hc]) | with_reducible refine dH hmA hC hN hmN TN F.attrBase_ValueError.mro uf ?_ | wp_step))
 refine wt hC T hx hc ?_
 repeat (any_goals (first | assumption | wp_step))
theorem tT {tk:Tok}{R:Result->Shared->Prop}(hC:h.get? C=some (excClassObj nm q C N bs bm hdct sn sub ab col dd k0 k1 k2 k3 k5 newId))(hN:h.Ns N mN)(hmN:∀ n∈lY,mN n=none)(T:OwnTail h fM bm)(TN:fT h fM lY bm)
  (hx:h.get? a=some o) (hc:o.cls = .ref C) (hq:R (.ok (.ret (.ref C))) ⟨h,g,d,t,os⟩) :
  codeAny (model prog w) A (.call (.builtin "BaseException.__getattribute__") ⟨[.ref a,.str "__class__" tk],[]⟩) R ⟨h,g,d,t,os⟩ :=
 codeAny_call_builtin F.attrBase_ValueError.ga.plain F.entry_bexc_ga (nP hC T hx hc (rJ hC hN hmN T TN hx hc hq))
theorem As {tk:Tok}{fill expr:Bool}{Q:Value->Shared->Prop}(hC:h.get? C=some (excClassObj nm q C N bs bm hdct sn sub ab col dd k0 k1 k2 k3 k5 newId))(hN:h.Ns N mN)(hmN:∀ n∈lY,mN n=none)(T:OwnTail h fM bm)(TN:fT h fM lY bm)
  (hx:h.get? a=some o) (hc:o.cls = .ref C) (hq:Q (.ref C) ⟨h,g,d,t,os⟩) :
  wpAny (model prog w) A (getAttrBy (.ref a) (.str "__class__" tk) fill expr) Q E ⟨h,g,d,t,os⟩:=by
 have f3:=F.attrBase_ValueError.ga.bind (.ref a);have hx0:(expr&&onTheHeap (Value.builtin "BaseException.__getattribute__"))=false:=by cases expr<;>rfl
 have hx2:(Value.builtin "BaseException.__getattribute__" == Value.builtin "object.__getattribute__")=false:=by decide +kernel
 have hx1:(onTheHeap (Value.ref C)&&Value.builtin "BaseException.__getattribute__" == Value.builtin "object.__getattribute__")=false:=by rw[hx2];rfl
 have hm1:("__getattribute__" : Str)∈lY:=.head _;have hm2:("__getattr__" : Str)∈lY:=.tail _ (.head _)
 repeat (any_goals (first | assumption | (with_reducible refine wpAny_loadPart_at hx ?_;rw[hc]) | with_reducible refine dH hm1 hC hN hmN TN F.attrBase_ValueError.mro F.attrBase_ValueError.ga.lookup ?_ | with_reducible refine dH hm2 hC hN hmN TN F.attrBase_ValueError.mro F.attrBase_ValueError.noGetattr ?_ | wp_step))
 refine tT hC hN hmN T TN hx hc ?_
 repeat (any_goals (first | assumption | wp_step))
theorem sN {Q:Option Value->Shared->Prop}(hC:h.get? C=some (excClassObj nm q C N bs bm hdct sn sub ab col dd k0 k1 k2 k3 k5 newId))(hN:h.Ns N mN)(hmN:∀ n∈lY,mN n=none)(T:OwnTail h fM bm)(TN:fT h fM lY bm)
  (hx:h.get? a=some o) (hc:o.cls = .ref C) (hq:Q (some (.ref C)) ⟨h,g,d,t+1,os⟩):wpAny (model prog w) A (getAttr? (.ref a) "__class__") Q E ⟨h,g,d,t,os⟩:=by
 unfold getAttr? getAttrBy?
 repeat (any_goals (first | assumption | with_reducible apply As hC hN hmN T TN hx hc | wp_step))
end
section
variable {prog:Program}{w:World}{A:Around}{E:Value->Shared->Prop}{h:Heap}{g:Array GenState}{d:Drawn}{t:Nat}{os:OsState}{a:Addr}{o:Obj}
 {nm q:Str}{C N:Addr}{bs bm:List Value}{hdct:Bool}{sn:List Str}{sub:List Value}{ab:Bool}{col:Option Bool}{dd:Option Addr}{k0 k1 k2 k3 k5:Option Value}{newId:String}{mN:Str->Option Value}
 {nm' q':Str}{C' N':Addr}{bs' bm':List Value}{hdct':Bool}{sn':List Str}{sub':List Value}{ab':Bool}{col':Option Bool}{dd':Option Addr}{j0 j1 j2 j3 j5:Option Value}{newId':String}
theorem qS:isSubtype (.type "type") (.type "type")=pure true:=by rw[isSubtype_type];kernel_rfl
theorem mZ {dep:Int}{tk:Tok}{Q:Fin->Shared->Prop}(hC:h.get? C=some (excClassObj nm q C N bs bm hdct sn sub ab col dd k0 k1 k2 k3 k5 newId))(hN:h.Ns N mN)(hmN:∀ n∈lY,mN n=none)(T:OwnTail h fM bm)(TN:fT h fM lY bm)
  (hD:h.get? C'=some (excClassObj nm' q' C' N' bs' bm' hdct' sn' sub' ab' col' dd' j0 j1 j2 j3 j5 newId')) (hx:h.get? a=some o) (hc:o.cls = .ref C)
  (hq:∀ t',Q (.done (.ret (.bool ((Value.ref C::bm).contains (.ref C'))))) ⟨h,g,d,t',os⟩) :
  wpAny (model prog w) A (Builtin.«isinstance.nested» ⟨[.ref a,.ref C',.int dep tk],[]⟩) Q E ⟨h,g,d,t,os⟩:=by
 have f:=qS;by_cases e:(Value.ref C==Value.ref C')=true
 ·have hq1:=hq t;have:(Value.ref C::bm).contains (.ref C')=true:=by
   rw[cq,fb.mp e];simp
  rw[this] at hq1
  repeat (any_goals (first | assumption | (with_reducible refine wpAny_loadPart_at hx ?_;rw[hc]) | wp_step))
 ·have e':(Value.ref C==Value.ref C')=false:=by simpa using e
  cases hb:(Value.ref C::bm).contains (.ref C') with
  |true =>
   have hq1:=hq t;rw[hb] at hq1
   repeat (any_goals (first | assumption | (with_reducible refine wpAny_loadPart_at hx ?_;rw[hc]) | with_reducible refine wpAny_loadPart_at hD ?_ | (with_reducible refine wpAny_isSubtype_exc hC ?_;rw[hb]) | wp_step))
  |false =>
   have hq1:=hq (t+1);rw[hb] at hq1
   repeat (any_goals (first | assumption | (with_reducible refine wpAny_loadPart_at hx ?_;rw[hc]) | with_reducible refine wpAny_loadPart_at hD ?_ | with_reducible refine wpAny_loadPart_at hC ?_ | (with_reducible refine wpAny_isSubtype_exc hC ?_;rw[hb]) | with_reducible apply sN hC hN hmN T TN hx hc | wp_step))
theorem sD {dep:Int}{tk:Tok}{Q:Fin->Shared->Prop}(hC:h.get? C=some (excClassObj nm q C N bs bm hdct sn sub ab col dd k0 k1 k2 k3 k5 newId))(T:OwnTail h fM bm)
  (hx:h.get? a=some o) (hc:o.cls = .ref C) (hq:Q (.done (.ret (.bool true))) ⟨h,g,d,t,os⟩) :
  wpAny (model prog w) A (Builtin.«isinstance.nested» ⟨[.ref a,.type "ValueError",.int dep tk],[]⟩) Q E ⟨h,g,d,t,os⟩:=by
 have hb:(Value.ref C::bm).contains (.type "ValueError")=true:=by rw[cq,T.hasType (show fM.contains (.type "ValueError")=true by decide)];rfl
 have hty:typeOf (.type "ValueError")=pure (.type "type"):=by kernel_rfl
 have e':(Value.ref C==Value.type "ValueError")=false:=rfl
 repeat (any_goals (first | assumption | (with_reducible refine wpAny_loadPart_at hx ?_;rw[hc]) | (with_reducible refine wpAny_isSubtype_exc hC ?_;rw[hb]) | wp_step))
end
noncomputable def yQ (K:PySem.W.Frag):List Value->Bool
 |[]=>fM == []
 |v::r=>(v::r)==fM || match v with
  |.ref A=>(match K.lookup A with
   |some ⟨_,_,.cls cd,_⟩=>PySem.W.nsOkIn K cd.ns&&lY.all (fun n=>PySem.W.nsIn K cd.ns n==some none)&&yQ K r
   |_=>false)
  |_=>false
noncomputable def excQ (K:PySem.W.Frag)(C:Addr):Bool:=PySem.W.excIn K C fM "ValueError.__new__" && (match K.lookup C with
 |some ⟨_,_,.cls cd,_⟩=>PySem.W.nsOkIn K cd.ns&&lY.all (fun n=>PySem.W.nsIn K cd.ns n==some none)&&yQ K cd.mro.tail
 |_=>false)
noncomputable def dU (K:PySem.W.Frag)(C D:Addr):Bool:=match K.lookup C with
 |some ⟨_,_,.cls cd,_⟩=>cd.mro.contains (.ref D)
 |_=>false
structure ExcF (K:PySem.W.Frag)(h:Heap)(C:Addr)(bm:List Value):Prop where
 ex:∃ nm q N bs hdct sn sub ab col dd k0 k1 k2 k3 k5 mN,h.get? C=some (excClassObj nm q C N bs bm hdct sn sub ab col dd k0 k1 k2 k3 k5 "ValueError.__new__")/\h.Ns N mN/\∀ n∈lY,mN n=none
 tail:OwnTail h fM bm
 tn:fT h fM lY bm
 over:∀ D,dU K C D=(Value.ref C::bm).contains (.ref D)
noncomputable def jr (K:PySem.W.Frag)(D:Addr):Bool:=match K.lookup D with
 |some ⟨.type "type",_,.cls cd,sl⟩=>(match cd.mro,sl.toList with
  | .ref C'::_,[_,_,_,_,some (.builtin _),_]=>C'==D && !cd.hasDel
  |_,_=>false)
 |_=>false
theorem iy {K:PySem.W.Frag}{h:Heap}{D:Addr}(kin:K.In h)(q:jr K D=true) :
  ∃ bm N nm qn bs hdct sn sub ab col dd k0 k1 k2 k3 k5 newId,h.get? D=some (excClassObj nm qn D N bs bm hdct sn sub ab col dd k0 k1 k2 k3 k5 newId):=by
 unfold jr at q;split at q
 ·rename_i dd cd sl ho;split at q
  ·rename_i C' bm k0 k1 k2 k3 n k5 hm hs;simp only[Bool.and_eq_true,beq_iff_eq,Bool.not_eq_true'] at q;obtain⟨rfl,hdel⟩:=q;obtain⟨nm,bs,mro,ns,qn,hd,sn,sub,ab,col,del⟩:=cd;dsimp only at hm hdel;subst hm hdel;have hsl:sl = #[k0,k1,k2,k3,some (.builtin n),k5]:=by
    obtain⟨l⟩:=sl;simp only at hs;rw[hs]
   subst hsl;exact⟨bm,ns,nm,qn,bs,hd,sn,sub,ab,col,dd,k0,k1,k2,k3,k5,n,kin _ _ ho⟩
  ·cases q
 ·cases q
def yd (K:PySem.W.Frag)(C:Addr):Prop:=∀{h:Heap},K.In h->∃ bm,ExcF K h C bm
section
variable {prog:Program}{w:World}{A:Around}{E:Value->Shared->Prop}{K:PySem.W.Frag}
theorem xv {s:Shared}{a C D:Addr}{o:Obj}{Q:Value->Shared->Prop}(kin:K.In s.heap)(qC:yd K C)(qD:jr K D=true)(hx:s.heap.get? a=some o)(hc:o.cls = .ref C)(hq:∀ t',Q (.bool (dU K C D)) { s with toks:=t' }) :
  wpAny (model prog w) A (call (.builtin "isinstance") [.ref a,.ref D]) Q E s:=by
 obtain⟨bm,FC⟩:=qC kin;obtain⟨nm,q,N,bs,hdct,sn,sub,ab,col,dd,k0,k1,k2,k3,k5,mN,hC,hN,hmN⟩:=FC.ex;obtain⟨bm',N',nm',q',bs',hdct',sn',sub',ab',col',dd',j0,j1,j2,j3,j5,nI,hD⟩:=iy kin qD;obtain⟨h,g,d,t,os⟩:=s;refine call_isinstance_of (mZ hC hN hmN FC.tail FC.tn hD hx hc fun t'=>?_) (by intro e;cases e);rw[<-FC.over D];exact hq t'
theorem wU {s:Shared}{a C:Addr}{o:Obj}{Q:Value->Shared->Prop}(kin:K.In s.heap)(qC:yd K C)(hx:s.heap.get? a=some o)(hc:o.cls = .ref C)(hq:Q (.bool true) s) :
  wpAny (model prog w) A (call (.builtin "isinstance") [.ref a,.type "ValueError"]) Q E s:=by
 obtain⟨bm,FC⟩:=qC kin;obtain⟨nm,q,N,bs,hdct,sn,sub,ab,col,dd,k0,k1,k2,k3,k5,mN,hC,hN,hmN⟩:=FC.ex;obtain⟨h,g,d,t,os⟩:=s;exact call_isinstance_of (sD hC FC.tail hx hc hq) (by intro e;cases e)
theorem wz {a C D:Addr}{o:Obj}(qC:yd K C)(qD:jr K D=true)(hc:o.cls = .ref C):Answers (fun s=>K.In s.heap/\s.heap.get? a=some o) (.ref a) (.ref D) (dU K C D):=by
 intro dep tk prog w A R s hs;obtain⟨⟨kin,hx⟩,hq⟩:=hs;obtain⟨bm,FC⟩:=qC kin;obtain⟨nm,q,N,bs,hdct,sn,sub,ab,col,dd,k0,k1,k2,k3,k5,mN,hC,hN,hmN⟩:=FC.ex;obtain⟨bm',N',nm',q',bs',hdct',sn',sub',ab',col',dd',j0,j1,j2,j3,j5,nI,hD⟩:=iy kin qD;obtain⟨h,g,d,t,os⟩:=s;refine mZ hC hN hmN FC.tail FC.tn hD hx hc fun t'=>?_
 rw[<-FC.over D];exact hq t'
theorem pR {a C:Addr}{o:Obj}(qC:yd K C)(hc:o.cls = .ref C):∀{Ds:List Addr},(∀ D∈Ds,jr K D=true)->AnswersAll (fun s=>K.In s.heap/\s.heap.get? a=some o) (.ref a) (Ds.map Value.ref) (Ds.map (dU K C))
 |[],_=>trivial
 |D::Ds,h=>⟨wz qC (h D ai) hc,pR qC hc fun x hx=>h x (ae _ hx)⟩
theorem vW {s:Shared}{a C tp:Addr}{o ot:Obj}{n:Nat}{Ds:List Addr}{Q:Value->Shared->Prop}(kin:K.In s.heap)(qC:yd K C)(qD:∀ D∈Ds,jr K D=true)(hx:s.heap.get? a=some o)(hc:o.cls = .ref C)
  (ht:s.heap.get? tp=some ot) (htc:ot.cls = .type "tuple") (htd:ot.data = .seq (Ds.map Value.ref).toArray n) (hq:∀ t',Q (.bool ((Ds.map (dU K C)).any id)) { s with toks:=t' }) :
  wpAny (model prog w) A (call (.builtin "isinstance") [.ref a,.ref tp]) Q E s:=by
 refine call_isinstance_of ?_ (by intro e;cases e);obtain⟨h,g,d,t,os⟩:=s;have hT2:(⟨h,g,d,t,os⟩:Shared).TypeIs (.ref tp) "tuple":=⟨_,ht,htc⟩;have f1:=F.isi_sub_tuple;have ne:(Value.ref C==Value.ref tp)=false:=by
  rw[dk];intro e;cases e;obtain⟨bm,FC⟩:=qC kin;obtain⟨nm,q,N,bs,hdct,sn,sub,ab,col,dd,k0,k1,k2,k3,k5,mN,hC,hN,hmN⟩:=FC.ex;rw[ht] at hC;cases hC;cases htd
 repeat (any_goals (first | assumption | (with_reducible refine wpAny_loadPart_at hx ?_;rw[hc]) | with_reducible refine wpAny_seqItems ht htd ?_ | wp_step))
 refine wpAny_arrayLoop ?_;simp only[Option.getD_some,List.toList_toArray];refine isinstance_items (dep:=0) (P:=fun s=>K.In s.heap/\s.heap.get? a=some o) (fun s tk h=>h) (Ds.map Value.ref) (Ds.map (dU K C)) _ _ (pR qC hc qD) ⟨kin,hx⟩ fun tk'=>?_
 cases hv:(Ds.map (dU K C)).any id with
 |true =>
  simp only[if_true]
  repeat (any_goals (first | assumption | wp_step))
  exact hv ▸ hq tk'
 |false =>
  simp only[Bool.false_eq_true,if_false]
  repeat (any_goals (first | assumption | wp_step))
  exact hv ▸ hq tk'
end
section
variable {X:Cx}{pins:List (Addr×Obj)}{σ:L2.St}{H:Hp}{s:Shared}{D:Ends}{k:Nat}{f:Addr}{fd:FuncData}{ps:List Str}{sp:Sp}{dvs:List V}{ds:List Value}{W:Value->Hp->Prop}
end
section
variable {X:Cx}{a C:Addr}{o:Obj}
def Bq (K:PySem.W.Frag)(a C:Addr):List V->Hp->VK->Prop:=fun xs H Q =>
 (∃ D,xs=[.ref a,.ref D]/\jr K D=true/\Q (.bl (dU K C D)) H)\/(xs=[.ref a,.ty "ValueError"]/\Q (.bl true) H) \/
  ∃(p:Addr) (Ds:List Addr),xs=[.ref a,.ref p]/\H p=some (.tup (Ds.map V.ref))/\(∀ D∈Ds,jr K D=true)/\Q (.bl ((Ds.map (dU K C)).any id)) H
theorem k7:∀{Ds:List Addr}{us:List Value},aK (Ds.map V.ref) us->us=Ds.map Value.ref
 |[],_,.nil=>rfl
 | D::Ds,_,.cons r v=>by
  rw[k7 v];have r:_=Value.ref D:=r;rw[r];rfl
theorem h9 (qC:yd X.K C)(hc:o.cls = .ref C):fL (fZ X a o) (.builtin "isinstance") (Bq X.K a C):=by
 intro pins s σ H xs us Q I r h;have hx:s.heap.get? a=some o:=(I.pin (a,o) (ay _ ai)).1;have kin:X.K.In s.heap:=I.kIn;rcases h with ⟨D,rfl,qD,q⟩ | ⟨rfl,q⟩ | ⟨p,Ds,rfl,hp,qD,q⟩
 ·obtain⟨u,w',rfl,r1,r2⟩:=r.two;cases r1;cases r2;exact xv kin qC qD hx hc fun t'=>⟨.bl _,H,I.kept (t':=t') fun b o e=>e,rfl,q⟩
 ·obtain⟨u,w',rfl,r1,r2⟩:=r.two;cases r1;cases r2;exact wU kin qC hx hc ⟨.bl true,H,I,rfl,q⟩
 ·obtain⟨u,w',rfl,r1,r2⟩:=r.two;cases r1;cases r2;obtain⟨_,its,rv,ot,e1,e2,n,e3⟩:=I.hok p _ hp;have:=k7 rv;subst this;exact vW kin qC qD hx hc e1 e2 e3 fun t'=>⟨.bl _,H,I.kept (t':=t') fun b o e=>e,rfl,q⟩
end
def Df.Bd (d:Df):Prop:=∀(kV doc pm:Value) (an:Option Addr) (cdv ct:Value) (us:List Value),us.length=d.ps.length->bindArgs (PySem.W.fnOf d.nm d.nm (cU d.st) (aY d.st) (aB d.st) .none kV doc pm an cdv ct) ⟨us,[]⟩=pure (d.ps.zip us)
def Df.OkX (p:Pg)(fo:List Str)(d:Df):Prop:=d.Ok p\/(d.Bd/\d.nm∈fo)
theorem Df.OkX.bd {p:Pg}{fo:List Str}{d:Df}(h:d.OkX p fo):d.Bd:=by
 rcases h with h | h
 ·exact h.bd
 ·exact h.1
theorem iS {p:Pg}{d:Df}{n:Nat}(h:d.okB p n=true):cH d.N d.ps (aB d.st):=by
 unfold Df.okB at h;simp only[Bool.and_eq_true,decide_eq_true_eq,Bool.not_eq_true',List.all_eq_true] at h;obtain⟨⟨⟨⟨⟨⟨h1,h2⟩,h3⟩,h4⟩,h5⟩,h6⟩,h7⟩:=h;exact⟨h1,h2,h3,h4,h5,fun x hx=>iC (h6 x hx),h7⟩
section
variable {p:Pg}{P:Program}{w:World}{K:Frag}{mg:Str->Option Value}{base:Heap}
def qI (p:Pg)(P:Program)(w:World)(K:Frag)(mg:Str->Option Value)(base:Heap)(n:Nat):Prop:=∀(i:Nat) (d:Df),p.dfs[i]? = some d->∀ f fd,L2.qJ K d.nm d.nm d.st f fd->i8 P w K mg base nT n f fd d.ps (yr K d.ps.length (p.run n i))
def mI (p:Pg)(fo:List Str)(P:Program)(w:World)(K:Frag)(mg:Str->Option Value)(base:Heap):Prop:=∀(n i:Nat) (d:Df),p.dfs[i]? = some d->d.nm∈fo->qI p P w K mg base n->∀ f fd,L2.qJ K d.nm d.nm d.st f fd->i8 P w K mg base nT (n+1) f fd d.ps (yr K d.ps.length (p.run (n+1) i))
theorem xP {fo:List Str}(hp:∀ d∈p.dfs,d.OkX p fo)(hi:p.In K mg)(hh:rj w K)(hf:mI p fo P w K mg base):∀ n,qI p P w K mg base n:=by
 intro n
 induction n with
 |zero =>
  intro i d hd f fd F;refine⟨fun vs H Q E h=>qo h,fun A outer s H args us vs Q E hr he hb hv hs=>?_⟩;obtain⟨ds,G,_,_,r,h,_⟩:=hs;cases h
 |succ n ih =>
  intro i d hd f fd F;rcases hp d (List.mem_of_getElem? hd) with ⟨⟨m,hb⟩,S,_⟩ | ⟨_,hn⟩
  rotate_left
  ·exact hf n i d hd hn ih f fd F
  refine F.ok S (fun vs H Q E h=>qo h) fun cdv A outer s H vs Q E hr hs=>?_
  have C:mU (dG nT P w K mg base d.N d.nm (aB d.st) f cdv A outer s H E).nox (p.sc d) ⟨p.run n,p.gl,p.fuel⟩:=by
   refine⟨⟨rfl,S.nd,fun x h=>nJ h,fun x h=>⟨iC h,.inl rfl⟩,fun x h=>pQ h,fun x h=>h,?_,rfl,fun j x hj=>?_,fun j x hj=>hi.gl j x hj,fun x h=>hi.blt x h⟩,rfl,S.kind,PassesOwn.never⟩
   ·exact⟨Nat.lt_of_le_of_lt (Nat.add_le_add_left (by decide:40<=64) _) hr.units,hh⟩
   ·obtain⟨e,he,hx⟩:=kH hj;obtain⟨f',fd',F',M'⟩:=hi.fn j e he;have B':=F'.binds (hp e (List.mem_of_getElem? he)).bd;subst hx;refine⟨f',fd',e.ps,n,ih j e he f' fd' F',hr,M',F'.kp,B',fun ds r h=>?_⟩;have h:p.run n j ds = .ok r:=h;cases n with
    |zero=>cases h
    |succ n =>
     unfold Pg.run Pc.run at h;have:p.fns[j]? = some ⟨e.ps.length,e.N.length,e.body⟩:=by unfold Pg.fns;rw[List.getElem?_map,he];rfl
     rw[this] at h;dsimp only at h;by_cases hl:ds.length=e.ps.length
     ·exact hl
     ·rw[if_neg hl] at h;cases h
  refine⟨_,(yJ C m).2 _ _ hb,?_⟩;obtain⟨ds,G,hl,rs,r,hrun,k⟩:=hs;unfold Pg.run Pc.run at hrun;have:p.fns[i]? = some ⟨d.ps.length,d.N.length,d.body⟩:=by unfold Pg.fns;rw[List.getElem?_map,hd];rfl
  rw[this] at hrun;dsimp only at hrun;rw[if_pos hl] at hrun;have hN:ds.length<=d.N.length:=by
   rw[hl,<-S.pre,cn];exact gb _ _
  obtain⟨F0,re,hF⟩:=entry rs hN;refine⟨fun a=>H a≠none,fun a=>H a=none\/a∈G,aO ds d.N.length,F0,re,fun j a ha=>.inr (hF j a ha),fun a h=>.inl (Classical.not_not.mp h),?_⟩;show post K _ _ _ _ H _ (aC ⟨p.run n,p.gl,p.fuel⟩ d.body (aO ds d.N.length));have hrun:(match aC ⟨p.run n,p.gl,p.fuel⟩ d.body (aO ds d.N.length) with
   |.rt d fr=>Rs.ok (d,fr)
   |.nx _=>.ok (.non,true)
   |.xc e _=>.exc e
   |_=>.bad) = .ok r:=hrun
  cases hq:aC ⟨p.run n,p.gl,p.fuel⟩ d.body (aO ds d.N.length) with
  |rt dd fr =>
   rw[hq] at hrun;cases hrun;intro v H' G' rp ev z fz;exact k v H' G' (gF ev) rp z fun hf=>let ⟨a,b⟩:=fz hf;⟨a,fun x hx=>⟨Classical.not_not.mp (b x hx).1,(b x hx).2⟩⟩
  |nx e =>
   rw[hq] at hrun;cases hrun;intro σ' H' F' af;exact k .non H' [] (gF af.ev) .non (fun _ h=>(nomatch h)) fun _=>⟨bo,fun _ h=>(nomatch h)⟩
  |bk e=>rw[hq] at hrun;cases hrun
  |ct e=>rw[hq] at hrun;cases hrun
  |xc e e'=>rw[hq] at hrun;cases hrun
  |bad=>rw[hq] at hrun;cases hrun
end
theorem Cm {l:PySem.W.OpenLaw}{q:Program}{loose:List Str}{XP:(Str->Option Value)->Heap->Prop}{YP:World->Heap->Prop}{d:DefRec}{K:Params->PySem.W.Frag}(p:Pg)(fo:List Str)(n i:Nat)(x:Str)(e:Df)(hn:l.most=some 63)(hdf:d.params.defaults=[])
  (hY:∀(w:World) (h:Heap),YP w h->(K w.params).In h) (hd:p.dfs[i]? = some e) (hps:e.ps=[x]) (hnm:d.name=e.nm) (hr:eE n callerA) (ok:pb (Df.OkX p fo) p.dfs) (st:∀ w:World,oM p (K w.params)) (hL:∀ w:World,noL (K w.params)=true) (hH:∀ w:World,rj w (K w.params))
  (hf:∀(w:World) (mg:Str->Option Value) (h base:Heap),(K w.params).In h->h.Ns mainGlobals mg->p.In (K w.params) mg->mI p fo l.prog w (K w.params) mg base)
  (law:∀ ns:List Int,ns.length<=63->∃ fr,p.run n i [.lst (ns.map D.int)] = .ok (.bl true,fr)) :
  PySem.W.WalkO q loose XP YP l.row.toRowW d [] (fun f vs=>PySem.call f vs):=by
 refine L2.wg (n:=63) (k:=n) (x:=x) (CX:=fun _=>nT) (sp:=fun w=>yr (K w.params) 1 (p.run n i)) hn (by decide) hdf hr hY (fun w mg fa h KX G hm=>?_) (fun w H a ns hl _ hS=>?_) fun _ _ _ _ _ z=>z
 ·have I:=(st w).isin KX G;obtain⟨f,fd,F,m⟩:=I.fn i e hd;rw[hnm,m] at hm;obtain rfl:f=fa:=by cases hm;rfl
  refine⟨fd,fun s u=>?_,fun base kb nb=>?_⟩
  ·obtain⟨oc,od,kV,doc,pm,an,cdv,ct,osl,rfl,lk,hcd⟩:=F.ex;have:=(eF ok e (List.mem_of_getElem? hd)).bd kV doc pm an cdv ct [u] (by rw[hps];rfl);rw[hps] at this;exact .of_eq this
  ·have:=xP (P:=l.prog) (w:=w) (base:=base) (eF ok) I (hH w) (hf w mg h base KX G I) n i e hd f fd F;rw[hps] at this;exact this
 ·obtain⟨fr,h⟩:=law ns hl;exact zZ (hL w) hS h
def Cls (K:Frag)(x:Str)(C:Addr):Prop:=PySem.W.nsIn K mainGlobals x=some (some (.ref C))/\excQ K C=true
structure iN (k:Nat)(A:Around):Prop where
 hd:A.handled=none
 dp:A.depth+3*k+6<recursionLimit
 un:A.units+16*k+203<cLine
theorem iN.of {k:Nat}{A:Around}(r:eE (k+1) A)(env:Env):iN k (A.deeper env) :=
 ⟨r.hd,by have:=r.dp;show A.depth+1+3*k+6<_;omega,by have:=r.un;show A.units+3+16*k+203<_;omega⟩
theorem iN.deeper {k:Nat}{A:Around}(r:iN k A)(env:Env):eE k (A.deeper env) :=
 ⟨r.hd,by have:=r.dp;show A.depth+1+3*k+5<_;omega,by have:=r.un;show A.units+3+16*k+200<_;omega⟩
structure jZ (P:Program)(w:World)(K:PySem.W.Frag)(mg:Str->Option Value)(base:Heap)(CX:nz)(RP:Around->Prop)(f:Addr)(fd:FuncData)(ps:List Str)(sp:Sp):Prop where
 len:∀ vs H Q E,sp vs H Q E->vs.length=ps.length
 run:∀(A:Around) (outer:List Env) (s:Shared) (H:Hp) (args:PySem.Args) (us:List Value) (vs:List V) (Q:VK) (E:XK),RP A->t6 P w K mg base A outer s H->BindsTo s fd args (ps.zip us)->aK vs us->sp vs H Q E ->
  codeAny (model P w) A (.call (.ref f) args) (CR CX outer P w H s Q E) s
section
variable {P:Program}{w:World}{K:PySem.W.Frag}{mg:Str->Option Value}{base:Heap}{f:Addr}{fd:FuncData}{ps N:List Str}{sp:Sp}
theorem jZ.plain {CX:nz}{k:Nat}(F:jZ P w K mg base CX (eE k) f fd ps sp):i8 P w K mg base CX k f fd ps sp:=⟨F.len,F.run⟩
theorem pC {CX:nz}{RP:Around->Prop}{x qual:Str}{st:Stmt}(F:L2.qJ K x qual st f fd)(S:cH N ps (aB st))(hRP:∀ A,RP A->A.handled=none/\A.depth<recursionLimit)(len:∀ vs H Q E,sp vs H Q E->vs.length=ps.length)
  (hbody:∀(cdv:Value) (A:Around) (outer:List Env) (s:Shared) (H:Hp) (vs:List V) (Q:VK) (E:XK),RP A->sp vs H Q E ->
   ∃ t,ip (dG CX P w K mg base N qual (aB st) f cdv A outer s H E) (aY st) t/\t { nx:=fun _ H'=>Q .non H',rt:=Q } (L2.start N vs) H):jZ P w K mg base CX RP f fd ps sp:=by
 obtain⟨oc,od,kV,doc,pm,an,cdv,ct,osl,rfl,lk,hcd⟩:=F.ex;refine⟨len,fun A outer s H args us vs Q E hr e0 hb r hsp=>?_⟩;have hl:=len _ _ _ _ hsp;have KX:K.In s.heap:=e0.mod.kin.keeps fun b o e=>(e0.bs b o e).1
 have lim:s.heap.NoLimit:=e0.mod.nolimit.keeps fun b o e=>(e0.bs b o e).1
 have hkind:∀ y∈ps.zip us,(aB st).names.lookup y.1=some .local\/((aB st).names.lookup y.1=some .cell/\((cellsFrom (s.heap.objs.size+1) (aB st).names []).lookup y.1).isSome=true):=fun ⟨n,v⟩ hy=>by
  rcases S.par n (gp hy).1 with q | q
  ·exact .inl q
  ·exact .inr ⟨q,gh _ _ _ (.inl q)⟩
 refine codeAny_call_function (hRP A hr).2 (KX _ _ lk) rfl S.co S.gen rfl (PySem.W.codeRec_of KX hcd) (hb _ _ _ _ ?_);refine wpAny_newFunctionEnv_cells S.kind hkind fun env he s1 x=>?_
 subst he;refine⟨lim.keeps x.toInCall.keep,codeAny_func ?_⟩;obtain⟨t,ht,hq⟩:=hbody cdv A outer s H vs Q E hr hsp;have I:Inv (dG CX P w K mg base N qual (aB st) f cdv A outer s H E) [] (L2.start N vs) H s1:=kU S (hRP A hr).1 e0 hl r x;refine wpAny_mono (ht [] s1 (L2.start N vs) H _ I hq) (fun fl s' hs=>?_) fun e s' hs=>hs
 have fin:∀{σ':L2.St}{H':Hp}{v:V}{u:Value},Inv (dG CX P w K mg base N qual (aB st) f cdv A outer s H E) [] σ' H' s'->RelV v u->Q v H'->CE outer P w H s Q u s' :=
  fun {σ' H' v u} J rv q=>⟨v,H',J.os,J.bare,J.base,J.hok,rv,q⟩
 cases fl with
 |ret u =>
  obtain⟨v,σ',H',J,rv,q⟩:=hs;exact fin J rv q
 |next =>
  obtain⟨σ',H',J,q⟩:=hs;exact fin (v:=V.non) (u:=Value.none) J rfl q
 |brk =>
  obtain⟨_,_,_,q⟩:=hs;exact False.elim q
 |cont =>
  obtain⟨_,_,_,q⟩:=hs;exact False.elim q
end
section
variable {X:Cx}{pins:List (Addr×Obj)}{σ:L2.St}{H:Hp}{s:Shared}{D:Ends}{RP:Around->Prop}{f:Addr}{fd:FuncData}{ps:List Str}{sp:Sp}{dvs:List V}{ds:List Value}{W:Value->Hp->Prop}
end
section
variable {X:Cx}{S:Sc}{T:Tb}
theorem PS.nox {st:Stmt}{t:TS}(h:PS X.nox st t):PS X st t:=fun pins s σ H D I hw=>by
 have:=h pins s σ H D (I.wish _) hw;refine wpAny_mono this (fun f s1 q=>?_) fun _ _ z=>z.elim
 cases f with
 |next=>obtain⟨σ',H',J,q⟩:=q;exact⟨σ',H',J.unwish,q⟩
 |brk=>obtain⟨σ',H',J,q⟩:=q;exact⟨σ',H',J.unwish,q⟩
 |cont=>obtain⟨σ',H',J,q⟩:=q;exact⟨σ',H',J.unwish,q⟩
 |ret u=>obtain⟨v,σ',H',J,r,q⟩:=q;exact⟨v,σ',H',J.unwish,r,q⟩
end
section
variable {p:Pg}{P:Program}{w:World}{K:Frag}{mg:Str->Option Value}{base:Heap}
theorem zP {fo:List Str}{n:Nat}{CX:nz}{N:List Str}{nm:Str}{sc:Scope}{ps:List Str}{f:Addr}{cdv:Value}{A:Around}{outer:List Env}{s:Shared}{H:Hp}{E:XK}(hp:∀ d∈p.dfs,d.OkX p fo)(hi:p.In K mg)(hh:rj w K)(ih:qI p P w K mg base n)(S:cH N ps sc)
  (hr:eE n (A.deeper (envOfC nm sc s.heap.objs.size f cdv))):mU (dG CX P w K mg base N nm sc f cdv A outer s H E).nox ⟨N,sc,p.dfs.map (·.nm),p.se,p.eD⟩ ⟨p.run n,p.gl,p.fuel⟩:=by
 refine⟨⟨rfl,S.nd,fun x h=>nJ h,fun x h=>⟨iC h,.inl rfl⟩,fun x h=>pQ h,fun x h=>h,?_,rfl,fun j x hj=>?_,fun j x hj=>hi.gl j x hj,fun x h=>hi.blt x h⟩,rfl,S.kind,PassesOwn.never⟩
 ·exact⟨Nat.lt_of_le_of_lt (Nat.add_le_add_left (by decide:40<=64) _) hr.units,hh⟩
 ·obtain⟨e,he,hx⟩:=kH hj;obtain⟨f',fd',F',M'⟩:=hi.fn j e he;have B':=F'.binds (hp e (List.mem_of_getElem? he)).bd;subst hx;refine⟨f',fd',e.ps,n,ih j e he f' fd' F',hr,M',F'.kp,B',fun ds r h=>?_⟩;have h:p.run n j ds = .ok r:=h;cases n with
  |zero=>cases h
  |succ n =>
   unfold Pg.run Pc.run at h;have:p.fns[j]? = some ⟨e.ps.length,e.N.length,e.body⟩:=by unfold Pg.fns;rw[List.getElem?_map,he];rfl
   rw[this] at h;dsimp only at h;by_cases hl:ds.length=e.ps.length
   ·exact hl
   ·rw[if_neg hl] at h;cases h
end
section
variable {X:Cx}{pins:List (Addr×Obj)}{σ:L2.St}{H:Hp}{s:Shared}{D:Ends}{W:Value->Hp->Prop}
end
def fY (h:Heap)(e:Addr)(od:Option Addr):Prop:=∃ o,h.get? e=some o/\o.dict=od
theorem j4 (o:Obj)(f):(o.mapFields f).dict=o.dict:=by
 unfold Obj.mapFields;split<;>rfl
section
variable {M:Model}{A:Around}{E:Value->Shared->Prop}{s:Shared}{base:Heap}{env:Env}{outer l:List Env}{L e:Addr}{oe:Obj}{vs:Array Value}{head a0 cls fl:Value}{hadNext:Bool}{od:Option Addr}
theorem uw {Q:Unit->Shared->Prop}(fr:A.frames=some (env::outer))(ff:s.heap.FunFrames base (env::outer))(ef:env.frame=some L)(at_:s.heap.get? e=some oe)(st:base.StaysIn s.heap)(nw:base.get? e=none)(da:oe.data = .fields vs)(sz:1<vs.size)
  (v0:vs[0]? = some a0) (k:∀ h',Heap.NotedW base (env::outer) e oe.cls a0 (rawInt L) s.heap h'->fY h' e oe.dict->Q () { s with heap:=h' }) :
  wpAny M A (do let a <- frameOf env;let pl <- entryPlaceOf L hadNext;let b <- EntryCells.newEntry head a .none (rawInt L) .none pl;setField (.ref e) 1 b) Q E s:=by
 have nofr:e∉(env::outer).filterMap (·.frame):=fun z=>by
  obtain⟨_,o,ho,nf⟩:=ff.mem z;rw[at_] at ho;cases ho;exact nf vs da
 refine wpAny_bind (wpAny_frameOf_fun fr ff ef fun g so=>wpAny_bind (wpAny_entryPlaceOf fun pl hp=>?_));unfold EntryCells.newEntry newFields;refine wpAny_bind (wpAny_newObj_type ?_ (hp.sizeOk5 _ _ _ _ _));have at1:g.get? e=some oe:=(so.2.1 e nofr).trans at_;have st1:base.StaysIn g:=fun b o q=>(so.2.1 b fun z=>by rw[(ff.mem z).1] at q;cases q).trans (st b o q)
 generalize hT:({ cls:=.type "traceback",dict:=none,data:=.fields ([head,.ref L,.none,rawInt L,.none]++(if pl.isEmpty then List.replicate 6 Value.none else pl)).toArray }:Obj)=oT;have frT:oT.isFreed=false:=by subst hT;rfl
 have daT:oT.data = .fields ([head,.ref L,.none,rawInt L,.none]++(if pl.isEmpty then List.replicate 6 Value.none else pl)).toArray:=by subst hT;rfl
 have at2:=Heap.get?_push_of_some oT at1;refine wpAny_setField at2 da sz (k _ ?_ ?_)
 ·have ne:g.objs.size≠e:=gm (Heap.lt_size at1);have da3:=Obj.data_mapFields da (·.setIfInBounds 1 (Value.ref g.objs.size));have at3:=Heap.get?_update_self (Obj.mapFields (·.setIfInBounds 1 (Value.ref g.objs.size))) at2 (Obj.isFreed_of_fields da3);have tb3:=(Heap.get?_update_other (g.push oT) (Obj.mapFields (·.setIfInBounds 1 (Value.ref g.objs.size))) (cj ne)).trans (Heap.get?_push_size g frT);have kp:∀ b o,b≠e->g.get? b=some o->((g.push oT).update e (Obj.mapFields (·.setIfInBounds 1 (Value.ref g.objs.size)))).get? b=some o:=fun b o hb q =>
   (Heap.get?_update_other _ _ (cj hb)).trans (Heap.get?_push_of_some _ q)
  have nrec:∀ b o,s.heap.get? b=some o->(∀ ws,o.data≠.fields ws)->b≠e:=fun b o q nf z=>by
   subst z;rw[at_] at q;cases q;exact nf vs da
  refine⟨fun b o q=>kp b o (fun z=>by rw[z,nw] at q;cases q) (st1 b o q),ff.of_keeps fun b o q nf=>?_,⟨_,_,g.objs.size,_,_,at3,⟨Obj.cls_mapFields _ _,by rw[Array.getElem?_setIfInBounds_ne (by decide)];exact v0⟩,da3,by simp[sz],st1.fresh,ne,tb3,daT,?_⟩,fun b o q nf=>?_⟩
  ·obtain⟨sl,q1⟩:=so.2.2 b o q;exact⟨_,kp b _ (nrec b o q nf) q1,rfl⟩
  ·rcases hp with rfl | ⟨_,_,_,_,_,_,_,rfl⟩<;>simp
  ·obtain⟨sl,q1⟩:=so.2.2 b o q;exact⟨sl,kp b _ (nrec b o q nf) q1⟩
 ·exact⟨_,Heap.get?_update_self _ at2 (Obj.isFreed_of_fields (Obj.data_mapFields da _)),j4 _ _⟩
theorem mL {Q:Unit->Shared->Prop}(st:base.StaysIn s.heap)(ff:s.heap.FunFrames base l)(tr:s.heap.TracedAtW base e cls a0 fl)(dc:fY s.heap e od)
  (k:∀ h',base.StaysIn h'->h'.FunFrames base l->h'.TracedW base e cls a0->(∀ b o,s.heap.get? b=some o->(∀ ws,o.data≠.fields ws)->h'.get? b=some o)->fY h' e od->Q () { s with heap:=h' }) :
  wpAny M A (setFlight (.ref e) none) Q E s:=by
 obtain⟨ob,ws,T,oT,ts,e1,e2,e3,e4,e5,e6,e7,e8,e9⟩:=tr;have z3:3<ts.size:=(Array.getElem?_eq_some_iff.mp e9).1;have ot:∀ b,b≠T->(s.heap.update T (Obj.mapFields (·.setIfInBounds 3 ((none:Option Addr).elim Value.none fun f=>rawInt f)))).get? b=s.heap.get? b:=fun b hb=>Heap.get?_update_other _ _ (cj hb)
 have nrec:∀ b o,s.heap.get? b=some o->(∀ us,o.data≠.fields us)->b≠T:=fun b o q nf z=>by
  subst z;rw[e7] at q;cases q;exact nf ts e8
 unfold setFlight;refine wpAny_bind (wpAny_field e1 e3 e4 ?_);rw[if_pos (show (Value.ref T != Value.none)=true from by simp)];refine wpAny_setField e7 e8 z3 (k _ (fun b o q=>(ot b fun z=>by rw[z,e5] at q;cases q).trans (st b o q)) (ff.of_keeps fun b o q nf=>⟨o,(ot b (nrec b o q nf)).trans q,rfl⟩) ?_ (fun b o q nf=>(ot b (nrec b o q nf)).trans q) ?_)
 ·exact⟨ob,ws,T,_,_,(ot e (Ne.symm e6)).trans e1,e2,e3,e4,e5,e6,Heap.get?_update_self _ e7 (Obj.isFreed_of_fields (Obj.data_mapFields e8 _)),Obj.data_mapFields e8 _,by simp[z3]⟩
 ·obtain⟨o,q1,q2⟩:=dc;exact⟨o,(ot e (cj e6)).trans q1,q2⟩
theorem zE {Q:Unit->Shared->Prop}(fr:A.frames=some (env::outer))(ff:s.heap.FunFrames base (env::outer))(ef:env.frame=some L)(at_:s.heap.get? e=some oe)(st:base.StaysIn s.heap)(nw:base.get? e=none)(da:oe.data = .fields vs)(v1:vs[1]? = some .none)
  (v0:vs[0]? = some a0) (k:∀ h',Heap.FlyingW base outer e oe.cls a0 h'->s.heap.UpToSlots h'->fY h' e oe.dict->Q () { s with heap:=h' }):wpAny M A (leaving env (.ref e)) Q E s:=by
 unfold leaving noteFrame;simp only[ef];refine wpAny_bind (wpAny_bind (wpAny_field at_ da v1 ?_));rw[if_neg (by decide)];refine uw fr ff ef at_ st nw da (Array.getElem?_eq_some_iff.mp v1).1 v0 fun g ⟨n1,n2,n3,n4⟩ dc=>?_
 refine mL (s:={ s with heap:=g }) n1 n2 n3 dc fun h' k1 k2 k3 k4 k5=>k h' ⟨k1,nw,?_,k3⟩ (fun b o q nf=>?_) k5
 ·obtain⟨_,_,z⟩:=k2;exact z
 ·obtain⟨sl,q1⟩:=n4 b o q nf;exact⟨sl,k4 b _ q1 nf⟩
theorem Bt {Q:Unit->Shared->Prop}(fr:A.frames=some (env::outer))(ef:env.frame=some L)(f:Heap.FlyingW base (env::outer) e cls a0 s.heap)(dc:fY s.heap e od)
  (k:∀ h',Heap.HeldW base (env::outer) e cls a0 L h'->s.heap.UpToSlots h'->fY h' e od->Q () { s with heap:=h' }):wpAny M A (noteFrame (.ref e) env) Q E s:=by
 obtain⟨f1,f2,f3,ob,ws,T,oT,ts,e1,⟨rfl,e2⟩,e3,e4,e5,e6,e7,e8,e9⟩:=f;have hdic:ob.dict=od:=by
  obtain⟨o,q1,q2⟩:=dc;rw[e1] at q1;cases q1;exact q2
 unfold noteFrame;simp only[ef];refine wpAny_bind (wpAny_field e1 e3 e4 ?_);rw[if_pos (show (Value.ref T != Value.none)=true from by simp)];refine wpAny_bind (wpAny_field e7 e8 e9 ?_);rw[if_neg (show ¬ ((Value.none==rawInt L)=true) from by simp[rawInt])];refine wpAny_bind (wpAny_setField e7 e8 (Array.getElem?_eq_some_iff.mp e9).1 ?_);have ot:∀ b,b≠T->(s.heap.update T (Obj.mapFields (·.setIfInBounds 3 Value.none))).get? b=s.heap.get? b:=fun b hb=>Heap.get?_update_other _ _ (cj hb)
 have nrec:∀ b o,s.heap.get? b=some o->(∀ us,o.data≠.fields us)->b≠T:=fun b o q nf z=>by
  subst z;rw[e7] at q;cases q;exact nf ts e8
 refine uw fr (f3.of_keeps fun b o q nf=>⟨o,(ot b (nrec b o q nf)).trans q,rfl⟩) ef ((ot e (cj e6)).trans e1) (fun b o q=>(ot b fun z=>by rw[z,e5] at q;cases q).trans (f1 b o q)) f2 e3 (Array.getElem?_eq_some_iff.mp e4).1 e2 fun h' ⟨n1,n2,n3,n4⟩ d'=>?_
 exact k h' ⟨n1,f2,n2,n3⟩ (fun b o q nf=>n4 b o ((ot b (nrec b o q nf)).trans q) nf) (hdic ▸ d')
theorem Ay {Q:Unit->Shared->Prop}(f:Heap.HeldW base l e cls a0 L s.heap)(dc:fY s.heap e od)(k:∀ h',Heap.FlyingW base l e cls a0 h'->s.heap.UpToSlots h'->fY h' e od->Q () { s with heap:=h' }):wpAny M A (setFlight (.ref e) none) Q E s:=by
 obtain⟨f1,f2,f3,f4⟩:=f;exact mL f1 f3 f4 dc fun h' k1 k2 k3 k4 k5=>k h' ⟨k1,f2,k2,k3⟩ (fun b o q nf=>⟨o.slots,k4 b o q nf⟩) k5
theorem Ak {Q:Unit->Shared->Prop}(f:Heap.FlyingW base l e cls a0 s.heap)(dc:fY s.heap e od)(k:∀ h',Heap.FlyingW base l e cls a0 h'->s.heap.UpToSlots h'->fY h' e od->Q () { s with heap:=h' }):wpAny M A (setFlight (.ref e) none) Q E s:=by
 obtain⟨f1,f2,f3,f4⟩:=f;exact mL f1 f3 f4.at dc fun h' k1 k2 k3 k4 k5=>k h' ⟨k1,f2,k2,k3⟩ (fun b o q nf=>⟨o.slots,k4 b o q nf⟩) k5
end
def xA (x:Str)(h:Heap)(e:Addr)(n:Int):Prop:=∃ dx m u,fY h e (some dx)/\h.Ns dx m/\m x=some (.int n u)
noncomputable def qG (K:PySem.W.Frag)(ns:List Str):List Value->Bool
 |[]=>fM == []
 |v::r=>(v::r)==fM || match v with
  |.ref A=>(match K.lookup A with
   |some ⟨_,_,.cls cd,_⟩=>PySem.W.nsOkIn K cd.ns&&ns.all (fun n=>PySem.W.nsIn K cd.ns n==some none)&&qG K ns r
   |_=>false)
  |_=>false
theorem og {K:PySem.W.Frag}{h:Heap}{ns:List Str}(kin:K.In h):∀{l:List Value},qG K ns l=true->fT h fM ns l
 | [],e=>by
  have e:(fM==([]:List Value))=true:=e;rw[<-fb.mp e];exact .base
 | v::r,e=>by
  unfold qG at e;rcases Bool.or_eq_true_iff.mp e with q | q
  ·rw[fb.mp q];exact .base
  ·split at q
   ·split at q
    ·rename_i ho;simp only[Bool.and_eq_true,List.all_eq_true,beq_iff_eq] at q;exact .own (kin _ _ ho) (.of_isNs (PySem.W.isNs_of_in kin q.1.1)) (fun n hn=>PySem.W.nsMap_none_of_in kin q.1.1 (q.1.2 n hn)) (og kin q.2)
    ·cases q
   ·cases q
theorem ph {K:PySem.W.Frag}{h:Heap}{N:Addr}{m:Str->Option Value}{n:Str}{v:Value}(kin:K.In h)(G:h.Ns N m)(e:PySem.W.nsIn K N n=some (some v)):m n=some v:=by
 obtain⟨o,es,ep,ho,hd,_,hf⟩:=G;unfold PySem.W.nsIn at e;split at e
 ·rename_i q;have:=kin _ _ q;rw[ho] at this;cases this;cases hd;split at e
  ·rename_i he;rw[<-hf];unfold nsFind findBy;rw[<-Array.find?_toList,he];simpa using e
  ·split at e<;>cases e
 ·cases e
noncomputable def rz (K:PySem.W.Frag)(C:Addr)(ns:List Str)(fI:Addr):Bool:=match K.lookup C with
 |some ⟨.type "type",_,.cls cd,sl⟩=>(match cd.mro,sl.toList with
  | .ref C'::bm,[_,_,_,_,some (.builtin n),_]=>C'==C&&n == "ValueError.__new__" && !cd.hasDel&&cd.hasDict&&PySem.W.tailIn K fM bm&&qG K ns bm&&PySem.W.nsOkIn K cd.ns&&ns.all (fun n=>PySem.W.nsIn K cd.ns n==some none)&&PySem.W.nsIn K cd.ns "__init__" == some (some (.ref fI))
  |_,_=>false)
 |_=>false
structure IniF (K:PySem.W.Frag)(h:Heap)(C:Addr)(ns:List Str)(fI:Addr)(bm:List Value):Prop where
 ex:∃ nm q N bs sn sub ab col dd k0 k1 k2 k3 k5 mN,h.get? C=some (excClassObj nm q C N bs bm true sn sub ab col dd k0 k1 k2 k3 k5 "ValueError.__new__")/\h.Ns N mN/\(∀ n∈ns,mN n=none)/\mN "__init__" = some (.ref fI)
 tail:OwnTail h fM bm
 tn:fT h fM ns bm
theorem iG {K:PySem.W.Frag}{h:Heap}{C fI:Addr}{ns:List Str}(kin:K.In h)(q:rz K C ns fI=true):∃ bm,IniF K h C ns fI bm:=by
 unfold rz at q;split at q
 ·rename_i dd cd sl ho;split at q
  ·rename_i C' bm k0 k1 k2 k3 n k5 hm hs;simp only[Bool.and_eq_true,beq_iff_eq,Bool.not_eq_true',List.all_eq_true] at q;obtain⟨⟨⟨⟨⟨⟨⟨⟨rfl,rfl⟩,hdel⟩,hdc⟩,ht⟩,hnt⟩,hok⟩,hnn⟩,hi⟩:=q;obtain⟨nm,bs,mro,ns',qn,hd,sn,sub,ab,col,del⟩:=cd;dsimp only at hm hdel hok hi hdc hnn;subst hm hdel hdc;have hsl:sl = #[k0,k1,k2,k3,some (.builtin "ValueError.__new__"),k5]:=by
    obtain⟨l⟩:=sl;simp only at hs;rw[hs]
   subst hsl;have G:h.Ns ns' _:=.of_isNs (PySem.W.isNs_of_in kin hok);exact⟨bm,⟨nm,qn,ns',bs,sn,sub,ab,col,dd,k0,k1,k2,k3,k5,_,kin _ _ ho,G,fun n hn=>PySem.W.nsMap_none_of_in kin hok (hnn n hn),ph kin G hi⟩,PySem.W.tail_of_in kin ht,og kin hnt⟩
  ·cases q
 ·cases q
theorem nu {self:Value}{what:Str}{h:Heap}{bm:List Value}(T:OwnTail h fM bm):refuseLoop self what bm=refuseLoop self what fM:=by
 induction T with
 |base=>rfl
 |own _ _ _ _ ih=>rw[refuseLoop_ref];exact ih
section
variable {prog:Program}{w:World}{A:Around}{E:Value->Shared->Prop}{h:Heap}{g:Array GenState}{d:Drawn}{t:Nat}{os:OsState}{e:Addr}{oe:Obj}{vs:Array Value}{ns:List Str}
 {nm q:Str}{C N:Addr}{bs bm:List Value}{sn:List Str}{sub:List Value}{ab:Bool}{col:Option Bool}{dd:Option Addr}{k0 k1 k2 k3 k5:Option Value}{newId:String}{mN:Str->Option Value}{x:Str}{v:Value}
theorem uU {M:Model}{nameV:Value}{Q:Unit->Shared->Prop}(hC:h.get? C=some (excClassObj nm q C N bs bm true sn sub ab col dd k0 k1 k2 k3 k5 newId))(T:OwnTail h fM bm)(he:h.get? e=some oe)(hc:oe.cls = .ref C)(hq:Q () ⟨h,g,d,t,os⟩) :
  wpAny M A (checkBuiltinCall "object.__setattr__" ⟨[.ref e,nameV,v],[]⟩) Q E ⟨h,g,d,t,os⟩:=by
 have SF:=F.store_ValueError;have hcB:(Value.ref C::bm).contains (.type "object")=true:=by rw[cq,T.hasType (show fM.contains (.type "object")=true by decide),eu]
 have ha:=SF.args (.ref e) nameV v;simp only[checkBuiltinCall,SF.kind,SF.split];refine wpAny_bind ?_;unfold isInstance
 repeat (first | (with_reducible refine wpAny_loadPart_at he ?_;rw[hc]) | (with_reducible refine wpAny_isSubtype_exc hC ?_;rw[hcB]) | wp_step)
 exact hq
theorem set_own {Q:Unit->Shared->Prop}(hC:h.get? C=some (excClassObj nm q C N bs bm true sn sub ab col dd k0 k1 k2 k3 k5 newId))(hN:h.Ns N mN)(hmN:∀ n∈ns,mN n=none)(T:OwnTail h fM bm)(TN:fT h fM ns bm)(n1:("__setattr__" : Str)∈ns) (n2:x∈ns)
  (hB:typeLookup (.type "ValueError") x=pure none) (he:h.get? e=some oe) (hc:oe.cls = .ref C) (hdn:oe.dict=none) (hd:oe.data = .fields vs)
  (hq:∀ h' tk dx,h'.get? e=some { oe with dict:=some dx }->h.get? dx=none->h'.Ns dx (fun y=>if y=x then some v else none)->(∀ b o,b≠e->h.get? b=some o->h'.get? b=some o)->Q () ⟨h',g,d,tk,os⟩) :
  wpAny (model prog w) A (setAttr (.ref e) x v) Q E ⟨h,g,d,t,os⟩:=by
 have SF:=F.store_ValueError;have f3:=SF.slot.bind (.ref e);unfold setAttr callSpecial? specialOf
 repeat (any_goals (first | assumption | (with_reducible refine wpAny_loadPart_at he ?_;rw[hc]) | with_reducible refine dH n1 hC hN hmN TN SF.mro SF.slot.lookup ?_ | wp_step))
 refine codeAny_call_builtin SF.slot.plain SF.entry (uU hC T he hc ?_);have hpass:=SF.passes (.ref e);unfold Builtin.«object.__setattr__»
 repeat (first | rw[refuse_eq] | (rw[refuseLoop_ref,nu T,hpass]) | (with_reducible refine wpAny_loadPart_at he ?_;rw[hc]) | with_reducible refine wpAny_mroOf_exc hC ?_ | with_reducible refine dH n2 hC hN hmN TN SF.mro hB ?_ | wp_step)
 rw[hdn,if_neg (by simp[typeHasDict])];split
 ·rename_i z;cases z
 split
 ·rename_i z;rw[hd] at z;cases z
 have he1:(h.push { cls:=.type "dict",data:=.dict #[] }).get? e=some oe:=Heap.get?_push_of_some _ he;have ne:e≠h.objs.size:=ba (Heap.lt_size he);refine wpAny_bind (wpAny_alloc' (wpAny_bind (wpAny_update' he1 (wpAny_pure ?_))));have gd:((h.push { cls:=.type "dict",data:=.dict #[] }).update e fun o=>{ cls:=o.cls,dict:=some h.objs.size,data:=o.data,slots:=o.slots }).get? h.objs.size=some { cls:=.type "dict",data:=.dict #[] } :=
  (Heap.get?_update_ne _ _ _ _ ne.symm).trans (Heap.get?_push_at rfl rfl)
 have nd:((h.push { cls:=.type "dict",data:=.dict #[] }).update e fun o=>{ cls:=o.cls,dict:=some h.objs.size,data:=o.data,slots:=o.slots }).Ns h.objs.size (fun _=>none) :=
  ⟨_,#[],_,gd,rfl,fun _ z=>absurd z (by simp),fun _=>rfl⟩
 show wpAny _ _ (Builtin.ObjectAttr.storeInDict h.objs.size (.str x _) x v) _ _ _;unfold Builtin.ObjectAttr.storeInDict Builtin.ObjectAttr.newKeyGuard;refine wpAny_bind (wpAny_pure (wpAny_bind (wpAny_nsSet1 (Heap.Ns1.of_empty nd) fun h' hn' hs=>?_)));obtain⟨oD,esD,epD,hoD,hdD,hcD⟩:=hn'.count (Within.cons x v Within.nil);refine wpAny_bind (wpAny_lookBehind hoD (by rw[hdD];exact pastItsLine_dict (bc hcD (by rw[be,dz,sizeLine_eq];omega))) ?_)
 repeat (any_goals (first | assumption | wp_step))
 refine hq h' _ h.objs.size ?_ (Heap.get?_none_of_le (aq _)) hn'.ns fun b o hb q=>?_
 ·refine (hs.2 e ne).trans (Heap.get?_update_self _ he1 ?_);have fr:=(Heap.get?_some_iff.mp he).2;obtain⟨oc,od,odt,osl⟩:=oe;cases odt<;>first | rfl | exact fr
 ·exact (hs.2 b (ba (Heap.lt_size q))).trans ((Heap.get?_update_ne _ _ _ _ hb).trans (Heap.get?_push_of_some _ q))
end
noncomputable abbrev lZ (C:Addr)(t0:Addr):Obj:={ cls:=.ref C,data:=.fields #[.ref t0,.none,.none,.none,.bool false,.none] }
section
variable {prog:Program}{w:World}{A:Around}{E:Value->Shared->Prop}{h:Heap}{g:Array GenState}{d:Drawn}{t:Nat}{os:OsState}{e t0:Addr}{us:List Value}
 {nm q:Str}{C N fI:Addr}{bs bm:List Value}{hdct:Bool}{sn:List Str}{sub:List Value}{ab:Bool}{col:Option Bool}{dd:Option Addr}{k0 k1 k2 k3 k5:Option Value}{mN:Str->Option Value}
theorem rk {Q:Value->Shared->Prop}(hC:h.get? C=some (excClassObj nm q C N bs bm hdct sn sub ab col dd k0 k1 k2 k3 k5 "ValueError.__new__")) (T:OwnTail h fM bm) (he:h.get? e=some (lZ C t0)) (hl:us.length<=sizeLine)
  (hq:∀ h' t1,h'.get? e=some (lZ C t1)->h.get? t1=none->(∀ b o,b≠e->h.get? b=some o->h'.get? b=some o)->Q .none ⟨h',g,d,t,os⟩) :
  wpAny (model prog w) A (call (.builtin "ValueError.__init__") (.ref e::us)) Q E ⟨h,g,d,t,os⟩:=by
 have FB:=PySem.F.excBase_ValueError;refine wpAny_call (codeAny_call_builtin FB.init.plain FB.initEntry (wpAny_check_init_subT FB T hC he rfl ?_))
 wp_walk
 have ne:e≠h.objs.size:=ba (Heap.lt_size he);refine hq _ h.objs.size ?_ (Heap.get?_none_of_le (aq _)) fun b o hb z=>?_
 ·rw[Heap.get?_update_self _ (Heap.get?_push_of_some _ he) rfl];rfl
 ·rw[Heap.get?_update_other _ _ (cj hb)];exact Heap.get?_push_of_some _ z
theorem rq {Q:Value->Shared->Prop}(hC:h.get? C=some (excClassObj nm q C N bs bm hdct sn sub ab col dd k0 k1 k2 k3 k5 "ValueError.__new__")) (hN:h.Ns N mN) (T:OwnTail h fM bm) (hi:mN "__init__" = some (.ref fI)) {oI:Obj}(hf:h.get? fI=some oI) (hfc:oI.cls = .type "function") (hl:us.length<=sizeLine)
  (hq:∀ h' e t0,h'.get? e=some (lZ C t0)->h.get? e=none->(∀ b o,h.get? b=some o->h'.get? b=some o) ->
   wpAny (model prog w) (A.under (.builtin "type.__call__" ⟨.ref C::us,[]⟩)) (call (.ref fI) (.ref e::us)) (fun r s'=>r = .none/\Q (.ref e) s') E ⟨h',g,d,t,os⟩) :
  wpAny (model prog w) A (call (.ref C) us) Q E ⟨h,g,d,t,os⟩:=by
 have FB:=PySem.F.excBase_ValueError;have f1:=tc_lookup;have f2:=tc_bind (.ref C);have hT:(⟨h,g,d,t,os⟩:Shared).TypeIs (.ref C) "type":=⟨_,hC,rfl⟩;refine wpAny_call (codeAny_of_tree ?_);show wpAny _ _ (callAny (.ref C) _) _ _ _
 repeat (any_goals (first | assumption | with_reducible refine wpAny_loadPart_at hC ?_ | wp_step))
 refine⟨rfl,codeAny_call_builtin_at (Code.quiet_builtin _ (by decide +kernel)) entry_typeCall (wpAny_check_type_call_sub hC ?_)⟩
 repeat (first | with_reducible refine wpAny_loadPart_at hC ?_ | with_reducible refine wpAny_madeBy_exc hC ?_ | wp_step)
 refine codeAny_call_builtin_code (Code.quiet_builtin _ FB.quiet) (wpAny_check_new_subT FB T hC (codeAny_exc_new_subT FB T hC ?_ hl));show wpAny _ _ _ _ _ ⟨(h.push { cls:=.type "tuple",data:=.seq us.toArray }).push (lZ C h.objs.size),g,d,t,os⟩;generalize htu:({ cls:=.type "tuple",data:=.seq us.toArray }:Obj)=ot;have kp:∀ b o,h.get? b=some o->((h.push ot).push (lZ C h.objs.size)).get? b=some o:=fun b o z=>Heap.get?_push_of_some _ (Heap.get?_push_of_some _ z)
 have hC1:=kp _ _ hC;have hf1:=kp _ _ hf;have hN1:=hN.keeps kp;have hg:((h.push ot).push (lZ C h.objs.size)).get? (h.objs.size+1)=some (lZ C h.objs.size):=by
  subst htu
  heap_get
 have hcC:(Value.ref C::bm).contains (.ref C)=true:=by simp
 unfold isInstance
 repeat (first | with_reducible refine wpAny_loadPart_at hg ?_ | (with_reducible refine wpAny_isSubtype_exc hC1 ?_;rw[hcC]) | wp_step)
 show wpAny _ _ (typeLookup (.ref C) _) _ _ _;refine wpAny_typeLookup_tail hC1 hN1 (T.keeps kp) FB.mroIs FB.init.lookup ?_;rw[hi];refine wpAny_holding (wpAny_bind ?_);unfold bindSpecial;refine wpAny_bind (wpAny_typeOf (T:="function") ⟨_,hf1,hfc⟩ ?_);rw[if_pos (by decide)];refine wpAny_pure (wpAny_bind (wpAny_mono (hq _ _ _ hg (Heap.get?_none_of_le (Nat.le_succ _)) kp) (fun r s' z=>?_) fun _ _ z=>z));obtain⟨rfl,z⟩:=z
 wp_walk
 exact z
end
noncomputable abbrev ins (x:Str):List Str:=["__getattribute__","__getattr__","__class__","__setattr__",x]
noncomputable abbrev xD (C t0 dx:Addr):Obj:={ cls:=.ref C,dict:=some dx,data:=.fields #[.ref t0,.none,.none,.none,.bool false,.none] }
structure x8 (st:Stmt)(S x:Str):Prop where
 ex:∃(c1 c2:Str) (p1 p2 p3 p4 p5 p6 p7 p8 p9 p10 p11 p12 p13 p14:Pos),aY st=[.Expr (.Call (.Attribute (.Name S p1) "__init__" p2) [.Name "self" p3,.JoinedStr [.Constant (.str c1) 0 p4,.FormattedValue (.Name x p5) (-1) none p6,.Constant (.str c2) 0 p7] p8] [] p9) p10,
   .Assign [.Attribute (.Name "self" p11) x p12] (.Name x p13) p14] /\
  (p2.endLine==p9.line)=true/\c1.length<=1000/\c2.length<=1000
 sc:cH ["self",x] ["self",x] (aB st)
 gl:(aB st).names.lookup S=some .globalImplicit
 l1:(aB st).names.lookup ("self" : Str)=some .local
 l2:(aB st).names.lookup x=some .local
 ne:x≠"self"
 db:(S==("__debug__" : Str))=false/\(x==("__debug__" : Str))=false
structure w8 (K:PySem.W.Frag)(mg:Str->Option Value)(S x qual:Str)(C cS fI:Addr)(fd:FuncData)(st:Stmt):Prop where
 hS:mg S=some (.ref cS)
 cls:rz K C (ins x) fI=true
 keep:PySem.W.keepIn K (.ref C)=true
 ga:PySem.W.specialIn K (.ref cS) "__getattribute__" = some (some (.builtin "type.__getattribute__"))
 rd:PySem.W.readsIn K cS (.type "type")=true
 fc:PySem.W.findCls K (.ref cS) (.type "type") "__init__" = some (.val (.builtin "ValueError.__init__"))
 F:L2.qJ K "__init__" qual st fI fd
 ft:(K.lookup fI).any (fun o=>o.cls == .type "function")=true
 bd:Binds K fd ["self",x] []
 s:x8 st S x
 nx:typeLookup (.type "ValueError") x=pure none
theorem log2_small {n:Int}(h:n.natAbs<2 ^ 64):n.natAbs.log2<1920:=by
 by_cases z:n.natAbs=0
 ·rw[z];decide
 ·have:=(Nat.log2_lt z).mpr h;omega
section
variable {P:Program}{w:World}{K:PySem.W.Frag}{mg:Str->Option Value}{base:Heap}{A:Around}{E:Value->Shared->Prop}{s:Shared}{e t0 C cS fI:Addr}{fd:FuncData}{st:Stmt}{S x qual:Str}{n:Int}{u:Tok}
theorem tU {Q:Value->Shared->Prop}(mod:Mod K mg base)(ks:∀ b o,base.get? b=some o->s.heap.get? b=some o)(k:w8 K mg S x qual C cS fI fd st)(hn:n.natAbs<2 ^ 64)(hd:A.depth<recursionLimit)(he:s.heap.get? e=some (lZ C t0))(hb:base.get? e=none)
  (hq:∀ s' t1 dx,s'.os=s.os->s'.gens=s.gens->s'.drawn=s.drawn->s'.heap.get? e=some (xD C t1 dx)->(∃ m,s'.heap.Ns dx m/\m x=some (.int n u))->s.heap.get? dx=none->(∀ b o,b≠e->s.heap.get? b=some o->s'.heap.get? b=some o)->Q .none s') :
  wpAny (model P w) A (call (.ref fI) [.ref e,.int n u]) Q E s:=by
 obtain⟨oc,od,kV,doc,pm,an,cdv,ct,osl,rfl,lk,hcd⟩:=k.F.ex;obtain⟨c1,c2,p1,p2,p3,p4,p5,p6,p7,p8,p9,p10,p11,p12,p13,p14,hbody,hline,hc1,hc2⟩:=k.s.ex;have KX:K.In s.heap:=mod.kin.keeps ks;have lim:s.heap.NoLimit:=mod.nolimit.keeps ks;have sc:=k.s.sc;have hkind:∀ y∈[("self" : Str),x].zip [Value.ref e,.int n u],(aB st).names.lookup y.1=some .local\/((aB st).names.lookup y.1=some .cell/\((cellsFrom (s.heap.objs.size+1) (aB st).names []).lookup y.1).isSome=true):=fun y hy=>by
  rcases bw.mp hy with rfl | hy
  ·exact .inl k.s.l1
  ·rcases bw.mp hy with rfl | hy
   ·exact .inl k.s.l2
   ·cases hy
 refine wpAny_call (codeAny_call_function hd (KX _ _ lk) rfl sc.co sc.gen rfl (PySem.W.codeRec_of KX hcd) (k.bd s [.ref e,.int n u] KX rfl _ _ _ _ ?_));refine wpAny_newFunctionEnv_cells sc.kind hkind fun env henv s1 x1=>?_
 subst henv;refine⟨lim.keeps x1.toInCall.keep,codeAny_func ?_⟩;show wpAny _ (A.deeper (envOfC qual (aB st) s.heap.objs.size fI cdv)) (execs (aY st) (envOfC qual (aB st) s.heap.objs.size fI cdv)) _ _ _;rw[hbody];have hk0:(envOfC qual (aB st) s.heap.objs.size fI cdv).scope.kind = .function:=sc.kind;have hns:s1.heap.Ns s.heap.objs.size (bindL (envOfC qual (aB st) s.heap.objs.size fI cdv).kindOf ([("self" : Str),x].zip [Value.ref e,.int n u]) fun _=>none):=x1.toInCall.ns;obtain⟨h1,tk,rfl,kp1⟩:=x1.done;have nd:[("self" : Str),x].Nodup:=sc.nd;have m1:=gU (m:=fun _=>none) (kindOf:=(envOfC qual (aB st) s.heap.objs.size fI cdv).kindOf) (vs:=[Value.ref e,.int n u]) (i:=0) nd rfl rfl k.s.l1;have m2:=gU (m:=fun _=>none) (kindOf:=(envOfC qual (aB st) s.heap.objs.size fI cdv).kindOf) (vs:=[Value.ref e,.int n u]) (i:=1) nd rfl rfl k.s.l2;generalize hm:bindL (envOfC qual (aB st) s.heap.objs.size fI cdv).kindOf ([("self" : Str),x].zip [Value.ref e,.int n u]) (fun _=>none)=m at m1 m2 hns;have hns:h1.Ns s.heap.objs.size m:=hns;have ld1:∀{A':Around}{E':Value->Shared->Prop}{s':Shared}{p:Pos}{Q':Value->Shared->Prop},s'.heap.Ns s.heap.objs.size m->Q' (.ref e) s'->wpAny (model P w) A' (eval (.Name "self" p) (envOfC qual (aB st) s.heap.objs.size fI cdv)) Q' E' s' :=
  fun hn' hq'=>wpAny_Name (wpAny_loadName_local hk0 k.s.l1 hn' m1 hq') (by decide)
 have ld2:∀{A':Around}{E':Value->Shared->Prop}{s':Shared}{p:Pos}{Q':Value->Shared->Prop},s'.heap.Ns s.heap.objs.size m->Q' (.int n u) s'->wpAny (model P w) A' (eval (.Name x p) (envOfC qual (aB st) s.heap.objs.size fI cdv)) Q' E' s' :=
  fun hn' hq'=>wpAny_Name (wpAny_loadName_local hk0 k.s.l2 hn' m2 hq') k.s.db.2
 have hlog:=log2_small hn;have kb:∀ b o,base.get? b=some o->h1.get? b=some o:=fun b o z=>kp1 b o (ks b o z)
 have K1:K.In h1:=mod.kin.keeps kb;have eL:e≠s.heap.objs.size:=ba (Heap.lt_size he);have he1:=kp1 _ _ he;obtain⟨bm,FI⟩:=iG K1 k.cls;obtain⟨nm,q,N,bs,sn,sub,ab,col,dd,k0,k1,k2,k3,k5,mN,hC,hN,hmN,hi⟩:=FI.ex;have neC:C≠e:=fun z=>by rw[z,he1] at hC;cases hC
 refine wpAny_execs_cons (wpAny_Expr_any ?_ (by simp[interactive,hk0]) rfl);rw[arm_eval_Call];refine wpAny_bind (Calls.Name_function_global hk0 k.s.gl (Calls.loadGlobal_global (mg:=mg) (show Heap.Ns _ mainGlobals mg from mod.glob.keeps kb) k.hS ?_) k.s.db.1);refine wpAny_bind (wpAny_standAt ?_);have hpos:methodCallPos true (.Name S p1) (envOfC qual (aB st) s.heap.objs.size fI cdv) p2 p9=pure p9:=by unfold methodCallPos;simp[hline]
 unfold methodCall;rw[show methodCallForm _ _ _=true from rfl];refine wpAny_bind (wpAny_holding (PySem.W.method_cls (name:="__init__") K1 k.ga (PySem.W.cls_value (name:="__init__") K1 k.rd k.fc rfl ?_)));refine wpAny_bind (wpAny_of_eq hpos ?_);refine PySem.W.callWith_of (P:=fun _=>True) rfl (fun h _=>⟨.machine,.inr (.inl rfl),.now⟩) ?_;refine Calls.evalArgs_plain (Calls.spliced_cons (ld1 hns (Calls.spliced_cons ?_)));have l1:(Str.ofString (toString n)).length<=2000:=by
  rw[PySem.ofString_length];have:=int_text_length_le (k:=1920) (by decide) hlog;omega
 show wpAny _ _ (eval (.JoinedStr [.Constant (.str c1) 0 p4,.FormattedValue (.Name x p5) (-1) none p6,.Constant (.str c2) 0 p7] p8) (envOfC qual (aB st) s.heap.objs.size fI cdv)) _ _ _;refine wpAny_JoinedStr (Calls.Constant_str ⟨c1,_,rfl,?_,wpAny_FormattedValue_plain (ld2 hns (wpAny_formatField_int hlog ⟨_,_,rfl,?_,Calls.Constant_str ⟨c2,_,rfl,?_,?_,Calls.spliced_nil ⟨trivial,?_⟩⟩⟩))⟩)
 any_goals (simp only[strLen_append,sizeLine_eq];have:(Str.empty).length=0:=rfl;omega)
 refine rk hC FI.tail he1 (by rw[sizeLine_eq];exact (by decide:1<=16777216)) fun h2 t1 he2 hn2 kp2=>?_
 have ns2:h2.Ns s.heap.objs.size m:=by
  obtain⟨o,es,ep,z,r⟩:=hns;exact⟨o,es,ep,kp2 _ _ (cj eL) z,r⟩
 have kb2:∀ b o,base.get? b=some o->h2.get? b=some o:=fun b o z=>kp2 b o (fun y=>by rw[y,hb] at z;cases z) (kb b o z)
 obtain⟨bm',FI2⟩:=iG (mod.kin.keeps kb2) k.cls;obtain⟨nm',q',N',bs',sn',sub',ab',col',dd',j0,j1,j2,j3,j5,mN',hC2,hN2,hmN2,hi2⟩:=FI2.ex;refine wpAny_execs_cons (plainObj_wpAny_Assign_Attribute (ld2 ns2 (ld1 ns2 ?_)) rfl);refine set_own (oe:=lZ C t1) hC2 hN2 hmN2 FI2.tail FI2.tn (by simp) (by simp) k.nx he2 rfl rfl rfl fun h3 tk3 dx he3 hdx hn3 kp3=>?_
 refine wpAny_execs_nil (hq _ t1 dx rfl rfl rfl he3 ⟨_,hn3,by simp⟩ ?_ fun b o hbe z=>kp3 b o hbe (kp2 b o hbe (kp1 b o z)));cases z:s.heap.get? dx with
 |none=>rfl
 |some o =>
  by_cases y:dx=e
  ·rw[y,he2] at hdx;cases hdx
  ·rw[kp2 dx o y (kp1 dx o z)] at hdx;cases hdx
end
def Cz (x:Str)(B:Heap)(fr:List Addr)(h:Heap)(a:Addr)(n:Nat):Prop:=∃ dx m u,fY h a (some dx)/\h.Ns dx m/\m x=some (.int n u)/\B.get? dx=none/\dx∉fr
noncomputable def yq (x:Str)(P:Program)(w:World):nz:=fun outer H s E e s'=>∃ a C a0 H' B n,e = .ref a/\s'.os=s.os/\AllBare s'.gens/\Un (eN outer) [] H H' s.heap s'.heap/\g9 P w H' s'.heap /\
 Heap.FlyingW B outer a C a0 s'.heap/\Bf B (eN outer) H' s.heap s'.heap/\Cz x B (eN outer) s'.heap a n/\E C (some n) H'
section
variable {M:Model}{A:Around}{E:Value->Shared->Prop}{s:Shared}{env:Env}{nm q:Str}{C N:Addr}{bs bm:List Value}{hdct:Bool}{sn:List Str}{sub:List Value}{ab:Bool}{col:Option Bool}{dd:Option Addr}{k0 k1 k2 k3 k5:Option Value}{newId:String}
theorem rK {y:Sem Value}{Q:Flow->Shared->Prop}(hbase:bm.contains (.type "BaseException")=true) (hh:A.handled=none)
  (h:wpAny M A y (fun v s₁=>∃ e t dx,v = .ref e/\s₁.heap.get? C=some (excClassObj nm q C N bs bm hdct sn sub ab col dd k0 k1 k2 k3 k5 newId)/\s₁.heap.get? e=some (xD C t dx)/\E (.ref e) s₁) E s) :
  wpAny M A (raiseStmt env (some y) none) Q E s:=by
 have hcB:(Value.ref C::bm).contains (.type "BaseException")=true:=by rw[cq,hbase,eu]
 unfold raiseStmt;refine wpAny_bind (wpAny_mono h (fun v s₁ h₁=>?_) fun _ _ z=>z);obtain⟨e,t,dx,rfl,hC,he,hE⟩:=h₁;obtain⟨hp,g,d,tk,os⟩:=s₁
 repeat (first | with_reducible refine wpAny_loadPart_at he ?_ | with_reducible refine wpAny_loadPart_at hC ?_ | (with_reducible refine wpAny_isSubtype_exc hC ?_;rw[hcB]) | wp_step)
 exact wpAny_raiseNew_none hh hE
end
section
variable {X:Cx}
theorem ri {y S x qual:Str}{C cS fI:Addr}{fd:FuncData}{st:Stmt}{np cpos pos:Pos}{e:Expr}{t:TA}{W:Nat->Hp->Prop}(hc:X.calm=true)(hdp:X.A.depth+1<recursionLimit)(hg:Gl X y)(hm:X.mg y=some (.ref C))(k:w8 X.K X.mg S x qual C cS fI fd st)(ha:PA X [e] t)
  (hw:∀(pins:List (Addr×Obj)) (σ:L2.St) (H:Hp) (s:Shared) (h':Heap) (tk:Nat) (a t1 dx:Addr) (n:Nat) (u:Tok),W n H->Inv X pins σ H s->s.heap.get? a=none->h'.get? a=some (xD C t1 dx)->(∃ m,h'.Ns dx m/\m x=some (.int n u))->s.heap.get? dx=none ->
   (∀ b o,s.heap.get? b=some o->h'.get? b=some o)->X.xe (.ref a) { s with heap:=h',toks:=tk })
  (he:starEach [e] X.env=[(false,eval e X.env)]:=by rfl) (hd:(y==("__debug__" : Str))=false:=by decide) :
  PS X (.Raise (some (.Call (.Name y np) [e] [] cpos)) none pos) (fun D σ H=>t σ H fun vs H'=>∃ n:Nat,vs=[.int n]/\n<2 ^ 64/\W n H'):=by
 intro pins s σ H D I h;obtain⟨bm,FI⟩:=iG I.ok.mod.kin k.cls;obtain⟨nm,q,N,bs,sn,sub,ab,col,dd,k0,k1,k2,k3,k5,mN,hC,hN,hmN,hi⟩:=FI.ex;rw[arm_exec_Raise];simp only[evalOpt,Option.map];refine wpAny_bind (wpAny_standAt (rK (C:=C) (nm:=nm) (q:=q) (N:=N) (bs:=bs) (bm:=bm) (hdct:=true) (sn:=sn) (sub:=sub) (ab:=ab) (col:=col) (dd:=dd) (k0:=k0) (k1:=k1) (k2:=k2) (k3:=k3) (k5:=k5) (newId:="ValueError.__new__")
  (FI.tail.hasType (show fM.contains (.type "BaseException")=true by decide)) (I.ok.hd hc) ?_))
 refine wpAny_bind (wpAny_mono (wpAny_Call_ofName (gY I hg hm ?_ hd)) (fun v s₃ h₃=>wpAny_bind (wpAny_standAt (wpAny_pure h₃))) fun _ _ z=>z);refine PySem.W.callWith_K (h₀:=X.base) I.ok.mod.kin k.keep (wpAny_mono (ha cpos pins s σ H _ I h) (fun us s1 ⟨vs,H1,I1,r,n,hv,hn,hW⟩=>⟨I1.kIn,?_⟩) fun _ _ z=>z) he rfl;subst hv;obtain⟨u,rfl⟩:∃ u,us=[.int n u]:=by
  cases r with
  |cons r1 r2 =>
   cases r2;obtain⟨u,rfl⟩:=(show ∃ u,_=Value.int n u from r1);exact⟨u,rfl⟩
 obtain⟨oc,od,kV,doc,pm,an,cdv,ct,osl,rfl,lk,hcd⟩:=k.F.ex;have ft:=k.ft;rw[show List.lookup fI X.K=_ from lk] at ft;have hC1:=I1.bk _ _ hC;obtain⟨h1,g1,d1,tk1,os1⟩:=s1;refine rq hC1 (hN.keeps I1.bk) (FI.tail.keeps I1.bk) hi (I1.kIn _ _ lk) (by simpa using ft) (by rw[sizeLine_eq];exact (by decide:1<=16777216)) fun h2 a t0 ha0 hna kp=>?_
 have kb:∀ b o,X.base.get? b=some o->h2.get? b=some o:=fun b o z=>kp b o (I1.bk b o z)
 refine tU (n:=n) I.ok.mod kb k (by simpa using hn) (by rw[depth_under_make];exact hdp) ha0 (by
  cases z:X.base.get? a with
  |none=>rfl
  |some o=>have:=I1.bk _ _ z;rw[hna] at this;cases this) fun s3 t1 dx e1 e2 e3 e4 e5 e6 e7=>⟨rfl,a,t1,dx,rfl,?_,e4,?_⟩
 ·exact e7 _ _ (fun z=>by rw[z,hna] at hC1;cases hC1) (kp _ _ hC1)
 ·obtain⟨h3,g3,d3,tk3,os3⟩:=s3;cases e1;cases e2;cases e3;refine hw pins σ H1 ⟨h1,g1,d1,tk1,os1⟩ h3 tk3 a t1 dx n u hW I1 hna e4 e5 ?_ fun b o z=>e7 b o (fun y=>by rw[y,hna] at z;cases z) (kp b o z)
  cases z:h1.get? dx with
  |none=>rfl
  |some o =>
   have:=kp _ _ z;have e6:h2.get? dx=none:=e6;rw[e6] at this;cases this
theorem qL {P:Program}{w:World}{K:PySem.W.Frag}{mg:Str->Option Value}{base:Heap}{N:List Str}{qual:Str}{scope:Scope}{f:Addr}{cd:Value}{A:Around}{outer:List Env}{s:Shared}{H:Hp}{E:XK}{CX:nz}
  {pins:List (Addr×Obj)}{σ:L2.St}{H1:Hp}{s1:Shared}{h2 h':Heap}{a:Addr}{C a0:Value}(I:Inv (dG CX P w K mg base N qual scope f cd A outer s H E) pins σ H1 s1) (kp:∀ b o,s1.heap.get? b=some o->h2.get? b=some o)
  (fl:Heap.FlyingW (PySem.W.hideAll s1.heap (eN (envOfC qual scope s.heap.objs.size f cd::outer))) outer a C a0 h') (uts:h2.UpToSlots h') :
  Un (eN outer) [] H H1 s.heap h'/\g9 P w H1 h'/\Bf (PySem.W.hideAll s1.heap (eN (envOfC qual scope s.heap.objs.size f cd::outer))) (eN outer) H1 s.heap h':=by
 have hst:=I.stack;have L0:∀ b o,s.heap.get? b=some o->b≠s.heap.objs.size:=fun b o e=>ba (Heap.lt_size e)
 have fr:eN (envOfC qual scope s.heap.objs.size f cd::outer)=s.heap.objs.size::eN outer:=rfl;have stay:∀ b o,s1.heap.get? b=some o->b≠s.heap.objs.size->b∉eN outer->h'.get? b=some o:=fun b o e h1 h2=>fl.1 b o (PySem.W.hideAll_get _ e (by
  rw[fr];intro z;rcases bw.mp z with z | z
  ·exact h1 z
  ·exact h2 z))
 have fslot:∀ b o,s1.heap.get? b=some o->b∈eN outer->∃ sl,h'.get? b=some { o with slots:=sl }:=fun b o e hb=>by
  obtain⟨_,o',e',hd⟩:=hst.mem (b:=b) (show b∈s.heap.objs.size::eN outer from ae _ hb);rw[e] at e';cases e';exact uts b o (kp b o e) hd
 have bs:=I.base;have nofr:∀ b,H1 b≠none->b≠s.heap.objs.size/\b∉eN outer:=fun b hb=>by
  have:=I.stkFree;refine⟨fun z=>hb (this b (show b∈s.heap.objs.size::eN outer by rw[z];exact ai)),fun z=>hb (this b (show b∈s.heap.objs.size::eN outer from ae _ z))⟩
 refine⟨⟨fun b o e n hf _=>?_,fun b o e n hf _=>?_,fun b o e n _=>bs.free b o e n (by simp[dG]),fun b o e _=>?_,bs.tups,bs.frzs,bs.tbls⟩,nX I.hok fun b o hb e=>stay b o e (nofr b hb).1 (nofr b hb).2,fun b o e=>?_⟩
 ·exact stay b o (bs.keep b o e n hf (by simp[dG])) (L0 b o e) hf
 ·obtain⟨sl,e1⟩:=bs.slot b o e n hf (by simp[dG]);obtain⟨sl',e2⟩:=fslot b _ e1 hf;exact⟨sl',e2⟩
 ·obtain⟨o1,e1⟩:=bs.there b o e (by simp[dG]);by_cases hf:b∈eN outer
  ·obtain⟨sl',e2⟩:=fslot b _ e1 hf;exact⟨_,e2⟩
  ·exact⟨o1,stay b o1 e1 (L0 b o e) hf⟩
 ·by_cases hf:b∈eN outer
  ·exact .inl hf
  ·cases e1:s1.heap.get? b with
   |none =>
    refine .inr (.inr ⟨?_,?_⟩)
    ·cases e0:s.heap.get? b with
     |none=>rfl
     |some o0 =>
      obtain⟨o1,e2⟩:=bs.there b o0 e0 (by simp[dG]);rw[e1] at e2;cases e2
    ·cases e0:H1 b with
     |none=>rfl
     |some u =>
      obtain⟨ob,e2⟩:=bX.live' (I.hok b u e0);rw[e1] at e2;cases e2
   |some o1 =>
    by_cases hL:b=s.heap.objs.size
    ·refine .inr (.inr ⟨?_,?_⟩)
     ·rw[hL];cases e0:s.heap.get? s.heap.objs.size with
      |none=>rfl
      |some o0=>exact absurd rfl (L0 _ _ e0)
     ·cases e0:H1 b with
      |none=>rfl
      |some u=>exact absurd hL (nofr b (by rw[e0];simp)).1
    ·have:=stay b o1 e1 hL hf;rw[e] at this;cases this;refine .inr (.inl (PySem.W.hideAll_get _ e1 ?_));rw[fr];intro z;rcases bw.mp z with z | z
     ·exact hL z
     ·exact hf z
theorem rm {x:Str}{P:Program}{w:World}{K:PySem.W.Frag}{mg:Str->Option Value}{base:Heap}{N:List Str}{qual:Str}{scope:Scope}{f:Addr}{cd:Value}{A:Around}{outer:List Env}{s:Shared}{H:Hp}{E:XK}
  {pins:List (Addr×Obj)}{σ:L2.St}{H1:Hp}{s1:Shared}{h2:Heap}{tk:Nat}{a t1 dx C:Addr}{n:Nat}{u:Tok}(I:Inv (dG (yq x P w) P w K mg base N qual scope f cd A outer s H E) pins σ H1 s1) (hna:s1.heap.get? a=none) (he:h2.get? a=some (xD C t1 dx))
  (hm:∃ m,h2.Ns dx m/\m x=some (.int n u)) (hdx:s1.heap.get? dx=none) (kp:∀ b o,s1.heap.get? b=some o->h2.get? b=some o) (hE:E (.ref C) (some n) H1):(dG (yq x P w) P w K mg base N qual scope f cd A outer s H E).xe (.ref a) { s1 with heap:=h2,toks:=tk }:=by
 have hst:=I.stack;have hin:∀ env∈(envOfC qual scope s.heap.objs.size f cd::outer),∀ b,env.frame=some b->b∈eN (envOfC qual scope s.heap.objs.size f cd::outer):=fun env he b hb=>List.mem_filterMap.mpr ⟨env,he,hb⟩
 have hid:∀ b,s1.heap.get? b=none->(PySem.W.hideAll s1.heap (eN (envOfC qual scope s.heap.objs.size f cd::outer))).get? b=none:=fun b hb=>by
  cases z:(PySem.W.hideAll s1.heap (eN (envOfC qual scope s.heap.objs.size f cd::outer))).get? b with
  |none=>rfl
  |some o=>have:=PySem.W.of_hideAll _ z;rw[hb] at this;cases this
 show wpAny (model P w) (A.deeper (envOfC qual scope s.heap.objs.size f cd)) (leaving (envOfC qual scope s.heap.objs.size f cd) (.ref a)) _ _ _;refine zE (base:=PySem.W.hideAll s1.heap (eN (envOfC qual scope s.heap.objs.size f cd::outer))) (s:={ s1 with heap:=h2,toks:=tk }) (outer:=outer) I.ok.frames ((PySem.W.funFrames_hide hst hin).of_keeps fun b o hb _=>⟨o,kp b o hb,rfl⟩) rfl he
  (fun b o q=>kp b o (PySem.W.of_hideAll _ q)) (hid a hna) rfl rfl rfl fun h' fl uts dc=>?_
 obtain⟨r1,r2,r3⟩:=qL I kp fl uts;obtain⟨m,m1,m2⟩:=hm;refine⟨a,.ref C,.ref t1,H1,_,n,rfl,I.os,I.bare,r1,r2,fl,r3,⟨dx,m,u,dc,uts.ns m1,m2,hid dx hdx,fun z=>?_⟩,hE⟩;obtain⟨_,o,e1,_⟩:=hst.mem (b:=dx) (show dx∈s.heap.objs.size::eN outer from ae _ z);rw[hdx] at e1;cases e1
end
inductive Rb where
 | fin (cs:bP)
 | seq (cs:bP) (c:Ex) (n:Nat) (r:Rb)
section
variable {X:Cx}{S:Sc}{T:Tb}{W:Nat->Hp->Prop}
end
section
variable {p:Pg}{P:Program}{w:World}{K:Frag}{mg:Str->Option Value}{base:Heap}
def spX (K:Frag)(n:Nat)(C:Addr)(f:List D->Option ((D×Bool) ⊕ Nat)):Sp:=fun vs H Q E=>∃ ds G,ds.length=n/\aD K H ds vs G/\(match f ds with
 | some (.inl (d,fr))=>∀ v H' G',aG H H'->Rep K H' d v G'->(∀ a∈G',H a=none\/a∈G)->(fr=true->G'.Nodup/\∀ a∈G',H a=none/\∃ vs:ML,H' a=some vs.o)->Q v H'
 | some (.inr k)=>∀ H',aG H H'->E (.ref C) (some k) H'
 |none=>False)
theorem wd {n:Nat}{C:Addr}{f:List D->Option ((D×Bool) ⊕ Nat)}{vs:List V}{H:Hp}{Q:VK}{E:XK}(h:spX K n C f vs H Q E):vs.length=n:=by
 obtain⟨ds,G,h1,h2,_⟩:=h;rw[<-h1,h2.len]
end
noncomputable def oJ (K:PySem.W.Frag)(C:Addr):Bool:=jr K C&&(match K.lookup C with
 |some ⟨_,_,.cls cd,_⟩=>cd.mro.tail.contains (.type "BaseException")
 |_=>false)
theorem tW {K:PySem.W.Frag}{h:Heap}{D:Addr}(kin:K.In h)(q:oJ K D=true) :
  ∃ bm N nm qn bs hdct sn sub ab col dd k0 k1 k2 k3 k5 newId,h.get? D=some (excClassObj nm qn D N bs bm hdct sn sub ab col dd k0 k1 k2 k3 k5 newId)/\bm.contains (.type "BaseException")=true:=by
 unfold oJ at q;rw[ah] at q;obtain⟨bm,N,nm,qn,bs,hdct,sn,sub,ab,col,dd,k0,k1,k2,k3,k5,newId,hD⟩:=iy kin q.1;refine⟨bm,N,nm,qn,bs,hdct,sn,sub,ab,col,dd,k0,k1,k2,k3,k5,newId,hD,?_⟩;have q2:=q.2;split at q2
 ·rename_i ho;have:=kin _ _ ho;rw[hD] at this;injection this with this
  injection this with _ _ hdat _
  injection hdat with hdat
  subst hdat;exact q2
 ·cases q2
theorem uW {K:PySem.W.Frag}{h:Heap}{C D N:Addr}{nm q:Str}{bs bm:List Value}{hdct:Bool}{sn:List Str}{sub:List Value}{ab:Bool}{col:Option Bool}{dd:Option Addr}{k0 k1 k2 k3 k5:Option Value}{newId:String}(kin:K.In h)
  (hC:h.get? C=some (excClassObj nm q C N bs bm hdct sn sub ab col dd k0 k1 k2 k3 k5 newId)) (ho:dU K C D=true):(Value.ref C::bm).contains (.ref D)=true:=by
 unfold dU at ho;split at ho
 ·rename_i hl;have:=kin _ _ hl;rw[hC] at this;injection this with this
  injection this with _ _ hdat _
  injection hdat with hdat
  subst hdat;exact ho
 ·cases ho
theorem fT.less {h:Heap}{bmB:List Value}{ns ns':List Str}{l:List Value}(x:fT h bmB ns l)(hs:∀ n∈ns',n∈ns):fT h bmB ns' l:=by
 induction x with
 |base=>exact .base
 |own a b c _ ih=>exact .own a b (fun n hn=>c n (hs n hn)) ih
theorem qg {x:Str}:∀ n∈lY,n∈ins x:=fun n hn=>by
 simp only[lY,List.mem_cons,List.not_mem_nil,or_false] at hn;rcases hn with rfl | rfl | rfl<;>simp
theorem xT {K:PySem.W.Frag}{C fI:Addr}{x:Str}(q:rz K C (ins x) fI=true):yd K C:=fun {h} kin=>by
 obtain⟨bm,FI⟩:=iG kin q;obtain⟨nm,qn,N,bs,sn,sub,ab,col,dd,k0,k1,k2,k3,k5,mN,hC,hN,hmN,hi⟩:=FI.ex;refine⟨bm,⟨nm,qn,N,bs,true,sn,sub,ab,col,dd,k0,k1,k2,k3,k5,mN,hC,hN,fun n hn=>hmN n (qg n hn)⟩,FI.tail,FI.tn.less qg,fun D=>?_⟩;unfold rz at q;split at q
 ·rename_i ho;have:=kin _ _ ho;rw[hC] at this;injection this with this
  injection this with _ _ hdat _
  injection hdat with hdat
  subst hdat;unfold dU;rw[ho]
 ·cases q
section
variable {X:Cx}{pins:List (Addr×Obj)}{σ:L2.St}{H:Hp}{s:Shared}{D:Ends}{x:Str}{W:Value->Nat->Hp->Prop}
noncomputable def qc (x:Str)(X:Cx)(pins:List (Addr×Obj))(σ:L2.St)(W:Value->Nat->Hp->Prop)(e:Value)(s1:Shared):Prop :=
 ∃ H0 s0 a C a0 H' B n,Inv X pins σ H0 s0/\e = .ref a/\s1.os=s0.os/\AllBare s1.gens/\ya X H0 H' s0 B s1.heap/\Heap.FlyingW B X.stack a C a0 s1.heap/\Cz x B (eN X.stack) s1.heap a n/\W C n H'
theorem lA {RP:Around->Prop}{f:Addr}{fd:FuncData}{ps:List Str}{sp:Sp}{dvs:List V}{ds:List Value}{y:Str}{p pos:Pos}{e:Expr}{es:List Expr}{t:TA}{Q:VK}(F:jZ X.prog X.w X.K X.mg X.base (yq x X.prog X.w) RP f fd ps sp)(hr:RP X.A)(hg:Gl X y)(hm:X.mg y=some (.ref f))(hk:PySem.W.keepIn X.K (.ref f)=true)(hb:Binds X.K fd ps ds)(hd:aK dvs ds)
  (I:Inv X pins σ H s) (ha:PA X.nox (e::es) t) (h:t σ H fun vs H1=>sp (vs++dvs) H1 Q (fun C o H'=>∃ n,o=some n/\W C n H')) (hdb:(y==("__debug__" : Str))=false:=by decide)
  (he:starEach (e::es) X.env=(false,eval e X.env)::starEach es X.env:=by rfl) (hpl:(backTo pos (starEach es X.env)).any (·.1)=false:=by rfl) :
  wpAny (model X.prog X.w) X.A (eval (.Call (.Name y p) (e::es) [] pos) X.env) (EP X pins σ Q) (qc x X pins σ W) s:=by
 refine wpAny_Call_Name_kw (gY I hg hm ?_ hdb);refine PySem.W.callWith_K (h₀:=X.base) I.ok.mod.kin hk (wpAny_mono (ha pos pins s σ H _ (I.wish _) h) (fun us s1 ⟨vs,H1,I1,r,q⟩=>⟨I1.unwish.kIn,?_⟩) fun _ _ z=>False.elim z) he hpl;have I:=I1.unwish;have r2:aK (vs++dvs) (us++ds):=r.append hd;have hl:(us++ds).length=ps.length:=by rw[<-r2.length];exact F.len _ _ _ _ q
 refine wpAny_call (codeAny_mono (F.run X.A X.stack s1 H1 ⟨us,[]⟩ (us++ds) (vs++dvs) Q _ hr I.env0 (hb s1 us I.kIn hl) r2 q) fun r s' hq=>?_);cases r with
 |error e =>
  have hq:yq x X.prog X.w X.stack H1 s1 (fun C o H'=>∃ n,o=some n/\W C n H') e s':=hq;obtain⟨a,C,a0,H',B,n,e1,e2,e3,e4,e5,e6,e7,e8,n',e9,e10⟩:=hq;cases e9;exact⟨H1,s1,a,C,a0,H',B,n,I,e1,e2,e3,⟨e4,e5,e7⟩,e6,e8,e10⟩
 |ok fl =>
  cases fl with
  |ret u=>exact I.after hq
  |next=>exact False.elim hq
  |brk=>exact False.elim hq
  |cont=>exact False.elim hq
theorem lj {E':Value->Shared->Prop}{e:Expr}{pos:Pos}{Q:VK}(I:Inv X pins σ H s)(h:wpAny (model X.prog X.w) X.A (eval e X.env) (EP X pins σ Q) E' s)(hq:∀ v H',Q v H'->D.nx σ H')(hs:swapsWith e none pos.line X.env=pure false:=by rfl) :
  wpAny (model X.prog X.w) X.A (execs [.Expr e pos] X.env) (SP X pins D) E' s:=by
 refine wpAny_execs_cons (wpAny_mono (Q:=SP X pins D) (wpAny_Expr_any (wpAny_mono h (fun v s1 ⟨x,H1,I1,r1,q1⟩=>⟨σ,H1,I1,hq x H1 q1⟩) fun _ _ z=>z) I.quiet hs) (fun f s1 q=>?_) fun _ _ z=>z);cases f with
 |next=>exact wpAny_execs_nil q
 |ret v=>exact q
 |brk=>exact q
 |cont=>exact q
noncomputable abbrev jo (X:Cx)(dx:Addr)(od:Obj):Cx:={ X with pn:=(dx,od)::X.pn }
theorem wC {dx:Addr}{od:Obj}(I:Inv X pins σ H s)(hp:s.heap.get? dx=some od/\H dx=none/\dx≠X.env.locals/\dx∉X.fs/\∀ v,od.data≠.cell v):Inv (jo X dx od) pins σ H s :=
 ⟨⟨I.ok.mod,I.ok.kind,I.ok.glob,I.ok.blt,I.ok.above,I.ok.inj,I.ok.has,I.ok.cab,I.ok.hd,I.ok.frames,I.ok.stk,I.ok.exf,I.ok.bs,I.ok.bsz,I.ok.noex,I.ok.exfs,I.ok.funs,I.ok.frf⟩,I.os,I.bare,I.base,I.loc,I.cell,I.free,I.freeC,fun p hq=>by
  rcases bw.mp hq with rfl | hq
  ·exact hp
  ·exact I.pin p hq,I.hok,I.len⟩
theorem gR {dx:Addr}{od:Obj}(I:Inv (jo X dx od) pins σ H s)(ok:X.Ok):Inv X pins σ H s:=⟨ok,I.os,I.bare,I.base,I.loc,I.cell,I.free,I.freeC,fun p hp=>I.pin p (ae _ hp),I.hok,I.len⟩
theorem qA (hs:X.stack=X.env::X.outer)(hf:X.env.frame=some X.env.locals)(ok:X.Ok){body:List Stmt}{y n:Str}{i:Nat}{Cd:Addr}{np hp pos:Pos}{b₀:Stmt}{suite:List Stmt}{ts:Addr->Nat->TS}(hN:X.N.Nodup)(hi:X.N[i]? = some n)(hk:X.env.scope.names.lookup n=some .local)
  (hg:Gl X y) (hm:X.mg y=some (.ref Cd)) (qD:oJ X.K Cd=true)
  (hsu:∀ a o dx od C k H',W C k H'->o.cls=C->(∃ vs,o.data = .fields vs)->o.dict=some dx->(∃ m u,(∀ h:Heap,h.get? dx=some od->h.Ns dx m)/\m x=some (.int ((k:Nat):Int) u))->ip (fZ (jo X dx od) a o) (b₀::suite) (ts a k))
  (hw:∀ C k H',W C k H'->(∃ c,C = .ref c/\jr X.K c=true/\dU X.K c Cd=true)/\∀ a,ts a k (uj D i) (σ.set i (some (.ref a))) H') (hd:(y==("__debug__" : Str))=false:=by decide)
  (hb:wpAny (model X.prog X.w) X.A (execs body X.env) (SP X pins D) (qc x X pins σ W) s) :
  wpAny (model X.prog X.w) X.A (exec (.Try body [.ExceptHandler (some (.Name y np)) (some n) (b₀::suite) hp] [] [] pos) X.env) (SP X pins D) X.xe s:=by
 refine wpAny_Try_except (wpAny_mono hb (fun f s1 h1=>?_) fun e s1 h1=>?_)
 ·cases f with
  |next=>exact wpAny_pure h1
  |brk=>exact h1
  |cont=>exact h1
  |ret u=>exact h1
 obtain⟨H0,s0,a,C,a0,H',B,k,I0,rfl,ho,hbr,F1,f1,at1,w1⟩:=h1;obtain⟨⟨c,rfl,qC,oC⟩,hts⟩:=hw C k H' w1;obtain⟨dx,m,u,dc1,ns1,mx,nB,nfr⟩:=at1;have f1':=f1;rw[hs] at f1';refine Bt (by rw[ok.frames,hs]) hf f1' dc1 fun h2 g2 u2 dc2=>?_
 rw[<-hs] at g2;have F2:=F1.next I0 g2.1 (ic f1) u2;refine Ay g2 dc2 fun h3 f3 u3 dc3=>?_
 have F3:=F2.next I0 f3.1 (mX g2) u3;have back:∀ h,({ s1 with heap:=h }:Shared)={ s0 with heap:=h,gens:=s1.gens,drawn:=s1.drawn,toks:=s1.toks }:=fun h=>by
  cases s1;cases s0;cases ho;rfl
 have I3:Inv X pins σ H' { s1 with heap:=h3 }:=by
  rw[back];exact F3.inv I0 hbr
 refine wpAny_handleBy_cons (codeAny_handlers_test (gY (X:=markX X a) (tG I3 a ok.frames) hg hm ?_ hd)) (by intro q;cases q);obtain⟨bm',N',nm',qn',bs',hdct',sn',sub',ab',col',dd',j0,j1,j2,j3,j5,nI',hD,hB⟩:=tW I3.kIn qD;obtain⟨bm,N,nm,qn,bs,hdct,sn,sub,ab,col,dd,k0,k1,k2,k3,k5,nI,hC⟩:=iy I3.kIn qC;obtain⟨oe,he,hcl⟩:=f3.there;refine nN hC hD he hcl hB ?_;rw[uW I3.kIn hC oC];refine codeAny_handlers_suite_as (Ak f3 dc3 fun h4 f4 u4 dc4=>?_);have F4:=F3.next I0 f4.1 (ic f3) u4;have I4:Inv X pins σ H' { s1 with heap:=h4 }:=by
  rw[back];exact F4.inv I0 hbr
 have ns4:=u4.ns (u3.ns (u2.ns ns1));obtain⟨od,es,ep,hod,hdd,r4⟩:=ns4;obtain⟨o4,vs4,e5,c5,d5,_⟩:=f4.first;have dic:o4.dict=some dx:=by
  obtain⟨o',q1,q2⟩:=dc4;rw[e5] at q1;cases q1;exact q2
 have nofr:a∉eN X.stack:=fun z=>by
  obtain⟨o',e',hd'⟩:=ic f4 a z;rw[e5] at e';cases e';exact hd' vs4 d5
 have hnone:H' a=none:=by
  rcases F4.bf a o4 e5 with z | z | z
  ·exact absurd z nofr
  ·rw[f4.2.1] at z;cases z
  ·exact z.2
 have hnone2:H' dx=none:=by
  rcases F4.bf dx od hod with z | z | z
  ·exact absurd z nfr
  ·rw[nB] at z;cases z
  ·exact z.2
 have hstk:eN X.stack=X.env.locals::X.fs:=by
  rw[hs];unfold eN;rw[fi,hf];rfl
 rw[hstk] at nofr nfr;have P3:Inv (jo X dx od) pins σ H' { s1 with heap:=h4 }:=wC I4 ⟨hod,hnone2,fun z=>nfr (by rw[z];exact ai),fun z=>nfr (ae _ z),fun v z=>by rw[hdd] at z;cases z⟩;have P4:Inv (fZ (jo X dx od) a o4) pins σ H' { s1 with heap:=h4 }:=rC P3 a o4 ok.frames ⟨e5,hnone,fun z=>nofr (by rw[z];exact ai),fun z=>nofr (ae _ z),fun v z=>by rw[d5] at z;cases z⟩;refine gw (X:=fZ (jo X dx od) a o4) P4 hN hi (.inl hk) (show RelV (.ref a) (.ref a) from rfl) (fun s5 I5=>?_) (.inr hk);refine wpAny_mono (hsu a o4 dx od _ k H' w1 c5 ⟨vs4,d5⟩ dic ⟨m,u,fun h hh=>⟨od,es,ep,hh,hdd,r4⟩,mx⟩ pins s5 _ H' (uj D i) I5 (hts a)) (fun f s6 h6=>?_) fun _ _ z=>z.elim
 cases f with
 |next =>
  obtain⟨σ',H6,I6,q⟩:=h6;exact gS (gR (eU I6 P3.ok) ok) hN hi hk fun s7 I7=>⟨_,H6,I7,q⟩
 |brk =>
  obtain⟨σ',H6,I6,q⟩:=h6;exact gS (gR (eU I6 P3.ok) ok) hN hi hk fun s7 I7=>⟨_,H6,I7,q⟩
 |cont =>
  obtain⟨σ',H6,I6,q⟩:=h6;exact gS (gR (eU I6 P3.ok) ok) hN hi hk fun s7 I7=>⟨_,H6,I7,q⟩
 |ret u =>
  obtain⟨v,σ',H6,I6,r,q⟩:=h6;exact gS (gR (eU I6 P3.ok) ok) hN hi hk fun s7 I7=>⟨v,_,H6,I7,r,q⟩
end
noncomputable def bP.app:bP->bP->bP
 |.nil,b=>b
 |.cons s r,b=>.cons s (r.app b)
noncomputable def Rb.ask:Rb->bP
 |.fin cs=>cs
 |.seq cs c n r=>cs.app (.cons (.ite c (.cons .retN .nil) .nil) r.ask)
structure AskSt (st:Stmt)(a b c t g y:Str):Prop where
 ex:∃(j1 j2:Nat) (q1 q2 q3 p1 p2 p3 p4 p5 p6 p7 p8 h1 h2 h3 h4 h5 r1 r2:Pos),aY st=[.Assign [.Name t q1] (.Constant .none j1 q2) q3,
   .Try [.Assign [.Name t p1] (.Call (.Name g p2) [.Name a p3,.Name b p4,.Name c p5] [] p6) p7] [.ExceptHandler (some (.Name y h1)) none [.Assign [.Name t h2] (.Constant .none j2 h3) h4] h5] [] [] p8,
   .Return (some (.Name t r1)) r2]
 sc:cH [a,b,c,t] [a,b,c] (aB st)
 la:(aB st).names.lookup a=some .local
 lb:(aB st).names.lookup b=some .local
 lc:(aB st).names.lookup c=some .local
 lt:(aB st).names.lookup t=some .local
 lg:(aB st).names.lookup g=some .globalImplicit
 ly:(aB st).names.lookup y=some .globalImplicit
 db:((a==("__debug__" : Str))=false/\(a==("__classdict__" : Str))=false)/\((b==("__debug__" : Str))=false/\(b==("__classdict__" : Str))=false)/\((c==("__debug__" : Str))=false/\(c==("__classdict__" : Str))=false)/\((t==("__debug__" : Str))=false/\(t==("__classdict__" : Str))=false)/\(g==("__debug__" : Str))=false/\(y==("__debug__" : Str))=false
section
variable {P:Program}{w:World}{K:Frag}{mg:Str->Option Value}{base:Heap}
end
section
variable {p:Pg}{P:Program}{w:World}{K:Frag}{mg:Str->Option Value}{base:Heap}
end
section
variable {prog:Program}{w:World}{A:Around}{E:Value->Shared->Prop}{h:Heap}{g:Array GenState}{d:Drawn}{t:Nat}{os:OsState}{a dx:Addr}{o:Obj}{vs:Array Value}{m:Str->Option Value}{x:Str}{v:Value}
 {nm q:Str}{C N:Addr}{bs bm:List Value}{sn:List Str}{sub:List Value}{ab:Bool}{col:Option Bool}{dd:Option Addr}{k0 k1 k2 k3 k5:Option Value}{newId:String}{mN:Str->Option Value}
theorem rS {tk:Tok}{Q:Fin->Shared->Prop}(hC:h.get? C=some (excClassObj nm q C N bs bm true sn sub ab col dd k0 k1 k2 k3 k5 newId))(hN:h.Ns N mN)(hmN:∀ n∈ins x,mN n=none)(TN:fT h fM (ins x) bm)
  (hB:typeLookup (.type "ValueError") x=pure none) (hx:h.get? a=some o) (hc:o.cls = .ref C) (hda:o.data = .fields vs) (hdi:o.dict=some dx) (hn:h.Ns dx m) (hv:m x=some v) (hq:Q (.done (.ret v)) ⟨h,g,d,t,os⟩) :
  wpAny (model prog w) A (Builtin.«object.__getattribute__» ⟨[.ref a,.str x tk],[]⟩) Q E ⟨h,g,d,t,os⟩:=by
 have hmx:x∈ins x:=by simp
 repeat (any_goals (first | assumption | (with_reducible refine wpAny_loadPart_at hx ?_;rw[hc]) | with_reducible refine dH hmx hC hN hmN TN F.attrBase_ValueError.mro hB ?_ | wp_step))
 split
 ·rename_i z;rw[hda] at z;cases z
 unfold instanceDict
 repeat (any_goals (first | assumption | (with_reducible refine wpAny_loadPart_at hx ?_;rw[hc]) | with_reducible refine wpAny_loadPart_at hC ?_ | wp_step))
 rw[hdi]
 repeat (any_goals (first | assumption | (with_reducible refine wpAny_nsGet hn ?_;rw[hv]) | wp_step))
theorem AX {tk:Tok}{fill expr:Bool}{n:Int}{u:Tok}{Q:Value->Shared->Prop}(hC:h.get? C=some (excClassObj nm q C N bs bm true sn sub ab col dd k0 k1 k2 k3 k5 newId))(hN:h.Ns N mN)(hmN:∀ n∈ins x,mN n=none)(T:OwnTail h fM bm)(TN:fT h fM (ins x) bm)
  (hB:typeLookup (.type "ValueError") x=pure none) (hx:h.get? a=some o) (hc:o.cls = .ref C) (hda:o.data = .fields vs) (hdi:o.dict=some dx) (hn:h.Ns dx m) (hv:m x=some (.int n u)) (hq:Q (.int n u) ⟨h,g,d,t,os⟩) :
  wpAny (model prog w) A (getAttrBy (.ref a) (.str x tk) fill expr) Q E ⟨h,g,d,t,os⟩:=by
 have f3:=F.attrBase_ValueError.ga.bind (.ref a);have hx0:(expr&&onTheHeap (Value.builtin "BaseException.__getattribute__"))=false:=by cases expr<;>rfl
 have hx2:(Value.builtin "BaseException.__getattribute__" == Value.builtin "object.__getattribute__")=false:=by decide +kernel
 have hx1:(onTheHeap (Value.ref C)&&Value.builtin "BaseException.__getattribute__" == Value.builtin "object.__getattribute__")=false:=by rw[hx2];rfl
 have hm1:("__getattribute__" : Str)∈ins x:=.head _;have hm2:("__getattr__" : Str)∈ins x:=.tail _ (.head _)
 repeat (any_goals (first | assumption | (with_reducible refine wpAny_loadPart_at hx ?_;rw[hc]) | with_reducible refine dH hm1 hC hN hmN TN F.attrBase_ValueError.mro F.attrBase_ValueError.ga.lookup ?_ | with_reducible refine dH hm2 hC hN hmN TN F.attrBase_ValueError.mro F.attrBase_ValueError.noGetattr ?_ | wp_step))
 refine codeAny_call_builtin F.attrBase_ValueError.ga.plain F.entry_bexc_ga (nP hC T hx hc (rS hC hN hmN TN hB hx hc hda hdi hn hv ?_))
 repeat (any_goals (first | assumption | wp_step))
end
section
variable {X:Cx}{a dx C fI:Addr}{o od:Obj}{x:Str}{k:Nat}
def Dh (i:Nat)(a:Addr)(k:Nat):TE:=fun σ H Q=>σ[i]? = some (some (.ref a))/\Q (.int k) H
theorem AZ {i:Nat}{y:Str}{p p':Pos}(q:rz X.K C (ins x) fI=true)(hB:typeLookup (.type "ValueError") x=pure none) (hc:o.cls = .ref C) (hda:∃ vs,o.data = .fields vs) (hdi:o.dict=some dx) (hns:∃ m u,(∀ h:Heap,h.get? dx=some od->h.Ns dx m)/\m x=some (.int ((k:Nat):Int) u))
  (hy:PE (fZ (jo X dx od) a o) (.Name y p) (sO i)):PE (fZ (jo X dx od) a o) (.Attribute (.Name y p) x p') (Dh i a k):=by
 intro pins s σ H Q I ⟨hi,hq⟩;refine Attribute_name (cN (hy pins s σ H (fun v H'=>v = .ref a/\H'=H) I ⟨_,hi,rfl,rfl⟩) fun v s1 ⟨v',H1,I1,r,e1,e2⟩=>?_);subst e1 e2;obtain rfl:v=Value.ref a:=r;have kin:=I1.kIn;obtain⟨bm,FI⟩:=iG kin q;obtain⟨nm,qn,N,bs,sn,sub,ab,col,dd,k0,k1,k2,k3,k5,mN,hC,hN,hmN,hi2⟩:=FI.ex;obtain⟨vs,hda⟩:=hda;obtain⟨m,u,hns,hm⟩:=hns;have p1:=(I1.pin (a,o) (by simp)).1;have p2:=(I1.pin (dx,od) (by simp)).1;have J:=I1.tok (s1.toks+1);obtain⟨h1,g1,d1,t1,os1⟩:=s1;unfold getAttr;refine wpAny_bind (wpAny_mkText ?_);exact AX hC hN hmN FI.tail FI.tn hB p1 hc hda hdi (hns _ p2) hm ⟨.int k,_,J,⟨u,rfl⟩,hq⟩
end
section
variable {P:Program}{w:World}{K:PySem.W.Frag}{mg:Str->Option Value}{base:Heap}{f:Addr}{fd:FuncData}{ps N:List Str}{sp:Sp}
end
section
variable {X:Cx}
end
noncomputable def bP.asgs:bP->Bool
 |.nil=>true
 | .cons (.asg (.nm _) _ _) r=>r.asgs
 |_=>false
theorem sk {T:Tb}{i:Nat}{e:Ex}{mv:Bool}{env:En}{d:D}{fr:Bool}:aN T (.asg (.nm i) e mv) env≠.rt d fr:=by
 rw[aN];cases ev T e env with
 |ok p =>
  rw[bH];show (if i<env.length then (match p.2 with
   |.mv []=>Fl.nx (put env i p.1 .own)
   |.mv R=>if mv then (if gB env R then .nx (put (kill R env) i p.1 .own) else .bad) else .nx (put env i p.1 (.sh (R.filter (· != i))))
   |.sh R=>.nx (put env i p.1 (.sh (R.filter (· != i))))) else .bad)≠_
  intro h
  repeat' (split at h)
  all_goals cases h
 |exc x=>intro h;cases h
 |bad=>intro h;cases h
noncomputable def Rb.plain:Rb->Bool
 | .fin (.cons (.ret _) .nil)=>true
 |.fin _=>false
 |.seq cs _ n r=>cs.asgs&&n==0&&r.plain
inductive Rw where
 | nil
 | st (c:St) (r:Rw)
 | ifr (c e:Ex) (r:Rw)
 | lop (t:iT) (it:ou) (b r:Rw)
inductive Rf where
 | fl (f:Fl) | rs (n:Nat)
noncomputable def pq:D->Option Nat
 | .int (.ofNat n)=>if n<2 ^ 64 then some n else none
 |_=>none
noncomputable def iF (t:iT)(R:List Nat)(b:En->Rf):List D->En->Rf
 |[],env=>.fl (.nx env)
 |d::r,env=>match bN R t d env with
  |none=>.fl .bad
  |some env'=>match b env' with
   | .fl (.nx e)=>iF t R b r e
   | .fl (.ct e)=>iF t R b r e
   | .fl (.bk e)=>.fl (.nx e)
   |x=>x
noncomputable def rsB:Rs (D×Rt)->Rf
 |.ok q=>(match pq q.1 with
  |some n=>.rs n
  |none=>.fl .bad)
 |_=>.fl .bad
noncomputable def unB (R:List Nat)(env:En)(k:En->Rf):Rf->Rf
 | .fl (.nx e)=>k (unlock R env e)
 |x=>x
noncomputable def hJ (T:Tb):Rw->En->Rf
 |.nil,env=>.fl (.nx env)
 |.st c r,env=>match aN T c env with
  |.nx e=>hJ T r e
  |f=>.fl f
 |.ifr c e r,env=>match ev T c env with
  |.ok p=>(match truth p.1 with
   |some true=>rsB (ev T e env)
   |some false=>hJ T r env
   |none=>.fl .bad)
  |_=>.fl .bad
 |.lop t it b r,env=>match dN T it env with
  |.ok p=>unB p.2 env (hJ T r) (iF t p.2 (hJ T b) p.1 (lock p.2 env))
  |_=>.fl .bad
noncomputable def cW (K:Frag)(P Z:Addr->Prop)(env:En)(F:Nat->List Addr)(H:Hp)(D:Ends)(W:Nat->Hp->Prop):Rf->Prop
 |.fl f=>post K P Z env F H D f
 |.rs n=>∀ H',iE P H H'->W n H'
theorem cW.trans {K:Frag}{P Z:Addr->Prop}{e1 e2:En}{F1 F2:Nat->List Addr}{H1 H2:Hp}{σ2:L2.St}{D:Ends}{W:Nat->Hp->Prop}(a:After K P Z e1 F1 H1 e2 σ2 H2 F2):∀{f:Rf},cW K P Z e1 F1 H1 D W f->cW K P Z e2 F2 H2 D W f
 |.fl _,h=>post.trans a h
 |.rs _,h=>fun H' e=>h H' (a.ev.trans e)
def tB (K:Frag)(T:Tb)(W:Nat->Hp->Prop)(r:Rw):TS:=fun D σ H=>∃ P Z env F,RE K P env σ H F/\(∀ i,∀ a∈F i,Z a)/\(∀ a,¬ P a->Z a)/\cW K P Z env F H D W (hJ T r env)
noncomputable def xa (y:Str):List Stmt->Option Expr
 | [.Raise (some (.Call (.Name y' _) [e] [] _)) none _]=>if y'=y then some e else none
 |_=>none
noncomputable def hasR (y:Str)(b:List Stmt):Bool:=b.any fun s=>match s with
 |.If _ a _ _=>(xa y a).isSome
 |_=>false
noncomputable def cB (m:Nat)(S:Sc)(y:Str):Nat->List Stmt->Option Rw
 |0,_=>none
 |_+1,[]=>some .nil
 |n+1,st::rest=>(cB m S y n rest).bind fun r=>match st with
  |.If e a b _=>(match xa y a with
   |some x=>if b.isEmpty then (cE m S e).bind fun c=>(cA (cE m S) [x]).bind fun cs=>(match cs with
    |.cons ce .nil=>some (.ifr c ce r)
    |_=>none) else none
   |none=>(cS m S st).map fun c=>.st c r)
  |.For tg iter b oe _=>if hasR y b then (if oe.isEmpty&&eZ iter then (ox S tg).bind fun t=>(zW S (cE m S) (isTup tg) iter).bind fun it=>(cB m S y n b).map fun cb=>.lop t it cb r else none) else (cS m S st).map fun c=>.st c r
  |_=>(cS m S st).map fun c=>.st c r
section
variable {X:Cx}{S:Sc}{T:Tb}{W:Nat->Hp->Prop}
theorem PA.nox {es:List Expr}{t:TA}(h:PA X.nox es t):PA X es t:=fun pos pins s σ H Q I hw =>
 wpAny_mono (h pos pins s σ H Q (I.wish _) hw) (fun us s1 ⟨vs,H1,I1,r,q⟩=>⟨vs,H1,I1.unwish,r,q⟩) fun _ _ z=>z.elim
theorem PG.nox {e:Expr}{t:TG}(h:PG X.nox e t):PG X e t:=fun pins s σ H v u Q I r hw =>
 wpAny_mono (h pins s σ H v u Q (I.wish _) r hw) (fun us s1 ⟨σ1,H1,I1,q⟩=>⟨σ1,H1,I1.unwish,q⟩) fun _ _ z=>z.elim
theorem PI.nox {tg e:Expr}{t:TI}(h:PI X.nox tg e t):PI X tg e t:=fun pins s σ H R I hw =>
 wpAny_mono (h pins s σ H R (I.wish _) hw) (fun v s1 h1=>wpAny_mono h1 (fun itv s2 ⟨it,fp,tn,J,H',e1,I2,T2,e2,e3,e4⟩=>⟨it,fp,tn,J,H',e1,I2.unwish,T2,e2,e3,e4⟩) fun _ _ z=>z.elim) fun _ _ z=>z.elim
theorem jB {t:iT}{R:List Nat}{b:En->Rf}:∀(ds:List D) (env:En),(∀ e,iF t R b ds env≠.fl (.bk e))/\∀ e,iF t R b ds env≠.fl (.ct e)
 |[],env=>⟨fun e z=>(by cases z),fun e z=>(by cases z)⟩
 | d::ds,env=>by
  unfold iF;cases bN R t d env with
  |none=>exact⟨fun e z=>(by cases z),fun e z=>(by cases z)⟩
  |some env' =>
   simp only;cases b env' with
   |rs n=>exact⟨fun e z=>(by cases z),fun e z=>(by cases z)⟩
   |fl f=>cases f with
    |nx e'=>exact jB ds e'
    |ct e'=>exact jB ds e'
    |bk e'=>exact⟨fun e z=>(by cases z),fun e z=>(by cases z)⟩
    |rt d fr=>exact⟨fun e z=>(by cases z),fun e z=>(by cases z)⟩
    |xc x e'=>exact⟨fun e z=>(by cases z),fun e z=>(by cases z)⟩
    |bad=>exact⟨fun e z=>(by cases z),fun e z=>(by cases z)⟩
def tLr (K:Frag)(T:Tb)(W:Nat->Hp->Prop)(t:iT)(it:ou)(b:Rw):TS:=fun D σ H=>∃ P Z env F,RE K P env σ H F/\(∀ i,∀ a∈F i,Z a)/\(∀ a,¬ P a->Z a)/\∃ p,dN T it env = .ok p/\cW K P Z env F H D W (unB p.2 env (fun e=>.fl (.nx e)) (iF t p.2 (hJ T b) p.1 (lock p.2 env)))
theorem zD {tg iter:Expr}{t:iT}{it:ou}{b:List Stmt}{cb:Rw}{pos:Pos}(hp:PassesOwn (model X.prog X.w) X.A X.env X.xe)(hc:X.calm=true)(hi:PI X tg iter (tI X.K T it))(hg:PG X tg (nY X.K t))(hb:ip X b (tB X.K T W cb))(hs:∀ x,foldedSetIterable iter X.env x=pure x) :
  PS X (.For tg iter b [] pos) (tLr X.K T W t it cb):=by
 refine cR (tX hp hc hi hg hb hs) fun D σ H ⟨P,Z,env,F,re,hz,zp,p,hp,h⟩=>?_
 refine⟨P,env,F,re,p,hp,fun J H1 G s1 rt nn wk=>?_⟩;have af1:=After.same (Z:=Z) re hz s1;have h:=cW.trans af1 h;let P':Addr->Prop:=fun a=>P a\/a∈G
 have wk:=wk P' fun a ha=>.inr ha
 have seen:∀ a∈G,∀(i:Nat) (d:Pc.D) (t:Tg),env[i]? = some (some (d,t))->aX t=true->a∈F i->i∈p.2:=fun a ha i d t e o m=>by
  rcases rt.cont a ha with q | ⟨k,d2,t2,f,e2,sr⟩
  ·exact absurd q (re.nn e m)
  ·exact sr i ((re.one i d t e o).2.2 a m k d2 t2 e2 f)
 have reL:RE X.K P' (lock p.2 env) σ H1 F:=af1.re.locked nn seen;have gz:∀ a∈G,Z a:=xt re hz zp rt;have stepP:∀{f:Rf},(∀ e,f≠.fl (.bk e))->(∀ e,f≠.fl (.ct e))->cW X.K P Z env F H1 D W (unB p.2 env (fun e=>.fl (.nx e)) f)->cW X.K P' Z (lock p.2 env) F H1 D W f:=fun {f} nb nc h=>by
  cases f with
  |rs n=>exact fun H' ev=>h H' (ev.weak fun _ q=>.inl q)
  |fl f=>cases f with
   |nx e=>exact fun σ' H' F' af=>h σ' H' F' (af.unlocked af1.re)
   |bk e=>exact absurd rfl (nb e)
   |ct e=>exact absurd rfl (nc e)
   |rt d fr=>exact fun v H' G' rp ev z f=>h v H' G' rp (ev.weak fun _ q=>.inl q) z fun w=>⟨(f w).1,fun a ha=>⟨fun q=>((f w).2 a ha).1 (.inl q),((f w).2 a ha).2⟩⟩
   |xc x e=>exact h
   |bad=>exact h
 have h:=stepP (jB _ _).1 (jB _ _).2 h;have zpL:∀ a,¬ P' a->Z a:=fun a ha=>zp a fun q=>ha (.inl q)
 refine⟨fun i m σ' H'=>m=p.1.length - i/\i<=p.1.length/\∃ env' F',After X.K P' Z (lock p.2 env) F H1 env' σ' H' F'/\cW X.K P' Z env' F' H' D W (iF t p.2 (hJ T cb) (p.1.drop i) env'),⟨p.1.length,by simp,Nat.zero_le _,lock p.2 env,F,After.same reL hz (aG.refl _),h⟩,?_⟩;rintro i m σ2 H2 ⟨rfl,hi,env2,F2,af2,h2⟩;obtain⟨w1,w2⟩:=wk H2 af2.ev;by_cases hlt:i<p.1.length
 ·right;have hd:p.1[i]? = some p.1[i]:=by simp[hlt]
  obtain⟨g1,g2⟩:=w1 i _ hd;refine⟨g1,fun σ' H'=>∃ env' F',After X.K P' Z (lock p.2 env) F H1 env' σ' H' F'/\cW X.K P' Z env' F' H' D W (iF t p.2 (hJ T cb) (p.1.drop (i+1)) env'),fun σ' H' q=>⟨p.1.length - (i+1),by omega,rfl,hlt,q⟩,fun x H3 y=>?_⟩;obtain⟨s3,G3,rp3,sub3⟩:=g2 x H3 y;have af3:=After.same (Z:=Z) af2.re af2.z s3;have h2:=cW.trans af3 h2;rw[fm hlt] at h2;unfold iF at h2;cases hb:bN p.2 t p.1[i] env2 with
  |none=>rw[hb] at h2;exact h2.elim
  |some env4 =>
   rw[hb] at h2;refine ko af3.re af2.z rp3 (fun a ha=>gz a (sub3 a ha)) (fun a ha j d' t' ej o m=>?_) hb fun σ4 F4 re4 z4 lk4=>?_
   ·cases t' with
    |own=>exact absurd (.inr (sub3 a ha)) (af2.re.wr j d' ej a m)
    |lk =>
     obtain⟨e5,e6⟩:=af2.lk j d' ej;rw[e6] at m;obtain⟨t0,e0,o0,_⟩:=dM e5;exact seen a (sub3 a ha) j d' t0 e0 (o0.trans o) m
    |sh Q=>cases o
   ·have af4:After X.K P' Z env2 F2 H3 env4 σ4 H3 F4:=⟨re4,z4,iE.refl _,lk4⟩;refine⟨P',Z,env4,F4,re4,z4,zpL,?_⟩;have h2:=cW.trans af4 h2;have all:=(af2.trans af3).trans af4;cases hs:hJ T cb env4 with
    |rs n=>simp only[hs] at h2;exact h2
    |fl f=>cases f with
     |nx e'=>simp only[hs] at h2;exact fun σ' H' F' af5=>⟨e',F',all.trans af5,cW.trans af5 h2⟩
     |ct e'=>simp only[hs] at h2;exact fun σ' H' F' af5=>⟨e',F',all.trans af5,cW.trans af5 h2⟩
     |bk e'=>simp only[hs] at h2;exact h2
     |rt d fr=>simp only[hs] at h2;exact h2
     |xc x e'=>simp only[hs] at h2;exact h2
     |bad=>simp only[hs] at h2;exact h2
 ·left;have e:i=p.1.length:=by omega
  subst e;rw[List.drop_length] at h2;exact⟨w2,h2 σ2 H2 F2 (After.same af2.re af2.z (aG.refl _))⟩
theorem ux {y:Str}{a:List Stmt}{x:Expr}(h:xa y a=some x):∃ p1 p3 p4,a=[.Raise (some (.Call (.Name y p1) [x] [] p3)) none p4]:=by
 unfold xa at h;split at h
 ·split at h
  ·rename_i z;cases h;subst z;exact⟨_,_,_,rfl⟩
  ·cases h
 ·cases h
theorem nR {d:D}{k:Nat}(h:pq d=some k):d = .int (k:Int)/\k<2 ^ 64:=by
 unfold pq at h;split at h
 ·split at h
  ·rename_i z;cases h;exact⟨rfl,z⟩
  ·cases h
 ·cases h
theorem vc {y:Str}{m:Nat}(C:mU X.nox S T)(hp:PassesOwn (model X.prog X.w) X.A X.env X.xe)(hc:X.calm=true)
  (hr:∀ x cs p1 p3 p4,cA (cE m S) [x]=some cs->PS X (.Raise (some (.Call (.Name y p1) [x] [] p3)) none p4) (fun D σ H=>pF X.K T cs σ H fun vs H'=>∃ n:Nat,vs=[.int n]/\n<2 ^ 64/\W n H')) :
  ∀(n:Nat) (l:List Stmt) (r:Rw),cB m S y n l=some r->ip X l (tB X.K T W r)
 |0,l,r,h=>by cases h
 | n+1,[],r,h=>by
  cases h;exact gW mn fun D σ H ⟨P,Z,env,F,re,hz,zp,h⟩=>h σ H F (After.same re hz (aG.refl _))
 | n+1,st::l,r,h=>by
  unfold cB at h;obtain⟨r1,h1,h2⟩:=ag.mp h;clear h;have ih:=vc C hp hc hr n l r1 h1;have gen:∀{c:St},cS m S st=some c->ip X (st::l) (tB X.K T W (.st c r1)):=fun {c} hcs=>by
   refine gW (eM (PS.nox ((yJ C m).1 _ _ hcs)) ih) fun D σ H ⟨P,Z,env,F,re,hz,zp,h⟩=>⟨P,Z,env,F,re,hz,zp,?_⟩
   unfold hJ at h;cases hs:aN T c env with
   |nx env' =>
    rw[hs] at h;exact fun σ' H' F' af=>⟨P,Z,env',F',af.re,af.z,zp,cW.trans af h⟩
   |bk env'=>rw[hs] at h;exact h
   |ct env'=>rw[hs] at h;exact h
   |rt d fr=>rw[hs] at h;exact h
   |xc e env'=>rw[hs] at h;exact h
   |bad=>rw[hs] at h;exact h
  split at h2
  ·rename_i e a b pos;split at h2
   ·rename_i x hx;obtain⟨p1,p3,p4,rfl⟩:=ux hx;split at h2
    ·rename_i hb;obtain⟨c,hcc,h2⟩:=ag.mp h2;obtain⟨cs,hcs,h2⟩:=ag.mp h2;split at h2
     ·rename_i ce;cases h2;rw[List.isEmpty_iff] at hb;subst hb;refine gW (eM (yL (PT.nox (fG m C.c _ _ hcc).2) (iO (hr x _ p1 p3 p4 hcs)) mn) ih) fun D σ H ⟨P,Z,env,F,re,hz,zp,h⟩=>?_
      unfold hJ at h;cases hev:ev T c env with
      |exc x=>rw[hev] at h;exact h.elim
      |bad=>rw[hev] at h;exact h.elim
      |ok p =>
       rw[hev] at h;dsimp only at h;cases ht:truth p.1 with
       |none=>rw[ht] at h;exact h.elim
       |some b =>
        rw[ht] at h;refine⟨P,env,F,re,p,b,hev,ht,fun H' sm=>?_⟩;have af2:=After.same (Z:=Z) re hz sm;cases b with
        |false=>exact⟨P,Z,env,F,af2.re,af2.z,zp,cW.trans af2 h⟩
        |true =>
         dsimp only at h;cases hq:ev T ce env with
         |exc x=>rw[hq] at h;exact h.elim
         |bad=>rw[hq] at h;exact h.elim
         |ok q =>
          rw[hq] at h;unfold rsB at h;dsimp only at h;cases hn:pq q.1 with
          |none=>rw[hn] at h;exact h.elim
          |some k =>
           rw[hn] at h;obtain⟨e1,e2⟩:=nR hn;refine⟨P,env,F,af2.re,[q],by unfold bK;rw[hq];unfold bK;rfl,fun vs H2 G ar=>?_⟩;have rp:=ar.reps;obtain⟨v,rfl,rv⟩:=(show aD X.K H2 [q.1] vs G from rp).of1;rw[e1] at rv;obtain⟨rfl,_⟩:=rv.int_inv;exact⟨k,rfl,e2,h H2 (After.same (Z:=Z) re hz (sm.trans ar.same)).ev⟩
     ·cases h2
    ·cases h2
   ·obtain⟨c,hcc,rfl⟩:=aa.mp h2;exact gen hcc
  ·rename_i tg iter b oe pos;split at h2
   ·split at h2
    ·rename_i hs;rw[ah,List.isEmpty_iff] at hs;obtain⟨rfl,hs⟩:=hs;obtain⟨t,ht,h2⟩:=ag.mp h2;obtain⟨it,hit,h2⟩:=ag.mp h2;obtain⟨cb,hcb,rfl⟩:=aa.mp h2;refine gW (eM (zD hp hc (PI.nox (uA C.c (fG m C.c) hit)) (PG.nox (oz C.c ht)) (vc C hp hc hr n b cb hcb) (mJ hs)) ih) fun D σ H ⟨P,Z,env,F,re,hz,zp,h⟩=>?_
     unfold hJ at h;cases hev:dN T it env with
     |exc x=>rw[hev] at h;exact h.elim
     |bad=>rw[hev] at h;exact h.elim
     |ok p =>
      rw[hev] at h;refine⟨P,Z,env,F,re,hz,zp,p,hev,?_⟩;dsimp only at h;cases hf:iF t p.2 (hJ T cb) p.1 (lock p.2 env) with
      |rs k=>rw[hf] at h;exact h
      |fl f =>
       rw[hf] at h;cases f with
       |nx e=>exact fun σ' H' F' af=>⟨P,Z,_,F',af.re,af.z,zp,cW.trans af h⟩
       |bk e=>exact h
       |ct e=>exact h
       |rt d fr=>exact h
       |xc x e=>exact h
       |bad=>exact h
    ·cases h2
   ·obtain⟨c,hcc,rfl⟩:=aa.mp h2;exact gen hcc
  ·obtain⟨c,hcc,rfl⟩:=aa.mp h2;exact gen hcc
end
noncomputable def uY:Rf->Option ((D×Bool) ⊕ Nat)
 | .fl (.rt d fr)=>some (.inl (d,fr))
 | .fl (.nx _)=>some (.inl (.non,true))
 |.rs n=>some (.inr n)
 |_=>none
section
variable {p:Pg}{P:Program}{w:World}{K:Frag}{mg:Str->Option Value}{base:Heap}
theorem xi {fo:List Str}{n m m2:Nat}{d:Df}{rb:Rw}{S x y qual:Str}{C cS fI f:Addr}{fd fdI:FuncData}{stI:Stmt}(hp:∀ d∈p.dfs,d.OkX p fo)(hi:p.In K mg)(hh:rj w K)(ih:qI p P w K mg base n)(Sc:cH d.N d.ps (aB d.st))(F:L2.qJ K d.nm d.nm d.st f fd)
  (hc:cB m (p.sc d) y m2 (aY d.st)=some rb) (hg:(aB d.st).names.lookup y=some .globalImplicit) (hm:mg y=some (.ref C)) (k:w8 K mg S x qual C cS fI fdI stI) (hd:(y==("__debug__" : Str))=false) :
  jZ P w K mg base (yq x P w) (iN n) f fd d.ps (spX K d.ps.length C fun ds=>uY (hJ ⟨p.run n,p.gl,p.fuel⟩ rb (aO ds d.N.length))):=by
 refine pC F Sc (fun A r=>⟨r.hd,by have:=r.dp;omega⟩) (fun vs H Q E h=>wd h) fun cdv A outer s H vs Q E hr hs=>?_
 have Cx0:=zP (nm:=d.nm) (CX:=yq x P w) (E:=E) (outer:=outer) (s:=s) (H:=H) (f:=f) (cdv:=cdv) (A:=A) hp hi hh ih Sc (hr.deeper _);refine⟨_,vc (W:=fun n H'=>E (.ref C) (some n) H') Cx0 PassesOwn.leaving rfl (fun x0 cs p1 p3 p4 hcs=>?_) _ _ _ hc,?_⟩
 ·obtain⟨n1,_⟩:=bD hcs;refine ri (C:=C) (W:=fun n H'=>E (.ref C) (some n) H') rfl ?_ hg hm k (PA.nox (cG (fG m Cx0.c) hcs)) (fun pins σ H1 s1 h' tk a t1 dx n u hW I e1 e2 e3 e4 e5=>rm I e1 e2 e3 e4 e5 hW) (by rw[aV n1];rfl) hd;show A.depth+1+1<_;have:=hr.dp;omega
 obtain⟨ds,G,hlen,rs,k⟩:=hs;dsimp only at k;have hN:ds.length<=d.N.length:=by
  rw[hlen,<-Sc.pre,cn];exact gb _ _
 obtain⟨F0,re,hF⟩:=entry rs hN;refine⟨fun a=>H a≠none,fun a=>H a=none\/a∈G,_,F0,re,fun j a ha=>.inr (hF j a ha),fun a h=>.inl (Classical.not_not.mp h),?_⟩;show cW _ _ _ _ _ _ _ _ (hJ ⟨p.run n,p.gl,p.fuel⟩ rb (aO ds d.N.length));cases hq:hJ ⟨p.run n,p.gl,p.fuel⟩ rb (aO ds d.N.length) with
 |rs j=>rw[hq] at k;exact fun H' ev=>k H' (gF ev)
 |fl f =>
  rw[hq] at k;cases f with
  |rt d fr =>
   intro v H' G' rp ev z fz;exact k v H' G' (gF ev) rp z fun hf=>let ⟨a,b⟩:=fz hf;⟨a,fun x hx=>⟨Classical.not_not.mp (b x hx).1,(b x hx).2⟩⟩
  |nx e=>exact fun σ' H' F' af=>k .non H' [] (gF af.ev) .non (fun _ h=>(nomatch h)) fun _=>⟨bo,fun _ h=>(nomatch h)⟩
  |bk e=>exact k.elim
  |ct e=>exact k.elim
  |xc x e=>exact k.elim
  |bad=>exact k.elim
end
noncomputable def BQ (e:Ex):Ex:=.ite (.cmp .Lt e (.cst (.int (18446744073709551616)))) (.ite (.cmp .Lt e (.cst (.int (0)))) (.neg (.cst .non)) e) (.neg (.cst .non))
noncomputable def yF (h e:Ex):bP:=.cons (.expr (BQ e)) (.cons (.ret h) .nil)
noncomputable def Rw.inl (h:Ex->Ex):Rw->bP
 |.nil=>.nil
 |.st c r=>.cons c (r.inl h)
 |.ifr c e r=>.cons (.ite c (yF (h e) e) .nil) (r.inl h)
 |.lop _ _ _ _=>.nil
noncomputable def Rw.std (h:Ex->Ex)(g:Ex):Rw->bP
 |.nil=>.cons (.ret g) .nil
 |.st c r=>(match c with
  |.ret e=>.cons (.expr e) (.cons (.ret g) .nil)
  |c=>.cons c (r.std h g))
 |.ifr c e r=>.cons (.ite c (yF (h e) e) .nil) (r.std h g)
 |.lop t it b r=>.cons (.forr t it (b.inl h)) (r.std h g)
noncomputable def St.pl:St->Bool
 | .asg (.nm _) _ _=>true
 |.mut _ _ _ _=>true
 |_=>false
noncomputable def Rw.plI:Rw->Bool
 |.nil=>true
 |.st c r=>c.pl&&r.plI
 |.ifr _ _ r=>r.plI
 |.lop _ _ _ _=>false
noncomputable def Rw.plO:Rw->Bool
 |.nil=>true
 |.st c r=>(match c with
  |.ret _=>true
  |c=>c.pl&&r.plO)
 |.ifr _ _ r=>r.plO
 |.lop _ _ b r=>b.plI&&r.plO
theorem pJ {x:Nat}{p:Option Int}{env:En}{d:D}{ys:List D}{rs:List Rt}{a:D}{fr:Bool}:eT x p env d ys rs≠.rt a fr:=by
 rcases uM (x:=x) (p:=p) (env:=env) (d:=d) (ys:=ys) (rs:=rs) with ⟨e,h⟩ | h<;>(rw[h];intro z;cases z)
theorem qK {T:Tb}{c:St}{env:En}{d:D}{fr:Bool}(h:c.pl=true):aN T c env≠.rt d fr:=by
 unfold St.pl at h;split at h
 ·exact sk
 ·intro z;rw[aN] at z;cases hx:ownAt env _ with
  |none=>rw[hx] at z;cases z
  |some dd =>
   rw[hx] at z;dsimp only at z;cases ho:jc T _ env with
   |exc x=>rw[ho] at z;cases z
   |bad=>rw[ho] at z;cases z
   |ok po =>
    rw[ho] at z;rw[bH] at z;cases ha:dd.at1 po with
    |none=>rw[ha] at z;cases z
    |some xs =>
     rw[ha] at z;dsimp only at z;cases hl:bK T _ env with
     |exc x=>rw[hl] at z;cases z
     |bad=>rw[hl] at z;cases z
     |ok l =>
      rw[hl] at z;rw[bH] at z;split at z
      ·cases z
      ·split at z
       ·cases z
       ·exact pJ z
 ·cases h
section
variable {T:Tb}{Rn:Nat->D×Bool->Prop}{h:Ex->Ex}
def Rl (Rn:Nat->D×Bool->Prop)(f:Fl)(b:Rf):Prop:=match f with
 |.nx e=>b = .fl (.nx e)
 |.rt d fr=>∃ n,b = .rs n/\Rn n (d,fr)
 |.ct e=>b = .fl (.ct e)
 |.bk e=>b = .fl (.bk e)
 |_=>True
theorem sW {op:CmpOp}{x:D}{j:Int}{b:Bool}(hc:eY .Lt x (.int j)=some b):∃ i,x = .int i/\b=decide (i<j):=by
 cases x<;>simp[eY] at hc
 exact⟨_,rfl,hc.symm⟩
theorem zm {e:Ex}{env:En}{p:D×Rt}(hk:ev T (BQ e) env = .ok p):∃ q n,ev T e env = .ok q/\pq q.1=some n:=by
 unfold BQ at hk;rw[ev] at hk;obtain⟨a,h1,hk⟩:=Rs.bind_ok hk;rw[ev] at h1;obtain⟨q,h2,h1⟩:=Rs.bind_ok h1;refine⟨q,?_⟩;rw[ev] at h1;obtain⟨c,h3,h1⟩:=Rs.bind_ok h1;cases h3;obtain⟨b,h4,h1⟩:=Rs.bind_ok h1;cases h1;obtain⟨i,hi,hb⟩:=sW (op:=.Lt) (bS h4);obtain⟨k,h5,hk⟩:=Rs.bind_ok hk;have h5:=bS h5;cases h5;rw[hb] at hk;by_cases hl:i<18446744073709551616
 ·rw[cw hl,if_pos rfl,ev] at hk;obtain⟨a2,g1,hk⟩:=Rs.bind_ok hk;rw[ev,h2] at g1;obtain⟨q2,g2,g1⟩:=Rs.bind_ok g1;cases g2;rw[ev] at g1;obtain⟨c2,g3,g1⟩:=Rs.bind_ok g1;cases g3;obtain⟨b2,g4,g1⟩:=Rs.bind_ok g1;cases g1;obtain⟨i2,hi2,hb2⟩:=sW (op:=.Lt) (bS g4);rw[hi] at hi2;cases hi2;obtain⟨k2,g5,hk⟩:=Rs.bind_ok hk;have g5:=bS g5;cases g5;rw[hb2] at hk;by_cases h0:i<0
  ·rw[cw h0,if_pos rfl,ev] at hk;obtain⟨z,z1,hk⟩:=Rs.bind_ok hk;cases z1;cases hk
  ·refine⟨i.toNat,h2,?_⟩;rw[hi];cases i with
   |ofNat n =>
    exact if_pos (by have:(n:Int)<18446744073709551616:=hl;omega)
   |negSucc n=>exact absurd (Int.negSucc_lt_zero n) h0
 ·rw[bj hl,if_neg av,ev] at hk;obtain⟨z,z1,hk⟩:=Rs.bind_ok hk;cases z1;cases hk
theorem lV (hR:∀ e env q n d fr,ev T e env = .ok q->pq q.1=some n->aN T (.ret (h e)) env = .rt d fr->Rn n (d,fr)):∀(b:Rw) {env:En},b.plI=true->Rl Rn (aC T (b.inl h) env) (hJ T b env)
 | .nil,env,_=>by
  unfold Rw.inl hJ;rw[aC];rfl
 | .st c r,env,hp=>by
  unfold Rw.plI at hp;rw[ah] at hp;unfold Rw.inl;rw[aC,hJ];cases hs:aN T c env with
  |nx e=>exact lV hR r hp.2
  |rt d fr=>exact absurd hs (qK hp.1)
  |bk e=>rfl
  |ct e=>rfl
  |xc x e=>trivial
  |bad=>trivial
 | .ifr c e r,env,hp=>by
  unfold Rw.inl;rw[aC,aN,hJ];cases hc:ev T c env with
  |exc x=>trivial
  |bad=>trivial
  |ok p =>
   rw[bH];dsimp only;cases ht:truth p.1 with
   |none=>trivial
   |some b =>
    cases b with
    |false =>
     dsimp only;rw[aC];exact lV hR r hp
    |true =>
     dsimp only;cases hk:ev T (BQ e) env with
     |exc x=>unfold yF;rw[aC,aN,hk];trivial
     |bad=>unfold yF;rw[aC,aN,hk];trivial
     |ok p =>
      obtain⟨q,n,h1,h2⟩:=zm hk;have e1:aC T (yF (h e) e) env=aC T (.cons (.ret (h e)) .nil) env:=by unfold yF;rw[aC,aN,hk];rfl
      rw[e1,aC];cases hr:aN T (.ret (h e)) env with
      |rt d fr =>
       refine⟨n,?_,hR e env q n d fr h1 h2 hr⟩;rw[h1];unfold rsB;dsimp only;rw[h2]
      |nx e'=>rw[aN] at hr;cases hq:ev T (h e) env<;>(rw[hq] at hr;cases hr)
      |bk e'=>rw[aN] at hr;cases hq:ev T (h e) env<;>(rw[hq] at hr;cases hr)
      |ct e'=>rw[aN] at hr;cases hq:ev T (h e) env<;>(rw[hq] at hr;cases hr)
      |xc x e'=>trivial
      |bad=>trivial
theorem oR {t:iT}{R:List Nat}{f:En->Fl}{b:En->Rf}(hf:∀ env,Rl Rn (f env) (b env)):∀(ds:List D) {env:En},Rl Rn (aU t R f ds env) (iF t R b ds env)
 |[],env=>rfl
 | d::ds,env=>by
  unfold aU iF;cases bN R t d env with
  |none=>trivial
  |some e1 =>
   dsimp only;have:=hf e1;cases hq:f e1 with
   |nx e=>rw[hq] at this;rw[show b e1=_ from this];exact oR hf ds
   |ct e=>rw[hq] at this;rw[show b e1=_ from this];exact oR hf ds
   |bk e=>rw[hq] at this;rw[show b e1=_ from this];rfl
   |rt d fr =>
    rw[hq] at this;obtain⟨n,e,r⟩:=this;rw[e];exact⟨n,rfl,r⟩
   |xc x e=>trivial
   |bad=>trivial
theorem uN {g:Ex}{Rg:D×Bool->Prop}(hR:∀ e env q n d fr,ev T e env = .ok q->pq q.1=some n->aN T (.ret (h e)) env = .rt d fr->Rn n (d,fr))(hg:∀ env d fr,aN T (.ret g) env = .rt d fr->Rg (d,fr)) :
  ∀(rb:Rw) {env:En}{r:D×Bool},rb.plO=true->Pc.ret (aC T (rb.std h g) env) = .ok r->(∃ q,uY (hJ T rb env)=some (.inl q)/\Rg r)\/∃ n,uY (hJ T rb env)=some (.inr n)/\Rn n r:=by
 have fin:∀{env:En}{r:D×Bool},Pc.ret (aC T (.cons (.ret g) .nil) env) = .ok r->Rg r:=fun {env r} hr=>by
  rw[aC] at hr;cases hs:aN T (.ret g) env with
  |rt d fr=>rw[hs] at hr;cases hr;exact hg _ _ _ hs
  |nx e'=>rw[aN] at hs;cases hq:ev T g env<;>(rw[hq] at hs;cases hs)
  |bk e'=>rw[hs] at hr;cases hr
  |ct e'=>rw[hs] at hr;cases hr
  |xc x e'=>rw[hs] at hr;cases hr
  |bad=>rw[hs] at hr;cases hr
 intro rb
 induction rb with
 |nil =>
  intro env r _ hr;exact .inl ⟨_,by unfold hJ;rfl,fin hr⟩
 |st c rb ih =>
  intro env r hp hr;by_cases hc:∃ e,c = .ret e
  ·obtain⟨e,rfl⟩:=hc;left;unfold Rw.std at hr;dsimp only at hr;rw[aC,aN] at hr;rw[hJ,aN];cases hq:ev T e env with
   |exc x=>rw[hq] at hr;cases hr
   |bad=>rw[hq] at hr;cases hr
   |ok q =>
    rw[hq] at hr;exact⟨_,rfl,fin hr⟩
  ·have hp:(c.pl&&rb.plO)=true:=by
    unfold Rw.plO at hp;split at hp
    ·exact absurd ⟨_,rfl⟩ hc
    ·exact hp
   rw[ah] at hp;have es:Rw.std h g (.st c rb) = .cons c (rb.std h g):=by
    rw[Rw.std];exact fun e z=>hc ⟨e,z⟩
   rw[es,aC] at hr;rw[hJ];cases hs:aN T c env with
   |nx e=>rw[hs] at hr;exact ih hp.2 hr
   |rt d fr=>exact absurd hs (qK hp.1)
   |bk e=>rw[hs] at hr;cases hr
   |ct e=>rw[hs] at hr;cases hr
   |xc x e=>rw[hs] at hr;cases hr
   |bad=>rw[hs] at hr;cases hr
 |ifr c e rb ih =>
  intro env r hp hr;have key:=lV (Rn:=Rn) (h:=h) hR (.ifr c e .nil) (env:=env) rfl;unfold Rw.inl Rw.inl at key;rw[aC] at key;unfold Rw.std at hr;rw[aC] at hr;rw[hJ];rw[hJ] at key;cases hs:aN T (.ite c (yF (h e) e) .nil) env with
  |rt d fr =>
   rw[hs] at hr key;cases hr;obtain⟨n,e1,e2⟩:=key;right;refine⟨n,?_,e2⟩;cases hc:ev T c env with
   |exc x=>rw[hc] at e1;cases e1
   |bad=>rw[hc] at e1;cases e1
   |ok p =>
    rw[hc] at e1;dsimp only at e1 ⊢;cases ht:truth p.1 with
    |none=>rw[ht] at e1;cases e1
    |some b =>
     rw[ht] at e1;cases b with
     |true=>dsimp only at e1 ⊢;rw[e1];rfl
     |false=>dsimp only at e1;rw[hJ] at e1;cases e1
  |nx e' =>
   rw[hs] at hr;rw[aN] at hs;cases hc:ev T c env with
   |exc x=>rw[hc] at hs;cases hs
   |bad=>rw[hc] at hs;cases hs
   |ok p =>
    rw[hc,bH] at hs;dsimp only at hs ⊢;cases ht:truth p.1 with
    |none=>rw[ht] at hs;cases hs
    |some b =>
     rw[ht] at hs;cases b with
     |false =>
      dsimp only at hs ⊢;rw[aC] at hs;cases hs;exact ih hp hr
     |true =>
      dsimp only at hs;unfold yF at hs;rw[aC,aN] at hs;cases hk:ev T (BQ e) env with
      |exc x=>rw[hk] at hs;cases hs
      |bad=>rw[hk] at hs;cases hs
      |ok q =>
       rw[hk] at hs;have hs:(aC T (.cons (.ret (h e)) .nil) env) = .nx e':=hs;rw[aC,aN] at hs;cases hq:ev T (h e) env<;>(rw[hq] at hs;cases hs)
  |bk e'=>rw[hs] at hr;cases hr
  |ct e'=>rw[hs] at hr;cases hr
  |xc x e'=>rw[hs] at hr;cases hr
  |bad=>rw[hs] at hr;cases hr
 |lop t it b rb _ ih =>
  intro env r hp hr;unfold Rw.plO at hp;rw[ah] at hp;unfold Rw.std at hr;rw[aC,aN] at hr;rw[hJ];cases hi:dN T it env with
  |exc x=>rw[hi] at hr;cases hr
  |bad=>rw[hi] at hr;cases hr
  |ok p =>
   rw[hi,bH] at hr;dsimp only at hr ⊢;have key:=oR (Rn:=Rn) (t:=t) (R:=p.2) (f:=aC T (b.inl h)) (b:=hJ T b) (fun env=>lV hR b hp.1) p.1 (env:=lock p.2 env);cases hs:aU t p.2 (aC T (b.inl h)) p.1 (lock p.2 env) with
   |nx e' =>
    rw[hs] at hr key;rw[show iF t p.2 (hJ T b) p.1 (lock p.2 env)=_ from key];exact ih hp.2 hr
   |rt d fr =>
    rw[hs] at hr key;cases hr;obtain⟨n,e1,e2⟩:=key;rw[e1];exact .inr ⟨n,rfl,e2⟩
   |bk e'=>rw[hs] at hr;cases hr
   |ct e'=>rw[hs] at hr;cases hr
   |xc x e'=>rw[hs] at hr;cases hr
   |bad=>rw[hs] at hr;cases hr
end
end Pc
end
section
namespace K45
open PySem PySem.Spec PyProof.Rows L2 Pc
noncomputable abbrev st (i:Nat):Stmt:=PySem.Challenge.pw_patchsquare_k45_no_picture.main.body.getD i (.Pass ⟨0,0,0,0⟩)
section
variable {P:Program}{w:World}{K:Frag}{mg:Str->Option Value}{base:Heap}
structure AJ (K:Frag)(mg:Str->Option Value)(cS cM fI:Addr)(fdI:FuncData)(stI:Stmt)(cs:List Addr):Prop where
 k:w8 K mg "SquareError" "row" "NoPicture.__init__" cM cS fI fdI stI
 m:mg "NoPicture" = some (.ref cM)
 sB:oJ K cS=true
 mB:oJ K cM=true
 sm:dU K cM cS=true
 mm:dU K cM cM=true
 o:pb (fun q:Str×Addr=>(PySem.W.nsIn K mainGlobals q.1=some (some (.ref q.2))/\jr K q.2=true)/\dU K cM q.2=false) (List.zip ["NoSquare","NoMarks","NoLabel"] cs)
 l:cs.length=3
theorem cs3 {cs:List Addr}(h:cs.length=3):∃ a b c,cs=[a,b,c]:=by
 match cs,h with
 |[a,b,c],_=>exact⟨a,b,c,rfl⟩
theorem pK {C:Addr}(q:oJ K C=true):jr K C=true:=by
 unfold oJ at q;rw[ah] at q;exact q.1
theorem refused {n:Nat}{f f' cS cM fI:Addr}{cs:List Addr}{fd fd' fdI:FuncData}{stI:Stmt}{spx:Sp}(hh:AJ K mg cS cM fI fdI stI cs)
  (F:L2.qJ K "_law_refused" "_law_refused" (st 17) f fd) (S:cH ["_law_picture","_law_at","e"] ["_law_picture"] (aB (st 17)))
  (FR:jZ P w K mg base (yq "row" P w) (iN n) f' fd' ["picture"] spx) (kp:PySem.W.keepIn K (.ref f')=true) (B':Binds K fd' ["picture"] []) (hm':mg "read_picture" = some (.ref f')) (sp:Sp)
  (hl:∀ vs H Q E,sp vs H Q E->∃ v,vs=[v]/\spx [v] H (fun _ H'=>Q .non H') (fun C' o H'=>∃ m,o=some m/\C' = .ref cM/\∀ H2,aG H' H2->Q (.int ((m:Nat):Int)) H2)):i8 P w K mg base nT (n+1) f fd ["_law_picture"] sp:=by
 refine (pC (RP:=eE (n+1)) F S (fun A r=>⟨r.hd,r.depth⟩) (fun vs H Q E h=>by obtain⟨v1,e,_⟩:=hl vs H Q E h;rw[e];rfl) fun cdv A outer s H vs Q E hr hs=>?_).plain;obtain⟨v1,rfl,hx⟩:=hl vs H Q E hs;have hrest:ip (dG nT P w K mg base ["_law_picture","_law_at","e"] "_law_refused" (aB (st 17)) f cdv A outer s H E).nox ((aY (st 17)).drop 1)
   (fun D σ H1=>σ=[some v1,some .non,none]/\spx [v1] H1 (fun _ H'=>D.rt .non H') (fun C' o H'=>∃ m,o=some m/\C' = .ref cM/\∀ H2,aG H' H2->D.rt (.int ((m:Nat):Int)) H2)):=by
  intro pins s1 σ H1 D I ⟨hσ,hx⟩;subst hσ;refine wpAny_execs_cons (wpAny_mono (Q:=SP _ pins { D with nx:=fun σ' H'=>∃ z,σ'[1]? = some (some z)/\D.rt z H' }) (qA (x:="row") (i:=2) (ts:=fun a k=>rH (Dh 2 a k) (iB 1)) (W:=fun C' m H'=>C' = .ref cM/\∀ H2,aG H' H2->D.rt (.int ((m:Nat):Int)) H2) rfl rfl I.ok S.nd rfl rfl rfl hh.m hh.mB
   (fun a o dx od C k H' hW hc hda hdi hns=>?su) (fun C k H' hW=>?w) (by decide)
   (lj (Q:=fun _ H'=>D.rt .non H') I (lA FR (iN.of hr _) rfl hm' kp B' .nil I (bR (pv 0) fA) ⟨v1,rfl,hx⟩) fun _ H' q=>⟨_,rfl,q⟩)) (fun fl s2 q=>?_) fun _ _ z=>z)
  case su =>
   have hc:o.cls = .ref cM:=hc.trans hW.1;exact iO (jb (i:=1) S.nd rfl (.inl rfl) (AZ (X:=(dG nT P w K mg base ["_law_picture","_law_at","e"] "_law_refused" (aB (st 17)) f cdv A outer s H E).nox) hh.k.cls hh.k.nx hc hda hdi hns (pv 2)))
  case w =>
   obtain⟨rfl,hQ⟩:=hW;exact⟨⟨cM,rfl,pK hh.mB,hh.mm⟩,fun a=>⟨rfl,_,rfl,hQ _ (aG.refl _)⟩⟩
  cases fl with
  |next =>
   obtain⟨σ',H',J,z,hz,q⟩:=q;exact iO (oU (jY (i:=1) rfl (.inl rfl))) pins s2 _ H' D J ⟨z,hz,q⟩
  |ret u=>exact q
  |brk=>exact q
  |cont=>exact q
 exact⟨_,ip.nox (eM (jb (i:=1) S.nd rfl (.inl rfl) pH) hrest),rfl,hx⟩
noncomputable abbrev dL:D:=.lst [.bl true,.bl true,.bl false,.bl false,.bl false]
def xX (K:Frag)(a cM:Addr)(v:V):TE:=CB (Bq K a cM) (hU (sO 2) (hU (tC v) qU))
def tsC (K:Frag)(cM c1 c2 c3 a:Addr):TS:=BM (rH (zA (hU (xX K a cM (.ty "ValueError")) (hU (xX K a cM (.ref cM)) (hU (xX K a cM (.ref c1)) qU)))) (iB 1))
 (rH (Bg (tw K (gr .Add)) (sO 1) (zA (hU (xX K a cM (.ref c2)) (hU (xX K a cM (.ref c3)) qU)))) (iB 1))
def A0 (K:Frag)(H:Hp)(d:D)(Q:V->Hp->Prop):Prop:=∀ v H2 G',aG H H2->Rep K H2 d v G'->G'.Nodup->(∀ a∈G',H a=none/\∃ vs:ML,H2 a=some vs.o)->Q v H2
theorem classes {n:Nat}{f f' cS cM fI:Addr}{cs:List Addr}{fd fd' fdI:FuncData}{stI:Stmt}{h:Heap}{spx:Sp}(KX:K.In h)(G:h.Ns mainGlobals mg)(hh:AJ K mg cS cM fI fdI stI cs)
  (F:L2.qJ K "_law_classes" "_law_classes" (st 18) f fd) (S:cH ["_law_picture","_law_kinds","e"] ["_law_picture"] (aB (st 18)))
  (FR:jZ P w K mg base (yq "row" P w) (iN n) f' fd' ["picture"] spx) (kp:PySem.W.keepIn K (.ref f')=true) (B':Binds K fd' ["picture"] []) (hm':mg "read_picture" = some (.ref f'))
  (hi:mg "isinstance" = none) (hv:mg "ValueError" = none) (sp:Sp)
  (hl:∀ vs H Q E,sp vs H Q E->∃ v,vs=[v]/\∀ p,H p=none->spx [v] (upd H p (.lst [])) (fun _ H'=>∀ H2,aG H' H2->Q (.ref p) H2) (fun C' o H'=>∃ m:Nat,o=some m/\C' = .ref cM/\A0 K H' dL Q)):i8 P w K mg base nT (n+1) f fd ["_law_picture"] sp:=by
 obtain⟨c1,c2,c3,rfl⟩:=cs3 hh.l;obtain⟨⟨o1,n1⟩,⟨o2,n2⟩,⟨o3,n3⟩,_⟩:=hh.o;have EP:yd K cM:=xT hh.k.cls;refine (pC (RP:=eE (n+1)) F S (fun A r=>⟨r.hd,r.depth⟩) (fun vs H Q E h=>by obtain⟨v1,e,_⟩:=hl vs H Q E h;rw[e];rfl) fun cdv A outer s H vs Q E hr hs=>?_).plain;obtain⟨v1,rfl,hx⟩:=hl vs H Q E hs;have hrest:ip (dG nT P w K mg base ["_law_picture","_law_kinds","e"] "_law_classes" (aB (st 18)) f cdv A outer s H E).nox ((aY (st 18)).drop 1)
   (fun D σ H1=>∃ p,σ=[some v1,some (.ref p),none]/\spx [v1] H1 (fun _ H'=>∀ H2,aG H' H2->D.rt (.ref p) H2) (fun C' o H'=>∃ m:Nat,o=some m/\C' = .ref cM/\A0 K H' dL D.rt)):=by
  intro pins s1 σ H1 D I ⟨p,hσ,hx⟩;subst hσ;refine wpAny_execs_cons (wpAny_mono (Q:=SP _ pins { D with nx:=fun σ' H'=>∃ z,σ'[1]? = some (some z)/\D.rt z H' }) (qA (x:="row") (i:=2) (ts:=fun a _=>tsC K cM c1 c2 c3 a) (W:=fun C' m H'=>C' = .ref cM/\A0 K H' dL D.rt) rfl rfl I.ok S.nd rfl rfl rfl hh.k.hS hh.sB
   (fun a o dx od C k H' hW hc hda hdi hns=>?su) (fun C k H' hW=>?w) (by decide)
   (lj (Q:=fun _ H'=>∀ H2,aG H' H2->D.rt (.ref p) H2) I (lA FR (iN.of hr _) rfl hm' kp B' .nil I (bR (pv 0) fA) ⟨v1,rfl,hx⟩) fun _ H' q=>⟨_,rfl,q _ (aG.refl _)⟩)) (fun fl s2 q=>?_) fun _ _ z=>z)
  case su =>
   have hc:o.cls = .ref cM:=hc.trans hW.1;have isg:∀{y:Str}{c:Addr}{p1 p2 p3 p4:Pos}(e1:PySem.W.nsIn K mainGlobals y=some (some (.ref c))) (e2:Gl (fZ (jo (dG nT P w K mg base ["_law_picture","_law_kinds","e"] "_law_classes" (aB (st 18)) f cdv A outer s H E).nox dx od) a o) y) (e3:(y==("__debug__" : Str))=false),
     PE (fZ (jo (dG nT P w K mg base ["_law_picture","_law_kinds","e"] "_law_classes" (aB (st 18)) f cdv A outer s H E).nox dx od) a o) (.Call (.Name "isinstance" p1) [.Name "e" p2,.Name y p3] [] p4) (xX K a cM (.ref c)):=fun {y c p1 p2 p3 p4} e1 e2 e3 =>
    gE (h9 EP hc) rfl hi boot_isinstance (bR (pv 2) (bR (md e2 (fv KX G e1) rfl e3) fA))
   have isv:∀{p1 p2 p3 p4:Pos},PE (fZ (jo (dG nT P w K mg base ["_law_picture","_law_kinds","e"] "_law_classes" (aB (st 18)) f cdv A outer s H E).nox dx od) a o) (.Call (.Name "isinstance" p1) [.Name "e" p2,.Name "ValueError" p3] [] p4) (xX K a cM (.ty "ValueError")):=fun {p1 p2 p3 p4} =>
    gE (h9 EP hc) rfl hi boot_isinstance (bR (pv 2) (bR (qv (v:=.ty "ValueError") rfl hv (by rfl) rfl) fA))
   have ism:∀{p1 p2 p3 p4:Pos},PE (fZ (jo (dG nT P w K mg base ["_law_picture","_law_kinds","e"] "_law_classes" (aB (st 18)) f cdv A outer s H E).nox dx od) a o) (.Call (.Name "isinstance" p1) [.Name "e" p2,.Name "NoPicture" p3] [] p4) (xX K a cM (.ref cM)):=fun {p1 p2 p3 p4} =>
    gE (h9 EP hc) rfl hi boot_isinstance (bR (pv 2) (bR (md rfl hh.m rfl) fA))
   exact eM (jb (i:=1) S.nd rfl (.inl rfl) (mf (bR isv (bR ism (bR (isg o1.1 rfl rfl) fA)))))
    (iO (jb (i:=1) S.nd rfl (.inl rfl) (yu (qd .Add) (pv 1) (mf (bR (isg o2.1 rfl rfl) (bR (isg o3.1 rfl rfl) fA))))))
  case w =>
   obtain⟨rfl,hQ⟩:=hW;refine⟨⟨cM,rfl,pK hh.mB,hh.sm⟩,fun a=>?_⟩;refine⟨.ref a,rfl,.inr (.inl ⟨rfl,.ref a,rfl,.inl ⟨cM,rfl,pK hh.mB,.ref a,rfl,.inl ⟨c1,rfl,o1.2,?_⟩⟩⟩)⟩;rw[hh.mm,n1];refine⟨(show (3:Nat)<=sizeLine by decide),fun p1 hp1=>?_⟩;refine⟨.ref p1,rfl,.ref a,rfl,.inl ⟨c2,rfl,o2.2,.ref a,rfl,.inl ⟨c3,rfl,o3.2,?_⟩⟩⟩;rw[n2,n3];refine⟨(show (2:Nat)<=sizeLine by decide),fun p2 hp2=>?_⟩;have hne:p1≠p2:=fun z=>by rw[<-z,aS] at hp2;cases hp2
   have r1:Rep K (upd (upd H' p1 (.lst [.bl true,.bl true,.bl false])) p2 (.lst [.bl false,.bl false])) (.lst [.bl true,.bl true,.bl false]) (.ref p1) [p1]:=.lst (.inl (by rw[aJ hne];exact aS)) (.cons (.bl true) (.cons (.bl true) (.cons (.bl false) .nil)));have r2:Rep K (upd (upd H' p1 (.lst [.bl true,.bl true,.bl false])) p2 (.lst [.bl false,.bl false])) (.lst [.bl false,.bl false]) (.ref p2) [p2]:=.lst (.inl aS) (.cons (.bl false) (.cons (.bl false) .nil));refine⟨_,_,dL,[p1]++([p2] ++ []),.cons r1 (.cons r2 .nil),rfl,fun v H2 G' rp nv=>?_⟩;obtain⟨nd,ns⟩:=nv.new rfl;have s0:aG H' (upd (upd H' p1 (.lst [.bl true,.bl true,.bl false])) p2 (.lst [.bl false,.bl false])):=(aG.new hp1).trans (aG.new hp2);exact⟨v,rfl,hQ v H2 G' (s0.trans nv.same) rp nd fun x hx=>⟨aG.no s0 (ns x hx).1,(ns x hx).2⟩⟩
  cases fl with
  |next =>
   obtain⟨σ',H',J,z,hz,q⟩:=q;exact iO (oU (jY (i:=1) rfl (.inl rfl))) pins s2 _ H' D J ⟨z,hz,q⟩
  |ret u=>exact q
  |brk=>exact q
  |cont=>exact q
 exact⟨_,ip.nox (eM (jb (i:=1) S.nd rfl (.inl rfl) (mf fA)) hrest),(show (0:Nat)<=sizeLine by decide),fun p hp=>⟨p,rfl,hx p hp⟩⟩
end
noncomputable def eD:List Str:=["range","len","isinstance","int","bool","list","all","enumerate","zip","ValueError"]
noncomputable def se:List Str:=["SIZES","CELLS"]
noncomputable def BI:Df:=⟨"read_picture",st 9,["picture"],["picture","rows","square","number","row"],b0⟩
noncomputable def df1:Df:=⟨"_law_mix",st 11,["_law_cell","_law_factor","_law_prime"],["_law_cell","_law_factor","_law_prime"],b1⟩
noncomputable def df2:Df:=⟨"_law_whole",st 12,["_law_x"],["_law_x"],b2⟩
noncomputable def df3:Df:=⟨"_law_rows",st 13,["_law_script","_law_many"],["_law_script","_law_many","_law_rows_here","_law_row","_law_signs","_law_column","_law_k","_law_d"],b3⟩
noncomputable def df4:Df:=⟨"_law_odd",st 14,["_law_d"],["_law_d","_law_some"],b4⟩
noncomputable def df5:Df:=⟨"_law_spoilt",st 15,["_law_rows_here","_law_cell"],["_law_rows_here","_law_cell","_law_d","_law_at","_law_row","_law_spot","_law_kind","_law_made"],b5⟩
noncomputable def df6:Df:=⟨"_law_due",st 16,["_law_rows_here"],["_law_rows_here","_law_number","_law_sign"],b6⟩
noncomputable def df7:Df:=⟨"_law_refused",st 17,["_law_picture"],["_law_picture","rows","square","number","row"],b7⟩
noncomputable def df8:Df:=⟨"_law_classes",st 18,["_law_picture"],["_law_picture","rows","square","number","row"],b8⟩
noncomputable def df9:Df:=⟨"_law_good",st 19,["_law_picture","_law_rows_here"],["_law_picture","_law_rows_here","_law_square","_law_cells","_law_row","_law_cell","_law_sign"],b9⟩
noncomputable def C9:Df:=⟨"law",st 20,["_law_script"],["_law_script","_law_cells","_law_seed","_law_many","_law_rows_here","_law_cell","_law_picture","_law_due_here","_law_found"],Bk⟩
noncomputable def p:Pg:=⟨[BI,df1,df2,df3,df4,df5,df6,df7,df8,df9,C9],se,eD,gl,1000⟩
noncomputable def fgn:List Str:=["_law_refused","_law_classes"]
theorem ok:pb (Df.OkX p fgn) p.dfs:=by
 refine⟨?a0,?a1,?a2,?a3,?a4,?a5,?a6,?a7,?a8,?a9,?a10,trivial⟩
 case a0 | a2 | a4 | a6 | a10=>exact .inl (Df.ok_of (n:=60) (by decide +kernel) rfl (fun _ _ _ _ _ _ us hl=>@xr (fun us=>bindArgs _ ⟨us,[]⟩=pure (List.zip _ us)) us hl (fun _=>rfl)))
 case a1=>exact .inl (Df.ok_of (n:=60) (by decide +kernel) rfl (fun _ _ _ _ _ _ us hl=>@len3 (fun us=>bindArgs _ ⟨us,[]⟩=pure (List.zip _ us)) us hl (fun _ _ _=>rfl)))
 case a3 | a5 | a9=>exact .inl (Df.ok_of (n:=60) (by decide +kernel) rfl (fun _ _ _ _ _ _ us hl=>@y4 (fun us=>bindArgs _ ⟨us,[]⟩=pure (List.zip _ us)) us hl (fun _ _=>rfl)))
 case a7=>exact .inr ⟨(fun _ _ _ _ _ _ us hl=>@xr (fun us=>bindArgs _ ⟨us,[]⟩=pure (List.zip _ us)) us hl (fun _=>rfl)),.head _⟩
 case a8=>exact .inr ⟨(fun _ _ _ _ _ _ us hl=>@xr (fun us=>bindArgs _ ⟨us,[]⟩=pure (List.zip _ us)) us hl (fun _=>rfl)),.tail _ (.head _)⟩
theorem plaw (ns:List Int)(hl:ns.length<=63):∃ fr,p.run 3 10 [.lst (ns.map D.int)] = .ok (.bl true,fr):=law ns hl
noncomputable def dR:Df:=⟨"_law_refused",st 17,["_law_picture"],["_law_picture","_law_at","e"],.nil⟩
noncomputable def dC:Df:=⟨"_law_classes",st 18,["_law_picture"],["_law_picture","_law_kinds","e"],.nil⟩
noncomputable def stI:Stmt:=match st 6 with
 |.ClassDef _ _ _ b ..=>b.getD 0 (.Pass ⟨0,0,0,0⟩)
 |s=>s
noncomputable def rb:Rw:=.st (.asg (.nm 1) (.mth .ssplit (.var 0) (.cons (.cst (.str ("\n" : PySem.Str))) .nil)) false)
 (.ifr (.cmp .NotIn (.blt .len (.cons (.var 1) .nil)) (.glb 0)) (.cst (.int 0))
 (.st (.asg (.nm 2) (.lst .nil) false)
 (.lop (.tp [3,4]) (.enum (.var 1)) (.ifr eC (.var 3) (.st (.mut 2 .none .append (.cons (.comp 1 [] (.nm 0) (.seq (.var 4)) .none (.ix (.glb 1) (.var 0))) .nil)) .nil))
 (.st (.ret (.var 2)) .nil))))
theorem Cn:x8 stI "SquareError" "row" :=
 ⟨⟨_,_,_,_,_,_,_,_,_,_,_,_,_,_,_,_,rfl,rfl,by decide,by decide⟩,iS (p:=p) (d:=⟨"__init__",stI,["self","row"],["self","row"],.nil⟩) (n:=60) (by decide +kernel),rfl,rfl,rfl,by decide,by decide⟩
section
variable {P:Program}{w:World}{K:Frag}{mg:Str->Option Value}{base h:Heap}
theorem yl {vs:List V}(h:vs.length=1):∃ v,vs=[v]:=by
 match vs,h with
 |[v],_=>exact⟨v,rfl⟩
theorem foreign (KX:K.In h)(G:h.Ns mainGlobals mg)(I:p.In K mg)(hH:rj w K)(hh:∃ cS cM fI fd cs,AJ K mg cS cM fI fd stI cs):mI p fgn P w K mg base:=by
 obtain⟨cS,cM,fI,fdI,cs,hh⟩:=hh;intro n i d hd hn ih f fd F;have e24:∀ j,j<11->j≠7->j≠8->∀ e,p.dfs[j]? = some e->e.nm≠("_law_refused" : Str)/\e.nm≠("_law_classes" : Str):=by
  intro j h1 h2 h3 e he;have:∀ j,j<11->j≠7->j≠8->(p.dfs[j]?.all fun e=>e.nm != ("_law_refused" : Str)&&e.nm != ("_law_classes" : Str))=true:=by decide +kernel
  have:=this j h1 h2 h3;rw[he] at this;simpa using this
 have hi:i=7\/i=8:=Classical.byContradiction fun z=>by
  obtain⟨y1,y2⟩:=e24 i (List.getElem?_eq_some_iff.mp hd).1 (fun e=>z (.inl e)) (fun e=>z (.inr e)) d hd;rcases bw.mp hn with e | e
  ·exact y1 e
  ·exact y2 (List.mem_singleton.mp e)
 obtain⟨f',fd',F',M'⟩:=I.fn 0 BI rfl;have B':=F'.binds (eF ok BI (List.mem_of_getElem? (i:=0) rfl)).bd;have FR:=xi (m:=60) (m2:=60) (d:=BI) (rb:=rb) (P:=P) (base:=base) (eF ok) I hH ih (iS (p:=p) (d:=BI) (n:=60) (by decide +kernel)) F' (by kernel_rfl) rfl hh.m hh.k (by decide);rcases hi with rfl | rfl
 ·cases hd;refine refused hh F (iS (p:=p) (d:=dR) (n:=60) (by decide +kernel)) FR F'.kp B' M' _ fun vs H Q E hs=>?_
  obtain⟨ds,G',hlen,rs,r,hrun,kk⟩:=hs;have hl:ds.length=1:=hlen;obtain⟨v1,rfl⟩:=yl (by rw[<-rs.len];exact hl:vs.length=1);refine⟨v1,rfl,ds,G',hl,rs,?_⟩;have hrun:Pc.ret (aC ⟨p.run n,p.gl,p.fuel⟩ (rb.std id (.cst .non)) (aO ds 5)) = .ok r:=(dS (F:=⟨1,5,b7⟩) rfl hl).symm.trans hrun;show match uY (hJ ⟨p.run n,p.gl,p.fuel⟩ rb (aO ds 5)) with
   | some (.inl (d,fr))=>_
   | some (.inr k)=>_
   |none=>False
  rcases uN (Rn:=fun k r=>r.1 = .int ((k:Nat):Int)) (Rg:=fun r=>r.1 = .non) (h:=id) (g:=.cst .non) (fun e env q k d fr h1 h2 h3=>by
   rw[aN,show id e=e from rfl,h1] at h3;cases h3;exact (nR h2).1) (fun env d fr h=>by
   rw[aN,ev] at h;cases h;rfl) rb rfl hrun with ⟨q,e,er⟩ | ⟨k,e,er⟩
  ·rw[e];intro v H' G'' sm _ _ _;exact kk .non H' [] sm (by rw[er];exact .non) (fun _ z=>(nomatch z)) fun _=>⟨bo,fun _ z=>(nomatch z)⟩
  ·rw[e];intro H' sm;exact⟨k,rfl,rfl,fun H2 s2=>kk (.int (k:Int)) H2 [] (sm.trans s2) (by rw[er];exact .int _) (fun _ z=>(nomatch z)) fun _=>⟨bo,fun _ z=>(nomatch z)⟩⟩
 ·cases hd;refine classes KX G hh F (iS (p:=p) (d:=dC) (n:=60) (by decide +kernel)) FR F'.kp B' M' (I.blt "isinstance" (by decide)) (I.blt "ValueError" (by decide)) _ fun vs H Q E hs=>?_
  obtain⟨ds,G',hlen,rs,r,hrun,kk⟩:=hs;have hl:ds.length=1:=hlen;obtain⟨v1,rfl⟩:=yl (by rw[<-rs.len];exact hl:vs.length=1);refine⟨v1,rfl,fun p0 hp=>⟨ds,G',hl,rs.same (aG.new hp),?_⟩⟩;have hrun:Pc.ret (aC ⟨p.run n,p.gl,p.fuel⟩ (rb.std (fun _=>CU) (.lst .nil)) (aO ds 5)) = .ok r:=(dS (F:=⟨1,5,b8⟩) rfl hl).symm.trans hrun;show match uY (hJ ⟨p.run n,p.gl,p.fuel⟩ rb (aO ds 5)) with
   | some (.inl (d,fr))=>_
   | some (.inr k)=>_
   |none=>False
  rcases uN (Rn:=fun _ r=>r=(dL,true)) (Rg:=fun r=>r=(.lst [],true)) (h:=fun _=>CU) (g:=.lst .nil) (fun e env q k d fr h1 h2 h3=>by
   rw[aN,uI] at h3;cases h3;rfl) (fun env d fr h=>by
   have e0:ev ⟨p.run n,p.gl,p.fuel⟩ (.lst .nil) env = .ok (.lst [],.mv []):=rfl;rw[aN,e0] at h;cases h;rfl) rb rfl hrun with ⟨q,e,er⟩ | ⟨k,e,er⟩
  ·rw[e];subst er;intro v H' G'' sm _ _ _ H2 s2;have at2:H2 p0=some (.lst []):=(sm.trans s2) _ _ aS;exact kk (.ref p0) H2 [p0] ((aG.new hp).trans (sm.trans s2)) (.lst (.inl at2) .nil) (fun a ha=>.inl (by rw[List.mem_singleton.mp ha];exact hp)) fun _=>⟨List.nodup_cons.mpr ⟨fun z=>(nomatch z),bo⟩,fun a ha=>by rw[List.mem_singleton.mp ha];exact⟨hp,.l [],at2⟩⟩
  ·rw[e];subst er;intro H' sm;have s0:=(aG.new (o:=.lst []) hp).trans sm;exact⟨k,rfl,rfl,fun v H2 G2 s2 rp nd ns=>kk v H2 G2 (s0.trans s2) rp (fun a ha=>.inl (aG.no s0 (ns a ha).1)) fun _=>⟨nd,fun a ha=>⟨aG.no s0 (ns a ha).1,(ns a ha).2⟩⟩⟩
end
theorem bdI (kV doc pm:Value)(an:Option Addr)(cdv ct:Value)(us:List Value)(hl:us.length=2):bindArgs (PySem.W.fnOf "__init__" "NoPicture.__init__" (cU stI) (aY stI) (aB stI) .none kV doc pm an cdv ct) ⟨us,[]⟩=pure ([("self" : Str),"row"].zip us) :=
 @y4 (fun us=>bindArgs _ ⟨us,[]⟩=pure (List.zip _ us)) us hl (fun _ _=>rfl)
theorem nxI:typeLookup (.type "ValueError") "row" = pure none:=by rw[typeLookup_type,builtinLookup_eq_fast];kernel_rfl
end K45
namespace K45
open PySem PySem.W Pc.Hd
noncomputable def K (P:Params):Frag:=[(2,{ cls:=Value.none,data:=Data.dict #[] }),
 di 3 #[kv P "__name__" 165 (sv "law_patchsquare_k45_no_picture" 303),kv P "__doc__" 166 .none,kv P "__package__" 167 .none,kv P "__loader__" 168 (.builtin "__main__.__loader__#opaque"),kv P "__spec__" 169 .none,kv P "__annotations__" 170 (.ref 6),kv P "__builtins__" 171 (.ref 4),kv P "__file__" 173 (sv "/claim/cut.py" 172),kv P "__cached__" 174 .none,kv P "SIZES" 192 (.ref 15),kv P "SquareError" 212 (.ref 25),kv P "NoLabel" 228 (.ref 38),kv P "NoMarks" 244 (.ref 50),kv P "NoSquare" 260 (.ref 62),kv P "NoPicture" 285 (.ref 81),kv P "CELLS" 296 (.ref 84),kv P "read_picture" 302 (.ref 89),kv P "_law_mix" 313 (.ref 96),kv P "_law_whole" 320 (.ref 103),kv P "_law_rows" 334 (.ref 110),kv P "_law_odd" 342 (.ref 117),kv P "_law_spoilt" 356 (.ref 124),kv P "_law_due" 365 (.ref 131),kv P "_law_refused" 374 (.ref 138),kv P "_law_classes" 383 (.ref 145),kv P "_law_good" 396 (.ref 152),kv P "law" 411 (.ref 159)] 27,
 di 6 #[] 0,
 tu 15 #[(.int 15 187),(.int 19 188),(.int 23 189),(.int 27 190),(.int 31 191)],
 tu 16 #[(.type "ValueError")],
 tu 23 #[],
 di 24 #[kv P "__module__" 202 (sv "patchsquare.errors" 193),kv P "__firstlineno__" 206 (.int 3 205),kv P "__static_attributes__" 207 (.ref 23),kv P "__weakref__" 209 (.ref 26),kv P "__doc__" 210 .none] 3,
 (25,{ cls:=Value.type "type",data:=Data.cls { name:=Str.ofString "SquareError",bases:=[Value.type "ValueError"],mro:=[Value.ref 25,Value.type "ValueError",Value.type "Exception",Value.type "BaseException",Value.type "object"],ns:=24,qualname:=Str.ofString "SquareError",subclasses:=[Value.ref 38,Value.ref 50,Value.ref 62,Value.ref 81] },slots:=#[some (Value.ref 16),none,some (Value.str (Str.ofString "SquareError") 195),some (Value.str (Str.ofString "SquareError") 203),some (Value.builtin "ValueError.__new__"),some (Value.bool true)] }),
 (26,{ cls:=Value.type "getset_descriptor",data:=Data.fields #[Value.str (Str.ofString "__weakref__") 208,Value.ref 25,Value.builtin "ExceptionGroup.__weakref__",Value.none] }),
 tu 29 #[(.ref 25)],
 tu 36 #[],
 di 37 #[kv P "__module__" 220 (sv "patchsquare.errors" 193),kv P "__firstlineno__" 224 (.int 5 223),kv P "__static_attributes__" 225 (.ref 36),kv P "__doc__" 226 .none] 2,
 (38,{ cls:=Value.type "type",data:=Data.cls { name:=Str.ofString "NoLabel",bases:=[Value.ref 25],mro:=[Value.ref 38,Value.ref 25,Value.type "ValueError",Value.type "Exception",Value.type "BaseException",Value.type "object"],ns:=37,qualname:=Str.ofString "NoLabel" },slots:=#[some (Value.ref 29),none,some (Value.str (Str.ofString "NoLabel") 213),some (Value.str (Str.ofString "NoLabel") 221),some (Value.builtin "ValueError.__new__"),some (Value.bool true)] }),
 tu 41 #[(.ref 25)],
 tu 48 #[],
 di 49 #[kv P "__module__" 236 (sv "patchsquare.errors" 193),kv P "__firstlineno__" 240 (.int 7 239),kv P "__static_attributes__" 241 (.ref 48),kv P "__doc__" 242 .none] 2,
 (50,{ cls:=Value.type "type",data:=Data.cls { name:=Str.ofString "NoMarks",bases:=[Value.ref 25],mro:=[Value.ref 50,Value.ref 25,Value.type "ValueError",Value.type "Exception",Value.type "BaseException",Value.type "object"],ns:=49,qualname:=Str.ofString "NoMarks" },slots:=#[some (Value.ref 41),none,some (Value.str (Str.ofString "NoMarks") 229),some (Value.str (Str.ofString "NoMarks") 237),some (Value.builtin "ValueError.__new__"),some (Value.bool true)] }),
 tu 53 #[(.ref 25)],
 tu 60 #[],
 di 61 #[kv P "__module__" 252 (sv "patchsquare.errors" 193),kv P "__firstlineno__" 256 (.int 9 255),kv P "__static_attributes__" 257 (.ref 60),kv P "__doc__" 258 .none] 2,
 (62,{ cls:=Value.type "type",data:=Data.cls { name:=Str.ofString "NoSquare",bases:=[Value.ref 25],mro:=[Value.ref 62,Value.ref 25,Value.type "ValueError",Value.type "Exception",Value.type "BaseException",Value.type "object"],ns:=61,qualname:=Str.ofString "NoSquare" },slots:=#[some (Value.ref 53),none,some (Value.str (Str.ofString "NoSquare") 245),some (Value.str (Str.ofString "NoSquare") 253),some (Value.builtin "ValueError.__new__"),some (Value.bool true)] }),
 tu 65 #[(.ref 25)],
 co 77 #[(sv "__init__" 273),(sv "NoPicture.__init__" 274),(sv "/claim/cut.py" 275),(.int 13 0),(.int 2 0),(.int 0 0),(.int 0 0),(.int 3 0),(.ref 72),(.bool true),(.int 181 0),(.ref 73),.none,(.ref 74),(.ref 75),(.ref 76),(.int 278 0),(.int 13 0),(sv "/claim/cut.py" 279)],
 (78,{ cls:=Value.type "function",data:=Data.func { name:=Str.ofString "__init__",qualname:=Str.ofString "NoPicture.__init__",params:={ posonlyargs:=[],args:=[{ arg:=Str.ofString "self",annotation:=none,pos:={ line:=13,col:=17,endLine:=13,endCol:=21 } },{ arg:=Str.ofString "row",annotation:=none,pos:={ line:=13,col:=23,endLine:=13,endCol:=26 } }],vararg:=none,kwonlyargs:=[],kw_defaults:=[],kwarg:=none,defaults:=[] },body:=FuncBody.stmts [Stmt.Expr (((Expr.Name (Str.ofString "SquareError") { line:=14,col:=8,endLine:=14,endCol:=19 }).Attribute (Str.ofString "__init__") { line:=14,col:=8,endLine:=14,endCol:=28 }).Call [Expr.Name (Str.ofString "self") { line:=14,col:=29,endLine:=14,endCol:=33 },Expr.JoinedStr [Expr.Constant (Const.str (Str.ofString "row ")) 0 { line:=14,col:=37,endLine:=14,endCol:=41 },(Expr.Name (Str.ofString "row") { line:=14,col:=42,endLine:=14,endCol:=45 }).FormattedValue (-1) none { line:=14,col:=41,endLine:=14,endCol:=46 },Expr.Constant (Const.str (Str.ofString " is not one of a picture")) 0 { line:=14,col:=46,endLine:=14,endCol:=70 }] { line:=14,col:=35,endLine:=14,endCol:=71 }] [] { line:=14,col:=8,endLine:=14,endCol:=72 }) { line:=14,col:=8,endLine:=14,endCol:=72 },Stmt.Assign [(Expr.Name (Str.ofString "self") { line:=15,col:=8,endLine:=15,endCol:=12 }).Attribute (Str.ofString "row") { line:=15,col:=8,endLine:=15,endCol:=16 }] (Expr.Name (Str.ofString "row") { line:=15,col:=19,endLine:=15,endCol:=22 }) { line:=15,col:=8,endLine:=15,endCol:=22 }],scope:={ kind:=ScopeKind.function,names:=[(Str.ofString "self",NameKind.local),(Str.ofString "row",NameKind.local),(Str.ofString "SquareError",NameKind.globalImplicit)],isGenerator:=false,isCoroutine:=false },globals:=3,closure:=[],defaults:=Value.none,kwdefaults:=Value.none,pyModule:=Value.str (Str.ofString "patchsquare.errors") 193,code:=Value.ref 77 } }),
 tu 79 #[(sv "row" 281)],
 di 80 #[kv P "__module__" 268 (sv "patchsquare.errors" 193),kv P "__firstlineno__" 272 (.int 11 271),kv P "__init__" 280 (.ref 78),kv P "__static_attributes__" 282 (.ref 79),kv P "__doc__" 283 .none] 2,
 (81,{ cls:=Value.type "type",data:=Data.cls { name:=Str.ofString "NoPicture",bases:=[Value.ref 25],mro:=[Value.ref 81,Value.ref 25,Value.type "ValueError",Value.type "Exception",Value.type "BaseException",Value.type "object"],ns:=80,qualname:=Str.ofString "NoPicture" },slots:=#[some (Value.ref 65),none,some (Value.str (Str.ofString "NoPicture") 261),some (Value.str (Str.ofString "NoPicture") 269),some (Value.builtin "ValueError.__new__"),some (Value.bool true)] }),
 di 84 #[kv P "#" 288 (.int 1 289),kv P "." 290 (.int 0 291),kv P "?" 292 .none] 3,
 co 88 #[(sv "read_picture" 297),(sv "read_picture" 298),(sv "/claim/cut.py" 299),(.int 18 0),(.int 1 0),(.int 0 0),(.int 0 0),(.int 3 0),(.ref 85),(.bool true),(.int 181 0),(.ref 86),.none,.none,.none,(.ref 87),(.int 300 0),(.int 18 0),(sv "/claim/cut.py" 301)],
 fo 89 (st 9) (sv "patchsquare.pictures" 286) (.ref 88),
 co 95 #[(sv "_law_mix" 305),(sv "_law_mix" 306),(sv "/claim/cut.py" 307),(.int 29 0),(.int 3 0),(.int 0 0),(.int 0 0),(.int 3 0),(.ref 90),(.bool true),(.int 181 0),(.ref 91),.none,(.ref 92),(.ref 93),(.ref 94),(.int 311 0),(.int 29 0),(sv "/claim/cut.py" 312)],
 fo 96 (st 11) (sv "law_patchsquare_k45_no_picture" 303) (.ref 95),
 co 102 #[(sv "_law_whole" 314),(sv "_law_whole" 315),(sv "/claim/cut.py" 316),(.int 31 0),(.int 1 0),(.int 0 0),(.int 0 0),(.int 3 0),(.ref 97),(.bool true),(.int 181 0),(.ref 98),.none,(.ref 99),(.ref 100),(.ref 101),(.int 318 0),(.int 31 0),(sv "/claim/cut.py" 319)],
 fo 103 (st 12) (sv "law_patchsquare_k45_no_picture" 303) (.ref 102),
 co 109 #[(sv "_law_rows" 321),(sv "_law_rows" 322),(sv "/claim/cut.py" 323),(.int 33 0),(.int 2 0),(.int 0 0),(.int 0 0),(.int 3 0),(.ref 104),(.bool true),(.int 181 0),(.ref 105),.none,(.ref 106),(.ref 107),(.ref 108),(.int 332 0),(.int 33 0),(sv "/claim/cut.py" 333)],
 fo 110 (st 13) (sv "law_patchsquare_k45_no_picture" 303) (.ref 109),
 co 116 #[(sv "_law_odd" 335),(sv "_law_odd" 336),(sv "/claim/cut.py" 337),(.int 44 0),(.int 1 0),(.int 0 0),(.int 0 0),(.int 3 0),(.ref 111),(.bool true),(.int 181 0),(.ref 112),.none,(.ref 113),(.ref 114),(.ref 115),(.int 340 0),(.int 44 0),(sv "/claim/cut.py" 341)],
 fo 117 (st 14) (sv "law_patchsquare_k45_no_picture" 303) (.ref 116),
 co 123 #[(sv "_law_spoilt" 343),(sv "_law_spoilt" 344),(sv "/claim/cut.py" 345),(.int 48 0),(.int 2 0),(.int 0 0),(.int 0 0),(.int 3 0),(.ref 118),(.bool true),(.int 181 0),(.ref 119),.none,(.ref 120),(.ref 121),(.ref 122),(.int 354 0),(.int 48 0),(sv "/claim/cut.py" 355)],
 fo 124 (st 15) (sv "law_patchsquare_k45_no_picture" 303) (.ref 123),
 co 130 #[(sv "_law_due" 357),(sv "_law_due" 358),(sv "/claim/cut.py" 359),(.int 70 0),(.int 1 0),(.int 0 0),(.int 0 0),(.int 3 0),(.ref 125),(.bool true),(.int 181 0),(.ref 126),.none,(.ref 127),(.ref 128),(.ref 129),(.int 363 0),(.int 70 0),(sv "/claim/cut.py" 364)],
 fo 131 (st 16) (sv "law_patchsquare_k45_no_picture" 303) (.ref 130),
 co 137 #[(sv "_law_refused" 366),(sv "_law_refused" 367),(sv "/claim/cut.py" 368),(.int 80 0),(.int 1 0),(.int 0 0),(.int 0 0),(.int 3 0),(.ref 132),(.bool true),(.int 181 0),(.ref 133),.none,(.ref 134),(.ref 135),(.ref 136),(.int 372 0),(.int 80 0),(sv "/claim/cut.py" 373)],
 fo 138 (st 17) (sv "law_patchsquare_k45_no_picture" 303) (.ref 137),
 co 144 #[(sv "_law_classes" 375),(sv "_law_classes" 376),(sv "/claim/cut.py" 377),(.int 87 0),(.int 1 0),(.int 0 0),(.int 0 0),(.int 3 0),(.ref 139),(.bool true),(.int 181 0),(.ref 140),.none,(.ref 141),(.ref 142),(.ref 143),(.int 381 0),(.int 87 0),(sv "/claim/cut.py" 382)],
 fo 145 (st 18) (sv "law_patchsquare_k45_no_picture" 303) (.ref 144),
 co 151 #[(sv "_law_good" 384),(sv "_law_good" 385),(sv "/claim/cut.py" 386),(.int 95 0),(.int 2 0),(.int 0 0),(.int 0 0),(.int 3 0),(.ref 146),(.bool true),(.int 181 0),(.ref 147),.none,(.ref 148),(.ref 149),(.ref 150),(.int 394 0),(.int 95 0),(sv "/claim/cut.py" 395)],
 fo 152 (st 19) (sv "law_patchsquare_k45_no_picture" 303) (.ref 151),
 co 158 #[(sv "law" 397),(sv "law" 398),(sv "/claim/cut.py" 399),(.int 108 0),(.int 1 0),(.int 0 0),(.int 0 0),(.int 3 0),(.ref 153),(.bool true),(.int 181 0),(.ref 154),.none,(.ref 155),(.ref 156),(.ref 157),(.int 409 0),(.int 108 0),(sv "/claim/cut.py" 410)],
 fo 159 (st 20) (sv "law_patchsquare_k45_no_picture" 303) (.ref 158)]
noncomputable def as:List Addr:=[2,3,6,15,16,23,24,25,26,29,36,37,38,41,48,49,50,53,60,61,62,65,77,78,79,80,81,84,88,89,95,96,102,103,109,110,116,117,123,124,130,131,137,138,144,145,151,152,158,159]
noncomputable def Q:Program:={ PySem.Challenge.pw_patchsquare_k45_no_picture with main:={ PySem.Challenge.pw_patchsquare_k45_no_picture.main with body:=[st 0,st 2,st 3,st 4,st 5,st 6,st 8,st 9,st 11,st 12,st 13,st 14,st 15,st 16,st 17,st 18,st 19,st 20] } }
noncomputable def H:Hook:=kHook K as (fun _=>rfl)
end K45
open PySem PySem.W PyProof.Rows
theorem K45.left:LeftO PySem.Challenge.pw_patchsquare_k45_no_picture K45.Q ["CELLS"] (fun s=>xlAt K45.Q [] s&&recOk (RowW.records PySem.Challenge.rw_patchsquare_k45_no_picture.row.toRowW) s) (Hook.obs K45.H) (Hook.val K45.H) 3164:=by
 refine LeftO.of_split "special-get-raises" fun w=>?_
 kernel_rfl
theorem PySem.Challenge.cw_patchsquare_k45_no_picture_holds : PySem.Challenge.rw_patchsquare_k45_no_picture.Holds := by
 refine holds_law (by decide +kernel) fun said=>?_
 refine holds_open (q:=K45.Q) (loose:=["CELLS"]) (XP:=XL K45.Q []) (YP:=Hook.says K45.H) K45.left (Hook.of K45.H) (Hook.keeps K45.H) (fun s e=>xl_of s (Bool.and_eq_true_iff.mp e).1) XL.keeps (by rfl) (by rfl) (by rfl) (fun s e=>recFacts_of (Bool.and_eq_true_iff.mp e).2) (by rfl) said (by decide +kernel) ⟨rfl,rfl,rfl,rfl,rfl,by decide +kernel⟩ ?hw ?hc
 case hw=>w_witness2
 refine Pc.Cm (l:=PySem.Challenge.rw_patchsquare_k45_no_picture) K45.p K45.fgn 3 10 "_law_script" K45.C9 rfl rfl (fun w h Y=>PySem.W.kIn_of Y) rfl rfl rfl ⟨rfl,by decide,by decide⟩ K45.ok ?st ?nl ?hh ?hf K45.plaw
 case nl=>intro w;rfl
 case hh=>intro w;refine' Pc.t9 (x:="CELLS") ?qa ?ql ?qs ?qm ?qe;(case qa=>rfl);(case ql=>rfl);(case qs=>rfl);(case qm=>rfl);(case qe=>exact⟨rfl,rfl,rfl,trivial⟩)
 case hf =>
  intro w mg h base KX G I;have F:L2.qJ (K45.K w.params) "__init__" "NoPicture.__init__" K45.stI 78 _:=⟨⟨_,_,_,_,_,_,_,_,_,rfl,rfl,rfl⟩,rfl⟩;exact K45.foreign KX G I (by refine' Pc.t9 (x:="CELLS") ?qa ?ql ?qs ?qm ?qe;(case qa=>rfl);(case ql=>rfl);(case qs=>rfl);(case qm=>rfl);(case qe=>exact⟨rfl,rfl,rfl,trivial⟩)) ⟨25,81,78,_,[62,50,38],⟨fv KX G rfl,by kernel_rfl,rfl,by kernel_rfl,by kernel_rfl,by kernel_rfl,F,rfl,F.binds K45.bdI,K45.Cn,K45.nxI⟩,fv KX G rfl,by kernel_rfl,by kernel_rfl,by kernel_rfl,by kernel_rfl,⟨⟨⟨rfl,rfl⟩,rfl⟩,⟨⟨rfl,rfl⟩,rfl⟩,⟨⟨rfl,rfl⟩,rfl⟩,trivial⟩,rfl⟩
 case st =>
  intro w;refine⟨⟨?d0,?d1,?d2,?d3,?d4,?d5,?d6,?d7,?d8,?d9,?d10,trivial⟩,Pc.vU ⟨?glb0,?glb1,trivial⟩,⟨?e0,?e1,?e2,?e3,?e4,?e5,?e6,?e7,?e8,?e9,trivial⟩⟩
  case d0 | d1 | d2 | d3 | d4 | d5 | d6 | d7 | d8 | d9 | d10=>refine' Pc.yZ ?a ?l ?c ?k;(case a=>rfl);(case l=>rfl);(case c=>rfl);(case k=>rfl)
  case glb0=>refine' Pc.Av (ds:=[.int 15,.int 19,.int 23,.int 27,.int 31]) (vs:=[.int 15,.int 19,.int 23,.int 27,.int 31]) ?ga0 ?gl0 ?gc0 ?gz0 ?gv0 ?gr0;(case ga0=>rfl);(case gl0=>rfl);(case gc0=>rfl);(case gz0=>decide);(case gv0=>exact (.cons ⟨_,rfl⟩ (.cons ⟨_,rfl⟩ (.cons ⟨_,rfl⟩ (.cons ⟨_,rfl⟩ (.cons ⟨_,rfl⟩ .nil))))));(case gr0=>exact fun H=>(.cons (.int _) (.cons (.int _) (.cons (.int _) (.cons (.int _) (.cons (.int _) .nil))))))
  case glb1=>refine' Pc.y9 (kvs:=[(.inr "#",some 1),(.inr ".",some 0),(.inr "?",none)]) ?ga1 ?A9 ?gc1 ?gv1 ?gr1;(case ga1=>rfl);(case A9=>rfl);(case gc1=>exact⟨rfl,rfl,rfl⟩);(case gv1=>exact (.si rfl rfl (.si rfl rfl (.sn rfl rfl .nil))));(case gr1=>decide)
  case e0 | e1 | e2 | e3 | e4 | e5 | e6 | e7 | e8 | e9=>dsimp only;rfl
end
