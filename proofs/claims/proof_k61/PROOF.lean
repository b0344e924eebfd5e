import PyProof.Rows.All
import Wide.All
import OpenK.AllK
import Wide.FinOn
import Lean
import PyProof.EqAt
import PyProof.EqKinds
import PyProof.TupleCall
import PyProof.NeKinds
import PyProof.SumWalkG
import PyProof.ConsumeWalk
import KE.IntBitsLaws
import PyProof.ZipIter
import KE.KTryMore
import PyProof.ExcArgsOwn
import KE.KLam
import KE.KMinKey
import KE.KNestM
import PyProof.DictWalks
import PyProof.ListMulRoad
import PyProof.Rows.SetFrom
import PyProof.Rows.CallKwBuiltin
import PyProof.Rows.SeqMore
import PyProof.WalkInts
import KE.KMinBuiltin
import PyProof.Rows.EqDataRows
import KE.KDictLaws
import KE.KEqDict
import PySem.Challenge.RW_knowcards_k61_whole_sure_whoever_lies
set_option Elab.async false
set_option linter.all false
set_option maxRecDepth 100000
set_option maxHeartbeats 4000000
set_option compiler.extract_closed false
section
namespace L2
open PySem PySem.Spec PyProof.Rows
noncomputable abbrev Key:=Sum Int Str
noncomputable def m7:Key->Value->Bool
 | .inl k,v=>Value.isInt k v
 | .inr x,v=>Value.isStrOf x v
noncomputable def EE (w:World):Key->Int
 | .inl k=>hashInt k
 | .inr x=>hashStr w x
theorem dl:∀ {k:Key} {v:Value},m7 k v=true->(∃ i t,k=Sum.inl i/\v=Value.int i t)\/(∃ x t,k=Sum.inr x/\v=Value.str x t)
 | .inl i,v,h=>by
  obtain ⟨t,e⟩:=Value.isInt_shape (k:=i) (v:=v) h
  exact .inl ⟨i,t,rfl,e⟩
 | .inr x,v,h=>by
  obtain ⟨t,e⟩:=Value.isStrOf_shape (x:=x) (v:=v) h
  exact .inr ⟨x,t,rfl,e⟩
theorem x0 (i:Int) (t:Tok):m7 (.inl i) (.int i t)=true:=by simp [m7,Value.isInt]
theorem ya (x:Str) (t:Tok):m7 (.inr x) (.str x t)=true:=by simp [m7,Value.isStrOf]
theorem Co (a b:Int):decide ((Sum.inl a:Key)=Sum.inl b)=(a == b):=by
 by_cases e:a=b
 ·subst e; simp
 ·have h:¬ (Sum.inl a:Key)=Sum.inl b:=fun q=>e (Sum.inl.inj q)
  rw [decide_eq_false h]
  exact (beq_eq_false_iff_ne.mpr e).symm
theorem Cp (a b:Str):decide ((Sum.inr a:Key)=Sum.inr b)=decide (a=b):=by
 by_cases e:a=b
 ·subst e; simp
 ·have h:¬ (Sum.inr a:Key)=Sum.inr b:=fun q=>e (Sum.inr.inj q)
  rw [decide_eq_false h,decide_eq_false e]
theorem Cq (a:Int) (b:Str):decide ((Sum.inl a:Key)=Sum.inr b)=false:=decide_eq_false (fun q=>nomatch q)
theorem Cr (a:Str) (b:Int):decide ((Sum.inr a:Key)=Sum.inl b)=false:=decide_eq_false (fun q=>nomatch q)
noncomputable def gL (prog:Program) (w:World):PySem.KeyKind prog w Key where
 is:=m7
 hash:=EE w
 inj:=fun v a b ha hb=>by
  rcases dl ha with ⟨i,t,rfl,rfl⟩ | ⟨x,t,rfl,rfl⟩
  ·rcases dl hb with ⟨j,u,rfl,e⟩ | ⟨y,u,rfl,e⟩
   ·injection e with e1 _; rw [e1]
   ·exact nomatch e
  ·rcases dl hb with ⟨j,u,rfl,e⟩ | ⟨y,u,rfl,e⟩
   ·exact nomatch e
   ·injection e with e1 _; rw [e1]
 byValue:=fun k v h=>by
  rcases dl h with ⟨i,t,rfl,rfl⟩ | ⟨x,t,rfl,rfl⟩ <;> rfl
 pyHash:=fun hv h=>by
  rcases dl hv with ⟨i,t,rfl,rfl⟩ | ⟨x,t,rfl,rfl⟩
  ·exact wpAny_pyHash_int h
  ·exact wpAny_pyHash_str h
 eqBool:=fun hu hv h=>by
  rcases dl hu with ⟨i,t,rfl,rfl⟩ | ⟨x,t,rfl,rfl⟩
  ·rcases dl hv with ⟨j,u,rfl,rfl⟩ | ⟨y,u,rfl,rfl⟩
   ·rw [Co] at h; exact wpAny_eqBool_int h
   ·rw [Cq] at h; exact SeqAt.EqAt.int_str i t y u _ _ _ _ h
  ·rcases dl hv with ⟨j,u,rfl,rfl⟩ | ⟨y,u,rfl,rfl⟩
   ·rw [Cr] at h; exact SeqAt.EqAt.str_int x t j u _ _ _ _ h
   ·rw [Cp] at h; exact wpAny_eqBool_str h
 «strs»:=fun k x t v h=>by
  rcases dl h with ⟨i,u,rfl,e⟩ | ⟨y,u,rfl,e⟩
  ·exact nomatch e
  ·injection e with e1 _
   subst e1
   cases v <;> rfl
theorem vq (prog:Program) (w:World) (i:Int) (t:Tok):(gL prog w).is (.inl i) (.int i t)=true:=x0 i t
theorem bo (prog:Program) (w:World) (x:Str) (t:Tok):(gL prog w).is (.inr x) (.str x t)=true:=ya x t
end L2
namespace L2
open PySem PySem.Spec PyProof.Rows
inductive V where
 | non | bl (b:Bool) | int (i:Int) | str (x:Str) | byt (b:Array UInt8) | flt (b:UInt64) | ref (a:Addr) | ty (n:String)
 deriving DecidableEq
noncomputable def aE:V->Value->Prop
 | .non,u=>u=Value.none
 | .bl b,u=>u=Value.bool b
 | .int i,u=>∃ t,u=Value.int i t
 | .str x,u=>∃ t,u=Value.str x t
 | .byt b,u=>∃ t,u=Value.bytes b t
 | .flt b,u=>∃ t,u=Value.float b t
 | .ref a,u=>u=Value.ref a
 | .ty n,u=>u=Value.type n
noncomputable abbrev aD:List V->List Value->Prop:=Paired aE
theorem aD.length {xs:List V} {us:List Value} (r:aD xs us):xs.length=us.length:=Paired.length r
theorem aD.get:∀ {xs:List V} {us:List Value} {i:Nat} {x:V},aD xs us->xs[i]?=some x->∃ u,us[i]?=some u/\aE x u
 | _,_,_,_,.nil,e=>by simp at e
 | _,_,0,_,.cons r _,e=>by simp at e; subst e; exact ⟨_,rfl,r⟩
 | _,_,i + 1,x,.cons _ t,e=>by
  obtain ⟨u,h1,h2⟩:=aD.get (i:=i) (x:=x) t (by simpa using e)
  exact ⟨u,by simpa using h1,h2⟩
theorem aD.set {x:V} {u:Value} (r:aE x u):∀ {xs:List V} {us:List Value} (i:Nat),aD xs us->aD (xs.set i x) (us.set i u)
 | _,_,_,.nil=>.nil
 | _,_,0,.cons _ t=>.cons r t
 | _,_,i + 1,.cons q t=>.cons q (aD.set r i t)
theorem aD.append:∀ {xs ys:List V} {us ws:List Value},aD xs us->aD ys ws->aD (xs++ys) (us++ws)
 | _,_,_,_,.nil,s=>s
 | _,_,_,_,.cons r t,s=>.cons r (aD.append t s)
theorem aD.take:∀ {xs:List V} {us:List Value} (n:Nat),aD xs us->aD (xs.take n) (us.take n)
 | _,_,0,_=>.nil
 | _,_,_ + 1,.nil=>.nil
 | _,_,n + 1,.cons r t=>.cons r (aD.take n t)
theorem aD.drop:∀ {xs:List V} {us:List Value} (n:Nat),aD xs us->aD (xs.drop n) (us.drop n)
 | _,_,0,r=>r
 | _,_,_ + 1,.nil=>.nil
 | _,_,n + 1,.cons _ t=>aD.drop n t
theorem aD.none_of:∀ {xs:List V} {us:List Value} {i:Nat},aD xs us->xs[i]?=none->us[i]?=none:=fun {xs us i} r e=>by
 have h1:=r.length
 have h2:xs.length<=i:=List.getElem?_eq_none_iff.mp e
 exact List.getElem?_eq_none_iff.mpr (by omega)
noncomputable def fq:Option V->Option Value->Prop
 | some v,some u=>aE v u
 | none,none=>True
 | _,_=>False
noncomputable def KV {κ:Type}:List (κ×V)->List (κ×Value)->Prop:=Paired fun (p:κ×V) (q:κ×Value)=>p.1=q.1/\aE p.2 q.2
noncomputable def kV:Key->V
 | .inl i=>.int i
 | .inr x=>.str x
inductive HO where
 | lst (xs:List V)
 | tup (xs:List V)
 | dK (kvs:List (Key×V)) | dT (kvs:List (List Key×V))
 | set (S:Int->Bool) (n:Nat)
 | ins (C dx:Addr) (fs:List (Str×V))
 | own (x:Addr)
 | xd (fs:List (Str×V))
 | met (f x:Addr)
 | rng (lo hi:Int)
 | frz (o:Obj) (u:HO)
 | tbl (ps:Array Value)
 | ext (φ:Heap->Prop)
noncomputable abbrev Hp:=Addr->Option HO
noncomputable def upd (H:Hp) (a:Addr) (o:HO):Hp:=fun b=>if b=a then some o else H b
theorem ap {H:Hp} {a:Addr} {o:HO}:upd H a o a=some o:=by unfold upd; rw [if_pos rfl]
theorem aB {H:Hp} {a b:Addr} {o:HO} (h:b≠a):upd H a o b=H b:=by unfold upd; rw [if_neg h]
theorem wK {H:Hp} {a b:Addr} {o u:HO} (h:H a=some o) (h':H b=some u) (d:o≠u):a≠b:=by
 intro e; subst e; rw [h] at h'; exact d (Option.some.inj h')
theorem aH {H:Hp} {a b:Addr} {o:HO} (h:H a=some o) (h':H b=none):a≠b:=by
 intro e; subst e; rw [h] at h'; cases h'
noncomputable def fB (h:Heap) (a:Addr) (items:Array Value):Prop:=∃ o,h.get? a=some o/\o.cls=.type "tuple"/\(∃ n,o.data=.seq items n)/\o.dict=none
theorem fB.lt {h:Heap} {a:Addr} {items:Array Value} (x:fB h a items):a < h.objs.size:=let ⟨_,e,_⟩:=x; Heap.lt_size e
theorem fB.tup {h:Heap} {a:Addr} {items:Array Value} (x:fB h a items):IsTup h a items:=let ⟨o,e,c,d,_⟩:=x; ⟨o,e,c,d⟩
theorem fB.new (h:Heap) (items:Array Value):fB (h.push { cls:=.type "tuple",data:=.seq items }) h.objs.size items:=⟨_,Heap.get?_push_size _ rfl,rfl,⟨_,rfl⟩,rfl⟩
section
variable (P:Program) (w:World)
noncomputable def bR (H:Hp) (h:Heap) (a:Addr):HO->Prop
 | .lst xs=>xs.length<=sizeLine/\∃ (its:List Value) (n:Nat),aD xs its/\h.get? a=some { cls:=.type "list",data:=.seq its.toArray n }
 | .tup xs=>xs.length<=sizeLine/\∃ its:List Value,aD xs its/\fB h a its.toArray
 | .dK kvs=>kvs.length<=sizeLine/\(a == sysModules)=false/\∃ vs,KV kvs vs/\h.DictOf (gL P w) a vs
 | .dT kvs=>kvs.length<=sizeLine/\(a == sysModules)=false/\∃ xs:List (List Key×Addr×Value),
   Paired (fun (p:List Key×V) (q:List Key×Addr×Value)=>p.1=q.1/\H q.2.1=some (.tup (p.1.map kV))/\aE p.2 q.2.2) kvs xs/\
   ∃ o es ep,h.get? a=some o/\o.ExactDict/\o.data=.dict es ep/\es.toList=xs.map (entryOfKey (tupleKind (gL P w)))/\(xs.map (·.1)).Nodup
 | .set S n=>h.SetOf (intKind P w) a S n
 | .ins C dx fs=>H dx=some (.own a)/\fs.length<=1000/\dx≠a/\h.get? a=some (PySem.W.instObj C dx)/\
   ∃ mA,h.Ns1 dx mA/\(∀ f,fq (fs.lookup f) (mA f))/\PySem.Within mA (fs.map (·.1))
 | .own _=>∃ o,h.get? a=some o
 | .xd fs=>∃ mA,h.Ns1 a mA/\∀ f,fq (fs.lookup f) (mA f)
 | .rng lo hi=>∃ t u v,h.get? a=some { cls:=.type "range",data:=.fields #[.int lo t,.int hi u,.int 1 v] }
 | .frz o u=>h.get? a=some o/\bR H h a u
 | .tbl ps=>h.get? a=some { cls:=.none,data:=.fields ps }
 | .met f x=>h.get? a=some (PySem.W.methodObj (.ref f) (.ref x))
 | .ext φ=>φ h/\(∃ o,h.get? a=some o)/\∀ h1 h2:Heap,φ h1->(∀ o,h1.get? a=some o->h2.get? a=some o)->φ h2
noncomputable def HOk (H:Hp) (h:Heap):Prop:=∀ a o,H a=some o->bR P w H h a o
end
section
variable {P:Program} {w:World} {H H':Hp} {h h':Heap} {a:Addr} {o:HO}
theorem bR.lt (x:bR P w H h a o):a < h.objs.size:=by
 cases o with
 | lst xs=>obtain ⟨_,_,_,_,e⟩:=x; exact Heap.lt_size e
 | tup xs=>obtain ⟨_,_,_,p⟩:=x; exact p.lt
 | dK kvs=>obtain ⟨_,_,_,_,o,_,_,e,_⟩:=x; exact Heap.lt_size e
 | dT kvs=>obtain ⟨_,_,_,_,o,_,_,e,_⟩:=x; exact Heap.lt_size e
 | set S n=>obtain ⟨o,_,_,_,e,_⟩:=x; exact Heap.lt_size e
 | ins C dx fs=>obtain ⟨_,_,_,e,_⟩:=x; exact Heap.lt_size e
 | own y=>obtain ⟨_,e⟩:=x; exact Heap.lt_size e
 | xd fs=>obtain ⟨_,⟨_,_,_,e,_⟩,_⟩:=x; exact Heap.lt_size e
 | rng lo hi=>obtain ⟨_,_,_,e⟩:=x; exact Heap.lt_size e
 | frz ob u=>obtain ⟨e,_⟩:=x; exact Heap.lt_size e
 | tbl ps=>exact Heap.lt_size (show h.get? a=some _ from x)
 | met f y=>exact Heap.lt_size (show h.get? a=some _ from x)
 | ext φ=>obtain ⟨_,⟨_,e⟩,_⟩:=x; exact Heap.lt_size e
theorem Paired.mapP {α β:Type} {F G:α->β->Prop}:∀ {l₁:List α} {l₂:List β},Paired F l₁ l₂->(∀ a b,F a b->G a b)->Paired G l₁ l₂
 | _,_,.nil,_=>.nil
 | _,_,.cons r t,f=>.cons (f _ _ r) (Paired.mapP t f)
theorem bR.stay (x:bR P w H h a o) (k:∀ b u,(b=a\/H b=some (.own a))->h.get? b=some u->h'.get? b=some u)
  (ho:∀ b,H b=some (.own a)->H' b=some (.own a)) (ht:∀ b xs,H b=some (.tup xs)->H' b=some (.tup xs)):bR P w H' h' a o:=by
 induction o with
 | lst xs=>obtain ⟨z,its,n,r,e⟩:=x; exact ⟨z,its,n,r,k _ _ (.inl rfl) e⟩
 | tup xs=>obtain ⟨z,its,r,ob,e,c⟩:=x; exact ⟨z,its,r,ob,k _ _ (.inl rfl) e,c⟩
 | dK kvs=>obtain ⟨z,y,vs,r,ob,es,ep,e,c⟩:=x; exact ⟨z,y,vs,r,ob,es,ep,k _ _ (.inl rfl) e,c⟩
 | dT kvs=>
  obtain ⟨z,y,xs,r,ob,es,ep,e,c⟩:=x
  exact ⟨z,y,xs,Paired.mapP r fun p q z=>⟨z.1,ht _ _ z.2.1,z.2.2⟩,ob,es,ep,k _ _ (.inl rfl) e,c⟩
 | set S n=>obtain ⟨ob,es,ep,t,e,c⟩:=x; exact ⟨ob,es,ep,t,k _ _ (.inl rfl) e,c⟩
 | ins C dx fs=>
  obtain ⟨d,z,ne,e,mA,⟨od,es,ep,e2,c⟩,r⟩:=x
  exact ⟨ho _ d,z,ne,k _ _ (.inl rfl) e,mA,⟨od,es,ep,k _ _ (.inr d) e2,c⟩,r⟩
 | own y=>obtain ⟨ob,e⟩:=x; exact ⟨ob,k _ _ (.inl rfl) e⟩
 | xd fs=>obtain ⟨mA,⟨od,es,ep,e,c⟩,r⟩:=x; exact ⟨mA,⟨od,es,ep,k _ _ (.inl rfl) e,c⟩,r⟩
 | rng lo hi=>obtain ⟨t,u,v,e⟩:=x; exact ⟨t,u,v,k _ _ (.inl rfl) e⟩
 | frz ob u ih=>obtain ⟨e,q⟩:=x; exact ⟨k _ _ (.inl rfl) e,ih q⟩
 | tbl ps=>
  have e:h.get? a=some { cls:=.none,data:=.fields ps }:=x
  show h'.get? a=some { cls:=.none,data:=.fields ps }
  exact k a _ (.inl rfl) e
 | met f y=>
  have e:h.get? a=some (PySem.W.methodObj (.ref f) (.ref y)):=x
  show h'.get? a=some (PySem.W.methodObj (.ref f) (.ref y))
  exact k a _ (.inl rfl) e
 | ext φ=>obtain ⟨p,⟨o,e⟩,st⟩:=x; exact ⟨st _ _ p fun o q=>k _ _ (.inl rfl) q,⟨o,k _ _ (.inl rfl) e⟩,st⟩
theorem HOk.lt (x:HOk P w H h) (e:H a=some o):a < h.objs.size:=(x a o e).lt
theorem HOk.fresh (x:HOk P w H h) (e:h.objs.size<=a):H a=none:=by
 cases q:H a with
 | none=>rfl
 | some u=>exact absurd (Nat.lt_of_lt_of_le (x.lt q) e) (Nat.lt_irrefl _)
theorem HOk.kept (x:HOk P w H h) (k:∀ b u,h.get? b=some u->h'.get? b=some u):HOk P w H h':=fun a o e=>
 (x a o e).stay (fun b u _ q=>k b u q) (fun _ q=>q) fun _ _ q=>q
theorem HOk.laid (x:HOk P w H h) (k:∀ b u,h.get? b=some u->h'.get? b=some u) (hp:h.objs.size<=a) (new:bR P w (upd H a o) h' a o):HOk P w (upd H a o) h':=fun b u e=>by
 have hn:=x.fresh hp
 by_cases hb:b=a
 ·subst hb; rw [ap] at e; cases e; exact new
 ·rw [aB hb] at e
  exact (x b u e).stay (fun c v _ q=>k c v q) (fun c q=>by rw [aB (aH q hn)]; exact q) fun c xs q=>by rw [aB (aH q hn)]; exact q
end
noncomputable def Rd (H:Hp) (a:Addr) (u:HO):Prop:=H a=some u\/∃ o,H a=some (.frz o u)
theorem Rd.of {H:Hp} {a:Addr} {u:HO} (h:H a=some u):Rd H a u:=.inl h
theorem Rd.ok {P:Program} {w:World} {H:Hp} {h:Heap} {a:Addr} {u:HO} (r:Rd H a u) (x:HOk P w H h):bR P w H h a u:=by
 rcases r with r | ⟨o,r⟩
 ·exact x a u r
 ·obtain ⟨_,q⟩:=x a _ r
  exact q
noncomputable def Mut:Option HO->Prop
 | some (.lst _)=>True
 | some (.dK _)=>True
 | some (.dT _)=>True
 | some (.set _ _)=>True
 | some (.ins _ _ _)=>True
 | some (.ext _)=>True
 | _=>False
section
variable {P:Program} {w:World} {H:Hp} {h h':Heap} {x e:Addr} {o':HO}
theorem HOk.write (ok:HOk P w H h) (mu:Mut (H x)) (he:e=x\/H e=some (.own x)) (k:∀ b u,b≠e->h.get? b=some u->h'.get? b=some u) (heo:∃ u,h'.get? e=some u)
  (new:bR P w (upd H x o') h' x o'):HOk P w (upd H x o') h':=fun b u q=>by
 have nown:∀ c y,H c=some (.own y)->c≠x:=fun c y r z=>by subst z; rw [r] at mu; exact mu
 have ntup:∀ c xs,H c=some (.tup xs)->c≠x:=fun c xs r z=>by subst z; rw [r] at mu; exact mu
 by_cases hb:b=x
 ·subst hb; rw [ap] at q; cases q; exact new
 ·rw [aB hb] at q
  by_cases hbe:b=e
  ·have q':H b=some (.own x):=by
    rcases he with z | z
    ·exact absurd (hbe.trans z) hb
    ·rw [hbe]; exact z
   rw [q] at q'; cases q'
   obtain ⟨v,hv⟩:=heo
   exact ⟨v,by rw [hbe]; exact hv⟩
  ·refine (ok b u q).stay (fun c v hc r=>k c v ?_ r) (fun c r=>by rw [aB (nown c b r)]; exact r) fun c xs r=>by rw [aB (ntup c xs r)]; exact r
   rcases hc with rfl | hc
   ·exact hbe
   ·rintro rfl
    rcases he with z | z
    ·exact nown c b hc z
    ·rw [hc] at z; cases z; exact hb rfl
end
structure Un (fs ex:List Addr) (H H':Hp) (h h':Heap):Prop where
 keep:∀ b o,h.get? b=some o->H b=none->b∉fs->b∉ex->h'.get? b=some o
 slot:∀ b o,h.get? b=some o->H b=none->b∈fs->b∉ex->∃ sl,h'.get? b=some { o with slots:=sl }
 free:∀ b o,h.get? b=some o->H b=none->b∉ex->H' b=none
 there:∀ b o,h.get? b=some o->b∉ex->∃ o',h'.get? b=some o'
 tups:∀ b xs,H b=some (.tup xs)->H' b=some (.tup xs)
 frzs:∀ b o u,H b=some (.frz o u)->H' b=some (.frz o u)
 tbls:∀ b ps,H b=some (.tbl ps)->∃ more,H' b=some (.tbl (ps++more))
section
variable {fs fs' ex ex':List Addr} {H H1 H2:Hp} {h h1 h2 h':Heap} {a x e:Addr} {o:HO}
theorem Un.any (u:Un fs ex H H1 h h1) {b:Addr} {ob:Obj} (q:h.get? b=some ob) (n:H b=none) (hx:b∉ex):∃ sl,h1.get? b=some { ob with slots:=sl }:=by
 by_cases hb:b∈fs
 ·exact u.slot b ob q n hb hx
 ·exact ⟨ob.slots,u.keep b ob q n hb hx⟩
theorem Un.trans (a:Un fs ex H H1 h h1) (b:Un fs ex H1 H2 h1 h2):Un fs ex H H2 h h2 where
 keep:=fun c ob q n hc hx=>b.keep c ob (a.keep c ob q n hc hx) (a.free c ob q n hx) hc hx
 slot:=fun c ob q n hc hx=>by
  obtain ⟨sl,e1⟩:=a.slot c ob q n hc hx
  obtain ⟨sl',e2⟩:=b.slot c _ e1 (a.free c ob q n hx) hc hx
  exact ⟨sl',e2⟩
 free:=fun c ob q n hx=>by
  obtain ⟨o',e1⟩:=a.there c ob q hx
  exact b.free c o' e1 (a.free c ob q n hx) hx
 there:=fun c ob q hx=>by
  obtain ⟨o',e1⟩:=a.there c ob q hx
  exact b.there c o' e1 hx
 tups:=fun c xs q=>b.tups c xs (a.tups c xs q)
 frzs:=fun c ob xs q=>b.frzs c ob xs (a.frzs c ob xs q)
 tbls:=fun c ps q=>by
  obtain ⟨m1,e1⟩:=a.tbls c ps q
  obtain ⟨m2,e2⟩:=b.tbls c _ e1
  exact ⟨m1++m2,by rw [e2,Array.append_assoc]⟩
theorem Un.kept (k:∀ b u,h.get? b=some u->h'.get? b=some u):Un fs ex H H h h':=
 ⟨fun b ob q _ _ _=>k b ob q,fun b ob q _ _ _=>⟨ob.slots,k b ob q⟩,fun _ _ _ n _=>n,fun b ob q _=>⟨ob,k b ob q⟩,fun _ _ q=>q,fun _ _ _ q=>q,fun _ ps q=>⟨#[],by rw [q]; simp⟩⟩
theorem Un.refl:Un fs ex H H h h:=Un.kept fun _ _ q=>q
theorem Un.laid (k:∀ b u,h.get? b=some u->h'.get? b=some u) (hp:h.objs.size<=a) (hn:H a=none):Un fs ex H (upd H a o) h h' where
 keep:=fun b u q _ _ _=>k b u q
 slot:=fun b u q _ _ _=>⟨u.slots,k b u q⟩
 free:=fun b u q n _=>by rw [aB (Nat.ne_of_lt (Nat.lt_of_lt_of_le (Heap.lt_size q) hp))]; exact n
 there:=fun b u q _=>⟨u,k b u q⟩
 tups:=fun b xs q=>by rw [aB (aH q hn)]; exact q
 frzs:=fun b u xs q=>by rw [aB (aH q hn)]; exact q
 tbls:=fun b ps q=>⟨#[],by rw [aB (aH q hn),q]; simp⟩
theorem Un.write (mu:Mut (H x)) (he:e=x\/H e=some (.own x)) (k:∀ b u,b≠e->h.get? b=some u->h'.get? b=some u) (heo:∃ u,h'.get? e=some u):Un fs ex H (upd H x o) h h':=by
 have hx:∀ b,H b=none->b≠x:=fun b n z=>by subst z; rw [n] at mu; exact mu
 have hb:∀ b,H b=none->b≠e:=fun b n z=>by
  subst z
  rcases he with r | r
  ·exact hx b n r
  ·rw [n] at r; cases r
 have hm:∀ b u,H b=some u->¬ Mut (some u)->b≠x:=fun b u q nm z=>by subst z; rw [q] at mu; exact nm mu
 refine ⟨fun b u q n _ _=>k b u (hb b n) q,fun b u q n _ _=>⟨u.slots,k b u (hb b n) q⟩,fun b u q n _=>by rw [aB (hx b n)]; exact n,fun b u q _=>?_,
  fun b xs q=>by rw [aB (hm b _ q fun z=>z)]; exact q,fun b u xs q=>by rw [aB (hm b _ q fun z=>z)]; exact q,fun b ps q=>⟨#[],by rw [aB (hm b _ q fun z=>z),q]; simp⟩⟩
 by_cases hbe:b=e
 ·subst hbe; exact heo
 ·exact ⟨u,k b u hbe q⟩
theorem Un.mono (u:Un fs ex H H1 h h1) (hs:∀ b∈fs,b∈fs') (hx:∀ b∈ex,b∈ex'):Un fs' ex' H H1 h h1:=
 ⟨fun b ob q n hb he=>u.keep b ob q n (fun z=>hb (hs b z)) fun z=>he (hx b z),fun _ _ q n _ he=>u.any q n fun z=>he (hx _ z),fun b ob q n he=>u.free b ob q n fun z=>he (hx b z),fun b ob q he=>u.there b ob q fun z=>he (hx b z),u.tups,u.frzs,u.tbls⟩
end
noncomputable def trk (h:Heap) (H:Hp):List Addr:=(List.range h.objs.size).filter fun a=>(H a).isSome
noncomputable def gX (h:Heap) (H:Hp):Heap:=PySem.W.hideAll h (trk h H)
theorem qW (h:Heap) (H:Hp):(gX h H).objs.size=h.objs.size:=PySem.W.hideAll_size _ _
theorem kX {h:Heap} {H:Hp} {b:Addr} {o:Obj} (e:h.get? b=some o) (n:H b=none):(gX h H).get? b=some o:=
 PySem.W.hideAll_get _ e fun hm=>by
  have q:(H b).isSome=true:=(List.mem_filter.mp hm).2
  rw [n] at q; simp at q
theorem wf {h:Heap} {H:Hp} {b:Addr} {o:Obj} (e:(gX h H).get? b=some o):h.get? b=some o/\H b=none:=by
 have e':h.get? b=some o:=PySem.W.of_hideAll (trk h H) e
 refine ⟨e',?_⟩
 cases q:H b with
 | none=>rfl
 | some x=>
  have hm:b∈trk h H:=List.mem_filter.mpr ⟨List.mem_range.mpr (Heap.lt_size e'),by simp [q]⟩
  have z:(gX h H).get? b=none:=PySem.W.hideAll_none (trk h H) hm
  rw [z] at e; cases e
noncomputable def iG (g h:Heap) (L:Addr):List (Addr×Obj):=(List.range h.objs.size).filterMap fun a=>if a=L\/(g.get? a).isSome=true then none else (h.get? a).map fun o=>(a,o)
theorem iV {g h:Heap} {L a:Addr} {o:Obj} (h1:a≠L) (h2:g.get? a=none) (h3:h.get? a=some o):(a,o)∈iG g h L:=
 List.mem_filterMap.mpr ⟨a,List.mem_range.mpr (Heap.lt_size h3),by simp [h1,h2,h3]⟩
theorem qg {g h:Heap} {L:Addr} {p:Addr×Obj} (hp:p∈iG g h L):p.1≠L/\g.get? p.1=none/\h.get? p.1=some p.2:=by
 obtain ⟨b,_,e⟩:=List.mem_filterMap.mp hp
 split at e
 ·cases e
 ·rename_i hn
  cases q:h.get? b with
  | none=>rw [q] at e; simp at e
  | some u=>
   rw [q] at e
   simp only [Option.map_some,Option.some.injEq] at e
   subst e
   refine ⟨fun z=>hn (.inl z),?_,q⟩
   show g.get? b=none
   cases r:g.get? b with
   | none=>rfl
   | some v=>exact (hn (.inr (by simp [r]))).elim
noncomputable def cM (g h:Heap) (L d:Addr):List (Addr×Obj):=(iG g h L).filter fun p=>decide (p.1≠d)
theorem zA {g h:Heap} {L:Addr}:News g L h (iG g h L):=fun p hp=>let ⟨a,b,c⟩:=qg hp; ⟨c,a,b⟩
end L2
namespace L2
open PySem PySem.Spec PyProof.Rows
structure Mod (K:PySem.W.Frag) (mg:Str->Option Value) (base:Heap):Prop where
 kin:K.In base
 glob:base.Ns mainGlobals mg
 blt:∃ mb,base.Ns builtinsNs mb/\∀ x:Str,x≠"__name__"->mb x=bootBuiltins x
 nolimit:base.NoLimit
structure Cx where
 prog:Program
 w:World
 K:PySem.W.Frag
 mg:Str->Option Value
 base:Heap
 A:Around
 N:List Str
 s₀:Shared
 H₀:Hp
 env:Env
 outer:List Env
 stack:List Env
 ex:List Addr
 fn:Str->Bool
 calm:Bool
 pn:List (Addr×Obj)
 xe:Value->Shared->Prop
noncomputable def frs (l:List Env):List Addr:=l.filterMap (·.frame)
noncomputable abbrev Cx.fs (X:Cx):List Addr:=frs X.outer
noncomputable def Vis (sc:Scope) (x:Str):Prop:=sc.names.lookup x=some .local\/sc.names.lookup x=some .cell\/sc.names.lookup x=some .free
noncomputable def Loc (sc:Scope) (x:Str):Prop:=sc.names.lookup x=some .local\/sc.names.lookup x=some .cell
noncomputable def zB (env:Env) (h:Heap) (m:Str->Option Value) (x:Str) (u:Value):Prop:=
 (env.kindOf x=some .local/\m x=some u)\/((env.kindOf x=some .cell\/env.kindOf x=some .free)/\∃ c,env.cells.lookup x=some c/\h.IsCell c (some u))
structure Cx.Ok (X:Cx):Prop where
 mod:Mod X.K X.mg X.base
 kind:X.env.scope.kind=.function
 glob:X.env.globals=mainGlobals
 blt:X.env.builtins=builtinsNs
 above:X.s₀.heap.objs.size<=X.env.locals
 inj:∀ x y c,X.env.cells.lookup x=some c->X.env.cells.lookup y=some c->x=y
 has:∀ x,(X.env.kindOf x=some .cell\/X.env.kindOf x=some .free)->∃ c,X.env.cells.lookup x=some c
 cab:∀ x c,X.fn x=true->X.env.cells.lookup x=some c->X.s₀.heap.objs.size<=c
 hd:X.calm=true->X.A.handled=none
 frames:X.A.frames=some X.stack
 stk:X.stack=X.outer\/(X.stack=X.env :: X.outer/\X.env.frame=some X.env.locals)
 exf:∀ b∈X.ex,b≠X.env.locals/\∀ x c,X.env.cells.lookup x=some c->c≠b
 bs:∀ b o,X.base.get? b=some o->X.s₀.heap.get? b=some o/\X.H₀ b=none
 bsz:X.base.objs.size<=X.s₀.heap.objs.size
 noex:∀ b o,X.base.get? b=some o->b∉X.ex
 exfs:∀ b∈X.ex,b∉X.fs
 funs:X.s₀.heap.FunFrames X.base X.outer
 frf:∀ b∈X.fs,X.H₀ b=none
structure Inv (X:Cx) (pins:List (Addr×Obj)) (σ:List (Option V)) (H:Hp) (s:Shared):Prop where
 ok:X.Ok
 os:s.os=X.s₀.os
 bare:AllBare s.gens
 base:Un X.fs X.ex X.H₀ H X.s₀.heap s.heap
 loc:∃ m,s.heap.Ns X.env.locals m/\∀ (i:Nat) (x:Str) (v:V),X.N[i]?=some x->σ[i]?=some (some v)->Vis X.env.scope x->∃ u,aE v u/\zB X.env s.heap m x u
 cell:∀ x c,X.env.cells.lookup x=some c->∃ v,s.heap.IsCell c v
 free:H X.env.locals=none
 freeC:∀ x c,X.env.cells.lookup x=some c->H c=none
 pin:∀ p∈X.pn++pins,s.heap.get? p.1=some p.2/\H p.1=none/\p.1≠X.env.locals/\p.1∉X.fs/\∀ v,p.2.data≠.cell v
 hok:HOk X.prog X.w H s.heap
 len:σ.length=X.N.length
section
variable {X:Cx} {pins:List (Addr×Obj)} {σ:List (Option V)} {H H':Hp} {s:Shared} {h':Heap}
theorem Cx.Ok.nofr (ok:X.Ok) {b:Addr} {o:Obj} (e:X.base.get? b=some o):b∉X.fs:=fun hb=>by
 have:=(ok.funs.mem hb).1
 rw [e] at this; cases this
theorem Inv.bs (I:Inv X pins σ H s):∀ b o,X.base.get? b=some o->s.heap.get? b=some o/\H b=none:=fun b o e=>
 ⟨I.base.keep b o (I.ok.bs b o e).1 (I.ok.bs b o e).2 (I.ok.nofr e) (I.ok.noex b o e),I.base.free b o (I.ok.bs b o e).1 (I.ok.bs b o e).2 (I.ok.noex b o e)⟩
theorem Inv.bk (I:Inv X pins σ H s):∀ b o,X.base.get? b=some o->s.heap.get? b=some o:=fun b o e=>(I.bs b o e).1
theorem Inv.mod (I:Inv X pins σ H s):Mod X.K X.mg X.base:=I.ok.mod
theorem Inv.kIn (I:Inv X pins σ H s):X.K.In s.heap:=I.ok.mod.kin.keeps I.bk
theorem Inv.nolimit (I:Inv X pins σ H s):s.heap.NoLimit:=I.ok.mod.nolimit.keeps I.bk
theorem Inv.fr (I:Inv X pins σ H s):∃ m,Fr X.base X.env.locals s.heap m:=
 let ⟨m,hn,_⟩:=I.loc
 ⟨m,hn,I.bk,Nat.le_trans I.ok.bsz I.ok.above⟩
theorem Inv.lt (I:Inv X pins σ H s):X.env.locals < s.heap.objs.size:=let ⟨_,hn,_⟩:=I.loc; hn.lt
theorem Inv.sz (I:Inv X pins σ H s):X.s₀.heap.objs.size<=s.heap.objs.size:=Nat.le_trans I.ok.above (Nat.le_of_lt I.lt)
theorem Inv.nofs (I:Inv X pins σ H s) {a:Addr} (h:s.heap.objs.size<=a):a∉X.fs:=fun hb=>by
 obtain ⟨_,o,ho,_⟩:=I.ok.funs.mem hb
 exact absurd (Nat.lt_of_lt_of_le (Heap.lt_size ho) (Nat.le_trans I.sz h)) (Nat.lt_irrefl _)
theorem Inv.cne (I:Inv X pins σ H s):∀ x c,X.env.cells.lookup x=some c->c≠X.env.locals:=fun x c e z=>by
 obtain ⟨v,o,ho,hd⟩:=I.cell x c e
 obtain ⟨m,⟨o',es,ep,ho',hd',_⟩,_⟩:=I.loc
 rw [z,ho'] at ho; cases ho; rw [hd'] at hd; cases hd
theorem Inv.funs (I:Inv X pins σ H s):s.heap.FunFrames X.base X.outer:=by
 have all:∀ (l:List Env),(∀ b∈frs l,b∈X.fs)->X.s₀.heap.FunFrames X.base l->s.heap.FunFrames X.base l:=by
  intro l
  induction l with
  | nil=>intro _ _; trivial
  | cons env r ih=>
   intro hs hl
   obtain ⟨hk,⟨L,o,hf,hn,ho,hd⟩,hr⟩:=hl
   have hL:L∈X.fs:=hs L (by unfold frs; rw [List.filterMap_cons,hf]; exact List.mem_cons_self)
   obtain ⟨sl,e⟩:=I.base.slot L o ho (I.ok.frf L hL) hL fun z=>I.ok.exfs L z hL
   exact ⟨hk,⟨L,_,hf,hn,e,hd⟩,ih (fun b hb=>hs b (by unfold frs; rw [List.filterMap_cons,hf]; exact List.mem_cons_of_mem _ hb)) hr⟩
 exact all X.outer (fun _ hb=>hb) I.ok.funs
theorem Inv.stack (I:Inv X pins σ H s):s.heap.FunFrames X.base X.stack:=by
 rcases I.ok.stk with e | ⟨e,hf⟩
 ·rw [e]; exact I.funs
 ·rw [e]
  obtain ⟨m,hn,_⟩:=I.loc
  refine .cons (by rw [I.ok.kind]; decide) hf hn ?_ I.funs
  exact Heap.get?_none_of_le (Nat.le_trans I.ok.bsz I.ok.above)
theorem Inv.stkSub (I:Inv X pins σ H s):∀ b∈frs X.stack,b∈X.env.locals :: X.fs:=fun b hb=>by
 rcases I.ok.stk with e | ⟨e,hf⟩
 ·rw [e] at hb; exact List.mem_cons_of_mem _ hb
 ·rw [e] at hb
  unfold frs at hb
  rw [List.filterMap_cons,hf] at hb
  exact hb
theorem Inv.stkFree (I:Inv X pins σ H s):∀ b∈frs X.stack,H b=none:=fun b hb=>by
 rcases List.mem_cons.mp (I.stkSub b hb) with e | hb
 ·rw [e]; exact I.free
 ·obtain ⟨_,o,ho,_⟩:=I.ok.funs.mem hb
  exact I.base.free b o ho (I.ok.frf b hb) fun z=>I.ok.exfs b z hb
theorem Inv.step {g':Array GenState} {t':Nat} {d':Drawn} {ch:List Addr} (I:Inv X pins σ H s)
  (hch:∀ b∈ch,(b∈X.ex\/X.s₀.heap.objs.size<=b)/\b≠X.env.locals/\(∀ x c,X.env.cells.lookup x=some c->c≠b)/\∀ p∈X.pn++pins,p.1≠b)
  (keep:∀ b o,b≠X.env.locals->b∉X.fs->b∉ch->s.heap.get? b=some o->H b=none->h'.get? b=some o)
  (slot:∀ b o,b≠X.env.locals->b∈X.fs->b∉ch->s.heap.get? b=some o->H b=none->∃ sl,h'.get? b=some { o with slots:=sl }) (free:∀ b o,b∉ch->s.heap.get? b=some o->H b=none->H' b=none)
  (there:∀ b o,b∉ch->s.heap.get? b=some o->∃ o',h'.get? b=some o')
  (tups:∀ b xs,H b=some (.tup xs)->H' b=some (.tup xs)) (frzs:∀ b o u,H b=some (.frz o u)->H' b=some (.frz o u)) (tbls:∀ b ps,H b=some (.tbl ps)->∃ more,H' b=some (.tbl (ps++more)))
  (ns:∀ m,s.heap.Ns X.env.locals m->h'.Ns X.env.locals m) (hok:HOk X.prog X.w H' h') (hg:AllBare g'):
  Inv X pins σ H' { s with heap:=h',gens:=g',drawn:=d',toks:=t' }:=by
 have neL:∀ b o,X.s₀.heap.get? b=some o->b≠X.env.locals:=fun b o e=>Nat.ne_of_lt (Nat.lt_of_lt_of_le (Heap.lt_size e) I.ok.above)
 have neC:∀ b o,X.s₀.heap.get? b=some o->b∉X.ex->b∉ch:=fun b o e hx hb=>by
  rcases (hch b hb).1 with z | z
  ·exact hx z
  ·exact absurd (Nat.lt_of_lt_of_le (Heap.lt_size e) z) (Nat.lt_irrefl _)
 have cellK:∀ x c,X.env.cells.lookup x=some c->∀ v,s.heap.IsCell c v->h'.IsCell c v:=fun x c e v ⟨o,ho,hd⟩=>by
  have nch:c∉ch:=fun z=>(hch c z).2.2.1 x c e rfl
  by_cases hc:c∈X.fs
  ·obtain ⟨sl,q⟩:=slot c o (I.cne x c e) hc nch ho (I.freeC x c e)
   exact ⟨_,q,hd⟩
  ·exact ⟨o,keep c o (I.cne x c e) hc nch ho (I.freeC x c e),hd⟩
 refine ⟨I.ok,I.os,hg,⟨fun b o e n hb hx=>?_,fun b o e n hb hx=>?_,fun b o e n hx=>?_,fun b o e hx=>?_,fun b xs e=>tups b xs (I.base.tups b xs e),fun b o xs e=>frzs b o xs (I.base.frzs b o xs e),fun b ps e=>?_⟩,?_,fun x c e=>?_,?_,fun x c e=>?_,fun p hp=>?_,hok,I.len⟩
 ·exact keep b o (neL b o e) hb (neC b o e hx) (I.base.keep b o e n hb hx) (I.base.free b o e n hx)
 ·obtain ⟨sl,e1⟩:=I.base.slot b o e n hb hx
  obtain ⟨sl',e2⟩:=slot b _ (neL b o e) hb (neC b o e hx) e1 (I.base.free b o e n hx)
  exact ⟨sl',e2⟩
 ·obtain ⟨o',e1⟩:=I.base.there b o e hx
  exact free b o' (neC b o e hx) e1 (I.base.free b o e n hx)
 ·obtain ⟨o',e1⟩:=I.base.there b o e hx
  exact there b o' (neC b o e hx) e1
 ·obtain ⟨m1,e1⟩:=I.base.tbls b ps e
  obtain ⟨m2,e2⟩:=tbls b _ e1
  exact ⟨m1++m2,by rw [e2,Array.append_assoc]⟩
 ·obtain ⟨m,hn,hl⟩:=I.loc
  refine ⟨m,ns m hn,fun i x v e1 e2 e3=>?_⟩
  obtain ⟨u,r,l⟩:=hl i x v e1 e2 e3
  refine ⟨u,r,?_⟩
  rcases l with l | ⟨k,c,e,z⟩
  ·exact .inl l
  ·exact .inr ⟨k,c,e,cellK x c e _ z⟩
 ·obtain ⟨v,z⟩:=I.cell x c e
  exact ⟨v,cellK x c e v z⟩
 ·obtain ⟨m,⟨o,_,_,ho,_⟩,_⟩:=I.loc
  exact free _ o (fun z=>(hch _ z).2.1 rfl) ho I.free
 ·obtain ⟨v,o,ho,hd⟩:=I.cell x c e
  exact free c o (fun z=>(hch c z).2.2.1 x c e rfl) ho (I.freeC x c e)
 ·obtain ⟨e,n,ne,nf,d⟩:=I.pin p hp
  have nch:p.1∉ch:=fun z=>(hch p.1 z).2.2.2 p hp rfl
  exact ⟨keep p.1 p.2 ne nf nch e n,free p.1 p.2 nch e n,ne,nf,d⟩
theorem Inv.un {t':Nat} (I:Inv X pins σ H s) (u:Un X.fs [] H H' s.heap h') (hok:HOk X.prog X.w H' h'):Inv X pins σ H' { s with heap:=h',toks:=t' }:=by
 obtain ⟨m,⟨o,es,ep,ho,r⟩,_⟩:=id I.loc
 obtain ⟨sl,hL⟩:=u.any ho I.free (by simp)
 exact I.step (g':=s.gens) (d':=s.drawn) (ch:=[]) (fun _ z=>nomatch z) (fun b o _ hb _ e n=>u.keep b o e n hb (by simp)) (fun b o _ hb _ e n=>u.slot b o e n hb (by simp)) (fun b o _ e n=>u.free b o e n (by simp)) (fun b o _ e=>u.there b o e (by simp)) u.tups u.frzs u.tbls (fun m' hm=>by
  obtain ⟨o',es',ep',ho',r'⟩:=hm
  rw [ho] at ho'; cases ho'
  exact ⟨_,es',ep',hL,r'⟩) hok I.bare
theorem Inv.call {g':Array GenState} {t':Nat} {d':Drawn} {ch:List Addr} (I:Inv X pins σ H s) (u:Un (frs X.stack) ch H H' s.heap h') (hok:HOk X.prog X.w H' h') (hg:AllBare g')
  (hch:∀ b∈ch,(b∈X.ex\/X.s₀.heap.objs.size<=b)/\b≠X.env.locals/\(∀ x c,X.env.cells.lookup x=some c->c≠b)/\∀ p∈X.pn++pins,p.1≠b):
  Inv X pins σ H' { s with heap:=h',gens:=g',drawn:=d',toks:=t' }:=by
 obtain ⟨m,⟨o,es,ep,ho,r⟩,_⟩:=id I.loc
 obtain ⟨sl,hL⟩:=u.any ho I.free fun z=>(hch _ z).2.1 rfl
 exact I.step (ch:=ch) hch (fun b o hL hb hc e n=>u.keep b o e n (fun z=>(List.mem_cons.mp (I.stkSub b z)).elim hL hb) hc) (fun b o _ _ hc e n=>u.any e n hc) (fun b o hc e n=>u.free b o e n hc) (fun b o hc e=>u.there b o e hc) u.tups u.frzs u.tbls (fun m' hm=>by
  obtain ⟨o',es',ep',ho',r'⟩:=hm
  rw [ho] at ho'; cases ho'
  exact ⟨_,es',ep',hL,r'⟩) hok hg
theorem Inv.turned {t':Nat} {it:Addr} (I:Inv X pins σ H s) (k:∀ b o,b≠it->s.heap.get? b=some o->h'.get? b=some o) (hn:H it=none) (hL:it≠X.env.locals)
  (h1:it∈X.ex\/X.s₀.heap.objs.size<=it) (h2:∀ x c,X.env.cells.lookup x=some c->c≠it) (h3:∀ p∈X.pn++pins,p.1≠it):Inv X pins σ H { s with heap:=h',toks:=t' }:=by
 have nit:∀ b u,H b=some u->b≠it:=fun b u e z=>by rw [z,hn] at e; cases e
 refine I.step (g':=s.gens) (d':=s.drawn) (ch:=[it]) (fun b hb=>?_) (fun b o _ _ hc e _=>k b o (fun z=>hc (by simp [z])) e) (fun b o _ _ hc e _=>⟨o.slots,k b o (fun z=>hc (by simp [z])) e⟩) (fun _ _ _ _ n=>n)
  (fun b o hc e=>⟨o,k b o (fun z=>hc (by simp [z])) e⟩) (fun _ _ e=>e) (fun _ _ _ e=>e) (fun b ps e=>⟨#[],by rw [e]; simp⟩) (fun m hm=>?_) (fun b u e=>?_) I.bare
 ·have e:b=it:=by simpa using hb
  subst e
  exact ⟨h1,hL,h2,h3⟩
 ·obtain ⟨o,es,ep,ho,r⟩:=hm
  exact ⟨o,es,ep,k _ o (Ne.symm hL) ho,r⟩
 ·refine (I.hok b u e).stay (fun c v hc q=>k c v ?_ q) (fun _ q=>q) fun _ _ q=>q
  rcases hc with z | z
  ·rw [z]; exact nit b u e
  ·exact nit c _ z
theorem Inv.tok (I:Inv X pins σ H s) (t:Nat):Inv X pins σ H { s with toks:=t }:=I.un (h':=s.heap) (t':=t) Un.refl I.hok
theorem Inv.kept {t':Nat} (I:Inv X pins σ H s) (k:∀ b u,s.heap.get? b=some u->h'.get? b=some u):Inv X pins σ H { s with heap:=h',toks:=t' }:=I.un (Un.kept k) (I.hok.kept k)
theorem Inv.laid {a:Addr} {o:HO} {t':Nat} (I:Inv X pins σ H s) (k:∀ b u,s.heap.get? b=some u->h'.get? b=some u) (hp:s.heap.objs.size<=a) (new:bR X.prog X.w (upd H a o) h' a o):
  Inv X pins σ (upd H a o) { s with heap:=h',toks:=t' }:=I.un (Un.laid k hp (I.hok.fresh hp)) (I.hok.laid k hp new)
theorem Inv.write {x e:Addr} {o:HO} {t':Nat} (I:Inv X pins σ H s) (mu:Mut (H x)) (he:e=x\/H e=some (.own x)) (k:∀ b u,b≠e->s.heap.get? b=some u->h'.get? b=some u) (heo:∃ u,h'.get? e=some u)
  (new:bR X.prog X.w (upd H x o) h' x o):Inv X pins σ (upd H x o) { s with heap:=h',toks:=t' }:=I.un (Un.write mu he k heo) (I.hok.write mu he k heo new)
theorem Inv.weak {σ':List (Option V)} (I:Inv X pins σ H s) (hl:σ'.length=σ.length) (w:∀ (i:Nat) v,σ'[i]?=some (some v)->σ[i]?=some (some v)):Inv X pins σ' H s:=
 ⟨I.ok,I.os,I.bare,I.base,let ⟨m,hn,hl'⟩:=I.loc; ⟨m,hn,fun i x v e1 e2 e3=>hl' i x v e1 (w i v e2) e3⟩,I.cell,I.free,I.freeC,I.pin,I.hok,hl.trans I.len⟩
theorem Inv.pins_of {pins':List (Addr×Obj)} (I:Inv X pins σ H s) (h:∀ p∈pins',s.heap.get? p.1=some p.2/\H p.1=none/\p.1≠X.env.locals/\p.1∉X.fs/\∀ v,p.2.data≠.cell v):Inv X pins' σ H s:=
 ⟨I.ok,I.os,I.bare,I.base,I.loc,I.cell,I.free,I.freeC,fun p hp=>(List.mem_append.mp hp).elim (fun z=>I.pin p (List.mem_append_left _ z)) (h p),I.hok,I.len⟩
theorem tj {N:List Str} (hN:N.Nodup) {i j:Nat} {x:Str} (a:N[i]?=some x) (b:N[j]?=some x):i=j:=by
 obtain ⟨h1,e1⟩:=List.getElem?_eq_some_iff.mp a
 obtain ⟨h2,e2⟩:=List.getElem?_eq_some_iff.mp b
 exact (List.getElem_inj hN).mp (e1.trans e2.symm)
theorem qX {M:Model} {A:Around} {E:Value->Shared->Prop} {i:Nat} {x:Str} {v:V} {u:Value} {Q:Unit->Shared->Prop} (I:Inv X pins σ H s) (hN:X.N.Nodup) (hi:X.N[i]?=some x) (hx:Loc X.env.scope x) (r:aE v u)
  (h:∀ s',Inv X pins (σ.set i (some v)) H s'->(∃ a,Heap.SameBut a s.heap s'.heap/\(a=X.env.locals\/X.env.cells.lookup x=some a))->Q () s') (hf:X.fn x=true\/X.env.scope.names.lookup x=some .local:=by first | exact .inl rfl | exact .inr rfl | assumption):wpAny M A (storeName X.env x u) Q E s:=by
 obtain ⟨m,hn,hl⟩:=id I.loc
 have hcls:(X.env.scope.kind == .class || (X.env.scope.kind == .module && X.env.locals != X.env.globals))=false:=by rw [I.ok.kind]; rfl
 have hiσ:i < σ.length:=by rw [I.len]; exact (List.getElem?_eq_some_iff.mp hi).1
 have cne:=I.cne
 have tracked:∀ {a:Addr} {h':Heap},(∃ o,s.heap.get? a=some o/\H a=none)->Heap.SameBut a s.heap h'->HOk X.prog X.w H h':=fun {a h'} ha hs b ob e=>by
  obtain ⟨_,_,hfree⟩:=ha
  refine (I.hok b ob e).stay (fun c w' hc q=>(hs.2 c ?_).trans q) (fun _ q=>q) fun _ _ q=>q
  rintro rfl
  rcases hc with rfl | hc
  ·rw [hfree] at e; cases e
  ·rw [hfree] at hc; cases hc
 rcases hx with hk | hk
 ·refine wpAny_storeName_local hk hn (fun h' hn' hs=>?_) hcls
  obtain ⟨oL,_,_,hoL,_⟩:=id hn
  refine h _ ⟨I.ok,I.os,I.bare,⟨fun b o e n hb hx=>?_,fun b o e n hb hx=>?_,I.base.free,fun b o e hx=>?_,I.base.tups,I.base.frzs,I.base.tbls⟩,⟨_,hn',fun j y v' e1 e2 e3=>?_⟩,fun y c e=>?_,I.free,I.freeC,fun p hp=>?_,tracked ⟨oL,hoL,I.free⟩ hs,by simpa using I.len⟩ ⟨_,hs,.inl rfl⟩
  ·exact (hs.2 b (Nat.ne_of_lt (Nat.lt_of_lt_of_le (Heap.lt_size e) I.ok.above))).trans (I.base.keep b o e n hb hx)
  ·obtain ⟨sl,e1⟩:=I.base.slot b o e n hb hx
   exact ⟨sl,(hs.2 b (Nat.ne_of_lt (Nat.lt_of_lt_of_le (Heap.lt_size e) I.ok.above))).trans e1⟩
  ·obtain ⟨o',e1⟩:=I.base.there b o e hx
   exact ⟨o',(hs.2 b (Nat.ne_of_lt (Nat.lt_of_lt_of_le (Heap.lt_size e) I.ok.above))).trans e1⟩
  ·by_cases hj:j=i
   ·subst hj
    rw [hi] at e1; cases e1
    rw [List.getElem?_set_self hiσ] at e2
    cases e2
    exact ⟨u,r,.inl ⟨hk,by simp⟩⟩
   ·rw [List.getElem?_set_ne (Ne.symm hj)] at e2
    obtain ⟨u',r',q⟩:=hl j y v' e1 e2 e3
    refine ⟨u',r',?_⟩
    rcases q with ⟨k,e⟩ | ⟨k,c,e,z⟩
    ·refine .inl ⟨k,?_⟩
     have:y≠x:=fun e=>hj (tj hN e1 (e ▸ hi))
     simp [this,e]
    ·exact .inr ⟨k,c,e,z.sameBut hs (cne y c e)⟩
  ·obtain ⟨w',z⟩:=I.cell y c e
   exact ⟨w',z.sameBut hs (cne y c e)⟩
  ·obtain ⟨e,n,ne,nf,d⟩:=I.pin p hp
   exact ⟨(hs.2 p.1 ne).trans e,n,ne,nf,d⟩
 ·have hfn:X.fn x=true:=by
   rcases hf with z | z
   ·exact z
   ·rw [z] at hk; cases hk
  obtain ⟨c,hc⟩:=I.ok.has x (.inl hk)
  obtain ⟨w',z⟩:=I.cell x c hc
  refine wpAny_storeName_cell I.ok.kind hk hc z (fun h' hc' hs=>?_)
  obtain ⟨oc,hoc,hocd⟩:=id z
  refine h { s with heap:=h' } ⟨I.ok,I.os,I.bare,⟨fun b o e n hb hx=>?_,fun b o e n hb hx=>?_,I.base.free,fun b o e hx=>?_,I.base.tups,I.base.frzs,I.base.tbls⟩,⟨m,hn.sameBut hs (Ne.symm (cne x c hc)),fun j y v' e1 e2 e3=>?_⟩,fun y c' e=>?_,I.free,I.freeC,fun p hp=>?_,tracked ⟨oc,hoc,I.freeC x c hc⟩ hs,by simpa using I.len⟩ ⟨c,hs,.inr hc⟩
  ·exact (hs.2 b (Nat.ne_of_lt (Nat.lt_of_lt_of_le (Heap.lt_size e) (I.ok.cab x c hfn hc)))).trans (I.base.keep b o e n hb hx)
  ·obtain ⟨sl,e1⟩:=I.base.slot b o e n hb hx
   exact ⟨sl,(hs.2 b (Nat.ne_of_lt (Nat.lt_of_lt_of_le (Heap.lt_size e) (I.ok.cab x c hfn hc)))).trans e1⟩
  ·obtain ⟨o',e1⟩:=I.base.there b o e hx
   exact ⟨o',(hs.2 b (Nat.ne_of_lt (Nat.lt_of_lt_of_le (Heap.lt_size e) (I.ok.cab x c hfn hc)))).trans e1⟩
  ·by_cases hj:j=i
   ·subst hj
    rw [hi] at e1; cases e1
    rw [List.getElem?_set_self hiσ] at e2
    cases e2
    exact ⟨u,r,.inr ⟨.inl hk,c,hc,hc'⟩⟩
   ·rw [List.getElem?_set_ne (Ne.symm hj)] at e2
    obtain ⟨u',r',q⟩:=hl j y v' e1 e2 e3
    refine ⟨u',r',?_⟩
    rcases q with q | ⟨k,c',e,z'⟩
    ·exact .inl q
    ·refine .inr ⟨k,c',e,z'.sameBut hs ?_⟩
     rintro rfl
     exact hj (tj hN e1 (I.ok.inj _ _ _ e hc ▸ hi))
  ·by_cases hcc:c'=c
   ·subst hcc; exact ⟨_,hc'⟩
   ·obtain ⟨w2,z2⟩:=I.cell y c' e
    exact ⟨w2,z2.sameBut hs hcc⟩
  ·obtain ⟨e,n,ne,nf,d⟩:=I.pin p hp
   refine ⟨(hs.2 p.1 ?_).trans e,n,ne,nf,d⟩
   intro q
   rw [q,hoc] at e
   have q':oc=p.2:=Option.some.inj e
   exact d w' (by rw [<-q']; exact hocd)
theorem tm {M:Model} {A:Around} {E:Value->Shared->Prop} {i:Nat} {x:Str} {v:V} {u:Value} {Q:Unit->Shared->Prop} (I:Inv X pins σ H s) (hN:X.N.Nodup) (hi:X.N[i]?=some x) (hx:Loc X.env.scope x) (r:aE v u)
  (h:∀ s',Inv X pins (σ.set i (some v)) H s'->Q () s') (hf:X.fn x=true\/X.env.scope.names.lookup x=some .local:=by first | exact .inl rfl | exact .inr rfl | assumption):wpAny M A (storeName X.env x u) Q E s:=
 qX I hN hi hx r (fun s' I' _=>h s' I') hf
theorem Inv.call' {s':Shared} {ch:List Addr} (I:Inv X pins σ H s) (ho:s'.os=s.os) (u:Un (frs X.stack) ch H H' s.heap s'.heap) (hok:HOk X.prog X.w H' s'.heap) (hg:AllBare s'.gens)
  (hch:∀ b∈ch,(b∈X.ex\/X.s₀.heap.objs.size<=b)/\b≠X.env.locals/\(∀ x c,X.env.cells.lookup x=some c->c≠b)/\∀ p∈X.pn++pins,p.1≠b):Inv X pins σ H' s':=by
 obtain ⟨h',g',d',t',o'⟩:=s'
 have e:o'=s.os:=ho
 subst e
 exact I.call (g':=g') (t':=t') (d':=d') u hok hg hch
end
noncomputable abbrev XK:=Value->Option Addr->Hp->Prop
noncomputable abbrev St:=List (Option V)
noncomputable abbrev VK:=V->Hp->Prop
noncomputable abbrev TE:=St->Hp->VK->Prop
noncomputable abbrev TT:=St->Hp->(Bool->Hp->Prop)->Prop
noncomputable abbrev TA:=St->Hp->(List V->Hp->Prop)->Prop
structure iH where
 nx:St->Hp->Prop
 rt:VK
 bk:St->Hp->Prop:=fun _ _=>False
 ct:St->Hp->Prop:=fun _ _=>False
noncomputable abbrev TS:=iH->St->Hp->Prop
noncomputable def EP (X:Cx) (pins:List (Addr×Obj)) (σ:St) (Q:VK) (u:Value) (s':Shared):Prop:=∃ v H',Inv X pins σ H' s'/\aE v u/\Q v H'
noncomputable def TP (X:Cx) (pins:List (Addr×Obj)) (σ:St) (Q:Bool->Hp->Prop) (b:Bool) (s':Shared):Prop:=∃ H',Inv X pins σ H' s'/\Q b H'
noncomputable def AP (X:Cx) (pins:List (Addr×Obj)) (σ:St) (Q:List V->Hp->Prop) (us:List Value) (s':Shared):Prop:=∃ vs H',Inv X pins σ H' s'/\aD vs us/\Q vs H'
noncomputable def SP (X:Cx) (pins:List (Addr×Obj)) (D:iH) (f:Flow) (s':Shared):Prop:=
 match f with
 | .next=>∃ σ' H',Inv X pins σ' H' s'/\D.nx σ' H'
 | .brk=>∃ σ' H',Inv X pins σ' H' s'/\D.bk σ' H'
 | .cont=>∃ σ' H',Inv X pins σ' H' s'/\D.ct σ' H'
 | .ret u=>∃ v σ' H',Inv X pins σ' H' s'/\aE v u/\D.rt v H'
noncomputable def PE (X:Cx) (e:Expr) (t:TE):Prop:=
 ∀ (pins:List (Addr×Obj)) (s:Shared) (σ:St) (H:Hp) (Q:VK),Inv X pins σ H s->t σ H Q->wpAny (model X.prog X.w) X.A (eval e X.env) (EP X pins σ Q) X.xe s
noncomputable def PT (X:Cx) (e:Expr) (t:TT):Prop:=
 ∀ (pins:List (Addr×Obj)) (s:Shared) (σ:St) (H:Hp) (Q:Bool->Hp->Prop),Inv X pins σ H s->t σ H Q->wpAny (model X.prog X.w) X.A (isTrue e X.env (eval e X.env)) (TP X pins σ Q) X.xe s
noncomputable def PW (X:Cx) (e:Expr) (t:TT):Prop:=
 ∀ (whole:Sem Value) (pins:List (Addr×Obj)) (s:Shared) (σ:St) (H:Hp) (Q:Bool->Hp->Prop),Inv X pins σ H s->t σ H Q->wpAny (model X.prog X.w) X.A (isTrue e X.env whole) (TP X pins σ Q) X.xe s
theorem PW.pt {X:Cx} {e:Expr} {t:TT} (h:PW X e t):PT X e t:=h _
noncomputable def PA (X:Cx) (es:List Expr) (t:TA):Prop:=
 ∀ (pos:Pos) (pins:List (Addr×Obj)) (s:Shared) (σ:St) (H:Hp) (Q:List V->Hp->Prop),Inv X pins σ H s->t σ H Q->wpAny (model X.prog X.w) X.A (spliced (backTo pos (starEach es X.env))) (AP X pins σ Q) X.xe s
noncomputable def PS (X:Cx) (st:Stmt) (t:TS):Prop:=
 ∀ (pins:List (Addr×Obj)) (s:Shared) (σ:St) (H:Hp) (D:iH),Inv X pins σ H s->t D σ H->wpAny (model X.prog X.w) X.A (exec st X.env) (SP X pins D) X.xe s
noncomputable def PSs (X:Cx) (st:List Stmt) (t:TS):Prop:=
 ∀ (pins:List (Addr×Obj)) (s:Shared) (σ:St) (H:Hp) (D:iH),Inv X pins σ H s->t D σ H->wpAny (model X.prog X.w) X.A (execs st X.env) (SP X pins D) X.xe s
theorem thn {α:Type} {t:Sem α} {Q Q':α->Shared->Prop} {M:Model} {A:Around} {E:Value->Shared->Prop} {s:Shared} (h:wpAny M A t Q E s) (hQ:∀ a s,Q a s->Q' a s):wpAny M A t Q' E s:=wpAny_mono h hQ fun _ _ x=>x
end L2
namespace L2
open PySem PySem.Spec PyProof.Rows
section
variable {X:Cx}
noncomputable def ac (i:Nat):TE:=fun σ H Q=>∃ v,σ[i]?=some (some v)/\Q v H
noncomputable def tC (v:V):TE:=fun _ H Q=>Q v H
theorem yb {i:Nat} {x:Str} {pos:Pos} (hN:X.N[i]?=some x) (hv:Vis X.env.scope x) (hd:(x == ("__debug__":Str))=false:=by decide) (hcd:(x == ("__classdict__":Str))=false:=by decide):PE X (.Name x pos) (ac i):=by
 intro pins s σ H Q I h
 obtain ⟨v,e,h⟩:=h
 obtain ⟨m,hn,hl⟩:=I.loc
 obtain ⟨u,r,l⟩:=hl i x v hN e hv
 have fin:EP X pins σ Q u s:=⟨v,H,I,r,h⟩
 rcases l with ⟨hk,hm⟩ | ⟨hk,c,hc,hcell⟩
 ·exact wpAny_Name (wpAny_loadName_local I.ok.kind hk hn hm fin) hd
 ·rcases hk with hk | hk
  ·exact wpAny_Name (wpAny_loadName_cell I.ok.kind hk hc hcell fin) hd
  ·exact wpAny_Name (wpAny_loadName_free I.ok.kind hk hc hcell fin hcd) hd
theorem ag {i j pos}:PE X (.Constant (.int i) j pos) (tC (.int i)):=fun _ _ _ H _ I h=>wpAny_Constant_int ⟨.int i,H,I.tok _,⟨_,rfl⟩,h⟩
theorem dm {b j pos}:PE X (.Constant (.bool b) j pos) (tC (.bl b)):=fun _ _ _ H _ I h=>Constant_bool ⟨.bl b,H,I,rfl,h⟩
theorem jJ {j pos}:PE X (.Constant .none j pos) (tC .non):=fun _ _ _ H _ I h=>Constant_none ⟨.non,H,I,rfl,h⟩
theorem dO {x j pos}:PE X (.Constant (.str x) j pos) (tC (.str x)):=fun _ _ _ H _ I h=>Calls.Constant_str ⟨.str x,H,I.tok _,⟨_,rfl⟩,h⟩
noncomputable def Gl (X:Cx) (x:Str):Prop:=X.env.kindOf x=some .globalImplicit
theorem qh {E:Value->Shared->Prop} {pins:List (Addr×Obj)} {s:Shared} {σ:St} {H:Hp} {x:Str} {u:Value} {pos:Pos} {Q:Value->Shared->Prop} (I:Inv X pins σ H s) (hg:Gl X x) (hm:X.mg x=some u) (h:Q u s)
  (hd:(x == ("__debug__":Str))=false:=by decide):wpAny (model X.prog X.w) X.A (eval (.Name x pos) X.env) Q E s:=
 Calls.Name_function_global I.ok.kind hg (Calls.loadGlobal_global (by rw [I.ok.glob]; exact I.mod.glob.keeps I.bk) hm h) hd
theorem jK {E:Value->Shared->Prop} {pins:List (Addr×Obj)} {s:Shared} {σ:St} {H:Hp} {x:Str} {u:Value} {pos:Pos} {Q:Value->Shared->Prop} (I:Inv X pins σ H s) (hg:Gl X x) (hm:X.mg x=none) (hv:bootBuiltins x=some u) (h:Q u s)
  (hn:x≠"__name__":=by decide) (hd:(x == ("__debug__":Str))=false:=by decide):wpAny (model X.prog X.w) X.A (eval (.Name x pos) X.env) Q E s:=by
 obtain ⟨mb,h1,h2⟩:=I.mod.blt
 exact Calls.Name_function_global I.ok.kind hg (Calls.loadGlobal_builtin (by rw [I.ok.glob]; exact I.mod.glob.keeps I.bk) hm (by rw [I.ok.blt]; exact h1.keeps I.bk) ((h2 x hn).trans hv) h) hd
theorem iI {x:Str} {v:V} {u:Value} {pos:Pos} (hg:Gl X x) (hm:X.mg x=some u) (r:aE v u) (hd:(x == ("__debug__":Str))=false:=by decide):PE X (.Name x pos) (tC v):=
 fun _ _ _ H _ I h=>qh I hg hm ⟨v,H,I,r,h⟩ hd
theorem jD {x:Str} {v:V} {u:Value} {pos:Pos} (hg:Gl X x) (hm:X.mg x=none) (hv:bootBuiltins x=some u) (r:aE v u) (hn:x≠"__name__":=by decide) (hd:(x == ("__debug__":Str))=false:=by decide):PE X (.Name x pos) (tC v):=
 fun _ _ _ H _ I h=>jK I hg hm hv ⟨v,H,I,r,h⟩ hn hd
variable {a b:Expr} {ta tb:TE} {pos:Pos}
noncomputable def tB (t:TE):TT:=fun σ H Q=>t σ H fun x H1=>∃ c,x=.bl c/\Q c H1
theorem cG {e:Expr} {t:TE} (h:PE X e t) (he:∀ whole,isTrue e X.env whole=(do let v <-whole; standAt e.pos; holding [v] (truthy v)):=by intro _; rfl):PT X e (tB t):=by
 intro pins s σ H Q I hw
 refine isTrue_plain (thn (h pins s σ H _ I hw) fun v s1 ⟨x,H1,I1,r1,q1⟩=>?_) (he _)
 obtain ⟨d,rfl,q⟩:=q1
 cases r1
 exact wpAny_truthy_bool ⟨H1,I1,q⟩
variable {tA tB':TT} {cM:List Expr}
noncomputable def wL (t u:TT):TT:=fun σ H Q=>t σ H fun c H1=>if c=true then u σ H1 Q else Q false H1
noncomputable def tOr (t u:TT):TT:=fun σ H Q=>t σ H fun c H1=>if c=true then Q true H1 else u σ H1 Q
noncomputable def fe (t:TT):TT:=fun σ H Q=>t σ H fun c H1=>Q (!c) H1
theorem wg (ha:PT X a tA):PW X (.BoolOp .And [a] pos) tA:=by
 intro wh pins s σ H Q I h
 refine isTrue_and (thn (ha pins s σ H Q I h) fun c s1 e=>?_)
 cases c with
 | true=>exact isTrue_and_nil e
 | false=>exact e
theorem gY (ha:PT X a tA):PW X (.BoolOp .Or [a] pos) tA:=by
 intro wh pins s σ H Q I h
 refine isTrue_or (thn (ha pins s σ H Q I h) fun c s1 e=>?_)
 cases c with
 | false=>exact isTrue_or_nil e
 | true=>exact e
theorem yc (ha:PT X a tA) (hb:PW X (.BoolOp .And (b :: cM) pos) tB'):PW X (.BoolOp .And (a :: b :: cM) pos) (wL tA tB'):=by
 intro wh pins s σ H Q I h
 refine isTrue_and (thn (ha pins s σ H _ I h) fun c s1 ⟨H1,I1,q1⟩=>?_)
 cases c with
 | true=>exact hb wh pins s1 σ H1 Q I1 q1
 | false=>exact ⟨H1,I1,q1⟩
theorem iW (ha:PT X a tA) (hb:PW X (.BoolOp .Or (b :: cM) pos) tB'):PW X (.BoolOp .Or (a :: b :: cM) pos) (tOr tA tB'):=by
 intro wh pins s σ H Q I h
 refine isTrue_or (thn (ha pins s σ H _ I h) fun c s1 ⟨H1,I1,q1⟩=>?_)
 cases c with
 | true=>exact ⟨H1,I1,q1⟩
 | false=>exact hb wh pins s1 σ H1 Q I1 q1
theorem da (ha:PT X a tA):PT X (.UnaryOp .Not a pos) (fe tA):=by
 intro pins s σ H Q I h
 exact isTrue_not (ha pins s σ H (fun c H1=>Q (!c) H1) I h)
noncomputable def kY (ta tb:TE):TE:=fun σ H Q=>ta σ H fun x H1=>∃ c,x=.bl c/\if c=true then tb σ H1 Q else Q (.bl false) H1
noncomputable def zC (ta tb:TE):TE:=fun σ H Q=>ta σ H fun x H1=>∃ c,x=.bl c/\if c=true then Q (.bl true) H1 else tb σ H1 Q
noncomputable def sw (ta:TE):TE:=fun σ H Q=>ta σ H fun x H1=>∃ c,x=.bl c/\Q (.bl (!c)) H1
theorem kr {op} {t:TE} (h:PE X a t):PE X (.BoolOp op [a] pos) t:=fun pins s σ H Q I hw=>BoolOp_one (h pins s σ H Q I hw)
theorem lZ (ha:PE X a ta) (hb:PE X (.BoolOp .And (b :: cM) pos) tb):PE X (.BoolOp .And (a :: b :: cM) pos) (kY ta tb):=by
 intro pins s σ H Q I h
 refine BoolOp_and (thn (ha pins s σ H _ I h) fun v s1 ⟨x,H1,I1,r1,q1⟩=>?_)
 obtain ⟨c,rfl,q1⟩:=q1
 cases r1
 refine wpAny_truthy_bool ?_
 cases c with
 | true=>exact hb pins s1 σ H1 Q I1 q1
 | false=>exact ⟨.bl false,H1,I1,rfl,q1⟩
theorem DF (ha:PE X a ta) (hb:PE X (.BoolOp .Or (b :: cM) pos) tb):PE X (.BoolOp .Or (a :: b :: cM) pos) (zC ta tb):=by
 intro pins s σ H Q I h
 refine BoolOp_or (thn (ha pins s σ H _ I h) fun v s1 ⟨x,H1,I1,r1,q1⟩=>?_)
 obtain ⟨c,rfl,q1⟩:=q1
 cases r1
 refine wpAny_truthy_bool ?_
 cases c with
 | false=>exact hb pins s1 σ H1 Q I1 q1
 | true=>exact ⟨.bl true,H1,I1,rfl,q1⟩
theorem yd (ha:PE X a ta):PE X (.UnaryOp .Not a pos) (sw ta):=by
 intro pins s σ H Q I h
 refine UnaryOp_ (thn (ha pins s σ H _ I h) fun v s1 ⟨x,H1,I1,r1,q1⟩=>?_)
 obtain ⟨c,rfl,q1⟩:=q1
 cases r1
 exact not_of (wpAny_truthy_bool ⟨.bl (!c),H1,I1,rfl,q1⟩)
noncomputable def tIf (t:TT) (ta tb:TE):TE:=fun σ H Q=>t σ H fun c H1=>if c=true then ta σ H1 Q else tb σ H1 Q
end
end L2
namespace L2
open PySem PySem.Spec PyProof.Rows
noncomputable def SqL (K:PySem.W.Frag) (H:Hp) (a:Addr) (xs:List V):Prop:=
 Rd H a (.lst xs)\/
  ∃ (o:Obj) (its:Array Value) (n:Nat),K.lookup a=some o/\o.cls=.type "list"/\o.dict=none/\o.data=.seq its n/\its.size<=sizeLine/\aD xs its.toList
noncomputable def SqT (K:PySem.W.Frag) (H:Hp) (a:Addr) (xs:List V):Prop:=
 Rd H a (.tup xs)\/
  ∃ (o:Obj) (its:Array Value) (n:Nat),K.lookup a=some o/\o.cls=.type "tuple"/\o.data=.seq its n/\its.size<=sizeLine/\aD xs its.toList
noncomputable def EF:Value->Option V
 | .none=>some .non
 | .bool b=>some (.bl b)
 | .int i _=>some (.int i)
 | .str x _=>some (.str x)
 | .bytes b _=>some (.byt b)
 | .float b _=>some (.flt b)
 | .ref a=>some (.ref a)
 | .type n=>some (.ty n)
 | _=>none
theorem aE.abs {x:V} {u:Value} (r:aE x u):EF u=some x:=by
 cases x with
 | non=>cases r; rfl
 | bl _=>cases r; rfl
 | int _=>obtain ⟨t,rfl⟩:=r; rfl
 | str _=>obtain ⟨t,rfl⟩:=r; rfl
 | byt _=>obtain ⟨t,rfl⟩:=r; rfl
 | flt _=>obtain ⟨t,rfl⟩:=r; rfl
 | ref _=>cases r; rfl
 | ty _=>cases r; rfl
theorem aE.inj {x y:V} {u:Value} (r:aE x u) (q:aE y u):x=y:=Option.some.inj (r.abs.symm.trans q.abs)
theorem aD.inj {xs ys:List V} {us:List Value} (h:aD xs us):aD ys us->xs=ys:=by
 induction h generalizing ys with
 | nil=>intro h; cases h; rfl
 | cons r t ih=>intro h; cases h with
  | cons r' t'=>rw [r.inj r',ih t']
section
variable {X:Cx} {pins:List (Addr×Obj)} {σ:St} {H:Hp} {s:Shared} {a:Addr} {xs ys:List V}
theorem SqL.of {K:PySem.W.Frag} (h:H a=some (.lst xs)):SqL K H a xs:=.inl (.inl h)
theorem SqT.of {K:PySem.W.Frag} (h:H a=some (.tup xs)):SqT K H a xs:=.inl (.inl h)
theorem Inv.list (I:Inv X pins σ H s) (h:SqL X.K H a xs):∃ its:List Value,aD xs its/\PlainL s.heap a its.toArray/\xs.length<=sizeLine:=by
 rcases h with h | ⟨o,its,n,hk,hc,hd,hs,hz,r⟩
 ·obtain ⟨z,its,n,r,e⟩:=h.ok I.hok
  exact ⟨its,r,⟨_,n,e,rfl,rfl,rfl⟩,z⟩
 ·refine ⟨its.toList,r,⟨o,n,I.kIn a o hk,hc,hd,by simpa using hs⟩,?_⟩
  have e:=r.length
  simp only [Array.length_toList] at e
  omega
theorem Inv.tuple (I:Inv X pins σ H s) (h:SqT X.K H a xs):∃ its:List Value,aD xs its/\IsTup s.heap a its.toArray/\xs.length<=sizeLine:=by
 rcases h with h | ⟨o,its,n,hk,hc,hs,hz,r⟩
 ·obtain ⟨z,its,r,p⟩:=h.ok I.hok
  exact ⟨its,r,p.tup,z⟩
 ·refine ⟨its.toList,r,⟨o,I.kIn a o hk,hc,n,by simpa using hs⟩,?_⟩
  have e:=r.length
  simp only [Array.length_toList] at e
  omega
theorem Inv.list_inj (I:Inv X pins σ H s) (h:SqL X.K H a xs) (h':SqL X.K H a ys):xs=ys:=by
 obtain ⟨its,r,⟨o,n,e,_,_,d⟩,_⟩:=I.list h
 obtain ⟨its',r',⟨o',n',e',_,_,d'⟩,_⟩:=I.list h'
 rw [e] at e'; cases e'
 rw [d] at d'
 injection d' with d1 _
 have:its=its':=by simpa using congrArg Array.toList d1
 subst this
 exact r.inj r'
theorem Inv.tuple_inj (I:Inv X pins σ H s) (h:SqT X.K H a xs) (h':SqT X.K H a ys):xs=ys:=by
 obtain ⟨its,r,⟨o,e,_,n,d⟩,_⟩:=I.tuple h
 obtain ⟨its',r',⟨o',e',_,n',d'⟩,_⟩:=I.tuple h'
 rw [e] at e'; cases e'
 rw [d] at d'
 injection d' with d1 _
 have:its=its':=by simpa using congrArg Array.toList d1
 subst this
 exact r.inj r'
end
noncomputable abbrev Cx.wish (X:Cx) (E:Value->Shared->Prop):Cx:={ X with xe:=E }
noncomputable abbrev Cx.nox (X:Cx):Cx:=X.wish fun _ _=>False
theorem Cx.Ok.wish {X:Cx} (ok:X.Ok) (E:Value->Shared->Prop):(X.wish E).Ok:=
 ⟨ok.mod,ok.kind,ok.glob,ok.blt,ok.above,ok.inj,ok.has,ok.cab,ok.hd,ok.frames,ok.stk,ok.exf,ok.bs,ok.bsz,ok.noex,ok.exfs,ok.funs,ok.frf⟩
theorem Cx.Ok.unwish {X:Cx} {E:Value->Shared->Prop} (ok:(X.wish E).Ok):X.Ok:=
 ⟨ok.mod,ok.kind,ok.glob,ok.blt,ok.above,ok.inj,ok.has,ok.cab,ok.hd,ok.frames,ok.stk,ok.exf,ok.bs,ok.bsz,ok.noex,ok.exfs,ok.funs,ok.frf⟩
section
variable {X:Cx} {pins:List (Addr×Obj)} {σ:St} {H:Hp} {s:Shared} {E:Value->Shared->Prop}
theorem Inv.wish (I:Inv X pins σ H s) (E:Value->Shared->Prop):Inv (X.wish E) pins σ H s:=⟨I.ok.wish E,I.os,I.bare,I.base,I.loc,I.cell,I.free,I.freeC,I.pin,I.hok,I.len⟩
theorem Inv.unwish (I:Inv (X.wish E) pins σ H s):Inv X pins σ H s:=⟨I.ok.unwish,I.os,I.bare,I.base,I.loc,I.cell,I.free,I.freeC,I.pin,I.hok,I.len⟩
theorem SP.unwish {D:iH} {f:Flow} {s':Shared} (h:SP (X.wish E) pins D f s'):SP X pins D f s':=by
 cases f with
 | next=>obtain ⟨σ',H',I,q⟩:=h; exact ⟨σ',H',I.unwish,q⟩
 | brk=>obtain ⟨σ',H',I,q⟩:=h; exact ⟨σ',H',I.unwish,q⟩
 | cont=>obtain ⟨σ',H',I,q⟩:=h; exact ⟨σ',H',I.unwish,q⟩
 | ret u=>obtain ⟨v,σ',H',I,r,q⟩:=h; exact ⟨v,σ',H',I.unwish,r,q⟩
theorem PE.nox {e:Expr} {t:TE} (h:PE X.nox e t):PE X e t:=fun pins s σ H Q I hw=>
 wpAny_mono (h pins s σ H Q (I.wish _) hw) (fun _ _ ⟨v,H',I',r,q⟩=>⟨v,H',I'.unwish,r,q⟩) fun _ _ z=>False.elim z
theorem PT.nox {e:Expr} {t:TT} (h:PT X.nox e t):PT X e t:=fun pins s σ H Q I hw=>
 wpAny_mono (h pins s σ H Q (I.wish _) hw) (fun _ _ ⟨H',I',q⟩=>⟨H',I'.unwish,q⟩) fun _ _ z=>False.elim z
theorem PSs.nox {st:List Stmt} {t:TS} (h:PSs X.nox st t):PSs X st t:=fun pins s σ H D I hw=>
 wpAny_mono (h pins s σ H D (I.wish _) hw) (fun _ _ q=>q.unwish) fun _ _ z=>False.elim z
end
section
variable {X:Cx} {st:Stmt} {cM:List Stmt} {t u:TS} {e:Expr} {te:TE} {pos:Pos}
noncomputable def aX:TS:=fun D σ H=>D.nx σ H
noncomputable def aq (t u:TS):TS:=fun D σ H=>t { D with nx:=u D } σ H
theorem aI:PSs X [] aX:=fun _ _ σ H _ I h=>wpAny_execs_nil ⟨σ,H,I,h⟩
theorem ah (h1:PS X st t) (h2:PSs X cM u):PSs X (st :: cM) (aq t u):=by
 intro pins s σ H D I h
 refine wpAny_execs_cons (thn (h1 pins s σ H { D with nx:=u D } I h) fun f s1 q=>?_)
 cases f with
 | next=>
  obtain ⟨σ',H',I',q⟩:=q
  exact h2 pins s1 σ' H' D I' q
 | ret v=>exact q
 | brk=>exact q
 | cont=>exact q
theorem ak (h1:PS X st t):PSs X [st] t:=by
 intro pins s σ H D I h
 refine wpAny_execs_cons (thn (h1 pins s σ H D I h) fun f s1 q=>?_)
 cases f with
 | next=>exact wpAny_execs_nil q
 | ret v=>exact q
 | brk=>exact q
 | cont=>exact q
noncomputable def Cs:TS:=fun D σ H=>D.bk σ H
noncomputable def DG:TS:=fun D σ H=>D.ct σ H
theorem Inv.quiet {pins:List (Addr×Obj)} {σ:St} {H:Hp} {s:Shared} (I:Inv X pins σ H s):interactive X.env=false:=by simp [interactive,I.ok.kind]
noncomputable def kZ (te:TE):TS:=fun D σ H=>te σ H fun _ H1=>D.nx σ H1
theorem kt (he:PE X e te) (hs:swapsWith e none pos.line X.env=pure false:=by rfl):PS X (.Expr e pos) (kZ te):=by
 intro pins s σ H D I h
 exact wpAny_Expr_any (thn (he pins s σ H _ I h) fun v s1 ⟨x,H1,I1,r1,q1⟩=>⟨σ,H1,I1,q1⟩) I.quiet hs
noncomputable def aL (te:TE):TS:=fun D σ H=>te σ H D.rt
theorem ar (he:PE X e te):PS X (.Return (some e) pos) (aL te):=by
 intro pins s σ H D I h
 exact wpAny_Return_some (thn (he pins s σ H _ I h) fun v s1 ⟨x,H1,I1,r1,q1⟩=>⟨x,σ,H1,I1,r1,q1⟩)
noncomputable def DH:TS:=fun D _ H=>D.rt .non H
noncomputable def bw (c:TT) (t u:TS):TS:=fun D σ H=>c σ H fun b H1=>if b=true then t D σ H1 else u D σ H1
theorem bc {c:Expr} {a b:List Stmt} {tc:TT} (hc:PT X c tc) (ha:PSs X a t) (hb:PSs X b u):PS X (.If c a b pos) (bw tc t u):=by
 intro pins s σ H D I h
 refine wpAny_If (thn (hc pins s σ H _ I h) fun d s1 ⟨H1,I1,q1⟩=>?_)
 cases d with
 | true=>exact ha pins s1 σ H1 D I1 q1
 | false=>exact hb pins s1 σ H1 D I1 q1
noncomputable def oN:TS:=fun _ _ _=>False
theorem oj:PS X st oN:=fun _ _ _ _ _ _ h=>h.elim
end
noncomputable abbrev TG:=V->St->Hp->(St->Hp->Prop)->Prop
noncomputable abbrev TGs:=List V->St->Hp->(St->Hp->Prop)->Prop
noncomputable def PG (X:Cx) (target:Expr) (t:TG):Prop:=
 ∀ (pins:List (Addr×Obj)) (s:Shared) (σ:St) (H:Hp) (v:V) (u:Value) (Q:St->Hp->Prop),Inv X pins σ H s->aE v u->t v σ H Q->
  wpAny (model X.prog X.w) X.A (assign target X.env u) (fun _ s'=>∃ σ' H',Inv X pins σ' H' s'/\Q σ' H') X.xe s
noncomputable def PGs (X:Cx) (ts:List Expr) (t:TGs):Prop:=
 ∀ (pins:List (Addr×Obj)) (s:Shared) (σ:St) (H:Hp) (vs:List V) (us:List Value) (Q:St->Hp->Prop),Inv X pins σ H s->aD vs us->t vs σ H Q->
  wpAny (model X.prog X.w) X.A (assignInOrder ((assignEach ts X.env).map (·.2)) us) (fun _ s'=>∃ σ' H',Inv X pins σ' H' s'/\Q σ' H') X.xe s
noncomputable abbrev zD:=V->V->V->Hp->(Hp->Prop)->Prop
noncomputable def EG (X:Cx) (t:zD):Prop:=
 ∀ (pins:List (Addr×Obj)) (s:Shared) (σ:St) (H:Hp) (o i v:V) (ov iv u:Value) (Q:Hp->Prop),Inv X pins σ H s->aE o ov->aE i iv->aE v u->t o i v H Q->
  wpAny (model X.prog X.w) X.A (setItem ov iv u) (fun _ s'=>∃ H',Inv X pins σ H' s'/\Q H') X.xe s
section
variable {X:Cx} {pos:Pos}
noncomputable def am (i:Nat):TG:=fun v σ H Q=>Q (σ.set i (some v)) H
theorem ax {i:Nat} {x:Str} (hN:X.N.Nodup) (hi:X.N[i]?=some x) (hx:Loc X.env.scope x) (hf:X.fn x=true\/X.env.scope.names.lookup x=some .local:=by first | exact .inl rfl | exact .inr rfl | assumption):PG X (.Name x pos) (am i):=by
 intro pins s σ H v u Q I r h
 exact wpAny_assign_Name (tm I hN hi hx r (fun s' I'=>⟨_,H,I',h⟩) hf)
noncomputable def gZ:TGs:=fun vs σ H Q=>vs=[]/\Q σ H
noncomputable def b7 (t:TG) (u:TGs):TGs:=fun vs σ H Q=>∃ v r,vs=v :: r/\t v σ H fun σ' H'=>u r σ' H' Q
theorem eg:PGs X [] gZ:=by
 intro pins s σ H vs us Q I r h
 obtain ⟨e,h⟩:=h
 subst e
 cases r
 exact assignInOrder_nil ⟨σ,H,I,h⟩
theorem bn {e:Expr} {es:List Expr} {t:TG} {u:TGs} (h1:PG X e t) (h2:PGs X es u)
  (hs:(assignEach (e :: es) X.env).map (·.2)=assign e X.env :: (assignEach es X.env).map (·.2):=by rfl):PGs X (e :: es) (b7 t u):=by
 intro pins s σ H vs us Q I r h
 obtain ⟨v,vr,e1,h⟩:=h
 subst e1
 cases r with
 | cons r rr=>
  rw [hs]
  refine assignInOrder_cons (thn (h1 pins s σ H _ _ _ I r h) fun _ s1 ⟨σ1,H1,I1,q1⟩=>?_)
  exact h2 pins s1 σ1 H1 _ _ Q I1 rr q1
noncomputable def g0 (K:PySem.W.Frag) (n:Nat) (t:TGs):TG:=fun v σ H Q=>∃ a xs,v=.ref a/\SqT K H a xs/\xs.length=n/\t xs σ H Q
theorem fC {es:List Expr} {k:Nat} {t:TGs} {n:Nat} (hc:X.calm=true) (h:PGs X es t)
  (hn:(assignEach es X.env).length=n:=by rfl) (hst:(assignEach es X.env).findIdx? (·.1)=none:=by rfl):PG X (.Tuple es k pos) (g0 X.K n t):=by
 intro pins s σ H v u Q I r hw
 obtain ⟨a,xs,e1,hq,hl,hw⟩:=hw
 subst e1
 cases r
 obtain ⟨its,rv,ht,hz⟩:=I.tuple hq
 refine assign_Tuple_tuple (I.ok.hd hc) ht (by simp [hn,<-hl,rv.length]) hst fun h' hx=>?_
 have I1:Inv X pins σ H { s with heap:=h' }:=I.kept (t':=s.toks) fun b o e=>hx b o (Nat.ne_of_lt (Heap.lt_size e)) e
 exact h pins _ σ H xs _ Q I1 (by simpa using rv) hw
noncomputable def EH (to ti:TE) (t:zD):TG:=fun v σ H Q=>to σ H fun o H1=>ti σ H1 fun i H2=>t o i v H2 fun H3=>Q σ H3
noncomputable def aU (te:TE) (g:TG):TS:=fun D σ H=>te σ H fun x H1=>g x σ H1 D.nx
theorem ye {tg e:Expr} {te:TE} {g:TG} (he:PE X e te) (hg:PG X tg g) (hs:swapsWithSole [tg] e pos.line X.env=pure false:=by rfl) (hw:swappedStores [tg] e X.env=pure none:=by rfl)
  (h1:(assignEach [tg] X.env).map (·.2)=[assign tg X.env]:=by rfl):PS X (.Assign [tg] e pos) (aU te g):=by
 intro pins s σ H D I h
 refine wpAny_Assign_stores (thn (he pins s σ H _ I h) fun v s1 ⟨x,H1,I1,r1,q1⟩=>?_) hs hw
 rw [h1]
 exact thn (hg pins s1 σ H1 x v _ I1 r1 q1) fun _ s2 q=>q
theorem aJ {i:Nat} {x:Str} {e:Expr} {te:TE} {pos':Pos} (hN:X.N.Nodup) (hi:X.N[i]?=some x) (hx:Loc X.env.scope x) (he:PE X e te) (hs:swapsWith e (some (.Name x pos')) pos.line X.env=pure false:=by rfl) (hf:X.fn x=true\/X.env.scope.names.lookup x=some .local:=by first | exact .inl rfl | exact .inr rfl | assumption):
  PS X (.Assign [.Name x pos'] e pos) (aU te (am i)):=by
 intro pins s σ H D I h
 refine wpAny_Assign_Name (thn (he pins s σ H _ I h) fun v s1 ⟨y,H1,I1,r1,q1⟩=>?_) hs
 exact tm I1 hN hi hx r1 (fun s2 I2=>⟨_,H1,I2,q1⟩) hf
end
section
variable {X:Cx} {pos:Pos}
noncomputable def tp (c:TT) (tb:TS):TS:=fun D σ H=>∃ W:Nat->St->Hp->Prop,(∃ m,W m σ H)/\∀ m σ H,W m σ H->
 c σ H fun b H1=>if b=true then ∃ N:St->Hp->Prop,(∀ σ' H',N σ' H'->∃ m',m' < m/\W m' σ' H')/\tb { D with nx:=N,ct:=N,bk:=D.nx } σ H1 else D.nx σ H1
theorem zF {c:Expr} {body:List Stmt} {tc:TT} {tb:TS} (hp:PassesOwn (model X.prog X.w) X.A X.env X.xe) (hc:PT X c tc) (hb:PSs X body tb):PS X (.While c body [] pos) (tp tc tb):=by
 intro pins s σ H D I h
 obtain ⟨W,⟨m0,w0⟩,turn⟩:=h
 refine wpAny_While (codeAny_whileLoop (fun n s'=>∃ σ' H',Inv X pins σ' H' s'/\W n σ' H') ?_ m0 ⟨σ,H,I,w0⟩)
 rintro n s1 ⟨σ1,H1,I1,w1⟩
 refine wpAny_passesOwn hp (thn (hc pins s1 σ1 H1 _ I1 (turn n σ1 H1 w1)) fun b s2 ⟨H2,I2,q2⟩=>?_)
 cases b with
 | true=>
  obtain ⟨N,hN,q2⟩:=q2
  rw [if_pos rfl]
  refine wpAny_passesOwn hp (thn (hb pins s2 σ1 H2 _ I2 q2) fun f s3 q3=>?_)
  cases f with
  | next=>
   obtain ⟨σ3,H3,I3,n3⟩:=q3
   obtain ⟨m',hm,w3⟩:=hN σ3 H3 n3
   exact ⟨m',hm,σ3,H3,I3,w3⟩
  | cont=>
   obtain ⟨σ3,H3,I3,n3⟩:=q3
   obtain ⟨m',hm,w3⟩:=hN σ3 H3 n3
   exact ⟨m',hm,σ3,H3,I3,w3⟩
  | brk=>exact q3
  | ret v=>exact q3
 | false=>
  rw [if_neg Bool.false_ne_true]
  exact wpAny_execs_nil ⟨σ1,H2,I2,q2⟩
end
structure It where
 go:Nat->Hp->Prop
 yld:Nat->Hp->V->Hp->Prop
 stop:Nat->Hp->Prop
noncomputable def g9 (X:Cx) (pins:List (Addr×Obj)) (H:Hp) (b:Addr):Prop:=
 H b=none/\b≠X.env.locals/\b∉X.fs/\(b∈X.ex\/X.s₀.heap.objs.size<=b)/\(∀ x c,X.env.cells.lookup x=some c->c≠b)/\∀ p∈X.pn++pins,p.1≠b
theorem Inv.fpOk {X:Cx} {pins:List (Addr×Obj)} {σ:St} {H H':Hp} {s:Shared} {b:Addr} (I:Inv X pins σ H s) (hb:s.heap.objs.size<=b) (hn:H' b=none):g9 X pins H' b:=by
 refine ⟨hn,Nat.ne_of_gt (Nat.lt_of_lt_of_le I.lt hb),I.nofs hb,.inr (Nat.le_trans I.sz hb),fun x c e z=>?_,fun p hp z=>?_⟩
 ·obtain ⟨v,q⟩:=I.cell x c e
  exact absurd (Nat.lt_of_lt_of_le q.lt (by rw [z]; exact hb)) (Nat.lt_irrefl _)
 ·exact absurd (Nat.lt_of_lt_of_le (Heap.lt_size (I.pin p hp).1) (by rw [z]; exact hb)) (Nat.lt_irrefl _)
structure ma (P:Program) (w:World) (K:PySem.W.Frag) (tg:Expr) (J:It) (fp:List Addr) (it:Addr) (tn:Nat->Heap->Prop):Prop where
 mem:it∈fp
 obj:∀ i h,tn i h->∀ b∈fp,∃ o,h.get? b=some o/\∀ v,o.data≠.cell v
 keep:∀ i h h',tn i h->(∀ b∈fp,∀ o,h.get? b=some o->h'.get? b=some o)->tn i h'
 item:∀ (X:Cx),X.prog=P->X.w=w->X.K=K->X.calm=true->∀ (i:Nat) (pins:List (Addr×Obj)) (s:Shared) (σ:St) (H:Hp) (E:Value->Shared->Prop),Inv X pins σ H s->(∀ b∈fp,g9 X pins H b)->tn i s.heap->J.go i H->
  wpAny (model P w) X.A (pyNext (.ref it)) (fun r s1=>∃ u,r=some u/\
   wpAny (model P w) X.A (letOwnedTupleGo tg (.ref it) u) (fun _ s2=>∃ x H',Inv X pins σ H' s2/\aE x u/\J.yld i H x H'/\tn (i + 1) s2.heap/\∀ b∈fp,H' b=none) E s1) E s
 done:∀ (X:Cx),X.prog=P->X.w=w->X.K=K->X.calm=true->∀ (i:Nat) (pins:List (Addr×Obj)) (s:Shared) (σ:St) (H:Hp) (E:Value->Shared->Prop),Inv X pins σ H s->(∀ b∈fp,g9 X pins H b)->tn i s.heap->J.stop i H->
  wpAny (model P w) X.A (pyNext (.ref it)) (fun r s1=>r=none/\Inv X pins σ H s1) E s
 self:∀ (A:Around) (i:Nat) (s:Shared) (Q:Value->Shared->Prop) (E:Value->Shared->Prop),tn i s.heap->Q (.ref it) s->wpAny (model P w) A (pyIter (.ref it)) Q E s
noncomputable abbrev TI:=St->Hp->(It->Hp->Prop)->Prop
noncomputable def PIE (X:Cx) (pins:List (Addr×Obj)) (σ:St) (tg:Expr) (R:It->Hp->Prop) (itv:Value) (s2:Shared):Prop:=
 ∃ (it:Addr) (fp:List Addr) (tn:Nat->Heap->Prop) (J:It) (H':Hp),itv=.ref it/\Inv X pins σ H' s2/\ma X.prog X.w X.K tg J fp it tn/\tn 0 s2.heap/\(∀ b∈fp,g9 X pins H' b)/\R J H'
noncomputable def PI (X:Cx) (tg iter:Expr) (wi:TI):Prop:=
 ∀ (pins:List (Addr×Obj)) (s:Shared) (σ:St) (H:Hp) (R:It->Hp->Prop),Inv X pins σ H s->wi σ H R->
  wpAny (model X.prog X.w) X.A (eval iter X.env) (fun v s1=>wpAny (model X.prog X.w) X.A (pyIter v) (PIE X pins σ tg R) X.xe s1) X.xe s
theorem wM {M : Model} {A : Around} {E : Value → Shared → Prop} {s : Shared} {tg : Expr} {it : Addr} {u : Value} {o : Obj} {n : String} {vs : Array Value} {Q : Unit → Shared → Prop} (ho : s.heap.get? it = some o) (hc : o.cls = .type n) (hd : o.data = .fields vs)
    (hn : ["enumerate", "zip", "dict_itemiterator", "dict_reverseitemiterator", "odict_iterator", "itertools.zip_longest", "itertools.pairwise"].contains n = false) (hQ : Q () s) : wpAny M A (letOwnedTupleGo tg (.ref it) u) Q E s := by
  unfold letOwnedTupleGo
  cases tg <;> first
    | exact wpAny_pure hQ
    | (cases u <;> first
        | exact wpAny_pure hQ
        | (refine wpAny_bind (wpAny_load ho ?_)
           rw [hc, hd]
           show wpAny M A (if (["enumerate", "zip", "dict_itemiterator", "dict_reverseitemiterator", "odict_iterator", "itertools.zip_longest", "itertools.pairwise"].contains n && vs[0]? == some (rawInt _)) = true then _ else _) Q E s
           rw [if_neg (by intro h; rw [hn, Bool.false_and] at h; cases h)]
           exact wpAny_pure hQ))
noncomputable def Itl (K:PySem.W.Frag) (a:Addr):It:=
 ⟨fun i H=>∃ xs x,SqL K H a xs/\xs[i]?=some x,fun i H x H'=>H'=H/\∀ xs,SqL K H a xs->xs[i]?=some x,fun i H=>∃ xs,SqL K H a xs/\xs.length<=i⟩
noncomputable def Itt (K:PySem.W.Frag) (a:Addr):It:=
 ⟨fun i H=>∃ xs x,SqT K H a xs/\xs[i]?=some x,fun i H x H'=>H'=H/\∀ xs,SqT K H a xs->xs[i]?=some x,fun i H=>∃ xs,SqT K H a xs/\xs.length<=i⟩
noncomputable def Itr (lo:Int) (n:Nat):It:=⟨fun i _=>i < n,fun i H x H'=>H'=H/\x=.int (lo + i),fun i _=>n<=i⟩
theorem yf {P:Program} {w:World} {K:PySem.W.Frag} {tg:Expr} (a it:Addr):ma P w K tg (Itl K a) [it] it (fun i h=>h.IsListIter it a i) where
 mem:=by simp
 obj:=fun i h st b hb=>by
  have e:b=it:=by simpa using hb
  subst e
  obtain ⟨o,e,c,d⟩:=st
  exact ⟨o,e,fun v z=>by rw [d] at z; cases z⟩
 keep:=fun i h h' st k=>st.at fun o e=>k it (by simp) o e
 item:=by
  intro X hP hw hK hc i pins s σ H E I hf st hg
  subst hP hw hK
  obtain ⟨xs,x,hq,hx⟩:=hg
  obtain ⟨its,rv,p,hz⟩:=I.list hq
  obtain ⟨u,hu,ru⟩:=rv.get hx
  obtain ⟨f0,f1,f2,f3,f4,f5⟩:=hf it (by simp)
  refine wpAny_pyNext_list_item st p.isList (x:=u) (by simpa using hu) fun h' st' sb=>?_
  have I1:Inv X pins σ H { s with heap:=h' }:=I.turned (t':=s.toks) (fun b o hb e=>(sb.2 b hb).trans e) f0 f1 f3 f4 f5
  obtain ⟨o,e,c,d⟩:=id st'
  exact ⟨u,rfl,wM (s:={ s with heap:=h' }) e c d (by decide) ⟨x,H,I1,ru,⟨rfl,fun ys hy=>by rw [I.list_inj hy hq]; exact hx⟩,st',fun b hb=>(hf b hb).1⟩⟩
 done:=by
  intro X hP hw hK hc i pins s σ H E I hf st hg
  subst hP hw hK
  obtain ⟨xs,hq,hx⟩:=hg
  obtain ⟨its,rv,p,hz⟩:=I.list hq
  obtain ⟨f0,f1,f2,f3,f4,f5⟩:=hf it (by simp)
  have hl:=rv.length
  exact wpAny_pyNext_list_end (I.ok.hd hc) st p.isList (by simp; omega) fun h' eb=>⟨rfl,I.turned (t':=s.toks) (fun b o hb e=>eb b o hb e) f0 f1 f3 f4 f5⟩
 self:=fun _ _ _ _ _ st h=>wpAny_pyIter_listiter st h
theorem wN {P:Program} {w:World} {K:PySem.W.Frag} {tg:Expr} (a it:Addr):ma P w K tg (Itt K a) [it] it (fun i h=>h.IsTupleIter it a i) where
 mem:=by simp
 obj:=fun i h st b hb=>by
  have e:b=it:=by simpa using hb
  subst e
  obtain ⟨o,e,c,d⟩:=st
  exact ⟨o,e,fun v z=>by rw [d] at z; cases z⟩
 keep:=fun i h h' st k=>st.at fun o e=>k it (by simp) o e
 item:=by
  intro X hP hw hK hc i pins s σ H E I hf st hg
  subst hP hw hK
  obtain ⟨xs,x,hq,hx⟩:=hg
  obtain ⟨its,rv,p,hz⟩:=I.tuple hq
  obtain ⟨u,hu,ru⟩:=rv.get hx
  obtain ⟨f0,f1,f2,f3,f4,f5⟩:=hf it (by simp)
  refine wpAny_pyNext_tuple_item st (show s.heap.IsTuple a its.toArray from p) (x:=u) (by simpa using hu) fun h' st' sb=>?_
  have I1:Inv X pins σ H { s with heap:=h' }:=I.turned (t':=s.toks) (fun b o hb e=>(sb.2 b hb).trans e) f0 f1 f3 f4 f5
  obtain ⟨o,e,c,d⟩:=id st'
  exact ⟨u,rfl,wM (s:={ s with heap:=h' }) e c d (by decide) ⟨x,H,I1,ru,⟨rfl,fun ys hy=>by rw [I.tuple_inj hy hq]; exact hx⟩,st',fun b hb=>(hf b hb).1⟩⟩
 done:=by
  intro X hP hw hK hc i pins s σ H E I hf st hg
  subst hP hw hK
  obtain ⟨xs,hq,hx⟩:=hg
  obtain ⟨its,rv,p,hz⟩:=I.tuple hq
  obtain ⟨f0,f1,f2,f3,f4,f5⟩:=hf it (by simp)
  have hl:=rv.length
  exact wpAny_pyNext_tuple_end (I.ok.hd hc) st (show s.heap.IsTuple a its.toArray from p) (by simp; omega) fun h' eb=>⟨rfl,I.turned (t':=s.toks) (fun b o hb e=>eb b o hb e) f0 f1 f3 f4 f5⟩
 self:=fun _ _ _ _ _ st h=>wpAny_pyIter_tupleiter st h
theorem wO {P:Program} {w:World} {K:PySem.W.Frag} {tg:Expr} (it:Addr) (lo:Int) (n:Nat):ma P w K tg (Itr lo n) [it] it (fun i h=>IsRangeIter h it (lo + (i:Nat) * 1) ((n:Int) - (i:Nat)) 1) where
 mem:=by simp
 obj:=fun i h st b hb=>by
  have e:b=it:=by simpa using hb
  subst e
  exact ⟨_,st,fun v z=>by
   have z':Data.fields _=Data.cell v:=z
   cases z'⟩
 keep:=fun i h h' st k=>k it (by simp) _ st
 item:=by
  intro X hP hw hK hc i pins s σ H E I hf st hg
  subst hP hw hK
  obtain ⟨f0,f1,f2,f3,f4,f5⟩:=hf it (by simp)
  have W:=Walks.range (prog:=X.prog) (w:=X.w) (I.ok.hd hc) it lo 1 n
  refine W.item i s _ _ hg st fun v h' tk hv st' kk=>?_
  obtain ⟨t,rfl⟩:=hv
  have I1:Inv X pins σ H { s with heap:=h',toks:=tk }:=I.turned (fun b o hb e=>kk b o (by simpa using hb) e) f0 f1 f3 f4 f5
  refine ⟨_,rfl,wM (s:={ s with heap:=h',toks:=tk }) (n:="range_iterator") st' rfl rfl (by decide) ⟨.int (lo + i),H,I1,⟨t,?_⟩,⟨rfl,rfl⟩,st',fun b hb=>(hf b hb).1⟩⟩
  rw [Int.mul_one]
 done:=by
  intro X hP hw hK hc i pins s σ H E I hf st hg
  subst hP hw hK
  obtain ⟨f0,f1,f2,f3,f4,f5⟩:=hf it (by simp)
  exact wpAny_pyNext_range_end (I.ok.hd hc) st (by have:n<=i:=hg; omega) fun h' eb=>⟨rfl,I.turned (t':=s.toks) (fun b o hb e=>eb b o hb e) f0 f1 f3 f4 f5⟩
 self:=fun _ _ _ _ _ st h=>wpAny_pyIter_rangeiter st h
end L2
namespace L2
open PySem PySem.Spec PyProof.Rows
section
variable {X:Cx} {tg:Expr}
noncomputable def eB (K:PySem.W.Frag) (tl:TE):TI:=fun σ H R=>tl σ H fun x H1=>∃ a,x=.ref a/\(∃ xs,SqL K H1 a xs)/\R (Itl K a) H1
noncomputable def wP (K:PySem.W.Frag) (tl:TE):TI:=fun σ H R=>tl σ H fun x H1=>∃ a,x=.ref a/\(∃ xs,SqT K H1 a xs)/\R (Itt K a) H1
theorem de {l:Expr} {tl:TE} (hl:PE X l tl):PI X tg l (eB X.K tl):=by
 intro pins s σ H R I h
 refine thn (hl pins s σ H _ I h) fun v s1 ⟨x,H1,I1,r1,q1⟩=>?_
 obtain ⟨a,e,⟨xs,hq⟩,q⟩:=q1
 subst e
 cases r1
 obtain ⟨its,rv,p,hz⟩:=I1.list hq
 refine wpAny_pyIter_list p.isList ?_
 refine ⟨s1.heap.objs.size,[s1.heap.objs.size],_,_,H1,rfl,I1.kept (t':=s1.toks) fun b o e=>Heap.get?_push_of_some _ e,yf a _,⟨_,Heap.get?_push_size _ rfl,rfl,rfl⟩,fun b hb=>?_,q⟩
 have e:b=s1.heap.objs.size:=by simpa using hb
 subst e
 exact I1.fpOk (Nat.le_refl _) (I1.hok.fresh (Nat.le_refl _))
theorem yg {l:Expr} {tl:TE} (hl:PE X l tl):PI X tg l (wP X.K tl):=by
 intro pins s σ H R I h
 refine thn (hl pins s σ H _ I h) fun v s1 ⟨x,H1,I1,r1,q1⟩=>?_
 obtain ⟨a,e,⟨xs,hq⟩,q⟩:=q1
 subst e
 cases r1
 obtain ⟨its,rv,p,hz⟩:=I1.tuple hq
 refine wpAny_pyIter_tuple (show s1.heap.IsTuple a its.toArray from p) ?_
 refine ⟨s1.heap.objs.size,[s1.heap.objs.size],_,_,H1,rfl,I1.kept (t':=s1.toks) fun b o e=>Heap.get?_push_of_some _ e,wN a _,⟨_,Heap.get?_push_size _ rfl,rfl,rfl⟩,fun b hb=>?_,q⟩
 have e:b=s1.heap.objs.size:=by simpa using hb
 subst e
 exact I1.fpOk (Nat.le_refl _) (I1.hok.fresh (Nat.le_refl _))
theorem zG {pins:List (Addr×Obj)} {σ:St} {H:Hp} {s:Shared} {R:It->Hp->Prop} {E:Value->Shared->Prop} {lo hi:Int} {t u v:Tok} {tk:Nat} (I:Inv X pins σ H s) (h1:-(2 ^ 62)<=lo) (h2:lo < 2 ^ 62) (h3:-(2 ^ 62)<=hi) (h4:hi < 2 ^ 62)
  (q:R (Itr lo (hi - lo).toNat) H):wpAny (model X.prog X.w) X.A (pyIter (.ref s.heap.objs.size)) (PIE X pins σ tg R) E { s with heap:=s.heap.push { cls:=.type "range",data:=.fields #[.int lo t,.int hi u,.int 1 v] },toks:=tk }:=by
 refine wpAny_pyIter_range (IsRange.new ..) (small_one h1 h2 h3 h4) ?_
 have I1:Inv X pins σ H { s with heap:=s.heap.push { cls:=.type "range",data:=.fields #[.int lo t,.int hi u,.int 1 v] },toks:=tk }:=I.kept fun b o e=>Heap.get?_push_of_some _ e
 refine ⟨(s.heap.push { cls:=.type "range",data:=.fields #[.int lo t,.int hi u,.int 1 v] }).objs.size,[(s.heap.push { cls:=.type "range",data:=.fields #[.int lo t,.int hi u,.int 1 v] }).objs.size],_,_,H,rfl,
  I1.kept (t':=tk) fun b o e=>Heap.get?_push_of_some _ e,wO _ lo (hi - lo).toNat,?_,fun b hb=>?_,q⟩
 ·have e1:lo + ((0:Nat):Int) * 1=lo:=by simp
  have e2:(((hi - lo).toNat:Nat):Int) - ((0:Nat):Int)=Builtin.Range.rangeSize lo hi 1:=by rw [rangeSize_one]; split <;> omega
  show IsRangeIter _ _ (lo + ((0:Nat):Int) * 1) ((((hi - lo).toNat:Nat):Int) - ((0:Nat):Int)) 1
  rw [e1,e2]
  exact Heap.get?_push_size _ rfl
 ·have e:b=(s.heap.push { cls:=.type "range",data:=.fields #[.int lo t,.int hi u,.int 1 v] }).objs.size:=by simpa using hb
  subst e
  exact I1.fpOk (Nat.le_refl _) (I1.hok.fresh (Nat.le_refl _))
noncomputable def fP (ta:TA):TI:=fun σ H R=>ta σ H fun vs H1=>∃ j:Int,vs=[.int j]/\-(2 ^ 62)<=j/\j < 2 ^ 62/\R (Itr 0 j.toNat) H1
noncomputable def DI (ta:TA):TI:=fun σ H R=>ta σ H fun vs H1=>∃ i j:Int,vs=[.int i,.int j]/\(-(2 ^ 62)<=i/\i < 2 ^ 62/\-(2 ^ 62)<=j/\j < 2 ^ 62)/\R (Itr i (j - i).toNat) H1
theorem cU {a:Expr} {ta:TA} {p pos:Pos} (hg:Gl X "range") (hm:X.mg "range"=none) (ha:PA X [a] ta) (hs:starEach [a] X.env=[(false,eval a X.env)]:=by rfl):PI X tg (.Call (.Name "range" p) [a] [] pos) (fP ta):=by
 intro pins s σ H R I h
 refine Call_ (jK I hg hm boot_range (PyProof.Rows.callWith_type1 (thn (ha pos pins s σ H _ I h) fun us s1 ⟨vs,H1,I1,r1,q1⟩=>?_) hs rfl))
 obtain ⟨j,e,q1,q2,q⟩:=q1
 subst e
 cases r1 with
 | cons r rr=>
  cases rr
  obtain ⟨t,rfl⟩:=r
  exact call_range_1 (zG I1 (by omega) (by omega) q1 q2 (by simpa using q))
noncomputable def gH (wi:TI) (g:TG) (tb:TS):TS:=fun D σ H=>wi σ H fun J H1=>∃ W:Nat->Nat->St->Hp->Prop,(∃ m,W 0 m σ H1)/\∀ i m σ H,W i m σ H->
 (J.stop i H/\D.nx σ H)\/(J.go i H/\∃ N:St->Hp->Prop,(∀ σ' H',N σ' H'->∃ m',m' < m/\W (i + 1) m' σ' H')/\∀ x H',J.yld i H x H'->g x σ H' fun σ2 H2=>tb { D with nx:=N,ct:=N,bk:=D.nx } σ2 H2)
noncomputable def ku (fp:List Addr) (h:Heap):List (Addr×Obj):=fp.filterMap fun b=>(h.get? b).map fun o=>(b,o)
theorem fY {fp:List Addr} {h:Heap} {b:Addr} {o:Obj} (hb:b∈fp) (e:h.get? b=some o):(b,o)∈ku fp h:=List.mem_filterMap.mpr ⟨b,hb,by rw [e]; rfl⟩
theorem yh {fp:List Addr} {h:Heap} {p:Addr×Obj} (hp:p∈ku fp h):p.1∈fp/\h.get? p.1=some p.2:=by
 obtain ⟨b,hb,e⟩:=List.mem_filterMap.mp hp
 cases q:h.get? b with
 | none=>rw [q] at e; cases e
 | some o=>
  rw [q] at e
  have e':(b,o)=p:=Option.some.inj e
  subst e'
  exact ⟨hb,q⟩
theorem Inv.pinned {pins:List (Addr×Obj)} {σ:St} {H:Hp} {s:Shared} {fp:List Addr} (I:Inv X pins σ H s) (hf:∀ b∈fp,g9 X pins H b) (ho:∀ b∈fp,∃ o,s.heap.get? b=some o/\∀ v,o.data≠.cell v):Inv X (pins++ku fp s.heap) σ H s:=
 I.pins_of fun p hp=>(List.mem_append.mp hp).elim (fun z=>I.pin p (List.mem_append_right _ z)) fun z=>by
  obtain ⟨hb,e⟩:=yh z
  obtain ⟨f0,f1,f2,_⟩:=hf p.1 hb
  obtain ⟨o,e',d⟩:=ho p.1 hb
  rw [e] at e'; cases e'
  exact ⟨e,f0,f1,f2,d⟩
theorem Inv.unpinned {pins pl:List (Addr×Obj)} {σ:St} {H:Hp} {s:Shared} (I:Inv X (pins++pl) σ H s):Inv X pins σ H s:=I.pins_of fun p hp=>I.pin p (List.mem_append_right _ (List.mem_append_left _ hp))
theorem ff {iter:Expr} {body:List Stmt} {wi:TI} {g:TG} {tb:TS} {pos:Pos} (hp:PassesOwn (model X.prog X.w) X.A X.env X.xe) (hc:X.calm=true) (hi:PI X tg iter wi) (hg:PG X tg g) (hb:PSs X body tb)
  (hs:∀ x,foldedSetIterable iter X.env x=pure x:=by intro _; rfl):PS X (.For tg iter body [] pos) (gH wi g tb):=by
 intro pins s σ H D I h
 refine wpAny_For (thn (hi pins s σ H _ I h) fun v s1 h1=>thn h1 fun itv s2 h2=>?_) hs
 obtain ⟨it,fp,tn,J,H2,e,I2,T,st2,f2,W,⟨m0,w0⟩,turn⟩:=h2
 subst e
 have stat:∀ {H':Hp},(∀ b∈fp,H' b=none)->∀ b∈fp,g9 X pins H' b:=fun hn b hb=>⟨hn b hb,(f2 b hb).2⟩
 refine codeAny_forLoop_any (fun n s'=>∃ i σ' H',Inv X pins σ' H' s'/\tn i s'.heap/\(∀ b∈fp,H' b=none)/\W i n σ' H') ?_ m0 ⟨0,σ,H2,I2,st2,fun b hb=>(f2 b hb).1,w0⟩
 rintro n s3 ⟨i,σ3,H3,I3,st3,fr3,w3⟩
 rcases turn i n σ3 H3 w3 with ⟨stop,qn⟩ | ⟨go,N,hN,step⟩
 ·refine wpAny_passesOwn hp (thn (T.done X rfl rfl rfl hc i pins s3 σ3 H3 X.xe I3 (stat fr3) st3 stop) fun r s4 ⟨hr,I4⟩=>?_)
  subst hr
  exact wpAny_execs_nil ⟨σ3,H3,I4,qn⟩
 ·refine wpAny_passesOwn hp (thn (T.item X rfl rfl rfl hc i pins s3 σ3 H3 X.xe I3 (stat fr3) st3 go) fun r s4 ⟨u,hr,h4⟩=>?_)
  subst hr
  refine wpAny_passesOwn hp (thn h4 fun _ s5 ⟨x,H5,I5,r5,y5,st5,fr5⟩=>?_)
  have I5':=I5.pinned (stat fr5) (T.obj _ _ st5)
  refine wpAny_passesOwn hp (thn (hg _ s5 σ3 H5 x u _ I5' r5 (step x H5 y5)) fun _ s6 ⟨σ6,H6,I6,q6⟩=>?_)
  refine wpAny_passesOwn hp (thn (hb _ s6 σ6 H6 _ I6 q6) fun f s7 q7=>?_)
  have again:∀ {σ7:St} {H7:Hp},Inv X (pins++ku fp s5.heap) σ7 H7 s7->N σ7 H7->∃ m,m < n/\∃ i σ' H',Inv X pins σ' H' s7/\tn i s7.heap/\(∀ b∈fp,H' b=none)/\W i m σ' H':=fun {σ7 H7} I7 n7=>by
   obtain ⟨m',hm,w7⟩:=hN σ7 H7 n7
   refine ⟨m',hm,i + 1,σ7,H7,I7.unpinned,T.keep _ _ _ st5 fun b hb o e=>(I7.pin (b,o) (List.mem_append_right _ (List.mem_append_right _ (fY hb e)))).1,fun b hb=>?_,w7⟩
   obtain ⟨o,e,d⟩:=T.obj _ _ st5 b hb
   exact (I7.pin (b,o) (List.mem_append_right _ (List.mem_append_right _ (fY hb e)))).2.1
  cases f with
  | next=>obtain ⟨σ7,H7,I7,n7⟩:=q7; exact again I7 n7
  | cont=>obtain ⟨σ7,H7,I7,n7⟩:=q7; exact again I7 n7
  | brk=>obtain ⟨σ7,H7,I7,q7⟩:=q7; exact ⟨σ7,H7,I7.unpinned,q7⟩
  | ret v=>obtain ⟨x7,σ7,H7,I7,r7,q7⟩:=q7; exact ⟨x7,σ7,H7,I7.unpinned,r7,q7⟩
end
theorem ol {K:PySem.W.Frag} {a:Addr} {xs:List V} {g:TG} {tb:TS} {D:iH} {σ:St} {H:Hp} (Pv:Nat->St->Hp->Prop) (h0:Pv 0 σ H) (hl:∀ i σ H,i<=xs.length->Pv i σ H->SqL K H a xs)
  (hs:∀ i x σ H,xs[i]?=some x->Pv i σ H->g x σ H fun σ2 H2=>tb { D with nx:=Pv (i + 1),ct:=Pv (i + 1),bk:=D.nx } σ2 H2) (hd:∀ σ H,Pv xs.length σ H->D.nx σ H):
  ∃ W:Nat->Nat->St->Hp->Prop,(∃ m,W 0 m σ H)/\∀ i m σ H,W i m σ H->
   ((Itl K a).stop i H/\D.nx σ H)\/((Itl K a).go i H/\∃ N:St->Hp->Prop,(∀ σ' H',N σ' H'->∃ m',m' < m/\W (i + 1) m' σ' H')/\∀ x H',(Itl K a).yld i H x H'->g x σ H' fun σ2 H2=>tb { D with nx:=N,ct:=N,bk:=D.nx } σ2 H2):=by
 refine ⟨fun i m σ H=>m=xs.length - i/\i<=xs.length/\Pv i σ H,⟨xs.length,by simp,Nat.zero_le _,h0⟩,?_⟩
 rintro i m σ H ⟨rfl,hi,p⟩
 have q:=hl i σ H hi p
 by_cases hlt:i < xs.length
 ·refine .inr ⟨⟨xs,xs[i],q,by simp [hlt]⟩,Pv (i + 1),fun σ' H' p'=>⟨xs.length - (i + 1),by omega,rfl,hlt,p'⟩,fun x H' y=>?_⟩
  obtain ⟨e,y⟩:=y
  subst e
  exact hs i x σ _ (y xs q) p
 ·have e:i=xs.length:=by omega
  subst e
  exact .inl ⟨⟨xs,q,Nat.le_refl _⟩,hd σ H p⟩
theorem Bk {K:PySem.W.Frag} {a:Addr} {xs:List V} {g:TG} {tb:TS} {D:iH} {σ:St} {H:Hp} (Pv:Nat->St->Hp->Prop) (h0:Pv 0 σ H) (hl:∀ i σ H,i<=xs.length->Pv i σ H->SqT K H a xs)
  (hs:∀ i x σ H,xs[i]?=some x->Pv i σ H->g x σ H fun σ2 H2=>tb { D with nx:=Pv (i + 1),ct:=Pv (i + 1),bk:=D.nx } σ2 H2) (hd:∀ σ H,Pv xs.length σ H->D.nx σ H):
  ∃ W:Nat->Nat->St->Hp->Prop,(∃ m,W 0 m σ H)/\∀ i m σ H,W i m σ H->
   ((Itt K a).stop i H/\D.nx σ H)\/((Itt K a).go i H/\∃ N:St->Hp->Prop,(∀ σ' H',N σ' H'->∃ m',m' < m/\W (i + 1) m' σ' H')/\∀ x H',(Itt K a).yld i H x H'->g x σ H' fun σ2 H2=>tb { D with nx:=N,ct:=N,bk:=D.nx } σ2 H2):=by
 refine ⟨fun i m σ H=>m=xs.length - i/\i<=xs.length/\Pv i σ H,⟨xs.length,by simp,Nat.zero_le _,h0⟩,?_⟩
 rintro i m σ H ⟨rfl,hi,p⟩
 have q:=hl i σ H hi p
 by_cases hlt:i < xs.length
 ·refine .inr ⟨⟨xs,xs[i],q,by simp [hlt]⟩,Pv (i + 1),fun σ' H' p'=>⟨xs.length - (i + 1),by omega,rfl,hlt,p'⟩,fun x H' y=>?_⟩
  obtain ⟨e,y⟩:=y
  subst e
  exact hs i x σ _ (y xs q) p
 ·have e:i=xs.length:=by omega
  subst e
  exact .inl ⟨⟨xs,q,Nat.le_refl _⟩,hd σ H p⟩
theorem md {lo:Int} {n:Nat} {g:TG} {tb:TS} {D:iH} {σ:St} {H:Hp} (Pv:Nat->St->Hp->Prop) (h0:Pv 0 σ H)
  (hs:∀ i σ H,i < n->Pv i σ H->g (.int (lo + i)) σ H fun σ2 H2=>tb { D with nx:=Pv (i + 1),ct:=Pv (i + 1),bk:=D.nx } σ2 H2) (hd:∀ σ H,Pv n σ H->D.nx σ H):
  ∃ W:Nat->Nat->St->Hp->Prop,(∃ m,W 0 m σ H)/\∀ i m σ H,W i m σ H->
   ((Itr lo n).stop i H/\D.nx σ H)\/((Itr lo n).go i H/\∃ N:St->Hp->Prop,(∀ σ' H',N σ' H'->∃ m',m' < m/\W (i + 1) m' σ' H')/\∀ x H',(Itr lo n).yld i H x H'->g x σ H' fun σ2 H2=>tb { D with nx:=N,ct:=N,bk:=D.nx } σ2 H2):=by
 refine ⟨fun i m σ H=>m=n - i/\i<=n/\Pv i σ H,⟨n,by simp,Nat.zero_le _,h0⟩,?_⟩
 rintro i m σ H ⟨rfl,hi,p⟩
 by_cases hlt:i < n
 ·refine .inr ⟨hlt,Pv (i + 1),fun σ' H' p'=>⟨n - (i + 1),by omega,rfl,hlt,p'⟩,fun x H' y=>?_⟩
  obtain ⟨e,y⟩:=y
  subst e y
  exact hs i σ _ hlt p
 ·have e:i=n:=by omega
  subst e
  exact .inl ⟨Nat.le_refl _,hd σ H p⟩
end L2
namespace L2
open PySem PySem.Spec PyProof.Rows
noncomputable abbrev R2:=V->V->Hp->VK->Prop
noncomputable def OpR (X:Cx) (f:Value->Value->Sem Value) (r:R2):Prop:=
 ∀ (pins:List (Addr×Obj)) (s:Shared) (σ:St) (H:Hp) (x y:V) (v u:Value) (Q:VK),Inv X pins σ H s->aE x v->aE y u->r x y H Q->
  wpAny (model X.prog X.w) X.A (f v u) (EP X pins σ Q) X.xe s
noncomputable def UnR (X:Cx) (f:Value->Sem Value) (r:V->Hp->VK->Prop):Prop:=
 ∀ (pins:List (Addr×Obj)) (s:Shared) (σ:St) (H:Hp) (x:V) (v:Value) (Q:VK),Inv X pins σ H s->aE x v->r x H Q->
  wpAny (model X.prog X.w) X.A (f v) (EP X pins σ Q) X.xe s
noncomputable def dF (X:Cx) (f:Value) (r:List V->Hp->VK->Prop):Prop:=
 ∀ (pins:List (Addr×Obj)) (s:Shared) (σ:St) (H:Hp) (xs:List V) (us:List Value) (Q:VK),Inv X pins σ H s->aD xs us->r xs H Q->
  wpAny (model X.prog X.w) X.A (call f us) (EP X pins σ Q) X.xe s
noncomputable def tOp (r:R2) (ta tb:TE):TE:=fun σ H Q=>ta σ H fun x H1=>tb σ H1 fun y H2=>r x y H2 Q
noncomputable def tUn (r:V->Hp->VK->Prop) (ta:TE):TE:=fun σ H Q=>ta σ H fun x H1=>r x H1 Q
noncomputable def rI (C:Int->Int->Prop) (g:Int->Int->V):R2:=fun x y H Q=>∃ i j,x=.int i/\y=.int j/\C i j/\Q (g i j) H
noncomputable def rI0 (g:Int->Int->V):R2:=fun x y H Q=>∃ i j,x=.int i/\y=.int j/\Q (g i j) H
noncomputable def rU (g:Int->V):V->Hp->VK->Prop:=fun x H Q=>∃ i,x=.int i/\Q (g i) H
section
variable {X:Cx} {a b c:Expr} {ta tb tc:TE} {pos:Pos}
theorem zH (ha:PE X a ta) (hb:PE X b tb) {pins:List (Addr×Obj)} {s:Shared} {σ:St} {H:Hp} {R:V->V->Hp->Prop} (I:Inv X pins σ H s)
  (h:ta σ H fun x H1=>tb σ H1 fun y H2=>R x y H2) {Q:Value->Shared->Prop} {f:Value->Value->Sem Value}
  (hf:∀ v u s2 x y H2,Inv X pins σ H2 s2->aE x v->aE y u->R x y H2->wpAny (model X.prog X.w) X.A (f v u) Q X.xe s2):
  wpAny (model X.prog X.w) X.A (eval a X.env) (fun v s₁=>wpAny (model X.prog X.w) X.A (eval b X.env) (fun u s₂=>wpAny (model X.prog X.w) X.A (f v u) Q X.xe s₂) X.xe s₁) X.xe s:=by
 refine thn (ha pins s σ H _ I h) fun v s1 ⟨x,H1,I1,r1,q1⟩=>?_
 refine thn (hb pins s1 σ H1 _ I1 q1) fun u s2 ⟨y,H2,I2,r2,q2⟩=>?_
 exact hf v u s2 x y H2 I2 r1 r2 q2
theorem au {op:Operator} {r:R2} (ho:OpR X (binaryOp op) r) (ha:PE X a ta) (hb:PE X b tb):PE X (.BinOp a op b pos) (tOp r ta tb):=by
 intro pins s σ H Q I h
 exact wpAny_BinOp (zH ha hb I h fun v u s2 x y H2 I2 rx ry q=>ho pins s2 σ H2 x y v u Q I2 rx ry q)
theorem opI {f:Value->Value->Sem Value} {C:Int->Int->Prop} {g:Int->Int->Int}
  (rule:∀ (i j:Int) (t u:Tok) (s:Shared) (Q:Value->Shared->Prop) (E:Value->Shared->Prop),C i j->Q (.int (g i j) s.toks) { s with toks:=s.toks + 1 }->wpAny (model X.prog X.w) X.A (f (.int i t) (.int j u)) Q E s):
  OpR X f (rI C fun i j=>.int (g i j)):=by
 intro pins s σ H x y v u Q I rx ry h
 obtain ⟨i,j,rfl,rfl,hc,q⟩:=h
 obtain ⟨t,rfl⟩:=rx
 obtain ⟨t',rfl⟩:=ry
 exact rule i j t t' s _ _ hc ⟨.int (g i j),H,I.tok _,⟨_,rfl⟩,q⟩
theorem wQ {f:Value->Value->Sem Value} {g:Int->Int->Int}
  (rule:∀ (i j:Int) (t u:Tok) (s:Shared) (Q:Value->Shared->Prop) (E:Value->Shared->Prop),Q (.int (g i j) s.toks) { s with toks:=s.toks + 1 }->wpAny (model X.prog X.w) X.A (f (.int i t) (.int j u)) Q E s):
  OpR X f (rI0 fun i j=>.int (g i j)):=by
 intro pins s σ H x y v u Q I rx ry h
 obtain ⟨i,j,rfl,rfl,q⟩:=h
 obtain ⟨t,rfl⟩:=rx
 obtain ⟨t',rfl⟩:=ry
 exact rule i j t t' s _ _ ⟨.int (g i j),H,I.tok _,⟨_,rfl⟩,q⟩
theorem wR {f:Value->Value->Sem Value} {g:Int->Int->Bool}
  (rule:∀ (i j:Int) (t u:Tok) (s:Shared) (Q:Value->Shared->Prop) (E:Value->Shared->Prop),Q (.bool (g i j)) s->wpAny (model X.prog X.w) X.A (f (.int i t) (.int j u)) Q E s):
  OpR X f (rI0 fun i j=>.bl (g i j)):=by
 intro pins s σ H x y v u Q I rx ry h
 obtain ⟨i,j,rfl,rfl,q⟩:=h
 obtain ⟨t,rfl⟩:=rx
 obtain ⟨t',rfl⟩:=ry
 exact rule i j t t' s _ _ ⟨.bl (g i j),H,I,rfl,q⟩
noncomputable def me (i j:Int):Prop:=0 < j/\j < 1073741824
noncomputable def zI (i j:Int):Prop:=0<=j/\j<=1000000/\i.natAbs < 2 ^ 64
noncomputable def Ct (i j:Int):Prop:=(-(2 ^ 64) < i/\i < 2 ^ 64)\/(-(2 ^ 64) < j/\j < 2 ^ 64)
theorem Ct.ok {i j:Int} (h:Ct i j):IntMulOk i j:=by
 rcases h with ⟨h1,h2⟩ | ⟨h1,h2⟩
 ·exact .of_left (intBits_le_64 h1 h2)
 ·exact .of_right (intBits_le_64 h1 h2)
theorem wS (k:Nat):(0:Int)<=2 ^ k:=by
 rw [two_pow_cast]
 exact Int.natCast_nonneg _
theorem cO:OpR X (binaryOp .Add) (rI0 fun i j=>.int (i + j)):=wQ fun _ _ _ _ _ _ _ q=>add_int q
theorem i9:OpR X (binaryOp .Sub) (rI0 fun i j=>.int (i - j)):=wQ fun _ _ _ _ _ _ _ q=>sub_int q
theorem kA:OpR X (binaryOp .FloorDiv) (rI me fun i j=>.int (i / j)):=opI fun i j _ _ _ _ _ hc q=>by
 have h1:(0:Int) < j:=hc.1
 have h2:j < 1073741824:=hc.2
 exact floordiv_int (by omega) (by rw [Int.fdiv_eq_ediv_of_nonneg i (by omega)]; exact q) (.inl (PyProof.noPylong_small (by omega)))
theorem db:OpR X (binaryOp .Mod) (rI (fun _ j=>0 < j) fun i j=>.int (i % j)):=opI fun i j _ _ _ _ _ hc q=>by
 have h1:(0:Int) < j:=hc
 exact mod_int' (by omega) (by rw [Int.fmod_eq_emod_of_nonneg i (by omega)]; exact q)
theorem yi:OpR X (binaryOp .LShift) (rI zI fun i j=>.int (i * 2 ^ j.toNat)):=opI fun _ _ _ _ _ _ _ hc q=>lshift_int_small hc.1 hc.2.1 hc.2.2 q
theorem Cu:OpR X (binaryOp .RShift) (rI (fun _ j=>0<=j) fun i j=>.int (i / 2 ^ j.toNat)):=opI fun i j _ _ _ _ _ hc q=>
 rshift_int hc (by rw [Int.fdiv_eq_ediv_of_nonneg i (wS _)]; exact q)
theorem Cv:OpR X (binaryOp .BitAnd) (rI0 fun i j=>.int (Builtin.bitAnd i j)):=wQ fun _ _ _ _ _ _ _ q=>and_int q
theorem AX:OpR X (binaryOp .BitOr) (rI0 fun i j=>.int (Builtin.bitOr i j)):=wQ fun _ _ _ _ _ _ _ q=>or_int q
end
noncomputable def Cw:V->V->Bool
 | .non,.non=>true | .non,.int _=>true | .int _,.non=>true | .non,.bl _=>true | .bl _,.non=>true | .non,.str _=>true | .str _,.non=>true
 | .int _,.int _=>true | .bl _,.bl _=>true | .str _,.str _=>true | .byt _,.byt _=>true
 | .int _,.str _=>true | .str _,.int _=>true | .bl _,.str _=>true | .str _,.bl _=>true
 | _,_=>false
noncomputable def rEq:R2:=fun x y H Q=>Cw x y=true/\Q (.bl (decide (x=y))) H
noncomputable def rNe:R2:=fun x y H Q=>Cw x y=true/\Q (.bl (!decide (x=y))) H
theorem wj {i j:Int}:decide (V.int i=V.int j)=(i == j):=by
 rw [Bool.eq_iff_iff]
 simp
theorem yj {i j:Bool}:decide (V.bl i=V.bl j)=(i == j):=by
 rw [Bool.eq_iff_iff]
 simp
theorem wk {i j:Str}:decide (V.str i=V.str j)=(i == j):=by
 rw [Bool.eq_iff_iff]
 simp
theorem wl {i j:Array UInt8}:decide (V.byt i=V.byt j)=(i.toList == j.toList):=by
 rw [Bool.eq_iff_iff]
 cases i
 cases j
 simp
section
variable {X:Cx} {a b c:Expr} {ta tb tc:TE} {pos:Pos}
theorem br {pins:List (Addr×Obj)} {σ:St} {H:Hp} {s:Shared} {Q:VK} {k k':Bool} (I:Inv X pins σ H s) (q:Q (.bl k) H) (e:k=k'):EP X pins σ Q (.bool k') s:=by
 subst e
 exact ⟨.bl k,H,I,rfl,q⟩
theorem dn:OpR X (compareOp .Eq) rEq:=by
 intro pins s σ H x y v u Q I rx ry h
 obtain ⟨hs,q⟩:=h
 cases x with
 | non=>
  cases rx
  cases y with
  | non=>cases ry; exact PySem.EqNone.eq_none_none (br I q (by simp))
  | bl j=>cases ry; exact PySem.EqNone.eq_none_bool (br I q (by simp))
  | int j=>obtain ⟨t',rfl⟩:=ry; exact PySem.EqNone.eq_none_int (br I q (by simp))
  | str j=>obtain ⟨t',rfl⟩:=ry; exact PySem.EqNone.eq_none_str (br I q (by simp))
  | _=>exact absurd (show false=true from hs) Bool.false_ne_true
 | bl i=>
  cases rx
  cases y with
  | non=>cases ry; exact PySem.EqNone.eq_bool_none (br I q (by simp))
  | bl j=>cases ry; exact eq_bool (br I q yj)
  | str j=>obtain ⟨t',rfl⟩:=ry; exact PySem.EqMixed.eq_bool_str (br I q (by simp))
  | _=>exact absurd (show false=true from hs) Bool.false_ne_true
 | int i=>
  obtain ⟨t,rfl⟩:=rx
  cases y with
  | non=>cases ry; exact PySem.EqNone.eq_int_none (br I q (by simp))
  | int j=>obtain ⟨t',rfl⟩:=ry; exact eq_int (br I q wj)
  | str j=>obtain ⟨t',rfl⟩:=ry; exact PySem.EqMixed.eq_int_str (br I q (by simp))
  | _=>exact absurd (show false=true from hs) Bool.false_ne_true
 | str i=>
  obtain ⟨t,rfl⟩:=rx
  cases y with
  | non=>cases ry; exact PySem.EqNone.eq_str_none (br I q (by simp))
  | bl j=>cases ry; exact PySem.EqMixed.eq_str_bool (br I q (by simp))
  | int j=>obtain ⟨t',rfl⟩:=ry; exact PySem.EqMixed.eq_str_int (br I q (by simp))
  | str j=>obtain ⟨t',rfl⟩:=ry; exact eq_str (br I q wk)
  | _=>exact absurd (show false=true from hs) Bool.false_ne_true
 | byt i=>
  obtain ⟨t,rfl⟩:=rx
  cases y with
  | byt j=>obtain ⟨t',rfl⟩:=ry; exact PySem.W.eq_bytes (br I q wl)
  | _=>exact absurd (show false=true from hs) Bool.false_ne_true
 | _=>cases y <;> exact absurd (show false=true from hs) Bool.false_ne_true
theorem DJ:OpR X (compareOp .NotEq) rNe:=by
 intro pins s σ H x y v u Q I rx ry h
 obtain ⟨hs,q⟩:=h
 cases x with
 | non=>
  cases rx
  cases y with
  | non=>cases ry; exact PySem.EqNone.ne_none_none (br I q (by simp))
  | bl j=>cases ry; exact PySem.EqNone.ne_none_bool (br I q (by simp))
  | int j=>obtain ⟨t',rfl⟩:=ry; exact PySem.EqNone.ne_none_int (br I q (by simp))
  | str j=>obtain ⟨t',rfl⟩:=ry; exact PySem.EqNone.ne_none_str (br I q (by simp))
  | _=>exact absurd (show false=true from hs) Bool.false_ne_true
 | bl i=>
  cases rx
  cases y with
  | non=>cases ry; exact PySem.EqNone.ne_bool_none (br I q (by simp))
  | bl j=>cases ry; exact ne_bool (br I q (congrArg not yj))
  | str j=>obtain ⟨t',rfl⟩:=ry; exact PySem.EqMixed.ne_bool_str (br I q (by simp))
  | _=>exact absurd (show false=true from hs) Bool.false_ne_true
 | int i=>
  obtain ⟨t,rfl⟩:=rx
  cases y with
  | non=>cases ry; exact PySem.EqNone.ne_int_none (br I q (by simp))
  | int j=>obtain ⟨t',rfl⟩:=ry; exact ne_int (br I q (congrArg not wj))
  | str j=>obtain ⟨t',rfl⟩:=ry; exact PySem.EqMixed.ne_int_str (br I q (by simp))
  | _=>exact absurd (show false=true from hs) Bool.false_ne_true
 | str i=>
  obtain ⟨t,rfl⟩:=rx
  cases y with
  | non=>cases ry; exact PySem.EqNone.ne_str_none (br I q (by simp))
  | bl j=>cases ry; exact PySem.EqMixed.ne_str_bool (br I q (by simp))
  | int j=>obtain ⟨t',rfl⟩:=ry; exact PySem.EqMixed.ne_str_int (br I q (by simp))
  | str j=>obtain ⟨t',rfl⟩:=ry; exact ne_str (br I q (congrArg not wk))
  | _=>exact absurd (show false=true from hs) Bool.false_ne_true
 | byt i=>
  obtain ⟨t,rfl⟩:=rx
  cases y with
  | byt j=>obtain ⟨t',rfl⟩:=ry; exact PySem.W.ne_bytes (br I q (congrArg not wl))
  | _=>exact absurd (show false=true from hs) Bool.false_ne_true
 | _=>cases y <;> exact absurd (show false=true from hs) Bool.false_ne_true
theorem AY:OpR X (compareOp .Lt) (rI0 fun i j=>.bl (decide (i < j))):=wR fun _ _ _ _ _ _ _ q=>lt_int q
theorem oO:OpR X (compareOp .LtE) (rI0 fun i j=>.bl (decide (i<=j))):=wR fun _ _ _ _ _ _ _ q=>le_int q
theorem sx:OpR X (compareOp .Gt) (rI0 fun i j=>.bl (decide (j < i))):=wR fun _ _ _ _ _ _ _ q=>gt_int q
theorem wT:OpR X (compareOp .GtE) (rI0 fun i j=>.bl (decide (j<=i))):=wR fun _ _ _ _ _ _ _ q=>ge_int q
theorem OpR.or {f:Value->Value->Sem Value} {r r':R2} (h:OpR X f r) (h':OpR X f r'):OpR X f (fun x y H Q=>r x y H Q\/r' x y H Q):=by
 intro pins s σ H x y v u Q I rx ry q
 rcases q with q | q
 ·exact h pins s σ H x y v u Q I rx ry q
 ·exact h' pins s σ H x y v u Q I rx ry q
theorem aM (b:Expr) {op:CmpOp} (h:op≠.In:=by decide) (h2:op≠.NotIn:=by decide):behindInMarks op b=false:=by
 have e1:(op == CmpOp.In)=false:=by cases op <;> first | rfl | exact absurd rfl h
 have e2:(op == CmpOp.NotIn)=false:=by cases op <;> first | rfl | exact absurd rfl h2
 cases b <;> simp [behindInMarks,e1,e2]
theorem gM {op:CmpOp} {r:R2} (ho:OpR X (compareOp op) r) (ha:PE X a ta) (hb:PE X b tb) (hm:behindInMarks op b=false):PE X (.Compare a [op] [b] pos) (tOp r ta tb):=by
 intro pins s σ H Q I h
 exact wpAny_Compare1 (zH ha hb I h fun v u s2 x y H2 I2 rx ry q=>ho pins s2 σ H2 x y v u Q I2 rx ry q) hm
noncomputable def aY (t:TE):TT:=fun σ H Q=>t σ H fun x H'=>∃ k,x=.bl k/\Q k H'
theorem aK {op:CmpOp} {r:R2} (ho:OpR X (compareOp op) r) (ha:PE X a ta) (hb:PE X b tb) (hm:behindInMarks op b=false):PT X (.Compare a [op] [b] pos) (aY (tOp r ta tb)):=by
 intro pins s σ H Q I h
 refine wpAny_isTrue_Compare1 (thn (ha pins s σ H _ I h) fun v s1 ⟨x,H1,I1,r1,q1⟩=>thn (hb pins s1 σ H1 _ I1 q1) fun u s2 ⟨y,H2,I2,r2,q2⟩=>
  thn (ho pins s2 σ H2 x y v u _ I2 r1 r2 q2) fun c s3 ⟨z,H3,I3,r3,k,e,q3⟩=>?_) hm
 subst e
 cases r3
 exact wpAny_truthy_bool ⟨H3,I3,q3⟩
noncomputable def tu (r r':R2) (ta tb tc:TE):TE:=fun σ H Q=>ta σ H fun x H1=>tb σ H1 fun y H2=>r x y H2 fun z H3=>∃ k,z=.bl k/\
 (if k=true then tc σ H3 fun w' H4=>r' y w' H4 Q else Q (.bl false) H3)
theorem zJ {op op':CmpOp} {r r':R2} (ho:OpR X (compareOp op) r) (ho':OpR X (compareOp op') r') (ha:PE X a ta) (hb:PE X b tb) (hc:PE X c tc)
  (hm:lastMarks [op,op'] [b,c]=false:=by with_unfolding_all rfl):PE X (.Compare a [op,op'] [b,c] pos) (tu r r' ta tb tc):=by
 intro pins s σ H Q I h
 refine Compare_chain (thn (ha pins s σ H _ I h) fun v s1 ⟨x,H1,I1,r1,q1⟩=>chain_link (thn (hb pins s1 σ H1 _ I1 q1) fun u s2 ⟨y,H2,I2,r2,q2⟩=>
  thn (ho pins s2 σ H2 x y v u _ I2 r1 r2 q2) fun d s3 ⟨z,H3,I3,r3,k,e,q3⟩=>?_)) hm
 subst e
 cases r3
 refine wpAny_truthy_bool ?_
 cases k with
 | false=>exact ite_ff ⟨.bl false,H3,I3,rfl,q3⟩
 | true=>exact ite_tt (chain_last (thn (hc pins s3 σ H3 _ I3 q3) fun w' s4 ⟨z',H4,I4,r4,q4⟩=>ho' pins s4 σ H4 y z' u w' Q I4 r2 r4 q4))
theorem oP:(sizeLine:Nat) < 2 ^ 63:=by rw [sizeLine_eq]; decide
theorem wU {x:V} {us:List Value} (r:aD [x] us):∃ u,us=[u]/\aE x u:=by
 cases r with
 | cons r1 r2=>cases r2; exact ⟨_,rfl,r1⟩
end
end L2
namespace L2
open PySem PySem.Spec PyProof.Rows
structure om (h:Heap) (x dx C:Addr) (mA:Str->Option Value):Prop where
 obj:h.get? x=some (PySem.W.instObj C dx)
 ns:h.Ns1 dx mA
 ne:dx≠x
theorem yk {h:Heap} {dx:Addr} {mA:Str->Option Value} (n:h.Ns1 dx mA):∃ od,h.get? dx=some od/\∀ name,PySem.W.lookIn name od=some (mA name):=by
 obtain ⟨o,es,ep,ho,hd,hk,_,hm⟩:=n
 refine ⟨o,ho,fun name=>?_⟩
 have e:=hm name
 unfold nsFind findBy at e
 rw [<-Array.find?_toList] at e
 unfold PySem.W.lookIn
 rw [hd]
 dsimp only
 split
 ·rename_i y q
  rw [q] at e
  exact congrArg some e
 ·rename_i q
  rw [q] at e
  have a:es.toList.any (·.refKey)=false:=by
   rw [List.any_eq_false]
   intro y hy
   obtain ⟨z,t,hkey⟩:=hk y (Array.mem_toList_iff.mp hy)
   simp [DictEntry.refKey,hkey]
  have a':¬ es.toList.any (·.refKey)=true:=by rw [a]; exact Bool.false_ne_true
  rw [if_neg a']
  exact congrArg some e
theorem om.look {h:Heap} {x dx C:Addr} {mA:Str->Option Value} (I:om h x dx C mA):∃ od,PySem.W.InstAt h x (PySem.W.instObj C dx) C (some od)/\∀ name,PySem.W.lookIn name od=some (mA name):=
 let ⟨od,ho,hl⟩:=yk I.ns
 ⟨od,⟨I.obj,rfl,rfl,ho⟩,hl⟩
section
variable {prog:Program} {w:World} {A:Around} {E:Value->Shared->Prop} {s:Shared} {K:PySem.W.Frag} {x dx C f:Addr} {mA:Str->Option Value} {name:Str} {v:Value}
theorem Bl {expr:Bool} {Q:Value->Shared->Prop} (X:K.In s.heap) (I:om s.heap x dx C mA) (hg:PySem.W.plainGet K C name=true) (hh:PySem.W.hasDictIn K C=true)
  (ha:PySem.W.findIn K (.ref C) name=some none) (hv:mA name=some v) (hv':PySem.W.handedIn v=true) (h:Q v { s with toks:=s.toks + 1 }):
  wpAny (model prog w) A (getAttr (.ref x) name expr) Q E s:=by
 obtain ⟨od,J,hl⟩:=I.look
 exact PySem.W.get_value X J (PySem.W.plainGet_of hg).1 (PySem.W.findObj_own hh ha rfl (by rw [hl,hv])) hv' h
theorem zK {pl:Sem Bool} {Q:Value×List Value->Shared->Prop} (X:K.In s.heap) (I:om s.heap x dx C mA) (hg:PySem.W.plainGet K C name=true)
  (hf:PySem.W.findIn K (.ref C) name=some (some (.ref f))) (ht:PySem.W.isFn K (.ref f)=true) (hv:mA name=none) (h:Q (.ref f,[.ref x]) s):
  wpAny (model prog w) A (getMethod (.ref x) name pl) Q E s:=by
 obtain ⟨od,J,hl⟩:=I.look
 exact PySem.W.method_fn X J (PySem.W.plainGet_of hg).1 (PySem.W.plainGet_of hg).2 hf (beq_iff_eq.mp ht) (by show (PySem.W.lookIn name od).map (·.isSome)=some false; rw [hl,hv]; rfl) h
theorem Bm {ns:List Str} {Q:Unit->Shared->Prop} (X:K.In s.heap) (I:om s.heap x dx C mA)
  (hs:PySem.W.findIn K (.ref C) "__setattr__"=some (some (.builtin "object.__setattr__"))) (hp:PySem.W.plainOver K C=true) (ht:PySem.W.takerIn K C name=some none) (hh:PySem.W.hasDictIn K C=true)
  (hw:PySem.Within mA ns) (hsz:ns.length<=sizeLine)
  (h:∀ h',om h' x dx C (fun y=>if y=name then some v else mA y)->Heap.SameBut dx s.heap h'->Q () { s with heap:=h',toks:=s.toks + 2 }):
  wpAny (model prog w) A (setAttr (.ref x) name v) Q E s:=by
 obtain ⟨od,J,hl⟩:=I.look
 refine PySem.W.set_plain X J hs (PySem.W.osa_open (s:={ s with toks:=s.toks + 1 }) (r:=none) X J hp ht fun b=>?_)
 obtain ⟨cd,hc,hd'⟩:=PySem.W.any_some hh
 have hx:s.heap.get? x=some ⟨.ref C,some dx,.plain,#[]⟩:=I.obj
 refine wpAny_bind (wpAny_pure (wpAny_bind (wpAny_bind (wpAny_loadPart hx (wpAny_bind (PySem.W.Looks.here (s:={ s with toks:=s.toks + 1 }) (PySem.W.looks_clsIn X hc) ?_))))))
 rw [hd']
 refine wpAny_pure (a:=some dx) (wpAny_bind (wpAny_pure (wpAny_bind ?_)))
 refine wpAny_nsSet1 (s:={ s with toks:=s.toks + 1 }) I.ns fun h' hn2 hs2=>?_
 obtain ⟨oD,esD,epD,hoD,hdD,hcD⟩:=hn2.count (PySem.Within.cons name v hw)
 refine wpAny_bind (wpAny_lookBehind hoD (by rw [hdD]; exact pastItsLine_dict (Nat.le_trans hcD (by rw [List.length_cons]; omega))) ?_)
 exact wpAny_pure (h _ ⟨(hs2.2 _ (Ne.symm I.ne)).trans I.obj,hn2,I.ne⟩ hs2)
theorem zL {R:Result->Shared->Prop} {vs:List Value} {kw:List (Str×Value)} (X:K.In s.heap) (hm:PySem.W.makesIn K C=true)
  (hi:PySem.W.findIn K (.ref C) "__init__"=some (some (.ref f))) (hf:PySem.W.typeIn K (.ref f)=some (.type "function"))
  (h:codeAny (model prog w) (A.under (.builtin "type.__call__" ⟨.ref C :: vs,kw⟩)) (.call (.ref f) ⟨.ref (s.heap.objs.size + 1) :: vs,kw⟩) (PySem.W.InitBack (s.heap.objs.size + 1) R)
   { s with heap:=(s.heap.push PySem.W.emptyDict).push (PySem.W.instObj C s.heap.objs.size) }):
  codeAny (model prog w) A (.call (.ref C) ⟨vs,kw⟩) R s:=by
 obtain ⟨hh,g,d,t,os⟩:=s
 exact PySem.W.make_core (PySem.W.makes_of X hm) (PySem.W.looks_findIn X hi) (fun self=>PySem.W.bind_fn X self hf) (.inl rfl) h
end
noncomputable def fQ (f:Str) (v:V):List (Str×V)->List (Str×V)
 | []=>[(f,v)]
 | (g,x) :: r=>if g=f then (g,v) :: r else (g,x) :: fQ f v r
theorem nJ (f g:Str) (v:V):∀ fs:List (Str×V),(fQ f v fs).lookup g=if g=f then some v else fs.lookup g
 | []=>by
  show List.lookup g [(f,v)]=_
  by_cases h:g=f
  ·have hb:(g == f)=true:=beq_iff_eq.mpr h
   simp only [List.lookup,hb,if_pos h]
  ·have hb:(g == f)=false:=beq_eq_false_iff_ne.mpr h
   simp only [List.lookup,hb,if_neg h]
 | (k,x) :: r=>by
  have ih:=nJ f g v r
  rw [show fQ f v ((k,x) :: r)=(if k=f then (k,v) :: r else (k,x) :: fQ f v r) from rfl]
  by_cases hk:k=f
  ·rw [if_pos hk]
   by_cases h:g=k
   ·have hb:(g == k)=true:=beq_iff_eq.mpr h
    simp only [List.lookup,hb,if_pos (h.trans hk)]
   ·have hb:(g == k)=false:=beq_eq_false_iff_ne.mpr h
    simp only [List.lookup,hb,if_neg (fun e:g=f=>h (e.trans hk.symm))]
  ·rw [if_neg hk]
   by_cases h:g=k
   ·have hb:(g == k)=true:=beq_iff_eq.mpr h
    simp only [List.lookup,hb,if_neg (fun e:g=f=>hk (h.symm.trans e))]
   ·have hb:(g == k)=false:=beq_eq_false_iff_ne.mpr h
    simp only [List.lookup,hb]
    exact ih
theorem mi (f:Str) (v:V):∀ fs:List (Str×V),f∈(fQ f v fs).map (·.1)/\∀ g,g∈fs.map (·.1)->g∈(fQ f v fs).map (·.1)
 | []=>⟨by simp [fQ],fun g h=>by simp at h⟩
 | (k,x) :: r=>by
  obtain ⟨i1,i2⟩:=mi f v r
  rw [show fQ f v ((k,x) :: r)=(if k=f then (k,v) :: r else (k,x) :: fQ f v r) from rfl]
  by_cases hk:k=f
  ·rw [if_pos hk]
   subst hk
   exact ⟨by simp,fun g h=>by simpa using h⟩
  ·rw [if_neg hk]
   refine ⟨?_,fun g h=>?_⟩
   ·rw [List.map_cons]
    exact List.mem_cons_of_mem _ i1
   ·rw [List.map_cons] at h ⊢
    rcases List.mem_cons.mp h with e | e
    ·exact List.mem_cons.mpr (.inl e)
    ·exact List.mem_cons_of_mem _ (i2 g e)
theorem nK (f:Str) (v:V):∀ fs:List (Str×V),(fQ f v fs).length<=fs.length + 1
 | []=>by simp [fQ]
 | (k,x) :: r=>by
  have ih:=nK f v r
  rw [show fQ f v ((k,x) :: r)=(if k=f then (k,v) :: r else (k,x) :: fQ f v r) from rfl]
  by_cases hk:k=f
  ·rw [if_pos hk,List.length_cons,List.length_cons]; omega
  ·rw [if_neg hk,List.length_cons,List.length_cons]; omega
theorem fq.some_of {v:V} {o:Option Value} (r:fq (some v) o):∃ u,o=some u/\aE v u:=by
 cases o with
 | none=>exact (show False from r).elim
 | some u=>exact ⟨u,rfl,r⟩
theorem fq.none_of {o:Option Value} (r:fq none o):o=none:=by
 cases o with
 | none=>rfl
 | some u=>exact (show False from r).elim
theorem yl {v:V} {u:Value} (r:aE v u):PySem.W.handedIn u=true:=by
 cases v with
 | non=>cases (show u=Value.none from r); rfl
 | bl b=>cases (show u=Value.bool b from r); rfl
 | int i=>obtain ⟨t,e⟩:=(show ∃ t,u=Value.int i t from r); cases e; rfl
 | str x=>obtain ⟨t,e⟩:=(show ∃ t,u=Value.str x t from r); cases e; rfl
 | byt b=>obtain ⟨t,e⟩:=(show ∃ t,u=Value.bytes b t from r); cases e; rfl
 | flt b=>obtain ⟨t,e⟩:=(show ∃ t,u=Value.float b t from r); cases e; rfl
 | ref a=>cases (show u=Value.ref a from r); rfl
 | ty n=>cases (show u=Value.type n from r); rfl
section
variable {P:Program} {w:World} {H H':Hp} {h h':Heap} {a C dx:Addr} {fs fs':List (Str×V)}
theorem m8 (hok:HOk P w H h) (e:H a=some (.ins C dx fs)):∃ mA,om h a dx C mA/\(∀ f,fq (fs.lookup f) (mA f))/\PySem.Within mA (fs.map (·.1))/\fs.length<=1000/\H dx=some (.own a):=by
 obtain ⟨d,z,ne,ob,mA,n,r,q⟩:=(show bR P w H h a (.ins C dx fs) from hok a _ e)
 exact ⟨mA,⟨ob,n,ne⟩,r,q,z,d⟩
end
structure Cls (K:PySem.W.Frag) (C:Addr):Prop where
 pg:PySem.W.plainGet K C Str.empty=true
 hd:PySem.W.hasDictIn K C=true
 po:PySem.W.plainOver K C=true
 sa:PySem.W.findIn K (.ref C) "__setattr__"=some (some (.builtin "object.__setattr__"))
theorem Cls.get {K:PySem.W.Frag} {C:Addr} (c:Cls K C) (f:Str):PySem.W.plainGet K C f=true:=c.pg
noncomputable def eC (K:PySem.W.Frag) (C:Addr) (f:Str):Prop:=PySem.W.findIn K (.ref C) f=some none
theorem eC.taker {K:PySem.W.Frag} {C:Addr} {f:Str} (n:eC K C f):PySem.W.takerIn K C f=some none:=by
 unfold PySem.W.takerIn
 rw [show PySem.W.findIn K (.ref C) f=some none from n]
 rfl
structure Con (K:PySem.W.Frag) (C:Addr) (f:Str) (v:V) (u:Value):Prop where
 at_:PySem.W.findIn K (.ref C) f=some (some u)
 rel:aE v u
 get:PySem.W.specialIn K u "__get__"=some none
 cp:PySem.W.copiedNames.contains f=false
structure tw (K:PySem.W.Frag) (C:Addr) (m:Str) (f:Addr):Prop where
 at_:PySem.W.findIn K (.ref C) m=some (some (.ref f))
 fn:PySem.W.isFn K (.ref f)=true
 kp:PySem.W.keepIn K (.ref f)=true
section
variable {X:Cx} {pins:List (Addr×Obj)} {σ:St} {H:Hp} {s:Shared} {a C dx:Addr} {fs:List (Str×V)} {f:Str} {v:V} {A:Around} {E:Value->Shared->Prop}
theorem wV {b:Bool} {Q:Value->Shared->Prop} (I:Inv X pins σ H s) (e:H a=some (.ins C dx fs)) (c:Cls X.K C) (n:eC X.K C f) (l:fs.lookup f=some v)
  (h:∀ u s',Inv X pins σ H s'->aE v u->Q u s'):wpAny (model X.prog X.w) A (getAttr (.ref a) f b) Q E s:=by
 obtain ⟨mA,O,r,_,_,_⟩:=m8 I.hok e
 obtain ⟨u,hu,ru⟩:=fq.some_of (v:=v) (o:=mA f) (by rw [<-l]; exact r f)
 exact Bl I.kIn O (c.get f) c.hd n hu (yl ru) (h u _ (I.tok _) ru)
theorem oQ {m:Str} {g:Addr} {pl:Sem Bool} {Q:Value×List Value->Shared->Prop} (I:Inv X pins σ H s) (e:H a=some (.ins C dx fs)) (c:Cls X.K C) (k:tw X.K C m g) (l:fs.lookup m=none)
  (h:Q (.ref g,[.ref a]) s):wpAny (model X.prog X.w) A (getMethod (.ref a) m pl) Q E s:=by
 obtain ⟨mA,O,r,_,_,_⟩:=m8 I.hok e
 have hn:mA m=none:=fq.none_of (by rw [<-l]; exact r m)
 exact zK I.kIn O (c.get m) k.at_ k.fn hn h
theorem wW {y:V} {u:Value} {Q:Unit->Shared->Prop} (I:Inv X pins σ H s) (e:H a=some (.ins C dx fs)) (c:Cls X.K C) (n:eC X.K C f) (hl:fs.length < 1000) (ry:aE y u)
  (h:∀ s',Inv X pins σ (upd H a (.ins C dx (fQ f y fs))) s'->Q () s'):wpAny (model X.prog X.w) A (setAttr (.ref a) f u) Q E s:=by
 obtain ⟨mA,O,r,wi,_,ho⟩:=m8 I.hok e
 have hz:(fs.map (·.1)).length<=sizeLine:=by rw [List.length_map,sizeLine_eq]; omega
 refine Bm I.kIn O c.sa c.po n.taker c.hd wi hz fun h' O' sb=>h _ ?_
 have hd:∃ o,h'.get? dx=some o:=let ⟨o,_,_,e',_⟩:=O'.ns; ⟨o,e'⟩
 refine I.write (x:=a) (e:=dx) (by rw [e]; exact True.intro) (.inr ho) (fun b q hb z=>(sb.2 b hb).trans z) hd ?_
 refine ⟨by rw [aB O.ne]; exact ho,?_,O.ne,O'.obj,_,O'.ns,fun g=>?_,fun g hg=>?_⟩
 ·have:=nK f y fs; omega
 ·show fq ((fQ f y fs).lookup g) (if g=f then some u else mA g)
  rw [nJ]
  by_cases q:g=f
  ·rw [if_pos q,if_pos q]; exact ry
  ·rw [if_neg q,if_neg q]; exact r g
 ·by_cases q:g=f
  ·rw [q]; exact (mi f y fs).1
  ·refine (mi f y fs).2 g (wi g fun z=>hg ?_)
   show (if g=f then some u else mA g)=none
   rw [if_neg q]; exact z
theorem Inv.made (I:Inv X pins σ H s):Inv X pins σ (upd (upd H s.heap.objs.size (.own (s.heap.objs.size + 1))) (s.heap.objs.size + 1) (.ins C s.heap.objs.size []))
  { s with heap:=(s.heap.push PySem.W.emptyDict).push (PySem.W.instObj C s.heap.objs.size) }:=by
 have e1:(s.heap.push PySem.W.emptyDict).get? s.heap.objs.size=some PySem.W.emptyDict:=Heap.get?_push_size s.heap rfl
 have e2:((s.heap.push PySem.W.emptyDict).push (PySem.W.instObj C s.heap.objs.size)).get? (s.heap.objs.size + 1)=some (PySem.W.instObj C s.heap.objs.size):=by
  have:=Heap.get?_push_size (s.heap.push PySem.W.emptyDict) (o:=PySem.W.instObj C s.heap.objs.size) rfl
  rwa [Heap.size_push] at this
 have e3:(s.heap.push PySem.W.emptyDict).Ns s.heap.objs.size (fun _=>none):=⟨PySem.W.emptyDict,#[],_,e1,rfl,(fun e he=>absurd he (by simp)),fun _=>rfl⟩
 have I1:=I.laid (a:=s.heap.objs.size) (o:=.own (s.heap.objs.size + 1)) (h':=s.heap.push PySem.W.emptyDict) (t':=s.toks) (fun b u q=>Heap.get?_push_of_some _ q) (Nat.le_refl _) ⟨_,e1⟩
 refine I1.laid (a:=s.heap.objs.size + 1) (o:=.ins C s.heap.objs.size []) (t':=s.toks) (fun b u q=>Heap.get?_push_of_some _ q) (Nat.le_of_eq (Heap.size_push _ _)) ?_
 have ne:s.heap.objs.size≠s.heap.objs.size + 1:=Nat.ne_of_lt (Nat.lt_succ_self _)
 refine ⟨by rw [aB ne,ap],Nat.zero_le _,ne,e2,fun _=>none,(Heap.Ns1.of_empty e3).at fun o q=>Heap.get?_push_of_some _ q,fun _=>True.intro,fun y hy=>absurd rfl hy⟩
theorem Bn {prog:Program} {w:World} {env:Env} {e:Expr} {f:Str} {pos:Pos} {s:Shared} {Q:Value->Shared->Prop} (hb:attributeBase e f env (eval e env)=eval e env)
  (h:wpAny (model prog w) A (eval e env) (fun o s₁=>wpAny (model prog w) A (getAttr o f true) Q E s₁) E s):wpAny (model prog w) A (eval (.Attribute e f pos) env) Q E s:=
 Attribute_any_ h (by rw [arm_eval_Attribute,hb])
end
noncomputable def la (K:PySem.W.Frag) (ta:TE) (f:Str):TE:=fun σ H Q=>ta σ H fun x H1=>∃ a C dx fs v,x=.ref a/\H1 a=some (.ins C dx fs)/\Cls K C/\eC K C f/\fs.lookup f=some v/\Q v H1
noncomputable def lb (K:PySem.W.Frag) (ta tv:TE) (f:Str):TS:=fun D σ H=>tv σ H fun y H1=>ta σ H1 fun x H2=>∃ a C dx fs,x=.ref a/\H2 a=some (.ins C dx fs)/\Cls K C/\eC K C f/\fs.length < 1000/\
 D.nx σ (upd H2 a (.ins C dx (fQ f y fs)))
section
variable {X:Cx} {o e value:Expr} {f:Str} {pos pos' tpos:Pos} {ta tv:TE}
theorem jL (he:PE X e ta) (hb:attributeBase e f X.env (eval e X.env)=eval e X.env):PE X (.Attribute e f pos) (la X.K ta f):=by
 intro pins s σ H Q I h
 refine Bn hb (thn (he pins s σ H _ I h) fun u s1 ⟨x,H1,I1,rx,a,C,dx,fs,v,ex,ea,c,n,l,q⟩=>?_)
 subst ex
 obtain rfl:u=Value.ref a:=rx
 exact wV I1 ea c n l fun u' s2 I2 ru=>⟨v,H1,I2,ru,q⟩
theorem kB (ha:PE X o ta) (hv:PE X value tv) (hs:swapsWith value (some (.Attribute o f pos')) pos.line X.env=pure false):PS X (.Assign [.Attribute o f pos'] value pos) (lb X.K ta tv f):=by
 intro pins s σ H D I h
 refine plainObj_wpAny_Assign_Attribute (thn (hv pins s σ H _ I h) fun u s1 ⟨y,H1,I1,ry,q⟩=>thn (ha pins s1 σ H1 _ I1 q) fun ov s2 ⟨x,H2,I2,rx,a,C,dx,fs,ex,ea,c,n,l,q2⟩=>?_) hs
 subst ex
 obtain rfl:ov=Value.ref a:=rx
 exact wW I2 ea c n l ry fun s3 I3=>⟨σ,_,I3,q2⟩
end
section
variable {X:Cx} {pins:List (Addr×Obj)} {σ:St} {H:Hp} {s:Shared} {A:Around} {E:Value->Shared->Prop} {Q:Value->Shared->Prop} {c:Value} {b:Bool}
inductive fg (K:PySem.W.Frag) (H:Hp):V->Value->Prop where
 | non:fg K H .non (.type "NoneType")
 | bl (x:Bool):fg K H (.bl x) (.type "bool")
 | int (i:Int):fg K H (.int i) (.type "int")
 | str (x:Str):fg K H (.str x) (.type "str")
 | flt (x:UInt64):fg K H (.flt x) (.type "float")
 | lst {a:Addr} {xs:List V} (e:H a=some (.lst xs)):fg K H (.ref a) (.type "list")
 | frz {a:Addr} {o:Obj} {xs:List V} (e:H a=some (.frz o (.lst xs))):fg K H (.ref a) (.type "list")
 | tup {a:Addr} {xs:List V} (e:H a=some (.tup xs)):fg K H (.ref a) (.type "tuple")
 | dK {a:Addr} {kvs:List (Key×V)} (e:H a=some (.dK kvs)):fg K H (.ref a) (.type "dict")
 | dT {a:Addr} {kvs:List (List Key×V)} (e:H a=some (.dT kvs)):fg K H (.ref a) (.type "dict")
 | ins {a C dx:Addr} {fs:List (Str×V)} (e:H a=some (.ins C dx fs)) (cl:Cls K C) (ha:PySem.W.findIn K (.ref C) "__class__"=some (some (.builtin "object.__class__")))
   (hn:PySem.W.specialIn K (.builtin "object.__class__") "__get__"=some (some (.builtin "getset_descriptor.__get__"))) (htk:PySem.W.takesIn K (.builtin "object.__class__")=some true)
   (hm:PySem.W.mroIn K C (.type "object")=some true):fg K H (.ref a) (.ref C)
theorem ym {x:V} {u t:Value} (I:Inv X pins σ H s) (rx:aE x u) (ty:fg X.K H x t) (e:PySem.W.kitOne X.K t c=some b) (h:∀ tk,Q (.bool b) { s with toks:=tk }):
  wpAny (model X.prog X.w) A (call (.builtin "isinstance") [u,c]) Q E s:=by
 cases ty with
 | non=>cases (show u=Value.none from rx); exact PySem.W.kia_one PySem.W.kitx_none I.kIn True.intro e (fun z=>nomatch z) h
 | bl y=>cases (show u=Value.bool y from rx); exact PySem.W.kia_one PySem.W.kitx_bool I.kIn True.intro e (fun z=>nomatch z) h
 | int i=>obtain ⟨t,q⟩:=(show ∃ t,u=Value.int i t from rx); cases q; exact PySem.W.kia_one PySem.W.kitx_int I.kIn True.intro e (fun z=>nomatch z) h
 | str y=>obtain ⟨t,q⟩:=(show ∃ t,u=Value.str y t from rx); cases q; exact PySem.W.kia_one PySem.W.kitx_str I.kIn True.intro e (fun z=>nomatch z) h
 | flt y=>obtain ⟨t,q⟩:=(show ∃ t,u=Value.float y t from rx); cases q; exact PySem.W.kia_one PySem.W.kitx_float I.kIn True.intro e (fun z=>nomatch z) h
 | @lst a xs ea=>
  cases (show u=Value.ref a from rx)
  obtain ⟨_,_,n,_,h1⟩:=(show bR X.prog X.w H s.heap a (.lst xs) from I.hok a _ ea)
  exact PySem.W.kia_one PySem.W.kitx_list I.kIn ⟨_,h1,rfl⟩ e (fun z=>nomatch z) h
 | @frz a ob xs ea=>
  cases (show u=Value.ref a from rx)
  obtain ⟨_,_,_,n,_,h1⟩:=(show bR X.prog X.w H s.heap a (.frz ob (.lst xs)) from I.hok a _ ea)
  exact PySem.W.kia_one PySem.W.kitx_list I.kIn ⟨_,h1,rfl⟩ e (fun z=>nomatch z) h
 | @tup a xs ea=>
  cases (show u=Value.ref a from rx)
  obtain ⟨_,_,_,p⟩:=(show bR X.prog X.w H s.heap a (.tup xs) from I.hok a _ ea)
  obtain ⟨o,h1,h2,_⟩:=p
  exact PySem.W.kia_one PySem.W.kitx_tuple I.kIn ⟨o,h1,h2⟩ e (fun z=>nomatch z) h
 | @dK a kvs ea=>
  cases (show u=Value.ref a from rx)
  obtain ⟨_,_,vs,_,p⟩:=(show bR X.prog X.w H s.heap a (.dK kvs) from I.hok a _ ea)
  obtain ⟨o,es,ep,h1,h2,_⟩:=p
  exact PySem.W.kia_one PySem.W.kitx_dict I.kIn ⟨o,h1,h2.1⟩ e (fun z=>nomatch z) h
 | @dT a kvs ea=>
  cases (show u=Value.ref a from rx)
  obtain ⟨_,_,xs,_,o,es,ep,h1,h2,_⟩:=(show bR X.prog X.w H s.heap a (.dT kvs) from I.hok a _ ea)
  exact PySem.W.kia_one PySem.W.kitx_dict I.kIn ⟨o,h1,h2.1⟩ e (fun z=>nomatch z) h
 | @ins a C dx fs ea cl ha hn htk hm=>
  cases (show u=Value.ref a from rx)
  obtain ⟨mA,O,_⟩:=m8 I.hok ea
  obtain ⟨od,J,_⟩:=O.look
  exact PySem.W.kia_one (PySem.W.kitx_own (cl.get _) cl.hd ha hn htk hm) I.kIn J e (fun z=>nomatch z) h
end
end L2
namespace L2
open PySem PySem.Spec PyProof.Rows
structure bz (k:Nat) (A:Around):Prop where
 hd:A.handled=none
 dp:A.depth + 3 * k + 5 < recursionLimit
 un:A.units + 16 * k + 200 < cLine
theorem bz.mono {j k:Nat} {A:Around} (r:bz k A) (h:j<=k):bz j A:=⟨r.hd,by have:=r.dp; omega,by have:=r.un; omega⟩
theorem bz.deeper {k:Nat} {A:Around} (r:bz (k + 1) A) (env:Env):bz k (A.deeper env):=
 ⟨r.hd,by have:=r.dp; show A.depth + 1 + 3 * k + 5 < _; omega,by have:=r.un; show A.units + 3 + 16 * k + 200 < _; omega⟩
theorem bz.in1 {k:Nat} {A:Around} (r:bz (k + 1) A):bz k A.in1:=
 ⟨r.hd,by have:=r.dp; show A.depth + 3 * k + 5 < _; omega,by have:=r.un; show A.units + 1 + 16 * k + 200 < _; omega⟩
theorem wX {A:Around} {C:Addr} {us:List Value} {kw:List (Str×Value)}:(A.under (.builtin "type.__call__" ⟨.ref C :: us,kw⟩)).depth=A.depth + 1:=by
 first | rfl | simp [Around.under,Code.weight,Code.isCreation,Code.isGuard,Code.isCaller,Code.frames,Code.isFrame,guardIds]
theorem wY {A:Around} {C:Addr} {us:List Value} {kw:List (Str×Value)}:(A.under (.builtin "type.__call__" ⟨.ref C :: us,kw⟩)).units=A.units + 1:=by
 first | rfl | simp [Around.under,Code.cUnits,Code.frames,Code.isFrame]
theorem bz.make {k:Nat} {A:Around} (r:bz (k + 1) A) (C:Addr) (us:List Value) (kw:List (Str×Value)):bz k (A.under (.builtin "type.__call__" ⟨.ref C :: us,kw⟩)):=
 ⟨r.hd,by have:=r.dp; rw [wX]; omega,by have:=r.un; rw [wY]; omega⟩
theorem bz.depth {k:Nat} {A:Around} (r:bz k A):A.depth < recursionLimit:=by have:=r.dp; omega
theorem bz.units {k:Nat} {A:Around} (r:bz k A):A.units + 64 < cLine:=by have:=r.un; omega
theorem bz.units0 {k:Nat} {A:Around} (r:bz k A):A.units < cLine:=by have:=r.un; omega
noncomputable def ai:TA:=fun _ H Q=>Q [] H
noncomputable def ab (ta:TE) (tr:TA):TA:=fun σ H Q=>ta σ H fun x H1=>tr σ H1 fun xs H2=>Q (x :: xs) H2
section
variable {X:Cx} {e:Expr} {es:List Expr} {te:TE} {t:TA} {pos:Pos}
theorem ae:PA X [] ai:=fun _ _ _ _ H Q I h=>Calls.spliced_nil ⟨[],H,I,.nil,h⟩
theorem fZ (ha:PE X e te) (hr:PA X es t) (hs:starEach (e :: es) X.env=(false,eval e X.env) :: starEach es X.env:=by rfl):PA X (e :: es) (ab te t):=by
 intro pos pins s σ H Q I h
 rw [hs]
 show wpAny _ _ (spliced ((false,eval e X.env) :: backTo pos (starEach es X.env))) _ _ s
 refine Calls.spliced_cons (thn (ha pins s σ H _ I h) fun u s1 ⟨x,H1,I1,r1,q1⟩=>?_)
 exact thn (hr pos pins s1 σ H1 _ I1 q1) fun us s2 ⟨xs,H2,I2,r2,q2⟩=>⟨x :: xs,H2,I2,.cons r1 r2,q2⟩
noncomputable def wZ (t:TA):TE:=fun σ H Q=>t σ H fun xs H1=>xs.length<=sizeLine/\∀ p,H1 p=none->Q (.ref p) (upd H1 p (.tup xs))
noncomputable def tz (t:TA):TE:=fun σ H Q=>t σ H fun xs H1=>xs.length<=sizeLine/\∀ p,H1 p=none->Q (.ref p) (upd H1 p (.lst xs))
theorem yn {x1} (h:PA X es t):PE X (.Tuple es x1 pos) (wZ t):=by
 intro pins s σ H Q I hq
 refine wpAny_Tuple_spliced (thn (h pos pins s σ H _ I hq) fun us s1 ⟨xs,H1,I1,r,z,q⟩=>⟨by rw [<-r.length]; exact z,?_⟩)
 have hf:H1 s1.heap.objs.size=none:=I1.hok.fresh (Nat.le_refl _)
 refine ⟨.ref s1.heap.objs.size,upd H1 s1.heap.objs.size (.tup xs),I1.laid (t':=s1.toks) (fun b u e=>Heap.get?_push_of_some _ e) (Nat.le_refl _) ?_,rfl,q _ hf⟩
 exact ⟨z,us,r,fB.new _ _⟩
theorem tD (h:PA X es t):PE X (.List es pos) (tz t):=by
 intro pins s σ H Q I hq
 refine wpAny_List_spliced (thn (h pos pins s σ H _ I hq) fun us s1 ⟨xs,H1,I1,r,z,q⟩=>⟨by rw [<-r.length]; exact z,?_⟩)
 have hf:H1 s1.heap.objs.size=none:=I1.hok.fresh (Nat.le_refl _)
 refine ⟨.ref s1.heap.objs.size,upd H1 s1.heap.objs.size (.lst xs),I1.laid (t':=s1.toks) (fun b u e=>Heap.get?_push_of_some _ e) (Nat.le_refl _) ?_,rfl,q _ hf⟩
 exact ⟨z,us,0,r,Heap.get?_push_size _ rfl⟩
end
noncomputable abbrev Sp:=List V->Hp->VK->XK->Prop
noncomputable abbrev CXT:=List Env->Hp->Shared->XK->Value->Shared->Prop
structure jM (P:Program) (w:World) (K:PySem.W.Frag) (mg:Str->Option Value) (base:Heap) (A:Around) (outer:List Env) (s:Shared) (H:Hp):Prop where
 frames:A.frames=some outer
 mod:Mod K mg base
 bs:∀ b o,base.get? b=some o->s.heap.get? b=some o/\H b=none
 bsz:base.objs.size<=s.heap.objs.size
 funs:s.heap.FunFrames base outer
 frf:∀ b∈frs outer,H b=none
 hok:HOk P w H s.heap
 bare:AllBare s.gens
noncomputable def CE (outer:List Env) (P:Program) (w:World) (H:Hp) (s:Shared) (Q:VK) (u:Value) (s':Shared):Prop:=
 ∃ v H',s'.os=s.os/\AllBare s'.gens/\Un (frs outer) [] H H' s.heap s'.heap/\HOk P w H' s'.heap/\aE v u/\Q v H'
noncomputable def CR (CX:CXT) (outer:List Env) (P:Program) (w:World) (H:Hp) (s:Shared) (Q:VK) (E:XK) (r:Result) (s':Shared):Prop:=
 match r with
 | .ok (.ret u)=>CE outer P w H s Q u s'
 | .ok _=>False
 | .error e=>CX outer H s E e s'
structure cb (P:Program) (w:World) (K:PySem.W.Frag) (mg:Str->Option Value) (base:Heap) (CX:CXT) (k:Nat) (f:Addr) (fd:FuncData) (ps:List Str) (sp:Sp):Prop where
 len:∀ vs H Q E,sp vs H Q E->vs.length=ps.length
 run:∀ (A:Around) (outer:List Env) (s:Shared) (H:Hp) (args:Args) (us:List Value) (vs:List V) (Q:VK) (E:XK),bz k A->jM P w K mg base A outer s H->BindsTo s fd args (ps.zip us)->aD vs us->sp vs H Q E->
  codeAny (model P w) A (.call (.ref f) args) (CR CX outer P w H s Q E) s
theorem cb.mono {P:Program} {w:World} {K:PySem.W.Frag} {mg:Str->Option Value} {base:Heap} {CX:CXT} {j k:Nat} {f:Addr} {fd:FuncData} {ps:List Str} {sp:Sp} (F:cb P w K mg base CX j f fd ps sp) (h:j<=k):
  cb P w K mg base CX k f fd ps sp:=⟨F.len,fun A outer s H args us vs Q E hr=>F.run A outer s H args us vs Q E (hr.mono h)⟩
theorem cb.imp {P:Program} {w:World} {K:PySem.W.Frag} {mg:Str->Option Value} {base:Heap} {CX:CXT} {k:Nat} {f:Addr} {fd:FuncData} {ps:List Str} {sp sp':Sp} (F:cb P w K mg base CX k f fd ps sp)
  (h:∀ vs H Q E,sp' vs H Q E->sp vs H Q E):cb P w K mg base CX k f fd ps sp':=
 ⟨fun vs H Q E q=>F.len vs H Q E (h _ _ _ _ q),fun A outer s H args us vs Q E hr he hb hv hs=>F.run A outer s H args us vs Q E hr he hb hv (h _ _ _ _ hs)⟩
theorem jM.make {P:Program} {w:World} {K:PySem.W.Frag} {mg:Str->Option Value} {base:Heap} {A:Around} {outer:List Env} {s:Shared} {H:Hp} (e:jM P w K mg base A outer s H) (C:Addr) (us:List Value) (kw:List (Str×Value)):
  jM P w K mg base (A.under (.builtin "type.__call__" ⟨.ref C :: us,kw⟩)) outer s H:=⟨by first | exact e.frames | (simpa [Around.under,Code.envs,Code.isFrame,pushEnvs] using e.frames),e.mod,e.bs,e.bsz,e.funs,e.frf,e.hok,e.bare⟩
theorem jM.in1 {P:Program} {w:World} {K:PySem.W.Frag} {mg:Str->Option Value} {base:Heap} {A:Around} {outer:List Env} {s:Shared} {H:Hp} (e:jM P w K mg base A outer s H):
  jM P w K mg base A.in1 outer s H:=⟨e.frames,e.mod,e.bs,e.bsz,e.funs,e.frf,e.hok,e.bare⟩
section
variable {X:Cx} {pins:List (Addr×Obj)} {σ:St} {H:Hp} {s s':Shared}
theorem Inv.env0 (I:Inv X pins σ H s):jM X.prog X.w X.K X.mg X.base X.A X.stack s H:=
 ⟨I.ok.frames,I.ok.mod,I.bs,Nat.le_trans I.ok.bsz I.sz,I.stack,I.stkFree,I.hok,I.bare⟩
theorem Inv.after {Q:VK} {u:Value} (I:Inv X pins σ H s) (h:CE X.stack X.prog X.w H s Q u s'):EP X pins σ Q u s':=by
 obtain ⟨v,H',os,bare,un,hok,r,q⟩:=h
 obtain ⟨hh,g,d,t,os'⟩:=s'
 obtain rfl:os'=s.os:=os
 exact ⟨v,H',I.call (h':=hh) (g':=g) (d':=d) (t':=t) (ch:=[]) un hok bare (fun b z=>absurd z (by simp)),r,q⟩
end
noncomputable def az (sp:Sp) (dvs:List V) (E:XK) (t:TA):TE:=fun σ H Q=>t σ H fun vs H1=>sp (vs++dvs) H1 Q E
noncomputable def jq (C:Addr) (m:Str) (sp:Sp) (dvs:List V) (E:XK) (ta:TE) (t:TA):TE:=fun σ H Q=>ta σ H fun x H1=>∃ a dx fs,x=.ref a/\H1 a=some (.ins C dx fs)/\fs.lookup m=none/\
 t σ H1 fun vs H2=>sp (x :: (vs++dvs)) H2 Q E
noncomputable def sH (C:Addr) (sp:Sp) (dvs:List V) (E:XK) (t:TA):TE:=fun σ H Q=>t σ H fun vs H1=>∀ x dx,H1 x=none->H1 dx=none->dx≠x->
 sp (.ref x :: (vs++dvs)) (upd (upd H1 dx (.own x)) x (.ins C dx [])) (fun v H2=>v=.non/\Q (.ref x) H2) E
noncomputable def eZ (K:PySem.W.Frag) (fd:FuncData) (ps:List Str) (ds:List Value):Prop:=
 ∀ (s:Shared) (us:List Value),K.In s.heap->(us++ds).length=ps.length->BindsTo s fd ⟨us,[]⟩ (ps.zip (us++ds))
theorem eZ.all {K:PySem.W.Frag} {fd:FuncData} {ps:List Str} (h:∀ us:List Value,us.length=ps.length->bindArgs fd ⟨us,[]⟩=pure (ps.zip us)):eZ K fd ps []:=fun s us _ hl=>by
 rw [List.append_nil] at hl ⊢
 exact .of_eq (h us hl)
noncomputable def jN (CX:CXT) (X:Cx) (E:XK):Prop:=∀ (pins:List (Addr×Obj)) (σ:St) (H:Hp) (s:Shared) (e:Value) (s':Shared),Inv X pins σ H s->CX X.stack H s E e s'->X.xe e s'
section
variable {X:Cx} {CX:CXT} {k:Nat} {f C:Addr} {fd:FuncData} {ps:List Str} {sp:Sp} {dvs:List V} {ds:List Value} {E:XK} {x m:Str} {p pos apos:Pos} {e o:Expr} {es:List Expr} {ta:TE} {t:TA}
theorem tE {pins:List (Addr×Obj)} {σ:St} {H:Hp} {s:Shared} {Q:VK} {us:List Value} {vs:List V} (F:cb X.prog X.w X.K X.mg X.base CX k f fd ps sp) (hr:bz k X.A) (hb:eZ X.K fd ps ds) (hd:aD dvs ds) (hx:jN CX X E)
  (I:Inv X pins σ H s) (r:aD vs us) (h:sp (vs++dvs) H Q E):wpAny (model X.prog X.w) X.A (call (.ref f) us) (EP X pins σ Q) X.xe s:=by
 have r2:aD (vs++dvs) (us++ds):=r.append hd
 have hl:(us++ds).length=ps.length:=by rw [<-r2.length]; exact F.len _ _ _ _ h
 refine wpAny_call (codeAny_mono (F.run X.A X.stack s H ⟨us,[]⟩ (us++ds) (vs++dvs) Q E hr I.env0 (hb s us I.kIn hl) r2 h) fun r s' hq=>?_)
 cases r with
 | error e=>exact hx pins σ H s e s' I hq
 | ok fl=>
  cases fl with
  | ret u=>exact I.after hq
  | next=>exact False.elim hq
  | brk=>exact False.elim hq
  | cont=>exact False.elim hq
theorem Bo (F:cb X.prog X.w X.K X.mg X.base CX k f fd ps sp) (hr:bz k X.A) (hg:Gl X x) (hm:X.mg x=some (.ref f)) (hk:PySem.W.keepIn X.K (.ref f)=true) (hb:eZ X.K fd ps ds) (hd:aD dvs ds) (hx:jN CX X E)
  (ha:PA X (e :: es) t) (hdb:(x == ("__debug__":Str))=false:=by decide) (he:starEach (e :: es) X.env=(false,eval e X.env) :: starEach es X.env:=by rfl) (hpl:(backTo pos (starEach es X.env)).any (·.1)=false:=by rfl):
  PE X (.Call (.Name x p) (e :: es) [] pos) (az sp dvs E t):=by
 intro pins s σ H Q I h
 refine wpAny_Call_Name_kw (qh I hg hm ?_ hdb)
 refine PySem.W.callWith_K (h₀:=X.base) I.ok.mod.kin hk (thn (ha pos pins s σ H _ I h) fun us s1 ⟨vs,H1,I1,r,q⟩=>⟨I1.kIn,?_⟩) he hpl
 exact tE F hr hb hd hx I1 r q
theorem Bp {pl:Sem Bool} (he:PE X o ta) (c:Cls X.K C) (hm:tw X.K C m f) (F:cb X.prog X.w X.K X.mg X.base CX k f fd ps sp) (hr:bz k X.A) (hb:eZ X.K fd ps ds) (hd:aD dvs ds) (hx:jN CX X E) (ha:PA X (e :: es) t)
  (hst:starEach (e :: es) X.env=(false,eval e X.env) :: starEach es X.env:=by rfl) (hpl:(backTo pos (starEach es X.env)).any (·.1)=false:=by rfl)
  (ht:eval (.Call (.Attribute o m apos) (e :: es) [] pos) X.env=(do
   let ov <-eval o X.env
   standAt apos.atName
   let (f,first) <-holding [ov] (getMethod ov m pl)
   callWith pos f first (backTo pos (starEach (e :: es) X.env)) (backToKw pos (keywordEach [] X.env))):=by rfl):
  PE X (.Call (.Attribute o m apos) (e :: es) [] pos) (jq C m sp dvs E ta t):=by
 intro pins s σ H Q I h
 refine PySem.W.methodCall_KW (pl:=pl) (thn (he pins s σ H _ I h) fun u s1 ⟨x,H1,I1,rx,a,dx,fs,ex,ea,l,q⟩=>?_) ht
 subst ex
 obtain rfl:u=Value.ref a:=rx
 refine oQ I1 ea c hm l ?_
 refine PySem.W.callWith_K (first:=[.ref a]) (h₀:=X.base) I.ok.mod.kin hm.kp (thn (ha pos pins s1 σ H1 _ I1 q) fun us s2 ⟨vs,H2,I2,r,q2⟩=>⟨I2.kIn,?_⟩) hst hpl
 exact tE (us:=.ref a :: us) (vs:=.ref a :: vs) F hr hb hd hx I2 (.cons rfl r) q2
theorem zM {pl:Sem Bool} (he:PE X o ta) (c:Cls X.K C) (hm:tw X.K C m f) (F:cb X.prog X.w X.K X.mg X.base CX k f fd ps sp) (hr:bz k X.A) (hb:eZ X.K fd ps ds) (hd:aD dvs ds) (hx:jN CX X E)
  (ht:eval (.Call (.Attribute o m apos) [] [] pos) X.env=(do
   let ov <-eval o X.env
   standAt apos.atName
   let (f,first) <-holding [ov] (getMethod ov m pl)
   callWith pos f first (backTo pos (starEach [] X.env)) (backToKw pos (keywordEach [] X.env))):=by rfl):
  PE X (.Call (.Attribute o m apos) [] [] pos) (jq C m sp dvs E ta ai):=by
 intro pins s σ H Q I h
 refine PySem.W.methodCall_KW (pl:=pl) (thn (he pins s σ H _ I h) fun u s1 ⟨x,H1,I1,rx,a,dx,fs,ex,ea,l,q⟩=>?_) ht
 subst ex
 obtain rfl:u=Value.ref a:=rx
 refine oQ I1 ea c hm l ?_
 exact PySem.W.callWith_K0 (first:=[.ref a]) I1.kIn hm.kp (tE (us:=[.ref a]) (vs:=[.ref a]) F hr hb hd hx I1 (.cons rfl .nil) q)
structure Mk (K:PySem.W.Frag) (C f:Addr):Prop where
 makes:PySem.W.makesIn K C=true
 init:PySem.W.findIn K (.ref C) "__init__"=some (some (.ref f))
 fn:PySem.W.isFn K (.ref f)=true
 kp:PySem.W.keepIn K (.ref C)=true
theorem zN {pins:List (Addr×Obj)} {σ:St} {H:Hp} {s:Shared} {Q:VK} {us:List Value} {vs:List V} (M:Mk X.K C f) (F:cb X.prog X.w X.K X.mg X.base CX k f fd ps sp) (hr:bz (k + 1) X.A) (hb:eZ X.K fd ps ds) (hd:aD dvs ds)
  (hx:jN CX X E) (I:Inv X pins σ H s) (r:aD vs us)
  (h:∀ x dx,H x=none->H dx=none->dx≠x->sp (.ref x :: (vs++dvs)) (upd (upd H dx (.own x)) x (.ins C dx [])) (fun v H2=>v=.non/\Q (.ref x) H2) E):
  wpAny (model X.prog X.w) X.A (call (.ref C) us) (EP X pins σ Q) X.xe s:=by
 have hq:=h (s.heap.objs.size + 1) s.heap.objs.size (I.hok.fresh (Nat.le_succ _)) (I.hok.fresh (Nat.le_refl _)) (Nat.ne_of_lt (Nat.lt_succ_self _))
 have I2:=Inv.made (C:=C) I
 have r2:aD (V.ref (s.heap.objs.size + 1) :: (vs++dvs)) (Value.ref (s.heap.objs.size + 1) :: (us++ds)):=.cons rfl (r.append hd)
 have hl:(Value.ref (s.heap.objs.size + 1) :: us++ds).length=ps.length:=by
  have e:=r2.length
  rw [F.len _ _ _ _ hq] at e
  exact e.symm
 refine wpAny_call (zL (f:=f) I.kIn M.makes M.init (beq_iff_eq.mp M.fn) (codeAny_mono (F.run _ X.stack _ _ ⟨Value.ref (s.heap.objs.size + 1) :: us,[]⟩ (Value.ref (s.heap.objs.size + 1) :: (us++ds)) _ _ E (hr.make C us [])
  (I2.env0.make C us []) (hb _ (Value.ref (s.heap.objs.size + 1) :: us) I2.kIn hl) r2 hq) fun r s' hq'=>?_))
 cases r with
 | error e=>exact hx pins σ _ _ e s' I2 hq'
 | ok fl=>
  cases fl with
  | ret u=>
   obtain ⟨v,H',I3,rv,ev,q3⟩:=I2.after hq'
   subst ev
   exact ⟨rv,⟨V.ref (s.heap.objs.size + 1),H',I3,rfl,q3⟩⟩
  | next=>exact False.elim hq'
  | brk=>exact False.elim hq'
  | cont=>exact False.elim hq'
theorem Bq (M:Mk X.K C f) (F:cb X.prog X.w X.K X.mg X.base CX k f fd ps sp) (hr:bz (k + 1) X.A) (hg:Gl X x) (hm:X.mg x=some (.ref C)) (hb:eZ X.K fd ps ds) (hd:aD dvs ds) (hx:jN CX X E)
  (ha:PA X (e :: es) t) (hdb:(x == ("__debug__":Str))=false:=by decide) (he:starEach (e :: es) X.env=(false,eval e X.env) :: starEach es X.env:=by rfl) (hpl:(backTo pos (starEach es X.env)).any (·.1)=false:=by rfl):
  PE X (.Call (.Name x p) (e :: es) [] pos) (sH C sp dvs E t):=by
 intro pins s σ H Q I h
 refine wpAny_Call_Name_kw (qh I hg hm ?_ hdb)
 refine PySem.W.callWith_K (h₀:=X.base) I.ok.mod.kin M.kp (thn (ha pos pins s σ H _ I h) fun us s1 ⟨vs,H1,I1,r,q⟩=>⟨I1.kIn,?_⟩) he hpl
 exact zN M F hr hb hd hx I1 r q
end
noncomputable def PK (X:Cx) (kws:List Keyword) (t:TA):Prop:=
 ∀ (pos:Pos) (pins:List (Addr×Obj)) (s:Shared) (σ:St) (H:Hp) (Q:List V->Hp->Prop),Inv X pins σ H s->t σ H Q->wpAny (model X.prog X.w) X.A (evalAll ((backToKw pos (keywordEach kws X.env)).map (·.2))) (AP X pins σ Q) X.xe s
section
variable {X:Cx} {CX:CXT} {k:Nat} {f C:Addr} {fd:FuncData} {ps ks:List Str} {sp:Sp} {E:XK} {x m:Str} {p pos apos kpos:Pos} {e o:Expr} {es:List Expr} {kws:List Keyword} {te ta:TE} {t tk:TA} {nm:Option Str}
theorem Cy:PK X [] ai:=fun _ _ _ _ H Q I h=>wpAny_evalAll_nil ⟨[],H,I,.nil,h⟩
theorem Br (ha:PE X e te) (hr:PK X kws t):PK X (⟨nm,e,kpos⟩ :: kws) (ab te t):=by
 intro pos pins s σ H Q I h
 show wpAny _ _ (evalAll ((do let v <-eval e X.env; standAt pos; pure v) :: (backToKw pos (keywordEach kws X.env)).map (·.2))) _ _ s
 refine wpAny_evalAll_cons (wpAny_bind (thn (ha pins s σ H _ I h) fun u s1 ⟨x,H1,I1,r1,q1⟩=>wpAny_bind (wpAny_standAt (wpAny_pure ?_))))
 exact thn (hr pos pins s1 σ H1 _ I1 q1) fun us s2 ⟨xs,H2,I2,r2,q2⟩=>⟨x :: xs,H2,I2,.cons r1 r2,q2⟩
structure E1 (K:PySem.W.Frag) (fd:FuncData) (ps ks:List Str) (g:List Value->List Value->List Value) (gV:List V->List V->List V):Prop where
 to:∀ (s:Shared) (us ws:List Value),K.In s.heap->(g us ws).length=ps.length->BindsTo s fd ⟨us,ks.zip ws⟩ (ps.zip (g us ws))
 rel:∀ {vs:List V} {us:List Value} {zs:List V} {ws:List Value},aD vs us->aD zs ws->aD (gV vs zs) (g us ws)
variable {g:List Value->List Value->List Value} {gV:List V->List V->List V}
end
structure aA (N P:List Str) (sc:Scope):Prop where
 kind:sc.kind=.function
 co:sc.isCoroutine=false
 gen:sc.isGenerator=false
 nd:N.Nodup
 pre:N.take P.length=P
 par:∀ x∈P,sc.names.lookup x=some .local\/sc.names.lookup x=some .cell
 nofree:∀ y∈sc.names,y.2≠.free
theorem qY {kindOf:Str->Option NameKind} {x:Str}:∀ {binds:List (Str×Value)} {m:Str->Option Value},(∀ v,(x,v)∉binds)->bindL kindOf binds m x=m x
 | [],_,_=>rfl
 | (n,v) :: r,m,h=>by
  unfold bindL
  rw [qY fun w hw=>h w (List.mem_cons_of_mem _ hw)]
  split
  ·have:x≠n:=by rintro rfl; exact h v List.mem_cons_self
   simp [this]
  ·rfl
theorem qZ {kindOf:Str->Option NameKind} {x:Str}:∀ {binds:List (Str×Value)} {m:Str->Option Value},(∀ v,(x,v)∉binds)->bindC kindOf binds m x=m x
 | [],_,_=>rfl
 | (n,v) :: r,m,h=>by
  unfold bindC
  rw [qZ fun w hw=>h w (List.mem_cons_of_mem _ hw)]
  split
  ·rfl
  ·have:x≠n:=by rintro rfl; exact h v List.mem_cons_self
   simp [this]
theorem q9 {kindOf:Str->Option NameKind} {x:Str} {v:Value}:∀ {P:List Str} {vs:List Value} {i:Nat} {m:Str->Option Value},P.Nodup->P[i]?=some x->vs[i]?=some v->kindOf x=some .local->
  bindL kindOf (P.zip vs) m x=some v
 | [],_,_,_,_,h,_,_=>by simp at h
 | _ :: _,[],_,_,_,_,h,_=>by simp at h
 | p :: P,w :: vs,0,m,nd,h1,h2,hk=>by
  simp at h1 h2; subst h1; subst h2
  show bindL kindOf ((p,w) :: P.zip vs) m p=_
  unfold bindL
  rw [qY fun v hv=>(List.nodup_cons.mp nd).1 (List.of_mem_zip hv).1,if_pos hk]
  simp
 | p :: P,w :: vs,i + 1,m,nd,h1,h2,hk=>by
  show bindL kindOf ((p,w) :: P.zip vs) m x=_
  unfold bindL
  exact q9 (i:=i) (List.nodup_cons.mp nd).2 (by simpa using h1) (by simpa using h2) hk
theorem rc {kindOf:Str->Option NameKind} {x:Str} {v:Value}:∀ {P:List Str} {vs:List Value} {i:Nat} {m:Str->Option Value},P.Nodup->P[i]?=some x->vs[i]?=some v->kindOf x≠some .local->
  bindC kindOf (P.zip vs) m x=some v
 | [],_,_,_,_,h,_,_=>by simp at h
 | _ :: _,[],_,_,_,_,h,_=>by simp at h
 | p :: P,w :: vs,0,m,nd,h1,h2,hk=>by
  simp at h1 h2; subst h1; subst h2
  show bindC kindOf ((p,w) :: P.zip vs) m p=_
  unfold bindC
  rw [qZ fun v hv=>(List.nodup_cons.mp nd).1 (List.of_mem_zip hv).1,if_neg hk]
  simp
 | p :: P,w :: vs,i + 1,m,nd,h1,h2,hk=>by
  show bindC kindOf ((p,w) :: P.zip vs) m x=_
  unfold bindC
  exact rc (i:=i) (List.nodup_cons.mp nd).2 (by simpa using h1) (by simpa using h2) hk
noncomputable def aN (N:List Str) (vs:List V):St:=vs.map some++List.replicate (N.length - vs.length) none
noncomputable def jO (CX:CXT) (P:Program) (w:World) (K:PySem.W.Frag) (mg:Str->Option Value) (base:Heap) (N:List Str) (qual:Str) (scope:Scope) (f:Addr) (cd:Value) (A:Around) (outer:List Env) (s:Shared) (H:Hp) (E:XK):Cx where
 prog:=P
 w:=w
 K:=K
 mg:=mg
 base:=base
 A:=A.deeper (envOfC qual scope s.heap.objs.size f cd)
 N:=N
 s₀:=s
 H₀:=H
 env:=envOfC qual scope s.heap.objs.size f cd
 outer:=outer
 stack:=envOfC qual scope s.heap.objs.size f cd :: outer
 ex:=[]
 calm:=true
 fn:=fun _=>true
 pn:=[]
 xe:=fun e s'=>wpAny (model P w) (A.deeper (envOfC qual scope s.heap.objs.size f cd)) («leaving» (envOfC qual scope s.heap.objs.size f cd) e) (fun _ s''=>CX outer H s E e s'') (fun e' s''=>CX outer H s E e' s'') s'
theorem tG {sc:Scope} {n:Nat} {x:Str} (h:sc.names.lookup x=some .cell):∃ c,(cellsFrom n sc.names []).lookup x=some c:=by
 have q:=PySem.W.cellsFrom_some sc.names n [] (.inl h)
 exact Option.isSome_iff_exists.mp q
theorem yo {CX:CXT} {P:Program} {w:World} {K:PySem.W.Frag} {mg:Str->Option Value} {base:Heap} {N ps:List Str} {qual:Str} {scope:Scope} {f:Addr} {cd:Value} {A:Around} {outer:List Env} {s s1:Shared} {H:Hp} {E:XK} {us:List Value} {vs:List V}
  (S:aA N ps scope) (hd:A.handled=none) (e0:jM P w K mg base A outer s H) (hl:vs.length=ps.length) (r:aD vs us)
  (x:InCallC s s.heap.objs.size (bindL (envOfC qual scope s.heap.objs.size f cd).kindOf (ps.zip us) fun _=>none) (cellsFrom (s.heap.objs.size + 1) scope.names []) (bindC (envOfC qual scope s.heap.objs.size f cd).kindOf (ps.zip us) fun _=>none) s1):
  Inv (jO CX P w K mg base N qual scope f cd A outer s H E) [] (aN N vs) H s1:=by
 have hpl:ps.length<=N.length:=by have:=congrArg List.length S.pre; rw [List.length_take] at this; omega
 obtain ⟨h1,tk,rfl,hk⟩:=x.done
 have noA:∀ b:Addr,b∉(jO CX P w K mg base N qual scope f cd A outer s H E).ex:=fun b z=>absurd (show b∈([]:List Addr) from z) (by simp)
 refine ⟨⟨e0.mod,S.kind,rfl,rfl,Nat.le_refl _,fun y z c h1 h2=>?_,fun y hy=>?_,fun y c _ h=>?_,fun _=>hd,Around.frames_deeper e0.frames,.inr ⟨rfl,rfl⟩,fun b z=>absurd z (noA b),e0.bs,e0.bsz,fun b _ _=>noA b,fun b z=>absurd z (noA b),e0.funs,e0.frf⟩,
  rfl,e0.bare,Un.kept hk,⟨_,x.toInCall.ns,fun i y v h1 h2 h3=>?_⟩,fun y c h=>⟨_,x.cell y c h⟩,e0.hok.fresh (Nat.le_refl _),fun y c h=>?_,fun p hp=>absurd (show p∈([]:List (Addr×Obj)) from hp) (by simp),e0.hok.kept hk,?_⟩
 ·exact name_of_addr x.apart (PySem.mem_of_lookup h1) (PySem.mem_of_lookup h2)
 ·have hy:scope.names.lookup y=some .cell\/scope.names.lookup y=some .free:=hy
  rcases hy with hy | hy
  ·exact tG hy
  ·exact absurd rfl (S.nofree _ (PySem.mem_of_lookup hy))
 ·exact Nat.le_of_lt (x.above y c (PySem.mem_of_lookup h))
 ·have hi:i < vs.length:=by
   unfold aN at h2
   by_cases hi:i < vs.length
   ·exact hi
   ·rw [List.getElem?_append_right (by simpa using hi)] at h2
    rw [List.getElem?_replicate] at h2
    split at h2 <;> cases h2
  have ha:vs[i]?=some v:=by
   unfold aN at h2
   rw [List.getElem?_append_left (by simpa using hi),List.getElem?_map] at h2
   cases e:vs[i]? with
   | none=>rw [e] at h2; cases h2
   | some a=>rw [e] at h2; cases h2; rfl
  obtain ⟨u,hu,rv⟩:=r.get ha
  have hp:ps[i]?=some y:=by
   rw [<-S.pre,List.getElem?_take_of_lt (by omega)]; exact h1
  have ndP:ps.Nodup:=by rw [<-S.pre]; exact S.nd.sublist (List.take_sublist _ _)
  refine ⟨u,rv,?_⟩
  rcases S.par y (List.mem_of_getElem? hp) with k | k
  ·exact .inl ⟨k,q9 ndP hp hu k⟩
  ·obtain ⟨c,e⟩:=tG (n:=s.heap.objs.size + 1) k
   refine .inr ⟨.inl k,c,e,?_⟩
   have q:=x.cell y c e
   rw [rc ndP hp hu (by show scope.names.lookup y≠_; rw [k]; decide)] at q
   exact q
 ·exact e0.hok.fresh (Nat.le_of_lt (x.above y c (PySem.mem_of_lookup h)))
 ·unfold aN
  show _=N.length
  rw [List.length_append,List.length_map,List.length_replicate]
  omega
theorem AZ {CX:CXT} {P:Program} {w:World} {K:PySem.W.Frag} {mg:Str->Option Value} {base:Heap} {k:Nat} {f:Addr} {name qual:Str} {params:Arguments} {body:List Stmt} {scope:Scope} {dV kV doc pm cdv ct oc:Value} {an od:Option Addr}
  {osl:Array (Option Value)} {N ps:List Str} {sp:Sp} (lk:K.lookup f=some ⟨oc,od,.func (PySem.W.fnOf name qual params body scope dV kV doc pm an cdv ct),osl⟩) (hcd:PySem.W.codeIn K cdv qual=true) (S:aA N ps scope)
  (len:∀ vs H Q E,sp vs H Q E->vs.length=ps.length)
  (hbody:∀ (A:Around) (outer:List Env) (s:Shared) (H:Hp) (vs:List V) (Q:VK) (E:XK),bz k (A.deeper (envOfC qual scope s.heap.objs.size f cdv))->sp vs H Q E->
   ∃ t,PSs (jO CX P w K mg base N qual scope f cdv A outer s H E) body t/\t { nx:=fun _ H'=>Q .non H',rt:=Q } (aN N vs) H):
  cb P w K mg base CX (k + 1) f (PySem.W.fnOf name qual params body scope dV kV doc pm an cdv ct) ps sp:=by
 refine ⟨len,fun A outer s H args us vs Q E hr e0 hb r hsp=>?_⟩
 have hl:=len _ _ _ _ hsp
 have KX:K.In s.heap:=e0.mod.kin.keeps fun b o e=>(e0.bs b o e).1
 have lim:s.heap.NoLimit:=e0.mod.nolimit.keeps fun b o e=>(e0.bs b o e).1
 have hkind:∀ y∈ps.zip us,scope.names.lookup y.1=some .local\/(scope.names.lookup y.1=some .cell/\((cellsFrom (s.heap.objs.size + 1) scope.names []).lookup y.1).isSome=true):=fun ⟨n,v⟩ hy=>by
  rcases S.par n (List.of_mem_zip hy).1 with q | q
  ·exact .inl q
  ·exact .inr ⟨q,PySem.W.cellsFrom_some _ _ _ (.inl q)⟩
 refine codeAny_call_function hr.depth (KX _ _ lk) rfl S.co S.gen rfl (PySem.W.codeRec_of KX hcd) (hb _ _ _ _ ?_)
 refine wpAny_newFunctionEnv_cells S.kind hkind fun env he s1 x=>?_
 subst he
 refine ⟨lim.keeps x.toInCall.keep,codeAny_func ?_⟩
 obtain ⟨t,ht,hq⟩:=hbody A outer s H vs Q E (hr.deeper _) hsp
 have I:Inv (jO CX P w K mg base N qual scope f cdv A outer s H E) [] (aN N vs) H s1:=yo S hr.hd e0 hl r x
 refine wpAny_mono (ht [] s1 (aN N vs) H _ I hq) (fun fl s' hs=>?_) fun e s' hs=>hs
 have fin:∀ {σ':St} {H':Hp} {v:V} {u:Value},Inv (jO CX P w K mg base N qual scope f cdv A outer s H E) [] σ' H' s'->aE v u->Q v H'->CE outer P w H s Q u s':=
  fun {σ' H' v u} J rv q=>⟨v,H',J.os,J.bare,J.base,J.hok,rv,q⟩
 cases fl with
 | ret u=>
  obtain ⟨v,σ',H',J,rv,q⟩:=hs
  exact fin J rv q
 | next=>
  obtain ⟨σ',H',J,q⟩:=hs
  exact fin (v:=V.non) (u:=Value.none) J rfl q
 | brk=>
  obtain ⟨_,_,_,q⟩:=hs
  exact False.elim q
 | cont=>
  obtain ⟨_,_,_,q⟩:=hs
  exact False.elim q
end L2
namespace L2
open PySem PySem.Spec PyProof.Rows
section
variable {X:Cx} {x:Str} {p pos:Pos} {e:Expr} {es:List Expr} {t:TA} {id T:String} {r:List V->Hp->VK->Prop}
noncomputable def tCB (r:List V->Hp->VK->Prop) (t:TA):TE:=fun σ H Q=>t σ H fun vs H1=>r vs H1 Q
theorem aO (hc:dF X (.builtin id) r) (hg:Gl X x) (hm:X.mg x=none) (hv:bootBuiltins x=some (.builtin id)) (ha:PA X (e :: es) t) (hn:x≠"__name__":=by decide) (hdb:(x == ("__debug__":Str))=false:=by decide)
  (he:starEach (e :: es) X.env=(false,eval e X.env) :: starEach es X.env:=by rfl) (hpl:(backTo pos (starEach es X.env)).any (·.1)=false:=by rfl):PE X (.Call (.Name x p) (e :: es) [] pos) (tCB r t):=by
 intro pins s σ H Q I h
 refine wpAny_Call_Name_kw (jK I hg hm hv ?_ hn hdb)
 exact PyProof.Rows.callWith_builtin1 (thn (ha pos pins s σ H _ I h) fun us s1 ⟨vs,H1,I1,r1,q1⟩=>hc pins s1 σ H1 vs us Q I1 r1 q1) he hpl
theorem ja (hc:dF X (.type T) r) (hg:Gl X x) (hm:X.mg x=none) (hv:bootBuiltins x=some (.type T)) (ha:PA X (e :: es) t) (hn:x≠"__name__":=by decide) (hdb:(x == ("__debug__":Str))=false:=by decide)
  (he:starEach (e :: es) X.env=(false,eval e X.env) :: starEach es X.env:=by rfl) (hpl:(backTo pos (starEach es X.env)).any (·.1)=false:=by rfl):PE X (.Call (.Name x p) (e :: es) [] pos) (tCB r t):=by
 intro pins s σ H Q I h
 refine wpAny_Call_Name_kw (jK I hg hm hv ?_ hn hdb)
 exact PyProof.Rows.callWith_type1 (thn (ha pos pins s σ H _ I h) fun us s1 ⟨vs,H1,I1,r1,q1⟩=>hc pins s1 σ H1 vs us Q I1 r1 q1) he hpl
end
end L2
namespace HT
open PySem PyProof.Rows
noncomputable def w5:List Int->List Int->Bool
 | [],[]=>false
 | [],_ :: _=>true
 | _ :: _,[]=>false
 | x :: xs,y :: ys=>if x=y then w5 xs ys else decide (x < y)
section
open PySem.SeqAt
open PySem.AutoSeq1 (wpAny_loadPart')
open PySem.MeetsSeq PySem.MeetsSeq2 PySem.MeetsSeq3
end
section
variable {prog:Program} {w:World} {A:Around} {E:Value->Shared->Prop} {s:Shared}
theorem Bs {t b:Addr} {vs ws:List Value} {Q:Value->Shared->Prop} (ht:IsTup s.heap t vs.toArray) (hb:IsTup s.heap b ws.toArray) (hv:vs≠[])
  (h1:ws=[]->Q (.ref t) s) (h2:ws≠[]->Q (.ref s.heap.objs.size) { s with heap:=s.heap.push { cls:=.type "tuple",data:=.seq (vs++ws).toArray } })
  (hsz:vs.length + ws.length<=sizeLine):wpAny (model prog w) A (binaryOp .Add (.ref t) (.ref b)) Q E s:=by
 obtain ⟨⟨cls,dd,data,sl⟩,ho,hc,n,hd⟩:=id ht
 obtain ⟨⟨cls2,dd2,data2,sl2⟩,ho2,hc2,n2,hd2⟩:=id hb
 simp only at hc hd hc2 hd2
 subst hc hd hc2 hd2
 have e:vs.toArray++ws.toArray=(vs++ws).toArray:=by simp
 by_cases hw:ws=[]
 ·exact concat_meets ⟨_,ho,rfl⟩ ⟨_,ho2,rfl⟩ noFill_tuple_add seq_tuple_add PySem.F.slot_tuple_add PySem.F.entry_tuple_add (PySem.F.args_tuple_add_2 _ _)
   (tuple_addW1 t b vs.toArray ws.toArray n n2 dd dd2 sl sl2 (by simpa using hv) (by simp [hw])) ⟨ho,ho2,h1 hw⟩
 ·refine concat_meets ⟨_,ho,rfl⟩ ⟨_,ho2,rfl⟩ noFill_tuple_add seq_tuple_add PySem.F.slot_tuple_add PySem.F.entry_tuple_add (PySem.F.args_tuple_add_2 _ _)
   (tuple_addW2 t b vs.toArray ws.toArray n n2 dd dd2 sl sl2 (by simpa using hv) (by simpa using hw) (by rw [List.size_toArray,List.size_toArray]; exact hsz)) ⟨ho,ho2,?_⟩
  rw [e]
  exact h2 hw
noncomputable def sIx (n d:Nat):Option Int->Nat
 | none=>d
 | some v=>if v < 0 then (v + (n:Int)).toNat else min v.toNat n
theorem Cz (n d:Nat) (hd:d<=n) (o:Option Int):sIx n d o<=n:=by
 cases o with
 | none=>exact hd
 | some v=>
  show (if v < 0 then (v + (n:Int)).toNat else min v.toNat n)<=n
  by_cases hv:v < 0
  ·rw [if_pos hv]; omega
  ·rw [if_neg hv]; exact Nat.min_le_right _ _
theorem wm (v:Int) (n d:Nat):(if v < 0 then max (v + (n:Int)) 0 else min v (n:Int))=((sIx n d (some v):Nat):Int):=by
 show (if v < 0 then max (v + (n:Int)) 0 else min v (n:Int))=(((if v < 0 then (v + (n:Int)).toNat else min v.toNat n):Nat):Int)
 by_cases hv:v < 0
 ·simp only [if_pos hv]; omega
 ·simp only [if_neg hv]; omega
theorem w9 (lo hi:Option Int) (n:Nat):Builtin.Slice.sliceAdjust lo hi 1 (n:Int)=(((sIx n 0 lo:Nat):Int),((sIx n n hi:Nat):Int)):=by
 have h1:¬ ((1:Int) < 0):=by omega
 unfold Builtin.Slice.sliceAdjust
 simp only [h1,if_false]
 refine Prod.ext ?_ ?_
 ·cases lo with
  | none=>rfl
  | some v=>exact wm v n 0
 ·cases hi with
  | none=>rfl
  | some v=>exact wm v n n
theorem xa (i j:Nat):Builtin.Slice.slicePlaces (i:Int) (j:Int) 1=j - i:=by
 unfold Builtin.Slice.slicePlaces
 have h1:(1:Int) > 0:=by omega
 simp only [h1,if_true,Int.ediv_one]
 split <;> omega
theorem oR {v:Value} {o:Option Int} {Q:Option Int->Shared->Prop} (p:IsPart v o) (h:Q o s):wpAny (model prog w) A (Builtin.Slice.slicePartIndex v) Q E s:=by
 cases p with
 | none=>exact slicePart_none h
 | int i t=>exact slicePart_int h
theorem oo {sl:Addr} {vl vu:Value} {lo hi:Option Int} {n:Nat} {Q:Int×Int×Nat->Shared->Prop} (hs:s.heap.IsSliceOf sl vl vu .none) (pl:IsPart vl lo) (pu:IsPart vu hi)
  (h:Q (((sIx n 0 lo:Nat):Int),1,sIx n n hi - sIx n 0 lo) s):wpAny (model prog w) A (Builtin.Slice.sliceApplied (.ref sl) (pure (n:Int))) Q E s:=by
 obtain ⟨os,hos,hcs,hds⟩:=id hs
 unfold Builtin.Slice.sliceApplied Builtin.Slice.sliceFields
 refine wpAny_bind (wpAny_bind (wpAny_field hos hds (x:=vl) rfl (wpAny_bind (wpAny_field hos hds (x:=vu) rfl (wpAny_bind (wpAny_field hos hds (x:=.none) rfl (wpAny_pure ?_)))))))
 refine wpAny_bind (slicePart_none ?_)
 show wpAny _ _ (if ((1:Int) == 0)=true then _ else _) _ _ s
 rw [if_neg (by decide)]
 refine wpAny_bind (oR pl (wpAny_bind (oR pu (wpAny_bind (wpAny_pure ?_)))))
 show wpAny _ _ (match Builtin.Slice.sliceAdjust lo hi 1 (n:Int) with | (lo,hi)=>pure (lo,(1:Int),Builtin.Slice.slicePlaces lo hi 1)) _ _ s
 rw [w9 lo hi n]
 show wpAny _ _ (pure (((sIx n 0 lo:Nat):Int),(1:Int),Builtin.Slice.slicePlaces ((sIx n 0 lo:Nat):Int) ((sIx n n hi:Nat):Int) 1)) _ _ s
 rw [xa]
 exact wpAny_pure h
theorem zO (xs:Array Value) (i k:Nat):((List.range k).filterMap fun (m:Nat)=>xs[((i:Int) + (m:Int) * 1).toNat]?).toArray=((xs.toList.drop i).take k).toArray:=by
 have e:(fun (m:Nat)=>xs[((i:Int) + (m:Int) * 1).toNat]?)=fun m=>xs[i + m]?:=by
  funext m
  have:((i:Int) + (m:Int) * 1).toNat=i + m:=by omega
  rw [this]
 rw [e]
 have:=pick_run xs i k
 rw [List.filterMap_map] at this
 have e2:((fun x=>xs[x]?) ∘ fun x=>i + x)=fun m=>xs[i + m]?:=rfl
 rw [e2] at this
 rw [this]
theorem nB {t sl:Addr} {items:Array Value} {vl vu:Value} {lo hi:Option Int} {Q:Value->Shared->Prop} (ht:IsTup s.heap t items) (hs:s.heap.IsSliceOf sl vl vu .none) (pl:IsPart vl lo) (pu:IsPart vu hi)
  (hw:¬ (sIx items.size 0 lo=0/\sIx items.size items.size hi=items.size))
  (h:Q (.ref s.heap.objs.size) { s with heap:=s.heap.push { cls:=.type "tuple",data:=.seq ((items.toList.drop (sIx items.size 0 lo)).take (sIx items.size items.size hi - sIx items.size 0 lo)).toArray } })
  (hsz:items.size<=sizeLine):wpAny (model prog w) A (getItem (.ref t) (.ref sl)) Q E s:=by
 have htake:sizeOk (.seq ((items.toList.drop (sIx items.size 0 lo)).take (sIx items.size items.size hi - sIx items.size 0 lo)).toArray):=by
  show ((items.toList.drop (sIx items.size 0 lo)).take (sIx items.size items.size hi - sIx items.size 0 lo)).toArray.size<=sizeLine
  rw [List.size_toArray,List.length_take,List.length_drop,Array.length_toList]
  omega
 have hj:sIx items.size items.size hi<=items.size:=Cz _ _ (Nat.le_refl _) hi
 obtain ⟨os,hos,hcs,hds⟩:=id hs
 have hTs:s.TypeIs (.ref sl) "slice":=⟨os,hos,hcs⟩
 unfold getItem
 try with_reducible refine wpAny_holding ?_
 first | refine wpAny_bind (wpAny_pure ?_) | skip
 refine wpAny_bind (wpAny_sequenceKey ht.typeIs (by decide) ?_)
 refine wpAny_bind (wpAny_callSpecial?_slot (name:=Str.ofString "__getitem__") ht.typeIs PyProof.Rows.slot_tuple_getitem
  (wpAny_call_entry PyProof.Rows.slot_tuple_getitem ht.typeIs entry_tuple_getitem ?_ (args_tuple_getitem _ _)))
 show wpAny _ _ (Builtin.Tuple.tupleItemsOf (.ref t) >>= _) _ _ s
 refine wpAny_bind (tupleItemsOf_ ht ?_)
 refine wpAny_bind (wpAny_typeOf hTs ?_)
 rw [if_pos (by decide)]
 refine wpAny_bind (oo hs pl pu ?_)
 have hno:¬ ((((sIx items.size 0 lo:Nat):Int) == 0 && (1:Int) == 1 && (sIx items.size items.size hi - sIx items.size 0 lo) == items.size)=true):=by
  intro q
  rw [Bool.and_eq_true,Bool.and_eq_true] at q
  have q1:((sIx items.size 0 lo:Nat):Int)=0:=eq_of_beq q.1.1
  have q2:sIx items.size items.size hi - sIx items.size 0 lo=items.size:=eq_of_beq q.2
  exact hw ⟨by omega,by omega⟩
 show wpAny _ _ (if (((sIx items.size 0 lo:Nat):Int) == 0 && (1:Int) == 1 && (sIx items.size items.size hi - sIx items.size 0 lo) == items.size)=true then _ else _) _ _ s
 rw [if_neg hno,zO]
 first
  | exact wpAny_bind (m:=Builtin.Tuple.tupleExact _) (wpAny_newObj_type (wpAny_pure ⟨_,rfl,wpAny_pure h⟩) htake)
  | exact wpAny_bind (m:=Builtin.Tuple.tupleExact _) (wpAny_newObj_type (wpAny_bind (wpAny_pure (wpAny_pure ⟨_,rfl,wpAny_pure h⟩))) htake)
  | exact wpAny_bind (wpAny_bind (m:=Builtin.Tuple.tupleExact _) (wpAny_newObj_type (wpAny_pure (wpAny_pure ⟨_,rfl,wpAny_pure h⟩)) htake))
  | exact wpAny_bind (wpAny_bind (m:=Builtin.Tuple.tupleExact _) (wpAny_newObj_type (wpAny_pure ⟨_,rfl,wpAny_pure h⟩) htake))
end
end HT
namespace L2
open PySem PySem.Spec PyProof.Rows
noncomputable abbrev TO:=St->Hp->(Option Int->Hp->Prop)->Prop
noncomputable def PO (X:Cx) (e:Option Expr) (t:TO):Prop:=
 ∀ (pins:List (Addr×Obj)) (s:Shared) (σ:St) (H:Hp) (Q:Option Int->Hp->Prop),Inv X pins σ H s->t σ H Q->
  wpAny (model X.prog X.w) X.A (evalPart e X.env) (fun u s'=>∃ o H',Inv X pins σ H' s'/\IsPart u o/\Q o H') X.xe s
noncomputable def m9:TO:=fun _ H Q=>Q none H
noncomputable def sL (t:TE):TO:=fun σ H Q=>t σ H fun x H1=>∃ i,x=.int i/\Q (some i) H1
theorem oS {ns:List Int}:∀ {us:List Value},aD (ns.map V.int) us->IntsAre us ns:=by
 induction ns with
 | nil=>intro us r; rw [List.map_nil] at r; cases r; exact .nil
 | cons n ns ih=>
  intro us r
  rw [List.map_cons] at r
  cases r with
  | cons r1 r2=>
   obtain ⟨t,e⟩:=r1
   subst e
   exact .cons n t (ih r2)
section
variable {X:Cx} {e:Expr} {te:TE} {lo hi:Option Expr} {tl th:TO} {pos p2:Pos}
theorem wn:PO X none m9:=by
 intro pins s σ H Q I h
 rw [evalPart_none]
 exact wpAny_pure ⟨none,H,I,.none,h⟩
theorem wo (h:PE X e te):PO X (some e) (sL te):=by
 intro pins s σ H Q I hw
 rw [evalPart_some]
 refine thn (h pins s σ H _ I hw) fun u s1 ⟨x,H1,I1,r1,q1⟩=>?_
 obtain ⟨i,rfl,q⟩:=q1
 obtain ⟨t,rfl⟩:=r1
 exact ⟨some i,H1,I1,.int i t,q⟩
noncomputable def SlR (X:Cx) (r:V->Option Int->Option Int->Hp->VK->Prop):Prop:=
 ∀ (pins:List (Addr×Obj)) (s:Shared) (σ:St) (H:Hp) (x:V) (v vl vu:Value) (lo hi:Option Int) (sl:Addr) (Q:VK),Inv X pins σ H s->aE x v->s.heap.IsSliceOf sl vl vu .none->IsPart vl lo->IsPart vu hi->r x lo hi H Q->
  ∃ T id,typeLookup (.type T) "__getitem__"=pure (some (.builtin id))/\s.TypeIs v T/\wpAny (model X.prog X.w) X.A (getItem v (.ref sl)) (EP X pins σ Q) X.xe s
theorem SlR.or {r r':V->Option Int->Option Int->Hp->VK->Prop} (h:SlR X r) (h':SlR X r'):SlR X (fun x lo hi H Q=>r x lo hi H Q\/r' x lo hi H Q):=by
 intro pins s σ H x v vl vu lo hi sl Q I rx hs pl pu q
 rcases q with q | q
 ·exact h pins s σ H x v vl vu lo hi sl Q I rx hs pl pu q
 ·exact h' pins s σ H x v vl vu lo hi sl Q I rx hs pl pu q
noncomputable def tSl (r:V->Option Int->Option Int->Hp->VK->Prop) (te:TE) (tl th:TO):TE:=fun σ H Q=>te σ H fun x H1=>tl σ H1 fun l H2=>th σ H2 fun u H3=>r x l u H3 Q
theorem tH {r:V->Option Int->Option Int->Hp->VK->Prop} (hr:SlR X r) (he:PE X e te) (hl:PO X lo tl) (hu:PO X hi th):PE X (.Subscript e (.Slice lo hi none p2) pos) (tSl r te tl th):=by
 intro pins s σ H Q I h
 refine Subscript_ (thn (he pins s σ H _ I h) fun v s1 ⟨x,H1,I1,r1,q1⟩=>?_)
 refine wpAny_Slice (thn (hl pins s1 σ H1 _ I1 q1) fun vl s2 ⟨l,H2,I2,pl,q2⟩=>thn (hu pins s2 σ H2 _ I2 q2) fun vu s3 ⟨u,H3,I3,pu,q3⟩=>?_)
 rw [evalPart_none]
 refine wpAny_pure ?_
 have I4:Inv X pins σ H3 { s3 with heap:=s3.heap.push { cls:=.type "slice",data:=.fields #[vl,vu,.none] } }:=I3.kept (t':=s3.toks) fun b ob q=>Heap.get?_push_of_some _ q
 obtain ⟨T,id,hT,ht,hg⟩:=hr pins { s3 with heap:=s3.heap.push { cls:=.type "slice",data:=.fields #[vl,vu,.none] } } σ H3 x v vl vu l u s3.heap.objs.size Q I4 r1 (Heap.IsSliceOf.new ..) pl pu q3
 show wpAny (model X.prog X.w) X.A (subscriptTail e (.Slice lo hi none p2) v (.ref s3.heap.objs.size)) (EP X pins σ Q) X.xe { s3 with heap:=s3.heap.push { cls:=.type "slice",data:=.fields #[vl,vu,.none] } }
 exact tail_any (ops:=[.ref s3.heap.objs.size,v]) ht hT hg (by with_unfolding_all rfl)
noncomputable def mj (xs:List V) (lo hi:Option Int):List V:=(xs.drop (HT.sIx xs.length 0 lo)).take (HT.sIx xs.length xs.length hi - HT.sIx xs.length 0 lo)
theorem vt (xs:List V) (lo hi:Option Int):(mj xs lo hi).length<=xs.length:=by
 unfold mj
 rw [List.length_take,List.length_drop]
 omega
noncomputable def EI (K:PySem.W.Frag):V->Option Int->Option Int->Hp->VK->Prop:=fun x lo hi H Q=>∃ a xs,x=.ref a/\SqT K H a xs/\
 ¬ (HT.sIx xs.length 0 lo=0/\HT.sIx xs.length xs.length hi=xs.length)/\∀ p,H p=none->Q (.ref p) (upd H p (.tup (mj xs lo hi)))
theorem CA:SlR X (EI X.K):=by
 intro pins s σ H x v vl vu lo hi sl Q I rx hs pl pu h
 obtain ⟨a,xs,rfl,hx,hw,q⟩:=h
 cases rx
 obtain ⟨its,r,ht,hz⟩:=I.tuple hx
 have hlen:its.toArray.size=xs.length:=by rw [List.size_toArray]; exact r.length.symm
 refine ⟨"tuple",_,PyProof.Rows.slot_tuple_getitem.lookup,ht.typeIs,?_⟩
 refine HT.nB ht hs pl pu (by rw [hlen]; exact hw) ?_ (by rw [hlen]; exact hz)
 rw [hlen]
 refine ⟨.ref s.heap.objs.size,_,I.laid (t':=s.toks) (o:=.tup (mj xs lo hi)) (fun b ob q=>Heap.get?_push_of_some _ q) (Nat.le_refl _) ?_,rfl,q _ (I.hok.fresh (Nat.le_refl _))⟩
 exact ⟨Nat.le_trans (vt xs lo hi) hz,_,(r.drop (HT.sIx xs.length 0 lo)).take (HT.sIx xs.length xs.length hi - HT.sIx xs.length 0 lo),fB.new _ _⟩
noncomputable def DK (K:PySem.W.Frag):R2:=fun x y H Q=>∃ a b xs ys,x=.ref a/\y=.ref b/\SqT K H a xs/\SqT K H b ys/\xs≠[]/\xs.length + ys.length<=sizeLine/\
 (ys=[]->Q (.ref a) H)/\(ys≠[]->∀ p,H p=none->Q (.ref p) (upd H p (.tup (xs++ys))))
theorem aD.nil_iff {xs:List V} {us:List Value} (r:aD xs us):us=[]↔xs=[]:=by
 cases r with
 | nil=>simp
 | cons _ _=>simp
theorem Bt:OpR X (binaryOp .Add) (DK X.K):=by
 intro pins s σ H x y v u Q I rx ry h
 obtain ⟨a,b,xs,ys,rfl,rfl,ha,hb,hx,hz,q1,q2⟩:=h
 cases rx
 cases ry
 obtain ⟨its,r1,p1,_⟩:=I.tuple ha
 obtain ⟨its2,r2,p2,_⟩:=I.tuple hb
 refine HT.Bs p1 p2 (fun z=>hx (r1.nil_iff.mp z)) (fun z=>⟨.ref a,H,I,rfl,q1 (r2.nil_iff.mp z)⟩) (fun z=>?_) (by rw [<-r1.length,<-r2.length]; exact hz)
 refine ⟨.ref s.heap.objs.size,_,I.laid (t':=s.toks) (o:=.tup (xs++ys)) (fun b ob q=>Heap.get?_push_of_some _ q) (Nat.le_refl _) ?_,rfl,q2 (fun w=>z (r2.nil_iff.mpr w)) _ (I.hok.fresh (Nat.le_refl _))⟩
 exact ⟨by rw [List.length_append]; exact hz,_,r1.append r2,fB.new _ _⟩
end
end L2
namespace L2
open PySem PySem.Spec PyProof.Rows
noncomputable def ixN (n:Nat) (i:Int):Option Nat:=if 0<=i then (if i < n then some i.toNat else none) else if -(n:Int)<=i then some (i + n).toNat else none
noncomputable def atI {α:Type} (xs:List α) (i:Int):Option α:=(ixN xs.length i).bind fun j=>xs[j]?
theorem Bu {n:Nat} {i:Int} {j:Nat} (h:ixN n i=some j):seqIndex? i n=some j/\j < n/\-(n:Int)<=i/\i < n:=by
 unfold ixN at h
 by_cases h0:0<=i
 ·rw [if_pos h0] at h
  by_cases h1:i < n
  ·rw [if_pos h1] at h
   have e:i.toNat=j:=Option.some.inj h
   exact ⟨by rw [seqIndex_of h0 h1,e],by omega,by omega,h1⟩
  ·rw [if_neg h1] at h; cases h
 ·rw [if_neg h0] at h
  by_cases h1:-(n:Int)<=i
  ·rw [if_pos h1] at h
   have e:(i + n).toNat=j:=Option.some.inj h
   exact ⟨by rw [seqIndex_neg (by omega) h1,e],by omega,h1,by omega⟩
  ·rw [if_neg h1] at h; cases h
theorem qi {α:Type} {xs:List α} {i:Int} {v:α} (h:atI xs i=some v):∃ j,seqIndex? i xs.length=some j/\xs[j]?=some v/\j < xs.length/\-(xs.length:Int)<=i/\i < xs.length:=by
 unfold atI at h
 cases e:ixN xs.length i with
 | none=>rw [e] at h; cases h
 | some j=>
  rw [e] at h
  obtain ⟨h1,h2,h3,h4⟩:=Bu e
  exact ⟨j,h1,h,h2,h3,h4⟩
theorem fH {α:Type} {xs:List α} {j:Nat} {v:α} (h:xs[j]?=some v):atI xs (j:Int)=some v:=by
 have hj:j < xs.length:=(List.getElem?_eq_some_iff.mp h).1
 have e:ixN xs.length (j:Int)=some j:=by
  unfold ixN
  rw [if_pos (by omega),if_pos (by omega)]; simp
 unfold atI; rw [e]; exact h
noncomputable def Bv (b:Expr):Prop:=∀ o i,subscripted b false o i=operate [o,i] (getItem o i)
noncomputable def IxR (X:Cx) (r:R2):Prop:=
 ∀ (value slice:Expr) (pins:List (Addr×Obj)) (s:Shared) (σ:St) (H:Hp) (x y:V) (v u:Value) (Q:VK),Inv X pins σ H s->aE x v->aE y u->r x y H Q->
  subscripted slice false v u=operate [v,u] (getItem v u)->wpAny (model X.prog X.w) X.A (subscriptTail value slice v u) (EP X pins σ Q) X.xe s
noncomputable def MtR (X:Cx) (id:String) (r:V->List V->Hp->VK->Prop):Prop:=
 ∀ (pins:List (Addr×Obj)) (s:Shared) (σ:St) (H:Hp) (x:V) (xs:List V) (v:Value) (us:List Value) (Q:VK),Inv X pins σ H s->aE x v->aD xs us->r x xs H Q->
  wpAny (model X.prog X.w) X.A (call (.builtin id) (v :: us)) (EP X pins σ Q) X.xe s
section
variable {X:Cx} {a b:Expr} {ta tb:TE} {pos:Pos}
theorem IxR.or {r r':R2} (h:IxR X r) (h':IxR X r'):IxR X (fun x y H Q=>r x y H Q\/r' x y H Q):=by
 intro value slice pins s σ H x y v u Q I rx ry q hs
 rcases q with q | q
 ·exact h value slice pins s σ H x y v u Q I rx ry q hs
 ·exact h' value slice pins s σ H x y v u Q I rx ry q hs
theorem MtR.or {id:String} {r r':V->List V->Hp->VK->Prop} (h:MtR X id r) (h':MtR X id r'):MtR X id (fun x xs H Q=>r x xs H Q\/r' x xs H Q):=by
 intro pins s σ H x xs v us Q I rx rs q
 rcases q with q | q
 ·exact h pins s σ H x xs v us Q I rx rs q
 ·exact h' pins s σ H x xs v us Q I rx rs q
theorem be {r:R2} (hr:IxR X r) (ha:PE X a ta) (hb:PE X b tb) (hs:Bv b):PE X (.Subscript a b pos) (tOp r ta tb):=by
 intro pins s σ H Q I h
 exact Subscript_ (zH ha hb I h fun v u s2 x y H2 I2 rx ry q=>hr a b pins s2 σ H2 x y v u Q I2 rx ry q (hs _ _))
noncomputable def fh (K:PySem.W.Frag):R2:=fun x y H Q=>∃ p xs i v,x=.ref p/\y=.int i/\SqL K H p xs/\atI xs i=some v/\Q v H
noncomputable def dJ (K:PySem.W.Frag):R2:=fun x y H Q=>∃ p xs i v,x=.ref p/\y=.int i/\SqT K H p xs/\atI xs i=some v/\Q v H
theorem ci:IxR X (fh X.K):=by
 intro value slice pins s σ H x y v u Q I rx ry h hs
 obtain ⟨p,xs,i,z,rfl,rfl,hq,he,q⟩:=h
 cases rx
 obtain ⟨t,rfl⟩:=ry
 obtain ⟨its,r,pl,hz⟩:=I.list hq
 obtain ⟨j,h1,h2,h3,h4,h5⟩:=qi he
 obtain ⟨w,ew,rw'⟩:=r.get h2
 have hl:=r.length
 have hn:=oP
 have fin:EP X pins σ Q w s:=⟨z,H,I,rw',q⟩
 by_cases h0:0<=i
 ·have hj:i.toNat=j:=by
   rw [seqIndex_of h0 h5] at h1
   exact Option.some.inj h1
  exact item_listR pl.isList h0 (by omega) (by rw [hj]; simpa using ew) fin hs
 ·have hj:(i + (its.toArray.size:Int)).toNat=j:=by
   rw [seqIndex_neg (by omega) h4] at h1
   rw [List.size_toArray,<-hl]
   exact Option.some.inj h1
  exact subscriptTail_builtinR (x:=w) pl.isList.typeIs slot_list_getitem.lookup
   (wpAny_getItem_list_neg (Q:=fun r s'=>r=w/\EP X pins σ Q r s') pl.isList (by omega) (by rw [List.size_toArray] <;> omega) (by omega) (by rw [hj]; simpa using ew) ⟨rfl,fin⟩) hs
theorem bV:IxR X (dJ X.K):=by
 intro value slice pins s σ H x y v u Q I rx ry h hs
 obtain ⟨p,xs,i,z,rfl,rfl,hq,he,q⟩:=h
 cases rx
 obtain ⟨t,rfl⟩:=ry
 obtain ⟨its,r,pl,hz⟩:=I.tuple hq
 obtain ⟨j,h1,h2,h3,h4,h5⟩:=qi he
 obtain ⟨w,ew,rw'⟩:=r.get h2
 have hl:=r.length
 have hn:=oP
 have fin:EP X pins σ Q w s:=⟨z,H,I,rw',q⟩
 exact subscriptTail_builtinR (x:=w) pl.typeIs slot_tuple_getitem.lookup
  (getItem_tuple (j:=j) (Q:=fun r s'=>r=w/\EP X pins σ Q r s') pl (by omega) (by omega) (by rw [List.size_toArray,<-hl]; exact h1) (by simpa using ew) ⟨rfl,fin⟩) hs
theorem Inv.lst {pins:List (Addr×Obj)} {σ:St} {H:Hp} {s:Shared} {p:Addr} {xs:List V} (I:Inv X pins σ H s) (h:H p=some (.lst xs)):
  ∃ (its:List Value) (n:Nat),aD xs its/\s.heap.get? p=some { cls:=.type "list",data:=.seq its.toArray n }/\xs.length<=sizeLine:=by
 obtain ⟨z,its,n,r,e⟩:=I.hok p _ h
 exact ⟨its,n,r,e,z⟩
noncomputable def dq:V->Bool
 | .non=>true
 | .bl _=>true
 | .int _=>true
 | .str _=>true
 | _=>false
noncomputable def eqV:V->V->Bool
 | .non,.non=>true
 | .bl a,.bl b=>a == b
 | .bl a,.int b=>(if a then 1 else 0) == b
 | .int a,.bl b=>a == (if b then 1 else 0)
 | .int a,.int b=>a == b
 | .str a,.str b=>a == b
 | _,_=>false
theorem yp {A:Around} {s:Shared} {y x:V} {u v:Value} (ry:aE y u) (rx:aE x v) (fy:dq y=true) (fx:dq x=true):SeqAt.EqAt A s u v (eqV y x):=by
 cases y with
 | non=>
  cases ry
  cases x with
  | non=>cases rx; exact SeqAt.EqAt.same _
  | bl b=>cases rx; exact SeqAt.EqAt.none_bool b
  | int b=>obtain ⟨t,rfl⟩:=rx; exact SeqAt.EqAt.none_int b t
  | str b=>obtain ⟨t,rfl⟩:=rx; exact SeqAt.EqAt.none_str b t
  | _=>exact absurd (show false=true from fx) Bool.false_ne_true
 | bl a=>
  cases ry
  cases x with
  | non=>cases rx; exact SeqAt.EqAt.bool_none a
  | bl b=>cases rx; exact SeqAt.EqAt.bool_bool a b
  | int b=>obtain ⟨t,rfl⟩:=rx; exact SeqAt.EqAt.bool_int a b t
  | str b=>obtain ⟨t,rfl⟩:=rx; exact SeqAt.EqAt.bool_str a b t
  | _=>exact absurd (show false=true from fx) Bool.false_ne_true
 | int a=>
  obtain ⟨t',rfl⟩:=ry
  cases x with
  | non=>cases rx; exact SeqAt.EqAt.int_none a t'
  | bl b=>cases rx; exact SeqAt.EqAt.int_bool a t' b
  | int b=>obtain ⟨t,rfl⟩:=rx; exact SeqAt.EqAt.int_int a t' b t
  | str b=>obtain ⟨t,rfl⟩:=rx; exact SeqAt.EqAt.int_str a t' b t
  | _=>exact absurd (show false=true from fx) Bool.false_ne_true
 | str a=>
  obtain ⟨t',rfl⟩:=ry
  cases x with
  | non=>cases rx; exact SeqAt.EqAt.str_none a t'
  | bl b=>cases rx; exact SeqAt.EqAt.str_bool a t' b
  | int b=>obtain ⟨t,rfl⟩:=rx; exact SeqAt.EqAt.str_int a t' b t
  | str b=>obtain ⟨t,rfl⟩:=rx; exact SeqAt.EqAt.str_str a t' b t
  | _=>exact absurd (show false=true from fx) Bool.false_ne_true
 | _=>exact absurd (show false=true from fy) Bool.false_ne_true
noncomputable def eqU (x:V) (u:Value):Bool:=match u with
 | .none=>eqV .non x
 | .bool b=>eqV (.bl b) x
 | .int i _=>eqV (.int i) x
 | .str z _=>eqV (.str z) x
 | _=>false
theorem tI {x y:V} {u:Value} (r:aE y u) (f:dq y=true):eqU x u=eqV y x:=by
 cases y with
 | non=>cases r; rfl
 | bl b=>cases r; rfl
 | int i=>obtain ⟨t,rfl⟩:=r; rfl
 | str z=>obtain ⟨t,rfl⟩:=r; rfl
 | _=>exact absurd (show false=true from f) Bool.false_ne_true
theorem kC {x:V}:∀ {xs:List V} {us:List Value},aD xs us->xs.all dq=true->us.any (eqU x)=xs.any fun y=>eqV y x
 | _,_,.nil,_=>rfl
 | y :: xs,u :: us,.cons r t,f=>by
  rw [List.all_cons,Bool.and_eq_true] at f
  rw [List.any_cons,List.any_cons,tI r f.1,kC t f.2]
theorem iJ {A:Around} {s:Shared} {x:V} {v:Value} (rx:aE x v) (fx:dq x=true):∀ {xs:List V} {us:List Value},aD xs us->xs.all dq=true->∀ u∈us,SeqAt.EqAt A s u v (eqU x u)
 | _,_,.nil,_=>fun u hu=>by cases hu
 | y :: xs,u :: us,.cons r t,f=>fun u' hu=>by
  rw [List.all_cons,Bool.and_eq_true] at f
  rcases List.mem_cons.mp hu with rfl | hu
  ·rw [tI r f.1]; exact yp r rx f.1 fx
  ·exact iJ rx fx t f.2 u' hu
noncomputable def inV (x:V) (xs:List V):Bool:=xs.any fun y=>eqV y x
noncomputable def rIn (K:PySem.W.Frag) (neg:Bool):R2:=fun x y H Q=>∃ p xs,y=.ref p/\(SqL K H p xs\/SqT K H p xs)/\dq x=true/\xs.all dq=true/\Q (.bl (if neg then !inV x xs else inV x xs)) H
theorem yq:OpR X (compareOp .In) (rIn X.K false):=by
 intro pins s σ H x y v u Q I rx ry h
 obtain ⟨p,xs,rfl,hq,fx,fs,q⟩:=h
 cases ry
 rcases hq with hq | hq
 ·obtain ⟨its,r,pl,hz⟩:=I.list hq
  refine SeqAt.in_listAt (eqU x) pl.isList (fun w hw=>iJ rx fx r fs w (by simpa using hw)) ⟨.bl _,H,I,rfl,?_⟩
  rw [show its.toArray.any (eqU x)=its.any (eqU x) by simp,kC r fs]
  exact q
 ·obtain ⟨its,r,pl,hz⟩:=I.tuple hq
  refine SeqAt.in_tupleAt (eqU x) pl (fun w hw=>iJ rx fx r fs w (by simpa using hw)) ⟨.bl _,H,I,rfl,?_⟩
  rw [show its.toArray.any (eqU x)=its.any (eqU x) by simp,kC r fs]
  exact q
theorem jP:OpR X (compareOp .NotIn) (rIn X.K true):=by
 intro pins s σ H x y v u Q I rx ry h
 obtain ⟨p,xs,rfl,hq,fx,fs,q⟩:=h
 cases ry
 rcases hq with hq | hq
 ·obtain ⟨its,r,pl,hz⟩:=I.list hq
  refine SeqAt.notIn_listAt (eqU x) pl.isList (fun w hw=>iJ rx fx r fs w (by simpa using hw)) ⟨.bl _,H,I,rfl,?_⟩
  rw [show its.toArray.any (eqU x)=its.any (eqU x) by simp,kC r fs]
  exact q
 ·obtain ⟨its,r,pl,hz⟩:=I.tuple hq
  refine SeqAt.notIn_tupleAt (eqU x) pl (fun w hw=>iJ rx fx r fs w (by simpa using hw)) ⟨.bl _,H,I,rfl,?_⟩
  rw [show its.toArray.any (eqU x)=its.any (eqU x) by simp,kC r fs]
  exact q
theorem bj:dF X (.builtin "len") (fun xs H Q=>∃ p ys,xs=[.ref p]/\(SqL X.K H p ys\/SqT X.K H p ys)/\Q (.int ys.length) H):=by
 intro pins s σ H xs us Q I r h
 obtain ⟨p,ys,rfl,hq,q⟩:=h
 obtain ⟨u,rfl,rx⟩:=wU r
 cases rx
 have hn:=oP
 rcases hq with hq | hq
 ·obtain ⟨its,r',pl,hz⟩:=I.list hq
  have hlen:=r'.length
  exact Calls.call_len_list pl.isList (by simp only [List.size_toArray] <;> omega) ⟨.int ys.length,H,I.tok _,⟨s.toks + 1,by rw [List.size_toArray,hlen]⟩,q⟩
 ·obtain ⟨its,r',pl,hz⟩:=I.tuple hq
  have hlen:=r'.length
  exact len_tuple pl (by simp only [List.size_toArray] <;> omega) ⟨.int ys.length,H,I.tok _,⟨s.toks + 1,by rw [List.size_toArray,hlen]⟩,q⟩
theorem dF.or {f:Value} {r r':List V->Hp->VK->Prop} (h:dF X f r) (h':dF X f r'):dF X f (fun xs H Q=>r xs H Q\/r' xs H Q):=by
 intro pins s σ H xs us Q I rs q
 rcases q with q | q
 ·exact h pins s σ H xs us Q I rs q
 ·exact h' pins s σ H xs us Q I rs q
theorem tK:dF X (.type "list") (fun xs H Q=>∃ p ys,xs=[.ref p]/\(SqL X.K H p ys\/SqT X.K H p ys)/\∀ l,H l=none->Q (.ref l) (upd H l (.lst ys))):=by
 intro pins s σ H xs us Q I r h
 obtain ⟨p,ys,rfl,hq,q⟩:=h
 obtain ⟨u,rfl,rx⟩:=wU r
 cases rx
 have fin:∀ (its:List Value),aD ys its->ys.length<=sizeLine->∀ (h':Heap) (c':Nat),(∀ b o',s.heap.get? b=some o'->h'.get? b=some o')->
   h'.get? s.heap.objs.size=some { cls:=.type "list",dict:=none,data:=.seq its.toArray c',slots:=#[] }->EP X pins σ Q (.ref s.heap.objs.size) { s with heap:=h' }:=fun its r' hz h' c' kp e=>
  ⟨.ref s.heap.objs.size,_,I.laid (t':=s.toks) kp (Nat.le_refl _) (show bR X.prog X.w _ h' _ (.lst ys) from ⟨hz,its,c',r',e⟩),rfl,q _ (I.hok.fresh (Nat.le_refl _))⟩
 rcases hq with hq | hq
 ·obtain ⟨its,r',pl,hz⟩:=I.list hq
  have hlen:=r'.length
  obtain ⟨o,ho,hc,n,hd⟩:=pl.isList
  exact call_list_seq p (.inl rfl) ho hc hd (fun h' c' kp e=>fin its r' hz h' c' kp e) (by simp only [List.size_toArray] <;> omega)
 ·obtain ⟨its,r',pl,hz⟩:=I.tuple hq
  have hlen:=r'.length
  obtain ⟨o,ho,hc,n,hd⟩:=pl
  exact call_list_seq p (.inr rfl) ho hc hd (fun h' c' kp e=>fin its r' hz h' c' kp e) (by simp only [List.size_toArray] <;> omega)
theorem rK:dF X (.type "tuple") (fun xs H Q=>∃ p ys,xs=[.ref p]/\((SqL X.K H p ys/\∀ l,H l=none->Q (.ref l) (upd H l (.tup ys)))\/(SqT X.K H p ys/\Q (.ref p) H))):=by
 intro pins s σ H xs us Q I r h
 obtain ⟨p,ys,rfl,h⟩:=h
 obtain ⟨u,rfl,rx⟩:=wU r
 cases rx
 rcases h with ⟨hq,q⟩ | ⟨hq,q⟩
 ·obtain ⟨its,r',pl,hz⟩:=I.list hq
  have hlen:=r'.length
  refine call_tuple_list pl.isList (fun h' kp=>?_) (by simp only [List.size_toArray] <;> omega)
  have I1:Inv X pins σ H { s with heap:=h' }:=I.kept (t':=s.toks) kp
  have I2:Inv X pins σ (upd H h'.objs.size (.tup ys)) { s with heap:=h'.push { cls:=.type "tuple",data:=.seq its.toArray } }:=
   I1.laid (t':=s.toks) (fun b o e=>Heap.get?_push_of_some _ e) (Nat.le_refl _) (show bR X.prog X.w _ _ _ (.tup ys) from ⟨hz,its,r',fB.new _ _⟩)
  exact ⟨.ref h'.objs.size,_,I2,rfl,q _ (I1.hok.fresh (Nat.le_refl _))⟩
 ·obtain ⟨its,r',pl,hz⟩:=I.tuple hq
  exact call_tuple_same pl ⟨.ref p,H,I,rfl,q⟩
noncomputable def tyV (K:PySem.W.Frag) (T:String) (x:V) (H:Hp):Prop:=match x with
 | .str _=>T="str"
 | .int _=>T="int"
 | .ref p=>(T="list"/\∃ xs,SqL K H p xs)\/(T="tuple"/\∃ o,K.lookup p=some o/\o.cls=.type "tuple"/\o.dict=none)\/
   (T="dict"/\((∃ kvs,H p=some (.dK kvs))\/∃ kvs,H p=some (.dT kvs)))\/(T="set"/\∃ S n,H p=some (.set S n))
 | _=>False
theorem CB {pins:List (Addr×Obj)} {σ:St} {H:Hp} {s:Shared} {T:String} {x:V} {v:Value} (I:Inv X pins σ H s) (r:aE x v) (ty:tyV X.K T x H):
  s.TypeIs v T/\∀ a,v=.ref a->∃ ob,s.heap.get? a=some ob/\ob.dict=none:=by
 cases x with
 | str z=>
  obtain ⟨t,rfl⟩:=r
  cases (show T="str" from ty)
  exact ⟨typeIs_str s z t,fun _ e=>nomatch e⟩
 | int i=>
  obtain ⟨t,rfl⟩:=r
  cases (show T="int" from ty)
  exact ⟨typeIs_int s i t,fun _ e=>nomatch e⟩
 | ref p=>
  cases r
  rcases ty with ⟨rfl,xs,hq⟩ | ⟨rfl,o,hk,hc,hd⟩ | ⟨rfl,hk⟩ | ⟨rfl,S,n,hk⟩
  ·obtain ⟨its,_,pl,_⟩:=I.list hq
   refine ⟨pl.isList.typeIs,fun a e=>?_⟩
   cases e
   obtain ⟨o,n,e,c,hd,_⟩:=pl
   exact ⟨o,e,hd⟩
  ·refine ⟨⟨o,I.kIn p o hk,hc⟩,fun a e=>?_⟩
   cases e
   exact ⟨o,I.kIn _ o hk,hd⟩
  ·have z:∃ o,s.heap.get? p=some o/\o.ExactDict:=by
    rcases hk with ⟨kvs,hk⟩ | ⟨kvs,hk⟩
    ·obtain ⟨_,_,_,_,o,_,_,e,ex,_⟩:=I.hok p _ hk
     exact ⟨o,e,ex⟩
    ·obtain ⟨_,_,_,_,o,_,_,e,ex,_⟩:=I.hok p _ hk
     exact ⟨o,e,ex⟩
   obtain ⟨o,e,ex⟩:=z
   refine ⟨⟨o,e,ex.1⟩,fun a e2=>?_⟩
   cases e2
   exact ⟨o,e,ex.2.1⟩
  ·obtain ⟨o,_,_,_,e,ex,_⟩:=I.hok p _ hk
   refine ⟨⟨o,e,ex.1⟩,fun a e2=>?_⟩
   cases e2
   exact ⟨o,e,ex.2.1⟩
 | _=>exact False.elim ty
noncomputable def EJ (K:PySem.W.Frag) (T:String) (r:V->List V->Hp->VK->Prop) (to:TE):TE:=fun σ H Q=>to σ H fun x H1=>tyV K T x H1/\r x [] H1 Q
noncomputable def tBM (K:PySem.W.Frag) (T:String) (r:V->List V->Hp->VK->Prop) (to:TE) (t:TA):TE:=fun σ H Q=>to σ H fun x H1=>tyV K T x H1/\t σ H1 fun xs H2=>r x xs H2 Q
variable {o e:Expr} {es:List Expr} {to:TE} {t:TA} {name:Str} {apos cpos:Pos} {T id:String} {r:V->List V->Hp->VK->Prop}
theorem sS (pa:PlainAttrs T) (slot:Slot T name id) (hty:typeOf (.builtin id)=pure (.type "method_descriptor")) (hm:MtR X id r) (ho:PE X o to) (ha:PA X (e :: es) t)
  (hbase:attributeBase o name X.env (eval o X.env)=eval o X.env:=by rfl)
  (hfew:((backTo cpos (starEach (e :: es) X.env)).all (fun x=>!x.1) && (backToKw cpos (keywordEach [] X.env)).all (fun x=>x.1.isSome)
   && decide ((e :: es).length + ([]:List Keyword).length + (if ([]:List Keyword).isEmpty then 0 else 1) < 30))=true:=by rfl)
  (hline:(apos.endLine == cpos.line)=true:=by rfl) (hs:starEach (e :: es) X.env=(false,eval e X.env) :: starEach es X.env:=by rfl) (hplain:(backTo cpos (starEach es X.env)).any (·.1)=false:=by rfl):
  PE X (.Call (.Attribute o name apos) (e :: es) [] cpos) (tBM X.K T r to t):=by
 intro pins s σ H Q I h
 refine wpAny_Call_method_late hbase hfew hline rfl (thn (ho pins s σ H _ I h) fun v s1 ⟨x,H1,I1,r1,ty,q1⟩=>?_)
 obtain ⟨h1,h2⟩:=CB I1 r1 ty
 refine ⟨T,id,pa,slot,hty,h1,h2,?_⟩
 have hA:=ha cpos pins s1 σ H1 _ I1 q1
 rw [hs] at hA ⊢
 refine Calls.callWith_builtin (by show (false || (backTo cpos (starEach es X.env)).any (·.1))=false; rw [hplain] <;> rfl) (Calls.evalArgs_plain ?_)
 exact thn hA fun us s2 ⟨vs,H2,I2,r2,q2⟩=>hm pins s2 σ H2 x vs v us Q I2 r1 r2 q2
end
end L2
namespace L2
open PySem PySem.Spec PyProof.Rows
noncomputable def MtM (X:Cx) (id:String) (r:V->List V->Hp->VK->Prop):Prop:=
 ∀ (pins:List (Addr×Obj)) (s:Shared) (σ:St) (H:Hp) (x:V) (xs:List V) (v:Value) (us:List Value) (Q:VK),Inv X pins σ H s->aE x v->aD xs us->r x xs H Q->
  wpAny (model X.prog X.w) X.A (call (.builtin id) (v :: us)) (EP X pins σ Q) X.xe s
theorem aD.one {x:V} {us:List Value} (h:aD [x] us):∃ u,us=[u]/\aE x u:=by
 cases h with
 | cons r t=>cases t; exact ⟨_,rfl,r⟩
theorem aD.two {x y:V} {us:List Value} (h:aD [x,y] us):∃ u v,us=[u,v]/\aE x u/\aE y v:=by
 cases h with
 | cons r t=>cases t with
  | cons q z=>cases z; exact ⟨_,_,rfl,r,q⟩
theorem aD.zero:∀ {us:List Value},aD [] us->us=[]
 | _,.nil=>rfl
section
variable {X:Cx} {pins:List (Addr×Obj)} {σ:St} {H:Hp} {s:Shared} {l b:Addr} {xs ys zs:List V}
theorem Inv.lset {its its':List Value} {n:Nat} {f:Array Value->Array Value} {t':Nat} (I:Inv X pins σ H s) (hH:H l=some (.lst xs))
  (e:s.heap.get? l=some { cls:=.type "list",data:=.seq its.toArray n }) (hf:f its.toArray=its'.toArray) (hv:aD ys its') (hz:ys.length<=sizeLine):
  Inv X pins σ (upd H l (.lst ys)) { s with heap:=s.heap.update l (Obj.mapSeq f),toks:=t' }:=by
 have q:=PySem.IsL.update e f
 rw [hf] at q
 refine I.write (x:=l) (e:=l) (by rw [hH]; exact trivial) (.inl rfl) (fun b' u hb hu=>(Heap.get?_update_other s.heap (Obj.mapSeq f) (Ne.symm hb)).trans hu) ⟨_,q⟩ ?_
 exact ⟨hz,its',_,hv,q⟩
theorem Inv.lnew {its:List Value} {t':Nat} (I:Inv X pins σ H s) (hv:aD ys its) (hz:ys.length<=sizeLine):
  Inv X pins σ (upd H s.heap.objs.size (.lst ys)) { s with heap:=s.heap.push { cls:=.type "list",data:=.seq its.toArray },toks:=t' }:=
 I.laid (fun _ _ q=>Heap.get?_push_of_some _ q) (Nat.le_refl _) ⟨hz,its,0,hv,Heap.get?_push_size _ rfl⟩
theorem Inv.fresh (I:Inv X pins σ H s):H s.heap.objs.size=none:=I.hok.fresh (Nat.le_refl _)
theorem Inv.lstM (I:Inv X pins σ H s) (hH:H l=some (.lst xs)):xs.length<=sizeLine/\∃ (its:List Value) (n:Nat),aD xs its/\xs.length=its.length/\s.heap.get? l=some { cls:=.type "list",data:=.seq its.toArray n }:=by
 obtain ⟨z,its,n,r,e⟩:=I.hok l _ hH
 exact ⟨z,its,n,r,r.length,e⟩
theorem zP {n:Nat} (h:n<=sizeLine):Builtin.List.listTooLong n=false:=by
 unfold Builtin.List.listTooLong
 exact decide_eq_false (by omega)
end
section
variable {X:Cx}
noncomputable def kD:V->List V->Hp->VK->Prop:=fun x vs H Q=>∃ l xs y,x=.ref l/\vs=[y]/\H l=some (.lst xs)/\xs.length < sizeLine/\Q .non (upd H l (.lst (xs++[y])))
theorem jb:MtM X "list.append" kD:=by
 intro pins s σ H x vs v us Q I rx rv h
 obtain ⟨l,xs,y,rfl,rfl,hH,hz,q⟩:=h
 cases rx
 obtain ⟨u,rfl,ru⟩:=rv.one
 obtain ⟨z,its,n,r,hl,e⟩:=I.lstM hH
 refine call_meets F.slot_list_append ⟨_,e,rfl⟩ F.entry_list_append (F.args_list_append_2 _ _) (PySem.list_append l its.toArray n u (by rw [List.size_toArray]; omega)) ⟨e,?_⟩
 refine ⟨.non,_,I.lset (its':=its++[u]) hH e (by simp) (r.append (.cons ru .nil)) ?_,rfl,q⟩
 rw [List.length_append,List.length_singleton]
 omega
noncomputable def qj:V->List V->Hp->VK->Prop:=fun x vs H Q=>∃ l b xs zs,x=.ref l/\vs=[.ref b]/\H l=some (.lst xs)/\H b=some (.lst zs)/\xs.length + zs.length<=sizeLine/\Q .non (upd H l (.lst (xs++zs)))
theorem yr:MtM X "list.extend" qj:=by
 intro pins s σ H x vs v us Q I rx rv h
 obtain ⟨l,b,xs,zs,rfl,rfl,hH,hB,hz,q⟩:=h
 cases rx
 obtain ⟨u,rfl,ru⟩:=rv.one
 cases ru
 obtain ⟨z,its,n,r,hl,e⟩:=I.lstM hH
 obtain ⟨z2,its2,n2,r2,hl2,e2⟩:=I.lstM hB
 have hsz:its.toArray.size + its2.toArray.size<=sizeLine:=by rw [List.size_toArray,List.size_toArray]; omega
 have hlong:¬ (!its.toArray.isEmpty && Builtin.List.listTooLong (its.toArray.size + its2.toArray.size))=true:=by
  rw [zP hsz,Bool.and_false]
  exact Bool.false_ne_true
 refine call_meets F.slot_list_extend ⟨_,e,rfl⟩ F.entry_list_extend (F.args_list_extend_2 _ _)
  (AutoSeq1.list_extend_list_list_0 l its.toArray n b its2.toArray n2 hlong (by rw [List.size_toArray]; omega) (by omega)) ⟨e,e2,?_⟩
 refine ⟨.non,_,I.lset (its':=its++its2) hH e (by simp) (r.append r2) ?_,rfl,q⟩
 rw [List.length_append]
 omega
noncomputable def CC:R2:=fun x y H Q=>∃ l b xs zs,x=.ref l/\y=.ref b/\H l=some (.lst xs)/\H b=some (.lst zs)/\xs.length + zs.length<=sizeLine/\∀ p,H p=none->Q (.ref p) (upd H p (.lst (xs++zs)))
theorem yt:OpR X (binaryOp .Add) CC:=by
 intro pins s σ H x y v u Q I rx ry h
 obtain ⟨l,b,xs,zs,rfl,rfl,hH,hB,hz,q⟩:=h
 cases rx
 cases ry
 obtain ⟨z,its,n,r,hl,e⟩:=I.lstM hH
 obtain ⟨z2,its2,n2,r2,hl2,e2⟩:=I.lstM hB
 refine PySem.P.add_list e e2 ?_ (by rw [List.size_toArray,List.size_toArray]; omega)
 have ea:its.toArray++its2.toArray=(its++its2).toArray:=by simp
 rw [ea]
 exact ⟨.ref _,_,I.lnew (t':=s.toks) (r.append r2) (by rw [List.length_append]; omega),rfl,q _ I.fresh⟩
end
section
variable {prog:Program} {w:World} {A:Around} {E:Value->Shared->Prop} {s:Shared}
end
section
variable {X:Cx}
end
end L2
namespace Att
open PySem PySem.W PySem.Calls PyProof.Rows
theorem oT {P:Params} {h:Heap}:∀ (ns:List Int) (vs:List Value),WellAll P h vs (ns.map WData.int)->IntsAre vs ns:=by
 intro ns
 induction ns with
 | nil=>
  intro vs w
  rw [List.map_nil] at w
  cases w
  exact .nil
 | cons n ns ih=>
  intro vs w
  rw [List.map_cons] at w
  cases w with
  | cons a b=>
   cases a
   exact .cons _ _ (ih _ b)
theorem re {l:OpenLaw} {n:Nat} (hn:l.most=some n) {P:Params} {h:Heap} {args:List WData} {vals:List Value}
  (hpre:l.row.toRowW.claim.pre args=true) (hwl:WellAll P h vals args):
  ∃ a vs ns,vals=[Value.ref a]/\args=[WData.list (ns.map WData.int)]/\h.get? a=some { cls:=.type "list",data:=.seq vs.toArray }/\IntsAre vs ns/\ns.length<=n:=by
 have hsh:WShape.hasAll [] args [.list .int]=true:=(pre_splitW hpre).1
 have hc:l.pre.holds [] { args:=args }=true:=(pre_splitW hpre).2
 obtain ⟨d,r,rfl,h1,h2⟩:=hasAllW_cons hsh
 obtain rfl:=hasAllW_nil h2
 obtain ⟨xs,rfl,h3⟩:=hasW_list h1
 obtain ⟨ns,rfl⟩:=items_int h3
 have hlen:ns.length<=n:=by
  unfold OpenLaw.pre at hc
  have h4:(WTm.not (.lt (.lit (.int (n:Int))) (.len (.arg 0)))).holds [] { args:=[.list (ns.map .int)] }=true:=by
   have h4:=(holds_andW hc).1
   rw [hn] at h4
   exact h4
  have h5:=condW_of h4 (w_not (w_lt w_lit (w_len_list (w_arg rfl))))
  rw [List.length_map] at h5
  refine Nat.le_of_not_lt fun q=>?_
  have q':(n:Int) < ((ns.length:Nat):Int):=by omega
  first
   | (rw [decide_eq_true q'] at h5; exact absurd h5 (by decide))
   | (simp at h5; omega)
 cases hwl with
 | cons w1 w2=>
  cases w2
  cases w1 with
  | list ho hall=>exact ⟨_,_,ns,rfl,rfl,ho,oT ns _ hall,hlen⟩
theorem rf (l:OpenLaw) (args:List WData):l.row.toRowW.claim.post args (.bool true) args=true:=
 postW_of (r:=l.row.toRowW) (X:=(true == true))
  (show WShape.has [] (.bool true) .bool=true by first | rfl | decide | simp [WShape.has,WShape.arms,WShape.armsAll])
  (show (WTm.eq .res (.lit (.bool true))).value [] { args:=args,res:=some (.bool true),after:=args }=some (.bool (true == true)) from w_eq_bool (w_res rfl) w_lit) rfl
theorem vv {l:OpenLaw} {n:Nat} {q:Program} {loose:List Str} {XP:(Str->Option Value)->Heap->Prop} {YP:World->Heap->Prop} {d:DefRec}
  (hn:l.most=some n) (hdf:d.params.defaults=[])
  (call:∀ (w:World) (s₀ s₁:Shared) (mg mb:Str->Option Value) (fa:Addr) (o:Obj) (pm cd doc:Value) (a:Addr) (vs:List Value) (ns:List Int),
   Ground q loose [] XP w s₀ mg mb s₁.heap->YP w s₁.heap->
   s₁.heap.get? fa=some o->o.data=.func (docDef d.name d.params d.body d.scope pm cd doc)->s₁.heap.CodeRec cd d.name->mg d.name=some (.ref fa)->
   s₁.heap.get? a=some { cls:=.type "list",data:=.seq vs.toArray }->IntsAre vs ns->ns.length<=n->s₁.gens=#[]->
   codeAny (model l.prog w) callerA (.call (.ref fa) ⟨[.ref a],[]⟩) (fun r s'=>r=.ok (.ret (.bool true))/\OldK s₁.heap s'.heap/\s'.os=s₁.os/\AllBare s'.gens) s₁):
  WalkO q loose XP YP l.row.toRowW d [] (fun f vs=>PySem.call f vs):=by
 intro w s₀ s₁ mg mb G Y fa o pm cd doc dV kV ho hd hcd hD hmg hg args vals as hpre hlay hrd hwl hlo
 obtain rfl:dV=.none:=Dflts.none hD hdf
 obtain rfl:kV=.none:=Dflts.noKw hD
 obtain ⟨a,vs,ns,rfl,rfl,hobj,hints,hlen⟩:=re hn hpre hwl
 refine enter_call (codeAny_mono (call w s₀ s₁ mg mb fa o pm cd doc a vs ns G Y ho (fd_plain hd) hcd hmg hobj hints hlen hg) fun r s' hq=>?_)
 obtain ⟨rfl,h2,h3,h4⟩:=hq
 exact ⟨.inl ⟨.bool true,.bool true,[],rfl,fun _=>rfl,.bool true,rf l _,fun _=>⟨List.Pairwise.nil,fun _ hm=>(nomatch hm)⟩⟩,h2,h3,h4⟩
section
variable {prog:Program} {w:World} {A:Around} {E:Value->Shared->Prop} {s:Shared} {K:Frag}
noncomputable def E2 (h:Heap) (L d:Addr):List (Addr×Obj):=(List.range h.objs.size).filterMap fun a=>if a=L\/a=d then none else (h.get? a).map fun o=>(a,o)
end
end Att
namespace L2
open PySem PySem.Spec PyProof.Rows
theorem ml:∀ {vs:List Value} {ns:List Int},IntsAre vs ns->aD (ns.map V.int) vs
 | _,_,.nil=>.nil
 | _,_,.cons n t h=>.cons ⟨t,rfl⟩ (ml h)
noncomputable def zQ (H:Hp):Prop:=∀ b,H b=none\/∃ o xs,H b=some (.frz o (.lst xs))
theorem zR {P:Program} {w:World} {K:PySem.W.Frag} {mg mb:Str->Option Value} {CX:CXT} {k:Nat} {fa a:Addr} {fd:FuncData} {x:Str} {sp:Sp} {s₁:Shared} {vs:List Value} {ns:List Int}
  (KX:K.In s₁.heap) (hns:s₁.heap.Ns mainGlobals mg) (hb:s₁.heap.Ns builtinsNs mb) (hbb:∀ x:Str,x≠"__name__"->mb x=bootBuiltins x) (hlim:s₁.heap.NoLimit) (hg:s₁.gens=#[])
  (ha:s₁.heap.get? a=some { cls:=.type "list",data:=.seq vs.toArray }) (hi:IntsAre vs ns) (hl:ns.length<=sizeLine) (hr:bz k callerA)
  (F:∀ base:Heap,K.In base->base.Ns mainGlobals mg->cb P w K mg base CX k fa fd [x] sp) (hbind:∀ (s:Shared) (u:Value),BindsTo s fd ⟨[u],[]⟩ [(x,u)])
  (hsp:∀ H:Hp,zQ H->SqL K H a (ns.map V.int)->sp [.ref a] H (fun v _=>v=.bl true) fun _ _ _=>False)
  (hCX:∀ H e s',CX [] H s₁ (fun _ _ _=>False) e s'->False):
  codeAny (model P w) callerA (.call (.ref fa) ⟨[.ref a],[]⟩) (fun r s'=>r=.ok (.ret (.bool true))/\OldK s₁.heap s'.heap/\s'.os=s₁.os/\AllBare s'.gens) s₁:=by
 have rv:=ml hi
 have lenV:=hi.length
 have core:∀ H:Hp,zQ H->SqL K H a (ns.map V.int)->HOk P w H s₁.heap->(∀ b,H b≠none->b=a)->(H a≠none->K.lookup a=none)->
   codeAny (model P w) callerA (.call (.ref fa) ⟨[.ref a],[]⟩) (fun r s'=>r=.ok (.ret (.bool true))/\OldK s₁.heap s'.heap/\s'.os=s₁.os/\AllBare s'.gens) s₁:=by
  intro H hO hS hok hA hK
  have base_of:∀ {b:Addr} {o:Obj},s₁.heap.get? b=some o->H b=none->(gX s₁.heap H).get? b=some o:=fun e n=>kX e n
  have noA:∀ {b:Addr} {o:Obj} {es:Array DictEntry} {ep:Nat},s₁.heap.get? b=some o->o.data=.dict es ep->H b=none:=fun {b o es ep} e d=>by
   cases q:H b with
   | none=>rfl
   | some u=>
    have e':b=a:=hA b (by rw [q]; simp)
    subst e'
    rw [ha] at e; cases e
    have d':Data.seq vs.toArray _=Data.dict es ep:=d
    cases d'
  have nsK:∀ {b:Addr} {m:Str->Option Value},s₁.heap.Ns b m->(gX s₁.heap H).Ns b m:=fun {b m} ⟨o,es,ep,e,d,r⟩=>⟨o,es,ep,base_of e (noA e d),d,r⟩
  have hKb:K.In (gX s₁.heap H):=fun b o e=>base_of (KX b o e) (by
   cases q:H b with
   | none=>rfl
   | some u=>
    have e':b=a:=hA b (by rw [q]; simp)
    subst e'
    rw [hK (by rw [q]; simp)] at e; cases e)
  have hM:Mod K mg (gX s₁.heap H):=⟨hKb,nsK hns,⟨mb,nsK hb,hbb⟩,let ⟨mc,h1,h2⟩:=hlim; ⟨mc,nsK h1,h2⟩⟩
  have e0:jM P w K mg (gX s₁.heap H) callerA [] s₁ H:=⟨rfl,hM,fun b o e=>wf e,Nat.le_of_eq (qW _ _),trivial,fun b hb=>absurd (show b∈([]:List Addr) from hb) (by simp),hok,.of_eq hg⟩
  refine codeAny_mono ((F _ hKb (nsK hns)).run callerA [] s₁ H ⟨[.ref a],[]⟩ [.ref a] [.ref a] _ _ hr e0 (hbind s₁ (.ref a)) (.cons rfl .nil) (hsp H hO hS)) fun r s' h=>?_
  cases r with
  | error e=>exact (hCX H e s' h).elim
  | ok fl=>
   cases fl with
   | next=>exact False.elim h
   | brk=>exact False.elim h
   | cont=>exact False.elim h
   | ret u=>
    obtain ⟨v,H',os,bare,un,hok',r',q⟩:=h
    have q':v=.bl true:=q
    subst q'
    obtain rfl:u=Value.bool true:=r'
    refine ⟨rfl,OldK.of_keep fun b o e=>?_,os,bare⟩
    cases q:H b with
    | none=>exact un.keep b o e q (by intro z; exact absurd (show b∈([]:List Addr) from z) (by simp)) (by simp)
    | some u=>
     rcases hO b with z | ⟨ob,xs,z⟩
     ·rw [q] at z; cases z
     ·have z2:=un.frzs b ob _ z
      obtain ⟨e1,_⟩:=hok b _ z
      obtain ⟨e2,_⟩:=hok' b _ z2
      rw [e] at e1; cases e1
      exact e2
 cases hk:K.lookup a with
 | some o=>
  have e:=KX a o hk
  rw [ha] at e
  cases e
  refine core (fun _=>none) (fun _=>.inl rfl) (.inr ⟨_,vs.toArray,_,hk,rfl,rfl,rfl,by rw [List.size_toArray,lenV]; exact hl,by simpa using rv⟩) (fun b u z=>by have z':(none:Option HO)=some u:=z; cases z') (fun b z=>absurd rfl z) fun z=>absurd rfl z
 | none=>
  refine core (fun b=>if b=a then some (.frz { cls:=.type "list",data:=.seq vs.toArray } (.lst (ns.map V.int))) else none) (fun b=>?_) (.inl (.inr ⟨{ cls:=.type "list",data:=.seq vs.toArray },if_pos rfl⟩)) (fun b u z=>?_) (fun b z=>?_) fun _=>hk
  ·by_cases hb:b=a
   ·exact .inr ⟨_,_,if_pos hb⟩
   ·exact .inl (if_neg hb)
  ·by_cases hb:b=a
   ·have z':=(if_pos hb).symm.trans z
    cases z'
    subst hb
    exact ⟨ha,by rw [List.length_map]; exact hl,vs,_,rv,ha⟩
   ·have z':=(if_neg hb).symm.trans z
    cases z'
  ·by_cases hb:b=a
   ·exact hb
   ·exact absurd (if_neg hb) z
end L2
namespace L2
open PySem PySem.Spec PyProof.Rows
noncomputable abbrev KOf {K:PySem.W.Frag} {h:Heap} (_:K.In h):PySem.W.Frag:=K
theorem EZ {l:PySem.W.OpenLaw} {n k:Nat} {q:Program} {loose:List Str} {XP:(Str->Option Value)->Heap->Prop} {YP:World->Heap->Prop} {d:DefRec} {K:Params->PySem.W.Frag} {CX:World->CXT} {sp:World->Sp} {x:Str}
  (hn:l.most=some n) (hn2:n<=sizeLine) (hdf:d.params.defaults=[]) (hr:bz k callerA)
  (hY:∀ (w:World) (h:Heap),YP w h->(K w.params).In h)
  (F:∀ (w:World) (mg:Str->Option Value) (fa:Addr) (h:Heap),(K w.params).In h->h.Ns mainGlobals mg->mg d.name=some (.ref fa)->
   ∃ fd:FuncData,(∀ (s:Shared) (u:Value),BindsTo s fd ⟨[u],[]⟩ [(x,u)])/\
    ∀ base:Heap,(K w.params).In base->base.Ns mainGlobals mg->cb l.prog w (K w.params) mg base (CX w) k fa fd [x] (sp w))
  (hsp:∀ (w:World) (H:Hp) (a:Addr) (ns:List Int),ns.length<=n->zQ H->SqL (K w.params) H a (ns.map V.int)->sp w [.ref a] H (fun v _=>v=.bl true) fun _ _ _=>False)
  (hCX:∀ (w:World) (H:Hp) (s:Shared) (e:Value) (s':Shared),CX w [] H s (fun _ _ _=>False) e s'->False):
  PySem.W.WalkO q loose XP YP l.row.toRowW d [] (fun f vs=>PySem.call f vs):=by
 refine Att.vv hn hdf fun w s₀ s₁ mg mb fa o pm cd doc a vs ns G Y ho hd hcd hmg hobj hints hlen hg=>?_
 have KX:=hY w _ Y
 obtain ⟨fd,hb,hF⟩:=F w mg fa _ KX G.T.g hmg
 exact zR KX G.T.g G.T.b G.T.builtins G.T.nolimit hg hobj hints (Nat.le_trans hlen hn2) hr hF hb (fun H hO hS=>hsp w H a ns hlen hO hS) fun H e s'=>hCX w H s₁ e s'
end L2
namespace L2
open PySem PySem.Spec PyProof.Rows
noncomputable def qk (s:Stmt) (j:Nat):Stmt:=match s with
 | .ClassDef _ _ _ body _ _ _ _ _ _ _=>body.getD j (.Pass ⟨0,0,0,0⟩)
 | _=>.Pass ⟨0,0,0,0⟩
noncomputable def aG (s:Stmt):Arguments:=match s with
 | .FunctionDef _ a _ _ _ _ _ _ _ _=>a
 | _=>{ posonlyargs:=[],args:=[],vararg:=none,kwonlyargs:=[],kw_defaults:=[],kwarg:=none,defaults:=[] }
noncomputable def ay (s:Stmt):List Stmt:=match s with
 | .FunctionDef _ _ b _ _ _ _ _ _ _=>b
 | _=>[]
noncomputable def aa (s:Stmt):Scope:=match s with
 | .FunctionDef _ _ _ _ _ _ sc _ _ _=>sc
 | _=>{ kind:=.function,names:=[],isGenerator:=false,isCoroutine:=false }
noncomputable abbrev CX0:CXT:=fun _ _ _ _ _ _=>False
noncomputable abbrev E0:XK:=fun _ _ _=>False
theorem sT {X:Cx}:jN CX0 X E0:=fun _ _ _ _ _ _ _ h=>h.elim
structure Fun (K:PySem.W.Frag) (x qual:Str) (st:Stmt) (f:Addr) (fd:FuncData):Prop where
 ex:∃ (oc:Value) (od:Option Addr) (kV doc pm:Value) (an:Option Addr) (cdv ct:Value) (osl:Array (Option Value)),
  fd=PySem.W.fnOf x qual (aG st) (ay st) (aa st) .none kV doc pm an cdv ct/\K.lookup f=some ⟨oc,od,.func fd,osl⟩/\PySem.W.codeIn K cdv qual=true
 kp:PySem.W.keepIn K (.ref f)=true
section
variable {P:Program} {w:World} {K:PySem.W.Frag} {mg:Str->Option Value} {base:Heap}
theorem Fun.ok {x qual:Str} {st:Stmt} {f:Addr} {fd:FuncData} {N ps:List Str} {k:Nat} {sp:Sp} (F:Fun K x qual st f fd) (S:aA N ps (aa st)) (len:∀ vs H Q E,sp vs H Q E->vs.length=ps.length)
  (hbody:∀ (cdv:Value) (A:Around) (outer:List Env) (s:Shared) (H:Hp) (vs:List V) (Q:VK) (E:XK),bz k (A.deeper (envOfC qual (aa st) s.heap.objs.size f cdv))->sp vs H Q E->
   ∃ t,PSs (jO CX0 P w K mg base N qual (aa st) f cdv A outer s H E).nox (ay st) t/\t { nx:=fun _ H'=>Q .non H',rt:=Q } (aN N vs) H):cb P w K mg base CX0 (k + 1) f fd ps sp:=by
 obtain ⟨oc,od,kV,doc,pm,an,cdv,ct,osl,rfl,lk,hcd⟩:=F.ex
 refine AZ lk hcd S len fun A outer s H vs Q E hr hsp=>?_
 obtain ⟨t,h,q⟩:=hbody cdv A outer s H vs Q E hr hsp
 exact ⟨t,h.nox,q⟩
theorem Fun.binds {x qual:Str} {st:Stmt} {f:Addr} {fd:FuncData} {ps:List Str} (F:Fun K x qual st f fd)
  (h:∀ (kV doc pm:Value) (an:Option Addr) (cdv ct:Value) (us:List Value),us.length=ps.length->bindArgs (PySem.W.fnOf x qual (aG st) (ay st) (aa st) .none kV doc pm an cdv ct) ⟨us,[]⟩=pure (ps.zip us)):eZ K fd ps []:=by
 obtain ⟨oc,od,kV,doc,pm,an,cdv,ct,osl,rfl,lk,hcd⟩:=F.ex
 exact .all (h kV doc pm an cdv ct)
theorem aP {x qual:Str} {st:Stmt} {f:Addr} {oc:Value} {od an:Option Addr} {osl:Array (Option Value)} {kV doc pm cdv ct:Value} (l:K.lookup f=some ⟨oc,od,.func (PySem.W.fnOf x qual (aG st) (ay st) (aa st) .none kV doc pm an cdv ct),osl⟩)
  (c:PySem.W.codeIn K cdv qual=true) (k:PySem.W.keepIn K (.ref f)=true):Fun K x qual st f (PySem.W.fnOf x qual (aG st) (ay st) (aa st) .none kV doc pm an cdv ct):=⟨⟨oc,od,kV,doc,pm,an,cdv,ct,osl,rfl,l,c⟩,k⟩
end
theorem yu {n:Nat} (h:n<=1000):n < sizeLine:=Nat.lt_of_le_of_lt h (by decide)
section
variable {X:Cx}
theorem pv (i:Nat) {x:Str} {pos:Pos} (hN:X.N[i]?=some x:=by rfl) (hv:Vis X.env.scope x:=by first | exact Or.inl rfl | exact Or.inr (Or.inl rfl) | exact Or.inr (Or.inr rfl)) (hd:(x == ("__debug__":Str))=false:=by decide)
  (hcd:(x == ("__classdict__":Str))=false:=by decide):PE X (.Name x pos) (ac i):=yb hN hv hd hcd
end
theorem mm {A B:Prop} (h:B):if false=true then A else B:=by
 rw [if_neg Bool.false_ne_true]
 exact h
theorem mn {A B:Prop} (h:A):if true=true then A else B:=by
 rw [if_pos rfl]
 exact h
noncomputable def al (H H':Hp):Prop:=∀ b o,H b=some o->H' b=some o
theorem al.refl (H:Hp):al H H:=fun _ _ h=>h
theorem al.trans {H H1 H2:Hp} (a:al H H1) (b:al H1 H2):al H H2:=fun c o h=>b c o (a c o h)
theorem al.free {H H':Hp} (e:al H H') {l:Addr} (h:H' l=Option.none):H l=Option.none:=by
 cases q:H l with
 | none=>rfl
 | some o=>
  rw [e l o q] at h
  cases h
theorem al.seq {K:PySem.W.Frag} {H H':Hp} {a:Addr} {xs:List V} (e:al H H') (h:SqL K H a xs):SqL K H' a xs:=by
 rcases h with (h | ⟨o,h⟩) | h
 ·exact .inl (.inl (e _ _ h))
 ·exact .inl (.inr ⟨o,e _ _ h⟩)
 ·exact .inr h
end L2
end
section
namespace L2
open PySem PySem.Spec PyProof.Rows
theorem jh {a b:Addr} {n:Nat} (h:a < n) (h':n<=b):a≠b:=Nat.ne_of_lt (Nat.lt_of_lt_of_le h h')
theorem CD {a b:Addr} {n:Nat} (h:n<=a) (h':b < n):a≠b:=Nat.ne_of_gt (Nat.lt_of_lt_of_le h' h)
noncomputable def cD (env:Env):List (Str×NameKind)->List (Str×Addr)->List (Str×Addr)
 | [],acc=>acc
 | (n,k) :: r,acc=>if k=.free then (match env.cells.lookup n with | some c=>cD env r ((n,c) :: acc) | none=>cD env r acc) else cD env r acc
theorem jr {env:Env}:∀ (ns:List (Str×NameKind)) (acc:List (Str×Addr)),(∀ p∈acc,env.cells.lookup p.1=some p.2)->∀ p∈cD env ns acc,env.cells.lookup p.1=some p.2
 | [],acc,h=>by intro p hp; exact h p hp
 | (n,k) :: r,acc,h=>by
  intro p hp
  rw [cD] at hp
  split at hp
  ·split at hp
   ·rename_i c hc
    refine jr r _ (fun q hq=>?_) p hp
    rcases List.mem_cons.mp hq with rfl | hq
    ·exact hc
    ·exact h q hq
   ·exact jr r acc h p hp
  ·exact jr r acc h p hp
theorem lc {env:Env}:∀ (ns:List (Str×NameKind)) (acc:List (Str×Addr)),∀ p∈acc,p∈cD env ns acc
 | [],acc=>fun p hp=>hp
 | (n,k) :: r,acc=>fun p hp=>by
  rw [cD]
  split
  ·split
   ·exact lc r _ p (List.mem_cons_of_mem _ hp)
   ·exact lc r acc p hp
  ·exact lc r acc p hp
theorem ld {env:Env}:∀ (ns:List (Str×NameKind)) (acc:List (Str×Addr)) (x:Str) (c:Addr),(x,NameKind.free)∈ns->env.cells.lookup x=some c->(x,c)∈cD env ns acc
 | [],acc,x,c=>fun h _=>(nomatch h)
 | (n,k) :: r,acc,x,c=>fun h hc=>by
  rw [cD]
  rcases List.mem_cons.mp h with e | h
  ·cases e
   rw [if_pos rfl,hc]
   exact lc r _ _ List.mem_cons_self
  ·split
   ·split
    ·exact ld r _ x c h hc
    ·exact ld r acc x c h hc
   ·exact ld r acc x c h hc
theorem lz {α:Type} {x:Str} {c:α}:∀ {l:List (Str×α)},(x,c)∈l->∃ d,l.lookup x=some d
 | (y,d) :: r,h=>by
  rw [List.lookup_cons]
  cases e:x == y with
  | true=>exact ⟨d,rfl⟩
  | false=>
   rcases List.mem_cons.mp h with q | q
   ·cases q
    rw [beq_self_eq_true] at e
    cases e
   ·exact lz q
theorem bX {env:Env} {ns:List (Str×NameKind)} {x:Str} {c:Addr} (h:(cD env ns []).lookup x=some c):env.cells.lookup x=some c:=
 jr ns [] (fun _ hp=>(nomatch hp)) (x,c) (PySem.mem_of_lookup h)
theorem jc {env:Env} {ns:List (Str×NameKind)} {x:Str} {c:Addr} (hm:(x,NameKind.free)∈ns) (hc:env.cells.lookup x=some c):(cD env ns []).lookup x=some c:=by
 obtain ⟨d,hd⟩:=lz (ld ns [] x c hm hc)
 have e:=bX hd
 rw [hc] at e
 cases e
 exact hd
theorem js {scope:Scope} {env:Env} (h:∀ y∈scope.names,y.2=.free->∃ c,env.cells.lookup y.1=some c):closureFor scope env=pure (cD env scope.names []):=by
 have go:∀ (ns:List (Str×NameKind)) (acc:List (Str×Addr)),(∀ y∈ns,y.2=.free->∃ c,env.cells.lookup y.1=some c)->
   (forIn ns acc fun (x:Str×NameKind) (cs:List (Str×Addr))=>(match x with
    | (name,kind)=>if (kind == NameKind.free)=true then (do let c <-cellOf env name; pure (ForInStep.yield ((name,c) :: cs))) else pure (ForInStep.yield cs):Sem (ForInStep (List (Str×Addr)))))=(pure (cD env ns acc):Sem (List (Str×Addr))):=by
  intro ns
  induction ns with
  | nil=>intro acc _; rfl
  | cons y r ih=>
   intro acc hy
   obtain ⟨n,k⟩:=y
   have ih':=fun acc=>ih acc fun z hz=>hy z (List.mem_cons_of_mem _ hz)
   rw [List.forIn_cons,cD]
   by_cases hk:k=.free
   ·subst hk
    obtain ⟨c,hc⟩:=hy (n,.free) List.mem_cons_self rfl
    have hc':env.cells.lookup n=some c:=hc
    simp only [beq_self_eq_true,if_true,cellOf,hc',pure_bind]
    exact ih' _
   ·have hb:(k == NameKind.free)=false:=by simpa using hk
    simp only [hb,Bool.false_eq_true,if_false,pure_bind,if_neg hk]
    exact ih' _
 unfold closureFor
 have g:=go scope.names [] h
 simp only [bind_pure]
 exact g
structure mv (sc scope:Scope) (NX N:List Str) (ix:List (Option Nat)):Prop where
 kind:scope.kind=.function
 nocell:∀ y∈scope.names,y.2≠.cell
 names:∀ y∈scope.names,y.2=.local->scope.names.lookup y.1=some .local
 free:∀ y∈scope.names,y.2=.free->sc.names.lookup y.1=some .cell\/sc.names.lookup y.1=some .free
 nd:N.Nodup
 len:ix.length=N.length
 at_:∀ p∈N.zip ix,∀ i∈p.2,NX[i]?=some p.1/\scope.names.lookup p.1=some .free
noncomputable def sub (ix:List (Option Nat)) (σ:St):St:=ix.map fun o=>match o with | some i=>(match σ[i]? with | some v=>v | none=>none) | none=>none
noncomputable def cH (X:Cx) (N:List Str) (scope:Scope) (C:Addr) (s:Shared) (H:Hp) (fp:List Addr):Cx where
 prog:=X.prog
 w:=X.w
 K:=X.K
 mg:=X.mg
 base:=X.base
 A:=X.A
 N:=N
 s₀:=s
 H₀:=H
 env:=compEnvC scope (cD X.env scope.names []) C X.env
 outer:=X.stack
 stack:=X.stack
 ex:=fp
 fn:=fun _=>false
 calm:=X.calm
 pn:=[]
 xe:=fun _ _=>False
theorem hG {scope:Scope} {env:Env} {x:Str} {k:NameKind} (h:(relabel scope env).names.lookup x=some k):scope.names.lookup x=some k\/(k=.cell/\scope.names.lookup x=some .free):=by
 have go:∀ ns:List (Str×NameKind),(ns.map fun (n,k)=>if (k == NameKind.free && env.scope.kind == .function && env.kindOf n == some .cell) then (n,NameKind.cell) else (n,k)).lookup x=some k->
   ns.lookup x=some k\/(k=.cell/\ns.lookup x=some .free):=by
  intro ns
  induction ns with
  | nil=>intro q; simp at q
  | cons y r ih=>
   obtain ⟨n,k'⟩:=y
   intro q
   rw [List.map_cons] at q
   by_cases hc:(k' == NameKind.free && env.scope.kind == .function && env.kindOf n == some .cell)=true
   ·simp only [hc,if_true] at q
    have hk':k'=.free:=by
     have:=(Bool.and_eq_true _ _ ▸ hc)
     have h1:=(Bool.and_eq_true _ _ ▸ this.1)
     exact eq_of_beq h1.1
    subst hk'
    rw [List.lookup_cons] at q ⊢
    cases e:x == n with
    | true=>
     rw [e] at q
     cases q
     exact .inr ⟨rfl,rfl⟩
    | false=>
     rw [e] at q
     exact ih q
   ·simp only [hc] at q
    rw [if_neg (by simp)] at q
    rw [List.lookup_cons] at q ⊢
    cases e:x == n with
    | true=>rw [e] at q; exact .inl q
    | false=>rw [e] at q; exact ih q
 exact go scope.names h
theorem mw {scope:Scope} {env:Env} {x:Str} (h:scope.names.lookup x=some .free):(relabel scope env).names.lookup x=some .cell\/(relabel scope env).names.lookup x=some .free:=by
 have go:∀ ns:List (Str×NameKind),ns.lookup x=some .free->
   (ns.map fun (n,k)=>if (k == NameKind.free && env.scope.kind == .function && env.kindOf n == some .cell) then (n,NameKind.cell) else (n,k)).lookup x=some .cell\/
   (ns.map fun (n,k)=>if (k == NameKind.free && env.scope.kind == .function && env.kindOf n == some .cell) then (n,NameKind.cell) else (n,k)).lookup x=some .free:=by
  intro ns
  induction ns with
  | nil=>intro q; simp at q
  | cons y r ih=>
   obtain ⟨n,k'⟩:=y
   intro q
   rw [List.map_cons]
   rw [List.lookup_cons] at q
   cases e:x == n with
   | true=>
    rw [e] at q
    cases q
    by_cases hc:(NameKind.free == NameKind.free && env.scope.kind == .function && env.kindOf n == some .cell)=true
    ·simp only [hc,if_true]
     rw [List.lookup_cons,e]
     exact .inl rfl
    ·simp only [hc]
     rw [if_neg (by simp),List.lookup_cons,e]
     exact .inr rfl
   | false=>
    rw [e] at q
    have z:=ih q
    by_cases hc:(k' == NameKind.free && env.scope.kind == .function && env.kindOf n == some .cell)=true
    ·simp only [hc,if_true]
     rw [List.lookup_cons,e]
     exact z
    ·simp only [hc]
     rw [if_neg (by simp),List.lookup_cons,e]
     exact z
 exact go scope.names h
theorem Inv.gone {X:Cx} {pins:List (Addr×Obj)} {σ σ₂:St} {H H₂:Hp} {s s₂:Shared} {C:Addr} {h'':Heap} (I:Inv X pins σ H s) (I2:Inv X pins σ₂ H₂ s₂) (hC:s₂.heap.objs.size<=C) (hn:H C=none) (hs:Heap.SameBut C s.heap h''):Inv X pins σ H { s with heap:=h'' }:=
 I.turned (t':=s.toks) (it:=C) (fun b o hb e=>hs.extBut b o hb e) hn (Nat.ne_of_gt (Nat.lt_of_lt_of_le I2.lt hC)) (.inr (Nat.le_trans I2.sz hC))
  (fun x c e=>by
   obtain ⟨v,o,ho,_⟩:=I2.cell x c e
   exact jh (Heap.lt_size ho) hC) fun q hq=>jh (Heap.lt_size (I2.pin q hq).1) hC
noncomputable def PTL (X:Cx) (ifs:List Expr) (t:TT):Prop:=
 ∀ (pins:List (Addr×Obj)) (s:Shared) (σ:St) (H:Hp) (Q:Bool->Hp->Prop),Inv X pins σ H s->t σ H Q->
  wpAny (model X.prog X.w) X.A (forIn ifs true fun c r=>if r=true then do let ok <-isTrue c X.env (eval c X.env); pure (ForInStep.yield ok) else pure (ForInStep.yield r)) (TP X pins σ Q) X.xe s
noncomputable def b8:TT:=fun _ H Q=>Q true H
theorem cI {X:Cx}:PTL X [] b8:=fun _ _ _ H _ I h=>wpAny_tests_nil ⟨H,I,h⟩
theorem iK {X:Cx} {c:Expr} {t:TT} (h:PT X c t):PTL X [c] t:=fun pins s σ H Q I q=>wpAny_tests_one (h pins s σ H Q I q)
noncomputable def dg (J:It) (g:TG) (tt:TT) (te:TE) (σ₀:St) (p:Addr) (Q:VK) (W:Nat->Nat->List V->Hp->Prop):Prop:=
 ∀ i m acc H,W i m acc H->H p=some (.lst acc)/\
  ((J.stop i H/\Q (.ref p) H)\/(J.go i H/\acc.length < sizeLine/\∃ N:List V->Hp->Prop,(∀ acc' H',N acc' H'->∃ m',m' < m/\W (i + 1) m' acc' H')/\
   ∀ x H1,J.yld i H x H1->g x σ₀ H1 fun σ2 H2=>tt σ2 H2 fun b H3=>if b=true then te σ2 H3 fun y H4=>H4 p=some (.lst acc)/\N (acc++[y]) (upd H4 p (.lst (acc++[y]))) else N acc H3))
noncomputable abbrev CF (α:Type):=Addr->Shared->Hp->List Addr->α
noncomputable def bT (wi:TI) (g:CF TG) (tt:CF TT) (te:CF TE) (ix:List (Option Nat)):TE:=fun σ H Q=>wi σ H fun J H1=>∀ p,H1 p=none->
 ∃ W:Nat->Nat->List V->Hp->Prop,(∃ m,W 0 m [] (upd H1 p (.lst [])))/\∀ C s' H' fp,dg J (g C s' H' fp) (tt C s' H' fp) (te C s' H' fp) (sub ix σ) p Q W
section
variable {X:Cx} {elt tg iter:Expr} {ifs:List Expr} {scope sc:Scope} {pos:Pos} {NX N:List Str} {ix:List (Option Nat)} {wi:TI} {g:CF TG} {tt:CF TT} {te:CF TE}
theorem rg {prog:Program} {w:World} {A:Around} {R:Result->Shared->Prop} {s:Shared} {it acc:Value} {env:Env} (I:Nat->Shared->Prop)
  (turn:∀ n s,I n s->wpAny (model prog w) A (pyNext it) (fun r s₁=>match r with
   | none=>R (.ok .next) s₁
   | some v=>wpAny (model prog w) A (letOwnedTupleGo tg it v) (fun _ s₁'=>wpAny (model prog w) A (assign tg env v) (fun _ s₂=>
     wpAny (model prog w) A (forIn ifs true fun c r=>if r=true then do let ok <-isTrue c env (eval c env); pure (ForInStep.yield ok) else pure (ForInStep.yield r)) (fun ok s₃=>
      if ok=true then wpAny (model prog w) A (eval elt env) (fun x s₄=>
       wpAny (model prog w) A (call (.builtin "list.append") [acc,x]) (fun _ s₅=>∃ m,m < n/\I m s₅) (fun _ _=>False) s₄) (fun _ _=>False) s₃
      else ∃ m,m < n/\I m s₃) (fun _ _=>False) s₂) (fun _ _=>False) s₁') (fun _ _=>False) s₁) (fun _ _=>False) s)
  (n:Nat) (h:I n s):codeAny (model prog w) A (.compLoop (.ListComp elt [⟨tg,iter,ifs,0⟩] scope pos) 0 it acc env) R s:=by
 refine codeAny_loop rfl I (fun n s hI=>?_) n h
 show wpAny _ A ((compTurn (.ListComp elt [⟨tg,iter,ifs,0⟩] scope pos) 0 it acc env).onRaise (fun x=>do noteFrame x env; theTreesLotGoes x)) _ _ s
 refine wpAny_noted ?_
 rw [compTurn_list]
 refine wpAny_bind (wpAny_standAt (wpAny_bind (wpAny_mono (turn n s hI) (fun r s₁ h₁=>?_) fun _ _ z=>z.elim)))
 cases r with
 | none=>exact wpAny_pure h₁
 | some v=>
  refine wpAny_bind (wpAny_mono h₁ (fun _ s₁' h₁'=>?_) fun _ _ z=>z.elim)
  refine wpAny_bind (wpAny_mono h₁' (fun _ s₂ h₂=>wpAny_bind (wpAny_mono h₂ (fun ok s₃ h₃=>?_) fun _ _ z=>z.elim)) fun _ _ z=>z.elim)
  cases ok with
  | false=>exact wpAny_pure ⟨rfl,h₃⟩
  | true=>exact wpAny_bind (wpAny_bind (wpAny_mono h₃ (fun x s₄ h₄=>wpAny_bind (wpAny_mono h₄ (fun _ s₅ h₅=>wpAny_pure (wpAny_pure ⟨rfl,h₅⟩)) fun _ _ z=>z.elim)) fun _ _ z=>z.elim))
theorem oU {pins:List (Addr×Obj)} {σ:St} {H:Hp} {s:Shared} {fp:List Addr} {it:Addr} {J:It} {tn:Nat->Heap->Prop} {Q:VK} {E:Value->Shared->Prop} {RR:Value->Addr->Result->Shared->Prop}
  (hc:X.calm=true) (hsc:X.env.scope=sc) (hNX:X.N=NX) (S:mv sc scope NX N ix)
  (hg:∀ C s H fp,PG (cH X N scope C s H fp) tg (g C s H fp)) (ht:∀ C s H fp,PTL (cH X N scope C s H fp) ifs (tt C s H fp)) (he:∀ C s H fp,PE (cH X N scope C s H fp) elt (te C s H fp))
  (I:Inv X pins σ H s) (T:ma X.prog X.w X.K tg J fp it tn) (st:tn 0 s.heap) (hf:∀ b∈fp,g9 X pins H b)
  (hq:∀ p,H p=none->∃ W:Nat->Nat->List V->Hp->Prop,(∃ m,W 0 m [] (upd H p (.lst [])))/\∀ C s' H' fp,dg J (g C s' H' fp) (tt C s' H' fp) (te C s' H' fp) (sub ix σ) p Q W)
  (hR:∀ p C s' H' m,s.heap.objs.size<=p->s.heap.objs.size<=C->s'.heap.Ns C m->H' C=none->Q (.ref p) H'->Inv X pins σ H' s'->RR (.ref p) C (.ok .next) s'):
  wpAny (model X.prog X.w) X.A (newList []) (fun acc s₃=>wpAny (model X.prog X.w) X.A (newFunctionEnv scope X.env.globals (cD X.env scope.names []) [] X.env.qual none .none (some X.env)) (fun cenv s₄=>
   codeAny (model X.prog X.w) X.A (.compStart (.ListComp elt [⟨tg,iter,ifs,0⟩] scope pos) 0 (.ref it) acc { cenv with scope:=relabel scope X.env }) (RR acc cenv.locals) s₄) E s₃) E s:=by
 refine wpAny_newObj_type (wpAny_newFunctionEnv S.nocell (by intro y hy; simp at hy) (fun h₁ hns₁ hsb₁=>?_) S.kind)
 dsimp only at hns₁ hsb₁ ⊢
 have hsz:(s.heap.push { cls:=.type "list",dict:=none,data:=.seq ([]:List Value).toArray }).objs.size=s.heap.objs.size + 1:=Heap.size_push ..
 generalize hC:(s.heap.push { cls:=.type "list",dict:=none,data:=.seq ([]:List Value).toArray }).objs.size=C at hns₁ hsb₁ ⊢
 rw [hsz] at hC
 generalize hp:s.heap.objs.size=p at hC
 have pC:p≠C:=by omega
 have old:∀ b o,s.heap.get? b=some o->h₁.get? b=some o:=fun b o e=>hsb₁.extBut b o (jh (Heap.lt_size e) (by omega)) (Heap.get?_push_of_some _ (Heap.get?_push_of_some _ e))
 have hnew:h₁.get? p=some { cls:=.type "list",data:=.seq ([]:List Value).toArray }:=hsb₁.extBut _ _ pC (Heap.get?_push_of_some _ (by rw [<-hp]; exact Heap.get?_push_size _ rfl))
 have hfp:H p=none:=I.hok.fresh (by omega)
 have hfC:H C=none:=I.hok.fresh (by omega)
 have lt:∀ b∈fp,b < p:=fun b hb=>by
  obtain ⟨o,e,_⟩:=T.obj 0 _ st b hb
  rw [<-hp]
  exact Heap.lt_size e
 have hcells:∀ y∈scope.names,y.2=.free->∃ c,X.env.cells.lookup y.1=some c:=fun y hy hk=>by
  refine I.ok.has y.1 ?_
  show X.env.scope.names.lookup y.1=some .cell\/X.env.scope.names.lookup y.1=some .free
  rw [hsc]
  exact S.free y hy hk
 have noown:∀ x,scope.names.lookup x≠some .cell:=fun x e=>S.nocell _ (PySem.mem_of_lookup e) rfl
 have hok:(cH X N scope C s H fp).Ok:=by
  refine ⟨I.ok.mod,S.kind,I.ok.glob,I.ok.blt,by show s.heap.objs.size<=C; omega,fun x y c h1 h2=>I.ok.inj x y c (bX h1) (bX h2),fun x hx=>?_,fun x c z=>(by cases z),I.ok.hd,I.ok.frames,.inl rfl,fun b hb=>?_,I.bs,Nat.le_trans I.ok.bsz I.sz,fun b o e hb=>?_,fun b hb z=>?_,I.stack,I.stkFree⟩
  ·have hx':scope.names.lookup x=some .free:=by
    rcases hx with hx | hx
    ·rcases hG hx with q | q
     ·exact absurd q (noown x)
     ·exact q.2
    ·rcases hG hx with q | q
     ·exact q
     ·exact q.2
   obtain ⟨c,hc'⟩:=hcells _ (PySem.mem_of_lookup hx') rfl
   exact ⟨c,jc (PySem.mem_of_lookup hx') hc'⟩
  ·refine ⟨?_,fun x c e=>(hf b hb).2.2.2.2.1 x c (bX e)⟩
   show b≠C
   exact jh (lt b hb) (by omega)
  ·rcases (hf b hb).2.2.2.1 with z | z
   ·exact I.ok.noex b o e z
   ·exact absurd (Nat.lt_of_lt_of_le (Heap.lt_size e) (Nat.le_trans I.ok.bsz z)) (Nat.lt_irrefl _)
  ·rcases List.mem_cons.mp (I.stkSub b z) with q | q
   ·exact (hf b hb).2.1 q
   ·exact (hf b hb).2.2.1 q
 have locs:∀ h':Heap,(∀ x c o,X.env.cells.lookup x=some c->s.heap.get? c=some o->∃ sl,h'.get? c=some { o with slots:=sl })->
   ∀ (i:Nat) (x:Str) (v:V),N[i]?=some x->(sub ix σ)[i]?=some (some v)->∃ u,aE v u/\∀ m,zB (compEnvC scope (cD X.env scope.names []) C X.env) h' m x u:=by
  intro h' hk i x v h1 h2
  obtain ⟨k,hk',hv⟩:∃ k,ix[i]?=some (some k)/\σ[k]?=some (some v):=by
   unfold sub at h2
   rw [List.getElem?_map] at h2
   cases e:ix[i]? with
   | none=>rw [e] at h2; cases h2
   | some o=>
    rw [e] at h2
    cases o with
    | none=>cases h2
    | some k=>
     refine ⟨k,rfl,?_⟩
     have h2':(match σ[k]? with | some v=>v | none=>none)=some v:=Option.some.inj h2
     cases e2:σ[k]? with
     | none=>rw [e2] at h2'; cases h2'
     | some z=>
      rw [e2] at h2'
      rw [show z=some v from h2']
  have hm:(x,some k)∈N.zip ix:=by
   refine List.mem_of_getElem? (i:=i) ?_
   rw [List.getElem?_zip_eq_some]
   exact ⟨h1,hk'⟩
  obtain ⟨a1,a2⟩:=S.at_ _ hm k (by simp)
  have hX:=S.free _ (PySem.mem_of_lookup a2) rfl
  have hvis:Vis X.env.scope x:=by
   show _\/_\/_
   rw [hsc]
   exact .inr hX
  obtain ⟨m,hn,hl⟩:=I.loc
  obtain ⟨u,r,l⟩:=hl k x v (by rw [hNX]; exact a1) hv hvis
  refine ⟨u,r,fun m'=>.inr ⟨mw a2,?_⟩⟩
  rcases l with ⟨l,_⟩ | ⟨_,c,e,z⟩
  ·have l':X.env.scope.names.lookup x=some .local:=l
   rw [hsc] at l'
   rcases hX with q | q <;> (rw [q] at l'; cases l')
  ·obtain ⟨o,ho,hd⟩:=z
   obtain ⟨sl,e'⟩:=hk x c o e ho
   exact ⟨c,jc (PySem.mem_of_lookup a2) e,_,e',hd⟩
 have hlen:(sub ix σ).length=N.length:=by
  unfold sub
  rw [List.length_map]
  exact S.len
 have I1:Inv (cH X N scope C s H fp) [] (sub ix σ) (upd H p (.lst [])) { s with heap:=h₁,toks:=s.toks + ([]:List (Str×Value)).length }:=by
  refine ⟨hok,rfl,I.bare,Un.laid old (Nat.le_of_eq hp) hfp,⟨_,hns₁,fun i x v h1 h2 h3=>?_⟩,fun x c e=>?_,?_,fun x c e=>?_,fun q hq=>(nomatch hq),I.hok.laid old (Nat.le_of_eq hp) ⟨Nat.zero_le _,[],0,.nil,hnew⟩,hlen⟩
  ·obtain ⟨u,r,l⟩:=locs h₁ (fun y c o _ ho=>⟨o.slots,old c o ho⟩) i x v h1 h2
   exact ⟨u,r,l _⟩
  ·obtain ⟨v,o,ho,hd⟩:=I.cell x c (bX e)
   exact ⟨v,o,old c o ho,hd⟩
  ·show upd H p _ C=none
   rw [aB (Ne.symm pC)]
   exact hfC
  ·have e':=bX e
   obtain ⟨v,o,ho,hd⟩:=I.cell x c e'
   rw [aB (jh (Heap.lt_size ho) (Nat.le_of_eq hp))]
   exact I.freeC x c e'
 have back:∀ {pl:List (Addr×Obj)} {σ':St} {H':Hp} {s':Shared},Inv (cH X N scope C s H fp) pl σ' H' s'->Inv (cH X N scope C s H fp) pl (sub ix σ) H' s':=fun {pl σ' H' s'} J=>by
  obtain ⟨m,hn,_⟩:=J.loc
  refine ⟨J.ok,J.os,J.bare,J.base,⟨m,hn,fun i x v h1 h2 h3=>?_⟩,J.cell,J.free,J.freeC,J.pin,J.hok,hlen⟩
  obtain ⟨u,r,l⟩:=locs s'.heap (fun y c o hc' ho=>J.base.any ho (I.freeC y c hc') fun hb=>(hf c hb).2.2.2.2.1 y c hc' rfl) i x v h1 h2
  exact ⟨u,r,l _⟩
 obtain ⟨W,⟨m0,w0⟩,turn⟩:=hq p hfp
 have st1:tn 0 h₁:=T.keep 0 _ _ st fun b _ o e=>old b o e
 have fp1:∀ {H':Hp},(∀ b∈fp,H' b=none)->∀ b∈fp,g9 (cH X N scope C s H fp) [] H' b:=fun {H'} hn b hb=>
  ⟨hn b hb,(hok.exf b hb).1,hok.exfs b hb,.inl hb,(hok.exf b hb).2,fun q hq=>(nomatch hq)⟩
 have loop:codeAny (model X.prog X.w) X.A (.compLoop (.ListComp elt [⟨tg,iter,ifs,0⟩] scope pos) 0 (.ref it) (.ref p) (compEnvC scope (cD X.env scope.names []) C X.env)) (RR (.ref p) C) { s with heap:=h₁,toks:=s.toks + ([]:List (Str×Value)).length }:=by
  refine rg (fun n s'=>∃ i acc H',Inv (cH X N scope C s H fp) [] (sub ix σ) H' s'/\tn i s'.heap/\(∀ b∈fp,H' b=none)/\W i n acc H') ?_ m0
   ⟨0,[],_,I1,st1,fun b hb=>by rw [aB (jh (lt b hb) (Nat.le_refl _))]; exact (hf b hb).1,w0⟩
  rintro n s3 ⟨i,acc,H3,I3,st3,fr3,w3⟩
  obtain ⟨hacc,w4⟩:=turn C s H fp i n acc H3 w3
  rcases w4 with ⟨stop,qn⟩ | ⟨go,hln,N',hN',step⟩
  ·refine thn (T.done (cH X N scope C s H fp) rfl rfl rfl hc i [] s3 _ H3 (fun _ _=>False) I3 (fp1 fr3) st3 stop) fun r s4 ⟨hr,I4⟩=>?_
   subst hr
   obtain ⟨m,hn,_⟩:=I4.loc
   refine hR p C s4 H3 m (by omega) (by omega) hn I4.free qn ?_
   exact I.call' I4.os I4.base I4.hok I4.bare fun b hb=>⟨(hf b hb).2.2.2.1,(hf b hb).2.1,(hf b hb).2.2.2.2.1,(hf b hb).2.2.2.2.2⟩
  ·refine thn (T.item (cH X N scope C s H fp) rfl rfl rfl hc i [] s3 _ H3 (fun _ _=>False) I3 (fp1 fr3) st3 go) fun r s4 ⟨u,hr,h4⟩=>?_
   subst hr
   refine thn h4 fun _ s5 ⟨x,H5,I5,r5,y5,st5,fr5⟩=>?_
   have I5':=I5.pinned (fp1 fr5) (T.obj _ _ st5)
   refine thn (hg C s H fp _ s5 _ H5 x u _ I5' r5 (step x H5 y5)) fun _ s6 ⟨σ6,H6,I6,q6⟩=>?_
   have later:∀ {s7:Shared} {H7:Hp} {acc':List V} {σ7:St},Inv (cH X N scope C s H fp) ([]++ku fp s5.heap) σ7 H7 s7->(∃ m',m' < n/\W (i + 1) m' acc' H7)->
     ∃ m,m < n/\∃ i acc H',Inv (cH X N scope C s H fp) [] (sub ix σ) H' s7/\tn i s7.heap/\(∀ b∈fp,H' b=none)/\W i m acc H':=fun {s7 H7 acc' σ7} I7 ⟨m',hm,w7⟩=>by
    refine ⟨m',hm,i + 1,acc',H7,back (I7.unpinned (pins:=[])),T.keep _ _ _ st5 fun b hb o e=>(I7.pin (b,o) (List.mem_append_right _ (List.mem_append_right _ (fY hb e)))).1,fun b hb=>?_,w7⟩
    obtain ⟨o,e,d⟩:=T.obj _ _ st5 b hb
    exact (I7.pin (b,o) (List.mem_append_right _ (List.mem_append_right _ (fY hb e)))).2.1
   refine thn (ht C s H fp _ s6 σ6 H6 _ I6 q6) fun ok s7 ⟨H7,I7,q7⟩=>?_
   cases ok with
   | false=>exact later I7 (hN' _ _ q7)
   | true=>
    refine thn (he C s H fp _ s7 σ6 H7 _ I7 q7) fun y s8 ⟨v8,H8,I8,r8,hacc8,w8⟩=>?_
    refine thn (jb (X:=cH X N scope C s H fp) _ s8 σ6 H8 (.ref p) [v8] (.ref p) [y] (fun _ H9=>H9=upd H8 p (.lst (acc++[v8]))) I8 rfl (.cons r8 .nil) ⟨p,acc,v8,rfl,rfl,hacc8,hln,rfl⟩) fun _ s9 ⟨_,H9,I9,_,e9⟩=>?_
    subst e9
    exact later I9 (hN' _ _ w8)
 exact codeAny_compStart_list loop (T.self _ 0 _ _ _ st1 loop)
theorem cj (hc:X.calm=true) (S:mv sc scope NX N ix) (hi:PI X tg iter wi)
  (hg:∀ C s H fp,PG (cH X N scope C s H fp) tg (g C s H fp)) (ht:∀ C s H fp,PTL (cH X N scope C s H fp) ifs (tt C s H fp)) (he:∀ C s H fp,PE (cH X N scope C s H fp) elt (te C s H fp))
  (hsc:X.env.scope=sc:=by rfl) (hNX:X.N=NX:=by rfl) (hs:∀ x,foldedSetIterable iter X.env x=pure x:=by intro _; rfl):
  PE X (.ListComp elt [⟨tg,iter,ifs,0⟩] scope pos) (bT wi g tt te ix):=by
 intro pins s σ H Q I h
 rw [eval_ListComp]
 have hcells:closureFor scope X.env=pure (cD X.env scope.names []):=js fun y hy hk=>by
  refine I.ok.has y.1 ?_
  show X.env.scope.names.lookup y.1=some .cell\/X.env.scope.names.lookup y.1=some .free
  rw [hsc]
  exact S.free y hy hk
 refine wpAny_comprehension_free (use:=none) rfl hs hcells S.kind S.names (thn (hi pins s σ H _ I h) fun v s1 h1=>thn h1 fun itv s2 h2=>?_)
 obtain ⟨it,fp,tn,J,H2,e,I2,T,st2,f2,hq⟩:=h2
 subst e
 refine oU (Q:=Q) (RR:=fun acc C=>compPost (model X.prog X.w) X.A X.xe none (EP X pins σ Q) acc C) hc hsc hNX S hg ht he I2 T st2 f2 hq ?_
 intro p C s' H' m hp hC hn hfree q I'
 exact ⟨m,hn,fun h'' hs''=>⟨.ref p,H',I'.gone I2 hC hfree hs'',rfl,q⟩⟩
theorem ju {i:Nat} {y:Str} {py spos:Pos} (hN:X.N.Nodup) (hy:X.N[i]?=some y) (hl:X.env.scope.names.lookup y=some .local) (hc:X.calm=true) (S:mv sc scope NX N ix) (hi:PI X tg iter wi)
  (hg:∀ C s H fp,PG (cH X N scope C s H fp) tg (g C s H fp)) (ht:∀ C s H fp,PTL (cH X N scope C s H fp) ifs (tt C s H fp)) (he:∀ C s H fp,PE (cH X N scope C s H fp) elt (te C s H fp))
  (hsw:swapsWith (.ListComp elt [⟨tg,iter,ifs,0⟩] scope pos) (some (.Name y py)) spos.line X.env=pure true:=by rfl)
  (hsc:X.env.scope=sc:=by rfl) (hNX:X.N=NX:=by rfl) (hs:∀ x,foldedSetIterable iter X.env x=pure x:=by intro _; rfl):
  PS X (.Assign [.Name y py] (.ListComp elt [⟨tg,iter,ifs,0⟩] scope pos) spos) (aU (bT wi g tt te ix) (am i)):=by
 intro pins s σ H D I h
 rw [exec_Assign_Name_used _ _ _ _ hsw]
 have hcells:closureFor scope X.env=pure (cD X.env scope.names []):=js fun z hz hk=>by
  refine I.ok.has z.1 ?_
  show X.env.scope.names.lookup z.1=some .cell\/X.env.scope.names.lookup z.1=some .free
  rw [hsc]
  exact S.free z hz hk
 refine wpAny_bind (wpAny_standAt (wpAny_bind ?_))
 show wpAny _ X.A (do let _ <-comprehension (.ListComp elt [⟨tg,iter,ifs,0⟩] scope pos) scope X.env _ (newList []) false (eval iter X.env) (some (assign (.Name y py) X.env))) _ _ s
 refine wpAny_bind (thn (wpAny_comprehension_free (use:=some (assign (.Name y py) X.env)) (Q:=fun _ s'=>SP X pins D .next s') rfl hs hcells S.kind S.names (thn (hi pins s σ H _ I h) fun v s1 h1=>thn h1 fun itv s2 h2=>?_)) fun _ s' q=>wpAny_pure (wpAny_pure q))
 obtain ⟨it,fp,tn,J,H2,e,I2,T,st2,f2,hq⟩:=h2
 subst e
 refine oU (Q:=fun x H1=>am i x σ H1 D.nx) (RR:=fun acc C=>compPost (model X.prog X.w) X.A X.xe (some (assign (.Name y py) X.env)) (fun _ s'=>SP X pins D .next s') acc C) hc hsc hNX S hg ht he I2 T st2 f2 hq ?_
 intro p C s' H' m hp hC hn hfree q I'
 refine wpAny_assign_Name (qX (v:=.ref p) I' hN hy (.inl hl) rfl (fun s'' I'' ⟨a,hsb,ha⟩=>?_) (.inr hl))
 have ne:C≠a:=by
  rcases ha with rfl | ha
  ·exact Nat.ne_of_gt (Nat.lt_of_lt_of_le I2.lt hC)
  ·obtain ⟨v,o,ho,_⟩:=I2.cell y a ha
   exact Nat.ne_of_gt (Nat.lt_of_lt_of_le (Heap.lt_size ho) hC)
 exact ⟨m,hn.sameBut hsb ne,fun h'' hs''=>⟨_,H',I''.gone I2 hC hfree hs'',q⟩⟩
end
section
variable {g:CF TG} {tt:CF TT} {te:CF TE} {σ₀:St} {p:Addr} {Q:VK} {H:Hp}
theorem nh {J:It} {n:Nat} {Y:Nat->Hp->V->Hp->Prop} (Pv:Nat->List V->Hp->Prop) (h0:Pv 0 [] (upd H p (.lst []))) (hp:∀ i acc H,i<=n->Pv i acc H->H p=some (.lst acc)/\acc.length<=i) (hz:n<=sizeLine)
  (hgo:∀ i acc H,i < n->Pv i acc H->J.go i H) (hst:∀ acc H,Pv n acc H->J.stop n H) (hy:∀ i acc H x H1,i < n->Pv i acc H->J.yld i H x H1->Y i H x H1)
  (hs:∀ C s' H' fp,∀ i x acc H H1,i < n->Pv i acc H->Y i H x H1->g C s' H' fp x σ₀ H1 fun σ2 H2=>tt C s' H' fp σ2 H2 fun b H3=>if b=true then te C s' H' fp σ2 H3 fun y H4=>H4 p=some (.lst acc)/\Pv (i + 1) (acc++[y]) (upd H4 p (.lst (acc++[y]))) else Pv (i + 1) acc H3)
  (hd:∀ acc H,Pv n acc H->Q (.ref p) H):
  ∃ W:Nat->Nat->List V->Hp->Prop,(∃ m,W 0 m [] (upd H p (.lst [])))/\∀ C s' H' fp,dg J (g C s' H' fp) (tt C s' H' fp) (te C s' H' fp) σ₀ p Q W:=by
 refine ⟨fun i m acc H=>m=n - i/\i<=n/\Pv i acc H,⟨n,by simp,Nat.zero_le _,h0⟩,?_⟩
 rintro C s' H' fp i m acc H ⟨rfl,hi,w⟩
 obtain ⟨h1,h2⟩:=hp i acc H hi w
 refine ⟨h1,?_⟩
 by_cases hlt:i < n
 ·exact .inr ⟨hgo i acc H hlt w,by omega,Pv (i + 1),fun acc' H' q=>⟨n - (i + 1),by omega,rfl,hlt,q⟩,fun x H1 y=>hs C s' H' fp i x acc H H1 hlt w (hy i acc H x H1 hlt w y)⟩
 ·have e:i=n:=by omega
  subst e
  exact .inl ⟨hst acc H w,hd acc H w⟩
theorem rh {K:PySem.W.Frag} {a:Addr} {xs:List V} (Pv:Nat->List V->Hp->Prop) (h0:Pv 0 [] (upd H p (.lst []))) (hp:∀ i acc H,i<=xs.length->Pv i acc H->H p=some (.lst acc)/\acc.length<=i) (hl:∀ i acc H,i<=xs.length->Pv i acc H->SqL K H a xs) (hz:xs.length<=sizeLine)
  (hs:∀ C s' H' fp,∀ i x acc H,xs[i]?=some x->Pv i acc H->g C s' H' fp x σ₀ H fun σ2 H2=>tt C s' H' fp σ2 H2 fun b H3=>if b=true then te C s' H' fp σ2 H3 fun y H4=>H4 p=some (.lst acc)/\Pv (i + 1) (acc++[y]) (upd H4 p (.lst (acc++[y]))) else Pv (i + 1) acc H3)
  (hd:∀ acc H,Pv xs.length acc H->Q (.ref p) H):
  ∃ W:Nat->Nat->List V->Hp->Prop,(∃ m,W 0 m [] (upd H p (.lst [])))/\∀ C s' H' fp,dg (Itl K a) (g C s' H' fp) (tt C s' H' fp) (te C s' H' fp) σ₀ p Q W:=
 nh (Y:=fun i H x H1=>H1=H/\xs[i]?=some x) Pv h0 hp hz (fun i acc H hi w=>⟨xs,xs[i],hl i acc H (Nat.le_of_lt hi) w,by simp [hi]⟩) (fun acc H w=>⟨xs,hl _ acc H (Nat.le_refl _) w,Nat.le_refl _⟩)
  (fun i acc H x H1 hi w y=>⟨y.1,y.2 xs (hl i acc H (Nat.le_of_lt hi) w)⟩) (fun C s' H' fp i x acc H H1 hi w y=>by
   obtain ⟨e,y⟩:=y
   subst e
   exact hs C s' H' fp i x acc _ y w) hd
theorem oV {lo:Int} {n:Nat} (Pv:Nat->List V->Hp->Prop) (h0:Pv 0 [] (upd H p (.lst []))) (hp:∀ i acc H,i<=n->Pv i acc H->H p=some (.lst acc)/\acc.length<=i) (hz:n<=sizeLine)
  (hs:∀ C s' H' fp,∀ i acc H,i < n->Pv i acc H->g C s' H' fp (.int (lo + i)) σ₀ H fun σ2 H2=>tt C s' H' fp σ2 H2 fun b H3=>if b=true then te C s' H' fp σ2 H3 fun y H4=>H4 p=some (.lst acc)/\Pv (i + 1) (acc++[y]) (upd H4 p (.lst (acc++[y]))) else Pv (i + 1) acc H3)
  (hd:∀ acc H,Pv n acc H->Q (.ref p) H):
  ∃ W:Nat->Nat->List V->Hp->Prop,(∃ m,W 0 m [] (upd H p (.lst [])))/\∀ C s' H' fp,dg (Itr lo n) (g C s' H' fp) (tt C s' H' fp) (te C s' H' fp) σ₀ p Q W:=
 nh (Y:=fun i H x H1=>H1=H/\x=.int (lo + i)) Pv h0 hp hz (fun i acc H hi w=>hi) (fun acc H w=>Nat.le_refl _) (fun i acc H x H1 hi w y=>y) (fun C s' H' fp i x acc H H1 hi w y=>by
   obtain ⟨e,e2⟩:=y
   subst e e2
   exact hs C s' H' fp i acc _ hi w) hd
end
end L2
end
section
namespace L2
open PySem PySem.Spec PyProof.Rows
section
variable {prog:Program} {w:World} {A:Around} {E:Value->Shared->Prop} {s:Shared}
theorem oW {jt t:Addr} {i:Nat} {its:Array Value} {y:Value} {Q:Value->Shared->Prop} (h1:s.heap.IsTupleIter jt t i) (h2:s.heap.IsTuple t its) (hy:its[i]?=some y)
  (k:∀ h',h'.IsTupleIter jt t (i + 1)->Heap.SameBut jt s.heap h'->Q y { s with heap:=h' }):wpAny (model prog w) A (Builtin.SmallTypes.nextOf (.ref jt)) Q E s:=by
 obtain ⟨o,ho,hc,hd⟩:=id h1
 obtain ⟨ot,hot,_,nt,hdt⟩:=h2
 unfold Builtin.SmallTypes.nextOf
 refine wpAny_bind (wpAny_callSpecial?_slot (name:=Str.ofString "__next__") h1.typeIs F.slot_tuple_iterator_next (wpAny_call_entry F.slot_tuple_iterator_next h1.typeIs F.entry_tuple_iterator_next ?_ (F.args_tuple_iterator_next_1 _)))
 show wpAny _ _ (field (.ref jt) 0 >>= _) _ _ s
 refine wpAny_bind (wpAny_field ho hd (x:=.ref t) rfl ?_)
 show wpAny _ _ (if (Value.ref t == Value.none)=true then _ else _) _ _ s
 rw [if_neg (show ¬ ((Value.ref t == Value.none)=true) from Bool.false_ne_true)]
 show wpAny _ _ (field (.ref jt) 1 >>= _) _ _ s
 refine wpAny_bind (wpAny_field ho hd (x:=.int i 0) rfl ?_)
 show wpAny _ _ (seqItems? (.ref t) >>= _) _ _ s
 refine wpAny_bind (wpAny_seqItems hot hdt ?_)
 simp only [Int.toNat_natCast,hy]
 refine wpAny_bind (wpAny_setField ho hd (by simp) (wpAny_pure ⟨y,rfl,wpAny_pure (k _ ?_ (Heap.SameBut.update ..))⟩))
 exact ⟨_,Heap.get?_update_self _ ho (Obj.isFreed_of_fields (Obj.data_mapFields hd _)),(Obj.cls_mapFields ..).trans hc,by rw [Obj.data_mapFields hd]; simp [rawInt]⟩
theorem ql {jt t:Addr} {i:Nat} {its:Array Value} {Q:Value->Shared->Prop} (hh:A.handled=none) (h1:s.heap.IsTupleIter jt t i) (h2:s.heap.IsTuple t its) (hy:its[i]?=none)
  (k:∀ h' e,Heap.ExtBut jt s.heap h'->(∃ o,h'.get? e=some o/\o.cls=.type "StopIteration")->E (.ref e) { s with heap:=h' }):wpAny (model prog w) A (Builtin.SmallTypes.nextOf (.ref jt)) Q E s:=by
 obtain ⟨o,ho,hc,hd⟩:=id h1
 obtain ⟨ot,hot,_,nt,hdt⟩:=h2
 unfold Builtin.SmallTypes.nextOf
 refine wpAny_bind (wpAny_callSpecial?_slot (name:=Str.ofString "__next__") h1.typeIs F.slot_tuple_iterator_next (wpAny_call_entry F.slot_tuple_iterator_next h1.typeIs F.entry_tuple_iterator_next ?_ (F.args_tuple_iterator_next_1 _)))
 show wpAny _ _ (field (.ref jt) 0 >>= _) _ _ s
 refine wpAny_bind (wpAny_field ho hd (x:=.ref t) rfl ?_)
 show wpAny _ _ (if (Value.ref t == Value.none)=true then _ else _) _ _ s
 rw [if_neg (show ¬ ((Value.ref t == Value.none)=true) from Bool.false_ne_true)]
 show wpAny _ _ (field (.ref jt) 1 >>= _) _ _ s
 refine wpAny_bind (wpAny_field ho hd (x:=.int i 0) rfl ?_)
 show wpAny _ _ (seqItems? (.ref t) >>= _) _ _ s
 refine wpAny_bind (wpAny_seqItems hot hdt ?_)
 simp only [Int.toNat_natCast,hy]
 refine wpAny_bind (wpAny_rule (wpAny_bind (wpAny_setField ho hd (by simp) ?_)))
 show wpAny _ _ (newExc (.type "StopIteration") [] >>= _) _ _ _
 refine wpAny_bind ?_
 simp only [newExc,newTuple]
 refine wpAny_bind (wpAny_newObj_type ?_ (by size_fits))
 refine wpAny_bind (m:=firstArgMember _ _) (wpAny_of_eq (a:=Value.none) (by first | rfl | (simp only [firstArgMember]; rfl)) ?_)
 refine wpAny_newObj_type ?_ (by size_fits)
 simp only [raiseNew]
 refine wpAny_bind (wpAny_handled ?_)
 first | rw [show A.in1.handled=none from hh] | rw [hh]
 refine wpAny_bind (wpAny_pure (wpAny_throw ?_))
 exact k _ _ (((Heap.SameBut.update ..).extBut.push _).push _) ⟨_,Heap.get?_push_size _ rfl,rfl⟩
end
theorem vx {prog:Program} {w:World} {A:Around} (hh:A.handled=none) (jt t:Addr) (hne:t≠jt) (its:Array Value):
  Draws prog w A jt [jt,t] its.size (fun i v=>its[i]?=some v) (fun i h=>h.IsTupleIter jt t i/\h.IsTuple t its) where
 live:=fun _ _ st=>let ⟨o,ho,_⟩:=st.1; ⟨o,ho⟩
 frame:=fun _ _ _ st hk=>⟨st.1.at fun o e=>hk jt (by simp) o e,let ⟨o,ho,r⟩:=st.2; ⟨o,hk t (by simp) o ho,r⟩⟩
 item:=fun i s Q E hi st hQ=>oW st.1 st.2 (y:=its[i]) (by simp [hi]) fun h' a b=>hQ _ h' s.toks (by simp [hi]) ⟨a,st.2.extBut b.extBut hne⟩ b
 done:=fun s Q E st hE=>ql hh st.1 st.2 (by simp) hE
theorem Inv.offBase {X:Cx} {pins:List (Addr×Obj)} {σ:St} {H:Hp} {s:Shared} {c:Addr} {o:Obj} (I:Inv X pins σ H s) (f:g9 X pins H c) (e:X.base.get? c=some o):False:=by
 rcases f.2.2.2.1 with z | z
 ·exact I.ok.noex c o e z
 ·exact absurd (Nat.lt_of_lt_of_le (Heap.lt_size e) (Nat.le_trans I.ok.bsz z)) (Nat.lt_irrefl _)
structure Src where
 Sq:PySem.W.Frag->Hp->Addr->List V->Prop
 Is:Heap->Addr->Array Value->Prop
 It:Heap->Addr->Addr->Nat->Prop
 icls:String
 get:∀ {X:Cx} {pins:List (Addr×Obj)} {σ:St} {H:Hp} {s:Shared} {a:Addr} {xs:List V},Inv X pins σ H s->Sq X.K H a xs->∃ its:List Value,aD xs its/\Is s.heap a its.toArray/\xs.length<=sizeLine
 inj:∀ {X:Cx} {pins:List (Addr×Obj)} {σ:St} {H:Hp} {s:Shared} {a:Addr} {xs ys:List V},Inv X pins σ H s->Sq X.K H a xs->Sq X.K H a ys->xs=ys
 off:∀ {X:Cx} {pins:List (Addr×Obj)} {σ:St} {H:Hp} {s:Shared} {a c:Addr} {xs:List V},Inv X pins σ H s->Sq X.K H a xs->g9 X pins H c->c≠a
 isSeq:∀ {h:Heap} {a:Addr} {its:Array Value},Is h a its->∃ o n,h.get? a=some o/\o.data=.seq its n
 isIt:∀ {h:Heap} {jt a:Addr} {i:Nat},It h jt a i->∃ o,h.get? jt=some o/\o.cls=.type icls/\o.data=.fields #[.ref a,.int i 0]
 mkI:∀ {h:Heap} {jt a:Addr} {i:Nat} {o:Obj},h.get? jt=some o->o.cls=.type icls->o.data=.fields #[.ref a,.int i 0]->It h jt a i
 itKeep:∀ {h h':Heap} {jt a:Addr} {i:Nat},It h jt a i->(∀ o,h.get? jt=some o->h'.get? jt=some o)->It h' jt a i
 isKeep:∀ {h h':Heap} {a:Addr} {its:Array Value},Is h a its->(∀ o,h.get? a=some o->h'.get? a=some o)->Is h' a its
 draws:∀ {prog:Program} {w:World} {A:Around},A.handled=none->∀ (jt a:Addr),a≠jt->∀ its:Array Value,Draws prog w A jt [jt,a] its.size (fun i v=>its[i]?=some v) (fun i h=>It h jt a i/\Is h a its)
 iter:∀ {prog:Program} {w:World} {A:Around} {E:Value->Shared->Prop} {s:Shared} {a:Addr} {its:Array Value} {Q:Value->Shared->Prop},Is s.heap a its->
  Q (.ref s.heap.objs.size) { s with heap:=s.heap.push { cls:=.type icls,data:=.fields #[.ref a,.int 0 0] } }->wpAny (model prog w) A (pyIter (.ref a)) Q E s
noncomputable def eW:Src where
 Sq:=SqL
 Is:=fun h a its=>h.IsList a its
 It:=fun h jt a i=>h.IsListIter jt a i
 icls:="list_iterator"
 get:=fun I h=>let ⟨its,r,p,z⟩:=I.list h; ⟨its,r,p.isList,z⟩
 inj:=fun I h h'=>I.list_inj h h'
 off:=fun {X pins σ H s a c xs} I h f e=>by
  subst e
  rcases h with (h | ⟨o,h⟩) | ⟨o,its,n,hk,_⟩
  ·rw [f.1] at h; cases h
  ·rw [f.1] at h; cases h
  ·exact I.offBase f (I.ok.mod.kin _ _ hk)
 isSeq:=fun h=>let ⟨o,ho,_,n,hd⟩:=h; ⟨o,n,ho,hd⟩
 isIt:=fun h=>h
 mkI:=fun h1 h2 h3=>⟨_,h1,h2,h3⟩
 itKeep:=fun h k=>h.at k
 isKeep:=fun h k=>h.at k
 draws:=fun hh jt a hne its=>Draws.list hh jt a hne its
 iter:=fun h q=>wpAny_pyIter_list h q
noncomputable def gI:Src where
 Sq:=SqT
 Is:=fun h a its=>h.IsTuple a its
 It:=fun h jt a i=>h.IsTupleIter jt a i
 icls:="tuple_iterator"
 get:=fun I h=>let ⟨its,r,p,z⟩:=I.tuple h; ⟨its,r,p,z⟩
 inj:=fun I h h'=>I.tuple_inj h h'
 off:=fun {X pins σ H s a c xs} I h f e=>by
  subst e
  rcases h with (h | ⟨o,h⟩) | ⟨o,its,n,hk,_⟩
  ·rw [f.1] at h; cases h
  ·rw [f.1] at h; cases h
  ·exact I.offBase f (I.ok.mod.kin _ _ hk)
 isSeq:=fun h=>let ⟨o,ho,_,n,hd⟩:=h; ⟨o,n,ho,hd⟩
 isIt:=fun h=>h
 mkI:=fun h1 h2 h3=>⟨_,h1,h2,h3⟩
 itKeep:=fun h k=>h.at k
 isKeep:=fun h k=>let ⟨o,ho,r⟩:=h; ⟨o,k o ho,r⟩
 draws:=fun hh jt a hne its=>vx hh jt a hne its
 iter:=fun h q=>wpAny_pyIter_tuple h q
theorem Inv.turns {X:Cx} {pins:List (Addr×Obj)} {σ:St} {H:Hp} {s:Shared} {h':Heap} {t':Nat} {ch:List Addr} {T:Addr} {o:HO} (I:Inv X pins σ H s) (hf:∀ b∈ch,g9 X pins H b)
  (k:∀ b ob,b∉ch->s.heap.get? b=some ob->h'.get? b=some ob) (hT:s.heap.objs.size<=T) (new:bR X.prog X.w (upd H T o) h' T o):Inv X pins σ (upd H T o) { s with heap:=h',toks:=t' }:=by
 have hn:H T=none:=I.hok.fresh hT
 have nc:∀ b u,H b=some u->b∉ch:=fun b u e z=>by
  have:=(hf b z).1
  rw [e] at this
  cases this
 refine I.step (g':=s.gens) (d':=s.drawn) (ch:=ch) (fun b hb=>⟨(hf b hb).2.2.2.1,(hf b hb).2.1,(hf b hb).2.2.2.2.1,(hf b hb).2.2.2.2.2⟩) (fun b ob _ _ hc e _=>k b ob hc e) (fun b ob _ _ hc e _=>⟨ob.slots,k b ob hc e⟩)
  (fun b ob _ e n=>?_) (fun b ob hc e=>⟨ob,k b ob hc e⟩) (fun b xs e=>?_) (fun b ob xs e=>?_) (fun b ps e=>⟨#[],?_⟩) (fun m hm=>?_) (fun b u e=>?_) I.bare
 ·rw [aB (jh (Heap.lt_size e) hT)]
  exact n
 ·rw [aB (aH e hn)]
  exact e
 ·rw [aB (aH e hn)]
  exact e
 ·rw [aB (aH e hn),e]
  simp
 ·obtain ⟨ob,es,ep,ho,r⟩:=hm
  exact ⟨ob,es,ep,k _ ob (fun z=>(hf _ z).2.1 rfl) ho,r⟩
 ·by_cases hb:b=T
  ·subst hb
   rw [ap] at e
   cases e
   exact new
  ·rw [aB hb] at e
   refine (I.hok b u e).stay (fun c v hc q=>k c v ?_ q) (fun c q=>by rw [aB (aH q hn)]; exact q) fun c xs q=>by rw [aB (aH q hn)]; exact q
   rcases hc with z | z
   ·rw [z]; exact nc b u e
   ·exact nc c _ z
theorem Inv.turnsN {X:Cx} {pins:List (Addr×Obj)} {σ:St} {H:Hp} {s:Shared} {h':Heap} {t':Nat} {ch:List Addr} (I:Inv X pins σ H s) (hf:∀ b∈ch,g9 X pins H b)
  (k:∀ b ob,b∉ch->s.heap.get? b=some ob->h'.get? b=some ob):Inv X pins σ H { s with heap:=h',toks:=t' }:=by
 have nc:∀ b u,H b=some u->b∉ch:=fun b u e z=>by
  have:=(hf b z).1
  rw [e] at this
  cases this
 refine I.step (g':=s.gens) (d':=s.drawn) (ch:=ch) (fun b hb=>⟨(hf b hb).2.2.2.1,(hf b hb).2.1,(hf b hb).2.2.2.2.1,(hf b hb).2.2.2.2.2⟩) (fun b ob _ _ hc e _=>k b ob hc e) (fun b ob _ _ hc e _=>⟨ob.slots,k b ob hc e⟩)
  (fun b ob _ e n=>n) (fun b ob hc e=>⟨ob,k b ob hc e⟩) (fun b xs e=>e) (fun b ob xs e=>e) (fun b ps e=>⟨#[],by rw [e]; simp⟩) (fun m hm=>?_) (fun b u e=>?_) I.bare
 ·obtain ⟨ob,es,ep,ho,r⟩:=hm
  exact ⟨ob,es,ep,k _ ob (fun z=>(hf _ z).2.1 rfl) ho,r⟩
 ·refine (I.hok b u e).stay (fun c v hc q=>k c v ?_ q) (fun c q=>q) fun c xs q=>q
  rcases hc with z | z
  ·rw [z]; exact nc b u e
  ·exact nc c _ z
noncomputable def Ite (S:Src) (K:PySem.W.Frag) (a:Addr):It:=
 ⟨fun i H=>∃ xs x,S.Sq K H a xs/\xs[i]?=some x,fun i H x H'=>∃ T v,H T=none/\x=.ref T/\H'=upd H T (.tup [.int i,v])/\∀ xs,S.Sq K H a xs->xs[i]?=some v,fun i H=>∃ xs,S.Sq K H a xs/\xs.length=i⟩
theorem yv {P:Program} {w:World} {K:PySem.W.Frag} {elts:List Expr} {k0:Nat} {pos:Pos} (S:Src) (a e it:Addr) (hl:S.icls≠"enumerate"):
  ma P w K (.Tuple elts k0 pos) (Ite S K a) [e,it] e (fun i h=>(∃ old,IsEnum h e it i old)/\S.It h it a i) where
 mem:=by simp
 obj:=fun i h st b hb=>by
  obtain ⟨⟨old,he⟩,hi⟩:=st
  rcases List.mem_cons.mp hb with rfl | hb
  ·exact ⟨_,he,fun v z=>nomatch z⟩
  ·obtain rfl:=List.mem_singleton.mp hb
   obtain ⟨o,ho,_,hd⟩:=S.isIt hi
   exact ⟨o,ho,fun v z=>by rw [hd] at z; cases z⟩
 keep:=fun i h h' st k=>by
  obtain ⟨⟨old,he⟩,hi⟩:=st
  exact ⟨⟨old,k e (by simp) _ he⟩,S.itKeep hi fun o q=>k it (by simp) o q⟩
 item:=by
  intro X hP hw hK hc i pins s σ H E I hf st hg
  subst hP hw hK
  obtain ⟨xs,x,hq,hx⟩:=hg
  obtain ⟨its,rv,p,hz⟩:=S.get I hq
  obtain ⟨⟨old,he⟩,hi⟩:=st
  obtain ⟨u,hu,ru⟩:=rv.get hx
  obtain ⟨oa,na,hoa,hda⟩:=S.isSeq p
  obtain ⟨oi,hoi,hci,hdi⟩:=S.isIt hi
  have nei:e≠it:=fun z=>by
   have he':s.heap.get? e=some _:=he
   rw [z,hoi] at he'
   cases he'
   exact hl (by simpa using hci.symm)
  have nae:e≠a:=S.off I hq (hf e (by simp))
  have nai:a≠it:=fun z=>by
   rw [z,hoi] at hoa
   cases hoa
   rw [hdi] at hda
   cases hda
  have hlt:i < its.toArray.size:=by
   have:=(List.getElem?_eq_some_iff.mp hu).1
   simpa using this
  refine wpAny_pyNext_enum_itemD (S.draws (A:=X.A.in1) (show X.A.in1.handled=none from I.ok.hd hc) it a nai its.toArray) he ⟨hi,p⟩ hlt nei (by simp [nei,nae]) fun y h1 tk hP ho hs1 hT hsz hk=>⟨_,rfl,?_⟩
  have hy:y=u:=by
   have:its.toArray[i]?=some u:=by simpa using hu
   rw [this] at hP
   exact (Option.some.inj hP).symm
  subst hy
  refine wpAny_letOwnedTupleGo_enum ho fun h2 he2 hs2=>?_
  have elt:e < s.heap.objs.size:=Heap.lt_size he
  have hT2:h2.get? s.heap.objs.size=some { cls:=.type "tuple",data:=.seq #[.int i tk,y] }:=hs2.extBut _ _ (CD (Nat.le_refl _) elt) hT
  have kept:∀ b ob,b∉[e,it]->s.heap.get? b=some ob->h2.get? b=some ob:=fun b ob hb q=>by
   have h1':b≠e:=fun z=>hb (by simp [z])
   exact hs2.extBut _ _ h1' (hk b ob h1' (fun z=>hb (by simp [z])) q)
  refine ⟨.ref s.heap.objs.size,upd H s.heap.objs.size (.tup [.int i,x]),?_,rfl,⟨_,x,I.fresh,rfl,rfl,fun ys hy=>by rw [S.inj I hy hq]; exact hx⟩,⟨⟨_,he2⟩,S.itKeep hs1.1 fun o q=>hs2.extBut _ _ (Ne.symm nei) q⟩,fun b hb=>?_⟩
  ·refine I.turns (t':=tk + 1) hf kept (Nat.le_refl _) ⟨(by show 2<=sizeLine; decide),[.int i tk,y],.cons ⟨tk,rfl⟩ (.cons ru .nil),_,hT2,rfl,⟨0,rfl⟩,rfl⟩
  ·have lt:b < s.heap.objs.size:=by
    rcases List.mem_cons.mp hb with rfl | hb
    ·exact elt
    ·obtain rfl:=List.mem_singleton.mp hb
     exact Heap.lt_size hoi
   rw [aB (jh lt (Nat.le_refl _))]
   exact (hf b hb).1
 done:=by
  intro X hP hw hK hc i pins s σ H E I hf st hg
  subst hP hw hK
  obtain ⟨xs,hq,hx⟩:=hg
  obtain ⟨its,rv,p,hz⟩:=S.get I hq
  obtain ⟨⟨old,he⟩,hi⟩:=st
  obtain ⟨oa,na,hoa,hda⟩:=S.isSeq p
  obtain ⟨oi,hoi,hci,hdi⟩:=S.isIt hi
  have nai:a≠it:=fun z=>by
   rw [z,hoi] at hoa
   cases hoa
   rw [hdi] at hda
   cases hda
  have hsz:i=its.toArray.size:=by
   have:=rv.length
   simp only [List.size_toArray]
   omega
  subst hsz
  exact wpAny_pyNext_enum_endD (S.draws (A:=X.A.in1) (show X.A.in1.handled=none from I.ok.hd hc) it a nai its.toArray) he ⟨hi,p⟩ fun h' hx'=>⟨rfl,I.turnsN (t':=s.toks) hf fun b ob hb q=>hx' b ob (fun z=>hb (by simp [z])) q⟩
 self:=fun _ _ _ _ _ st h=>by
  obtain ⟨⟨old,he⟩,_⟩:=st
  exact wpAny_pyIter_enum he h
section
variable {X:Cx} {elts:List Expr} {k0:Nat} {tpos:Pos}
theorem zS (S:Src) (l:Addr) (its:Array Value):
  Meets (Builtin.«enumerate.__new__» ⟨[.type "enumerate",.ref l],[]⟩) (fun _ R s=>S.Is s.heap l its/\
   R (.ok (.ret (.ref (s.heap.push { cls:=.type S.icls,data:=.fields #[.ref l,.int 0 0] }).objs.size)))
    { s with heap:=(s.heap.push { cls:=.type S.icls,data:=.fields #[.ref l,.int 0 0] }).push { cls:=.type "enumerate",data:=.fields #[.none,.bool false,.ref s.heap.objs.size,rawInt 0,.none,.none] } }):=
 .of_wp fun prog w A R s h=>by
  obtain ⟨hp,g,d,tk,os⟩:=s
  obtain ⟨hl,h⟩:=h
  have hsub:=sub_enumerate
  have hL:S.Is (Shared.heap ⟨hp,g,d,tk,os⟩) l its:=hl
  wp_walk
  refine wpAny_stack_any fun st=>wpAny_pure ?_
  split
  ·rename_i c _ _ _ _ _
   cases (c == Value.type "enumerate")
   ·wp_walk using S.iter hL
    exact ⟨_,rfl,h⟩
   ·wp_walk using S.iter hL
    exact ⟨_,rfl,h⟩
  ·wp_walk using S.iter hL
   exact ⟨_,rfl,h⟩
theorem yw (S:Src) {prog:Program} {w:World} {A:Around} {E:Value->Shared->Prop} {s:Shared} {l:Addr} {its:Array Value} {Q:Value->Shared->Prop} (hL:S.Is s.heap l its)
  (h:∀ h',IsEnum h' (s.heap.objs.size + 1) s.heap.objs.size 0 .none->S.It h' s.heap.objs.size l 0->(∀ b o,s.heap.get? b=some o->h'.get? b=some o)->Q (.ref (s.heap.objs.size + 1)) { s with heap:=h' }):
  wpAny (model prog w) A (call (.type "enumerate") [.ref l]) Q E s:=by
 refine callType_new F.called_enumerate (by decide) (F.typeCall_enumerate_1 _) (F.newCall_enumerate_1 _) (fun obj=>F.args_object_init_2 obj _) F.entry_enumerate_new (zS S l its) ⟨hL,?_⟩
 have hz:(s.heap.push { cls:=.type S.icls,data:=.fields #[.ref l,.int 0 0] }).objs.size=s.heap.objs.size + 1:=Heap.size_push ..
 show _/\_
 rw [hz]
 have he:=Heap.get?_push_size (s.heap.push { cls:=.type S.icls,data:=.fields #[.ref l,.int 0 0] }) (o:={ cls:=.type "enumerate",data:=.fields #[.none,.bool false,.ref s.heap.objs.size,rawInt 0,.none,.none] }) rfl
 rw [hz] at he
 exact ⟨⟨_,he,rfl⟩,h _ he (S.mkI (Heap.get?_push_of_some _ (Heap.get?_push_size _ rfl)) rfl rfl) fun b o q=>Heap.get?_push_of_some _ (Heap.get?_push_of_some _ q)⟩
noncomputable def ni (S:Src) (K:PySem.W.Frag) (ta:TA):TI:=fun σ H R=>ta σ H fun vs H1=>∃ a xs,vs=[.ref a]/\S.Sq K H1 a xs/\R (Ite S K a) H1
theorem nj (S:Src) {a:Expr} {ta:TA} {p pos:Pos} (hg:Gl X "enumerate") (hm:X.mg "enumerate"=none) (hS:S.icls≠"enumerate") (ha:PA X [a] ta) (hs:starEach [a] X.env=[(false,eval a X.env)]:=by rfl):
  PI X (.Tuple elts k0 tpos) (.Call (.Name "enumerate" p) [a] [] pos) (ni S X.K ta):=by
 intro pins s σ H R I h
 refine Call_ (jK I hg hm boot_enumerate (PyProof.Rows.callWith_type1 (thn (ha pos pins s σ H _ I h) fun us s1 ⟨vs,H1,I1,r1,q1⟩=>?_) hs rfl))
 obtain ⟨l,xs,e,hq,q⟩:=q1
 subst e
 obtain ⟨u,rfl,ru⟩:=r1.one
 cases ru
 obtain ⟨its,rv,p',hz⟩:=S.get I1 hq
 refine yw S p' fun h' he hi kp=>wpAny_pyIter_enum he ?_
 have I2:Inv X pins σ H1 { s1 with heap:=h' }:=I1.kept (t':=s1.toks) kp
 refine ⟨s1.heap.objs.size + 1,[s1.heap.objs.size + 1,s1.heap.objs.size],_,_,H1,rfl,I2,yv S l _ _ hS,⟨⟨_,he⟩,hi⟩,fun b hb=>?_,q⟩
 have hb':s1.heap.objs.size<=b:=by
  rcases List.mem_cons.mp hb with rfl | hb
  ·exact Nat.le_succ _
  ·obtain rfl:=List.mem_singleton.mp hb
   exact Nat.le_refl _
 exact I1.fpOk hb' (I1.hok.fresh hb')
end
end L2
end
section
namespace L2
open PySem PySem.Spec PyProof.Rows
section
variable {X:Cx}
noncomputable def lf (K:PySem.W.Frag):List V->Hp->VK->Prop:=fun xs H Q=>∃ x T t b,xs=[x,.ty T]/\fg K H x t/\PySem.W.kitOne K t (.type T)=some b/\Q (.bl b) H
theorem iL:dF X (.builtin "isinstance") (lf X.K):=by
 intro pins s σ H xs us Q I r h
 obtain ⟨x,T,t,b,rfl,ty,e,q⟩:=h
 obtain ⟨u,v,rfl,ru,rv⟩:=r.two
 cases (show v=Value.type T from rv)
 exact ym I ru ty e fun tk=>⟨.bl b,H,I.tok tk,rfl,q⟩
theorem vz (K:PySem.W.Frag):PySem.W.kitOne K (.type "int") (.type "int")=some true:=by unfold PySem.W.kitOne; rw [if_pos (beq_self_eq_true _)]
theorem tL (K:PySem.W.Frag):PySem.W.kitOne K (.type "int") (.type "bool")=some false:=by show (if (Value.type "int" == Value.type "bool")=true then some true else if PySem.W.kitMeta "bool"=true then (fastBuiltinMro "int").map (·.contains (.type "bool")) else none)=some false; decide +kernel
theorem vA (K:PySem.W.Frag):PySem.W.kitOne K (.type "list") (.type "list")=some true:=by unfold PySem.W.kitOne; rw [if_pos (beq_self_eq_true _)]
theorem Bw:∀ (bs:List Bool),(List.range bs.length).all (fun i=>bs.getD i false)=bs.all id:=by
 intro bs
 induction bs with
 | nil=>rfl
 | cons b r ih=>
  rw [List.length_cons,List.range_succ_eq_map,List.all_cons,List.all_map,List.all_cons]
  show (b && _)=(b && _)
  rw [<-ih]
  rfl
theorem wp {bs:List Bool} {us:List Value} (r:aD (bs.map V.bl) us):us=bs.map Value.bool:=by
 induction bs generalizing us with
 | nil=>cases r; rfl
 | cons b t ih=>
  cases r with
  | cons q r'=>
   rw [List.map_cons,<-ih r',show _=Value.bool b from q]
theorem Inv.walked {pins:List (Addr×Obj)} {σ:St} {H:Hp} {s:Shared} {h':Heap} {tk:Nat} {o:Obj} (I:Inv X pins σ H s) (hk:∀ b ob,b∉[s.heap.objs.size]->(s.heap.push o).get? b=some ob->h'.get? b=some ob):Inv X pins σ H { s with heap:=h',toks:=tk }:=
 I.kept fun b ob e=>hk b ob (fun z=>absurd (List.mem_singleton.mp z) (Nat.ne_of_lt (Heap.lt_size e))) (Heap.get?_push_of_some _ e)
theorem mx (hc:X.calm=true):dF X (.builtin "all") (fun xs H Q=>∃ (p:Addr) (bs:List Bool),xs=[.ref p]/\SqL X.K H p (bs.map V.bl)/\Q (.bl (bs.all id)) H):=by
 intro pins s σ H xs us Q I r h
 obtain ⟨p,bs,rfl,hq,q⟩:=h
 obtain ⟨u,rfl,rx⟩:=r.one
 cases rx
 obtain ⟨its,rv,pl,hz⟩:=I.list hq
 have e:=wp rv
 subst e
 refine call_all_walk (wpAny_pyIter_list pl.isList ⟨s.heap.objs.size,_,_,_,_,_,fun i=>bs.getD i false,rfl,Walks.list (show X.A.in1.handled=none from I.ok.hd hc) _ p (by obtain ⟨o,ho,_⟩:=pl.isList; exact Nat.ne_of_lt (Heap.lt_size ho)) (bs.map Value.bool).toArray,
  ⟨⟨_,Heap.get?_push_size _ rfl,rfl,rfl⟩,pl.isList.push _⟩,?_,fun h' tk hk=>?_⟩)
 ·intro i v s' Q' E' hP hQ
  have hP':(bs.map Value.bool)[i]?=some v:=by simpa using hP
  rw [List.getElem?_map] at hP'
  cases e:bs[i]? with
  | none=>rw [e] at hP'; cases hP'
  | some b=>
   rw [e] at hP'
   cases hP'
   have:bs.getD i false=b:=by rw [List.getD_eq_getElem?_getD,e]; rfl
   have hQ':Q' (bs.getD i false) s':=hQ
   rw [this] at hQ'
   exact wpAny_truthy_bool hQ'
 ·refine ⟨.bl (bs.all id),H,I.walked hk,?_,q⟩
  show Value.bool _=Value.bool _
  rw [<-Bw]
  simp
theorem vB (ns:List Int):∀ k,k<=ns.length->preSum (fun i=>ns.getD i 0) k=(ns.take k).sum:=by
 intro k
 induction k with
 | zero=>intro _; simp [preSum]
 | succ k ih=>
  intro hk
  have hlt:k < ns.length:=hk
  rw [preSum,ih (Nat.le_of_lt hlt),List.take_add_one,List.sum_append,List.getElem?_eq_getElem hlt,List.getD_eq_getElem?_getD,List.getElem?_eq_getElem hlt]
  simp
theorem my (hc:X.calm=true):dF X (.builtin "sum") (fun xs H Q=>∃ (p:Addr) (ns:List Int),xs=[.ref p]/\SqL X.K H p (ns.map V.int)/\Q (.int ns.sum) H):=by
 intro pins s σ H xs us Q I r h
 obtain ⟨p,ns,rfl,hq,q⟩:=h
 obtain ⟨u,rfl,rx⟩:=r.one
 cases rx
 obtain ⟨its,rv,pl,hz⟩:=I.list hq
 have hlen:ns.length=its.length:=by have:=rv.length; simpa using this
 have ia:=oS rv
 refine call_sum_walkG (wpAny_pyIter_list pl.isList ⟨s.heap.objs.size,_,_,_,_,_,fun i=>ns.getD i 0,rfl,Walks.list (show X.A.in1.handled=none from I.ok.hd hc) _ p (by obtain ⟨o,ho,_⟩:=pl.isList; exact Nat.ne_of_lt (Heap.lt_size ho)) its.toArray,
  ⟨⟨_,Heap.get?_push_size _ rfl,rfl,rfl⟩,pl.isList.push _⟩,fun b hb=>?_,?_,fun h' tk t' hk=>?_⟩)
 ·have hp:p < s.heap.objs.size:=by
   obtain ⟨o,ho,_⟩:=pl.isList
   exact Heap.lt_size ho
  show b < (s.heap.push _).objs.size
  rw [Heap.size_push]
  rcases List.mem_cons.mp hb with rfl | hb
  ·exact Nat.lt_succ_self _
  ·obtain rfl:=List.mem_singleton.mp hb
   exact Nat.lt_succ_of_lt hp
 ·intro i v hP
  have hP':its[i]?=some v:=by simpa using hP
  have hlt:i < ns.length:=by
   have:=(List.getElem?_eq_some_iff.mp hP').1
   omega
  obtain ⟨u',hu',ru'⟩:=rv.get (x:=.int ns[i]) (i:=i) (by rw [List.getElem?_map,List.getElem?_eq_getElem hlt] <;> rfl)
  rw [hP'] at hu'
  cases hu'
  obtain ⟨t,e⟩:=(show ∃ t,v=Value.int ns[i] t from ru')
  refine ⟨t,?_⟩
  show v=Value.int (ns.getD i 0) t
  rw [e,List.getD_eq_getElem?_getD,List.getElem?_eq_getElem hlt]
  rfl
 ·refine ⟨.int ns.sum,H,I.walked hk,⟨t',?_⟩,q⟩
  rw [show its.toArray.size=ns.length by simp; omega,vB ns _ (Nat.le_refl _),List.take_length]
noncomputable def EqE (x y:V) (b:Bool):Prop:=(dq x=true/\dq y=true/\b=eqV x y)\/(∃ a,x=.ref a/\y=.ref a/\b=true)
theorem EqE.at {A:Around} {s:Shared} {x y:V} {b:Bool} {u v:Value} (h:EqE x y b) (ru:aE x u) (rv:aE y v):SeqAt.EqAt A s u v b:=by
 rcases h with ⟨f1,f2,rfl⟩ | ⟨a,rfl,rfl,rfl⟩
 ·exact yp ru rv f1 f2
 ·cases ru
  cases rv
  exact SeqAt.EqAt.same _
noncomputable def xb (xs ys:List V) (e:Nat->Bool):Prop:=∀ j x y,xs[j]?=some x->ys[j]?=some y->EqE x y (e j)
theorem qm {A:Around} {s:Shared} {xs ys:List V} {e:Nat->Bool} {us vs:List Value} (h:xb xs ys e) (ru:aD xs us) (rv:aD ys vs):
  ∀ j (h1:j < us.toArray.size) (h2:j < vs.toArray.size),SeqAt.EqAt A s us.toArray[j] vs.toArray[j] (e j):=by
 intro j h1 h2
 have h1':j < xs.length:=by rw [ru.length]; simpa using h1
 have h2':j < ys.length:=by rw [rv.length]; simpa using h2
 obtain ⟨u,eu,r1⟩:=ru.get (List.getElem?_eq_getElem h1')
 obtain ⟨v,ev,r2⟩:=rv.get (List.getElem?_eq_getElem h2')
 have q:=(h j _ _ (List.getElem?_eq_getElem h1') (List.getElem?_eq_getElem h2')).at (A:=A) (s:=s) r1 r2
 have e1:us.toArray[j]=u:=by
  have:=(List.getElem?_eq_some_iff.mp eu).2
  simpa using this
 have e2:vs.toArray[j]=v:=by
  have:=(List.getElem?_eq_some_iff.mp ev).2
  simpa using this
 rw [e1,e2]
 exact q
noncomputable def ft (xs ys:List V) (e:Nat->Bool):Bool:=(List.range (min xs.length ys.length)).all e && xs.length == ys.length
noncomputable def jQ (Sq:Hp->Addr->List V->Prop) (neg:Bool):R2:=fun x y H Q=>∃ a b xs ys e,x=.ref a/\y=.ref b/\Sq H a xs/\Sq H b ys/\xb xs ys e/\Q (.bl (if neg then !ft xs ys e else ft xs ys e)) H
theorem CG (hu:X.A.units < cLine):OpR X (compareOp .Eq) (jQ (SqT X.K) false):=by
 intro pins s σ H x y v u Q I r1 r2 h
 obtain ⟨a,b,xs,ys,e,rfl,rfl,ha,hb,he,q⟩:=h
 cases r1
 cases r2
 obtain ⟨us,ru,pu,_⟩:=I.tuple ha
 obtain ⟨vs,rv,pv,_⟩:=I.tuple hb
 refine SeqAt.eq_tupleAt (e:=e) pu pv hu (qm he ru rv) ⟨.bl (ft xs ys e),H,I,?_,q⟩
 show Value.bool _=Value.bool _
 unfold ft
 rw [List.size_toArray,List.size_toArray,ru.length,rv.length]
theorem CI (hu:X.A.units < cLine):OpR X (compareOp .Eq) (jQ (SqL X.K) false):=by
 intro pins s σ H x y v u Q I r1 r2 h
 obtain ⟨a,b,xs,ys,e,rfl,rfl,ha,hb,he,q⟩:=h
 cases r1
 cases r2
 obtain ⟨us,ru,pu,_⟩:=I.list ha
 obtain ⟨vs,rv,pv,_⟩:=I.list hb
 have h1:=ru.length
 have h2:=rv.length
 by_cases hl:xs.length=ys.length
 ·refine SeqAt.eq_listAt (e:=e) pu.isList pv.isList (by simp only [List.size_toArray]; omega) hu (qm he ru rv) ⟨.bl (ft xs ys e),H,I,?_,q⟩
  show Value.bool _=Value.bool _
  unfold ft
  rw [List.size_toArray,<-h1,hl,Nat.min_self,beq_self_eq_true,Bool.and_true]
 ·refine SeqAt.eq_list_lengthsAt pu.isList pv.isList (by simp only [List.size_toArray,bne_iff_ne]; omega) hu ⟨.bl (ft xs ys e),H,I,?_,q⟩
  show Value.bool _=Value.bool _
  unfold ft
  rw [beq_eq_false_iff_ne.mpr hl,Bool.and_false]
theorem yx (hu:X.A.units < cLine):OpR X (compareOp .NotEq) (jQ (SqL X.K) true):=by
 intro pins s σ H x y v u Q I r1 r2 h
 obtain ⟨a,b,xs,ys,e,rfl,rfl,ha,hb,he,q⟩:=h
 cases r1
 cases r2
 obtain ⟨us,ru,pu,_⟩:=I.list ha
 obtain ⟨vs,rv,pv,_⟩:=I.list hb
 have h1:=ru.length
 have h2:=rv.length
 by_cases hl:xs.length=ys.length
 ·refine SeqAt.RcNeAt.lists (e:=e) pu.isList pv.isList (by simp only [List.size_toArray]; omega) hu (qm he ru rv) _ _ _ _ ⟨.bl (!ft xs ys e),H,I,?_,q⟩
  show Value.bool _=Value.bool _
  unfold ft
  rw [List.size_toArray,<-h1,hl,Nat.min_self,beq_self_eq_true,Bool.and_true]
 ·refine SeqAt.RcNeAt.lists_lengths pu.isList pv.isList (by simp only [List.size_toArray,bne_iff_ne]; omega) hu _ _ _ _ ⟨.bl (!ft xs ys e),H,I,?_,q⟩
  show Value.bool _=Value.bool _
  unfold ft
  rw [beq_eq_false_iff_ne.mpr hl,Bool.and_false]
  rfl
end
theorem ri (ns ms:List Int):xb (ns.map V.int) (ms.map V.int) (fun j=>decide (ns[j]?=ms[j]?)):=by
 intro j x y hx hy
 rw [List.getElem?_map] at hx hy
 cases e1:ns[j]? with
 | none=>rw [e1] at hx; cases hx
 | some n=>
  cases e2:ms[j]? with
  | none=>rw [e2] at hy; cases hy
  | some m=>
   rw [e1] at hx
   rw [e2] at hy
   cases hx
   cases hy
   refine .inl ⟨rfl,rfl,?_⟩
   show decide (ns[j]?=ms[j]?)=(n == m)
   rw [e1,e2]
   by_cases h:n=m
   ·subst h; simp
   ·simp [h]
theorem oX (ns ms:List Int):ft (ns.map V.int) (ms.map V.int) (fun j=>decide (ns[j]?=ms[j]?))=decide (ns=ms):=by
 unfold ft
 rw [List.length_map,List.length_map]
 by_cases h:ns=ms
 ·subst h
  simp
 ·rw [decide_eq_false h]
  by_cases hl:ns.length=ms.length
  ·rw [Bool.and_eq_false_iff]
   left
   rw [<-Bool.not_eq_true,List.all_eq_true]
   intro q
   apply h
   apply List.ext_getElem?
   intro j
   by_cases hj:j < ns.length
   ·have:=q j (by rw [List.mem_range]; omega)
    exact of_decide_eq_true this
   ·rw [List.getElem?_eq_none (by omega),List.getElem?_eq_none (by omega)]
  ·rw [beq_eq_false_iff_ne.mpr hl,Bool.and_false]
end L2
end
section
namespace L2
open PySem PySem.Spec PyProof.Rows
noncomputable def FnB (P:Program) (w:World) (K:PySem.W.Frag) (mg:Str->Option Value) (base:Heap) (k:Nat) (x:Str) (ps:List Str) (sp:Sp):Prop:=
 ∃ f fd,cb P w K mg base CX0 k f fd ps sp/\mg x=some (.ref f)/\PySem.W.keepIn K (.ref f)=true/\eZ K fd ps []
theorem ao {X:Cx} {k:Nat} {x:Str} {ps:List Str} {sp:Sp} {p pos:Pos} {e:Expr} {es:List Expr} {t:TA} (F:FnB X.prog X.w X.K X.mg X.base k x ps sp) (hr:bz k X.A) (ha:PA X (e :: es) t) (hg:Gl X x:=by rfl)
  (hdb:(x == ("__debug__":Str))=false:=by decide) (he:starEach (e :: es) X.env=(false,eval e X.env) :: starEach es X.env:=by rfl) (hpl:(backTo pos (starEach es X.env)).any (·.1)=false:=by rfl):
  PE X (.Call (.Name x p) (e :: es) [] pos) (az sp [] E0 t):=by
 obtain ⟨f,fd,ok,m,kp,b⟩:=F
 exact Bo ok hr hg m kp b .nil sT ha hdb he hpl
theorem FnB.mono {P:Program} {w:World} {K:PySem.W.Frag} {mg:Str->Option Value} {base:Heap} {j k:Nat} {x:Str} {ps:List Str} {sp:Sp} (F:FnB P w K mg base j x ps sp) (h:j<=k):FnB P w K mg base k x ps sp:=by
 obtain ⟨f,fd,ok,r⟩:=F
 exact ⟨f,fd,ok.mono h,r⟩
structure Def (K:PySem.W.Frag) (mg:Str->Option Value) (x:Str) (st:Stmt) (ps:List Str) (f:Addr) (fd:FuncData):Prop where
 fn:Fun K x x st f fd
 m:mg x=some (.ref f)
 b:eZ K fd ps []
theorem Def.ok {P:Program} {w:World} {K:PySem.W.Frag} {mg:Str->Option Value} {base:Heap} {x:Str} {st:Stmt} {N ps:List Str} {f:Addr} {fd:FuncData} {k:Nat} {sp:Sp} (D:Def K mg x st ps f fd) (S:aA N ps (aa st)) (len:∀ vs H Q E,sp vs H Q E->vs.length=ps.length)
  (hbody:∀ (cdv:Value) (A:Around) (outer:List Env) (s:Shared) (H:Hp) (vs:List V) (Q:VK) (E:XK),bz k (A.deeper (envOfC x (aa st) s.heap.objs.size f cdv))->sp vs H Q E->
   ∃ t,PSs (jO CX0 P w K mg base N x (aa st) f cdv A outer s H E).nox (ay st) t/\t { nx:=fun _ H'=>Q .non H',rt:=Q } (aN N vs) H):FnB P w K mg base (k + 1) x ps sp:=
 ⟨f,fd,D.fn.ok S len hbody,D.m,D.fn.kp,D.b⟩
theorem dG {X:Cx}:OpR X (binaryOp .Mult) (rI IntMulOk fun i j=>.int (i * j)):=opI fun _ _ _ _ _ _ _ hc q=>mul_int q hc
theorem oY:∀ (ns:List Int),∀ n∈ns,Builtin.Int.intBits n<=PySem.W.WData.weightAll (ns.map PySem.W.WData.int)
 | [],n,h=>(nomatch h)
 | m :: r,n,h=>by
  rw [List.map_cons,PySem.W.WData.weightAll]
  have e:PySem.W.WData.weight (.int m)=Builtin.Int.intBits m:=by
   rw [PySem.W.WData.weight]
   rfl
  rw [e]
  rcases List.mem_cons.mp h with rfl | h
  ·omega
  ·have:=oY r n h
   omega
theorem vC {ns:List Int} (h:PySem.W.WData.layableAll [PySem.W.WData.list (ns.map PySem.W.WData.int)]=true):∀ n∈ns,Builtin.Int.intBits n<=1048576:=by
 intro n hn
 have h1:PySem.W.WData.layable (PySem.W.WData.list (ns.map PySem.W.WData.int))=true:=by
  unfold PySem.W.WData.layableAll at h
  rw [List.all_cons,Bool.and_eq_true] at h
  exact h.1
 unfold PySem.W.WData.layable at h1
 rw [Bool.and_eq_true] at h1
 have h2:PySem.W.WData.weight (PySem.W.WData.list (ns.map PySem.W.WData.int))<=2 ^ 20:=of_decide_eq_true h1.2
 rw [PySem.W.WData.weight] at h2
 have h3:=oY ns n hn
 have e:(2:Nat) ^ 20=1048576:=by decide
 omega
noncomputable def fR (K:PySem.W.Frag) (H:Hp) (a:Addr) (ns:List Int):Prop:=SqL K H a (ns.map V.int)/\ns.length<=63/\∀ n∈ns,Builtin.Int.intBits n<=1048576
theorem CJ {J:It} {n:Nat} {g:TG} {tb:TS} {D:iH} {σ:St} {H:Hp} {Y:Nat->Hp->V->Hp->Prop} (Pv:Nat->St->Hp->Prop) (h0:Pv 0 σ H) (hgo:∀ i σ H,i < n->Pv i σ H->J.go i H) (hst:∀ σ H,Pv n σ H->J.stop n H)
  (hy:∀ i σ H x H1,i < n->Pv i σ H->J.yld i H x H1->Y i H x H1) (hs:∀ i x σ H H1,i < n->Pv i σ H->Y i H x H1->g x σ H1 fun σ2 H2=>tb { D with nx:=Pv (i + 1),ct:=Pv (i + 1),bk:=D.nx } σ2 H2) (hd:∀ σ H,Pv n σ H->D.nx σ H):
  ∃ W:Nat->Nat->St->Hp->Prop,(∃ m,W 0 m σ H)/\∀ i m σ H,W i m σ H->
   (J.stop i H/\D.nx σ H)\/(J.go i H/\∃ N:St->Hp->Prop,(∀ σ' H',N σ' H'->∃ m',m' < m/\W (i + 1) m' σ' H')/\∀ x H',J.yld i H x H'->g x σ H' fun σ2 H2=>tb { D with nx:=N,ct:=N,bk:=D.nx } σ2 H2):=by
 refine ⟨fun i m σ H=>m=n - i/\i<=n/\Pv i σ H,⟨n,by simp,Nat.zero_le _,h0⟩,?_⟩
 rintro i m σ H ⟨rfl,hi,p⟩
 by_cases hlt:i < n
 ·exact .inr ⟨hgo i σ H hlt p,Pv (i + 1),fun σ' H' p'=>⟨n - (i + 1),by omega,rfl,hlt,p'⟩,fun x H' y=>hs i x σ H H' hlt p (hy i σ H x H' hlt p y)⟩
 ·have e:i=n:=by omega
  subst e
  exact .inl ⟨hst σ H p,hd σ H p⟩
theorem tM {S:Src} {K:PySem.W.Frag} {a:Addr} {xs:List V} {g:TG} {tb:TS} {D:iH} {σ:St} {H:Hp} (Pv:Nat->St->Hp->Prop) (h0:Pv 0 σ H) (hl:∀ i σ H,i<=xs.length->Pv i σ H->S.Sq K H a xs)
  (hs:∀ i x T σ H,xs[i]?=some x->Pv i σ H->H T=none->g (.ref T) σ (upd H T (.tup [.int i,x])) fun σ2 H2=>tb { D with nx:=Pv (i + 1),ct:=Pv (i + 1),bk:=D.nx } σ2 H2) (hd:∀ σ H,Pv xs.length σ H->D.nx σ H):
  ∃ W:Nat->Nat->St->Hp->Prop,(∃ m,W 0 m σ H)/\∀ i m σ H,W i m σ H->
   ((Ite S K a).stop i H/\D.nx σ H)\/((Ite S K a).go i H/\∃ N:St->Hp->Prop,(∀ σ' H',N σ' H'->∃ m',m' < m/\W (i + 1) m' σ' H')/\∀ x H',(Ite S K a).yld i H x H'->g x σ H' fun σ2 H2=>tb { D with nx:=N,ct:=N,bk:=D.nx } σ2 H2):=
 CJ (J:=Ite S K a) (n:=xs.length) (Y:=fun i H x H1=>∃ T v,H T=none/\x=.ref T/\H1=upd H T (.tup [.int i,v])/\xs[i]?=some v) Pv h0 (fun i σ H hi w=>⟨xs,xs[i],hl i σ H (Nat.le_of_lt hi) w,by simp [hi]⟩) (fun σ H w=>⟨xs,hl _ σ H (Nat.le_refl _) w,rfl⟩)
  (fun i σ H x H1 hi w y=>by
   obtain ⟨T,v,e1,e2,e3,e4⟩:=y
   exact ⟨T,v,e1,e2,e3,e4 xs (hl i σ H (Nat.le_of_lt hi) w)⟩) (fun i x σ H H1 hi w y=>by
   obtain ⟨T,v,e1,rfl,rfl,e4⟩:=y
   exact hs i v T σ H e4 w e1) hd
theorem rj {S:Src} {K:PySem.W.Frag} {a:Addr} {xs:List V} {g:CF TG} {tt:CF TT} {te:CF TE} {σ₀:St} {p:Addr} {Q:VK} {H:Hp} (Pv:Nat->List V->Hp->Prop) (h0:Pv 0 [] (upd H p (.lst []))) (hp:∀ i acc H,i<=xs.length->Pv i acc H->H p=some (.lst acc)/\acc.length<=i) (hl:∀ i acc H,i<=xs.length->Pv i acc H->S.Sq K H a xs) (hz:xs.length<=sizeLine)
  (hs:∀ C s' H' fp,∀ i x T acc H,xs[i]?=some x->Pv i acc H->H T=none->g C s' H' fp (.ref T) σ₀ (upd H T (.tup [.int i,x])) fun σ2 H2=>tt C s' H' fp σ2 H2 fun b H3=>if b=true then te C s' H' fp σ2 H3 fun y H4=>H4 p=some (.lst acc)/\Pv (i + 1) (acc++[y]) (upd H4 p (.lst (acc++[y]))) else Pv (i + 1) acc H3)
  (hd:∀ acc H,Pv xs.length acc H->Q (.ref p) H):
  ∃ W:Nat->Nat->List V->Hp->Prop,(∃ m,W 0 m [] (upd H p (.lst [])))/\∀ C s' H' fp,dg (Ite S K a) (g C s' H' fp) (tt C s' H' fp) (te C s' H' fp) σ₀ p Q W:=
 nh (Y:=fun i H x H1=>∃ T v,H T=none/\x=.ref T/\H1=upd H T (.tup [.int i,v])/\xs[i]?=some v) Pv h0 hp hz (fun i acc H hi w=>⟨xs,xs[i],hl i acc H (Nat.le_of_lt hi) w,by simp [hi]⟩) (fun acc H w=>⟨xs,hl _ acc H (Nat.le_refl _) w,rfl⟩)
  (fun i acc H x H1 hi w y=>by
   obtain ⟨T,v,e1,e2,e3,e4⟩:=y
   exact ⟨T,v,e1,e2,e3,e4 xs (hl i acc H (Nat.le_of_lt hi) w)⟩) (fun C s' H' fp i x acc H H1 hi w y=>by
   obtain ⟨T,v,e1,rfl,rfl,e4⟩:=y
   exact hs C s' H' fp i v T acc H e4 w e1) hd
theorem aR {H:Hp} {p:Addr} (h:H p=none) (o:HO):al H (upd H p o):=fun b u q=>by rw [aB (aH q h)]; exact q
theorem al.upd {H H':Hp} {p:Addr} (s:al H H') (h:H p=none) (o:HO):al H (upd H' p o):=fun b u q=>by rw [aB (aH q h)]; exact s b u q
theorem al.tup {K:PySem.W.Frag} {H H':Hp} {a:Addr} {xs:List V} (e:al H H') (h:SqT K H a xs):SqT K H' a xs:=by
 rcases h with (h | ⟨o,h⟩) | h
 ·exact .inl (.inl (e _ _ h))
 ·exact .inl (.inr ⟨o,e _ _ h⟩)
 ·exact .inr h
theorem sU {n:Nat} (h:n<=1000):n<=sizeLine:=Nat.le_of_lt (yu h)
theorem tO {ns:List Int} {k:Int} (h0:0<=k) (h1:k < (ns.length:Int)):atI (ns.map V.int) k=some (.int (ns.getD k.toNat 0)):=by
 have hk:k.toNat < ns.length:=by omega
 have e:k=((k.toNat:Nat):Int):=by omega
 have q:atI (ns.map V.int) ((k.toNat:Nat):Int)=some (.int (ns.getD k.toNat 0)):=fH (by rw [List.getElem?_map,List.getElem?_eq_getElem hk,List.getD_eq_getElem?_getD,List.getElem?_eq_getElem hk] <;> rfl)
 rw [<-e] at q
 exact q
theorem hJ {c:Bool} {A B:Prop} (h1:c=true->A) (h2:c=false->B):if c=true then A else B:=by
 cases c with
 | true=>rw [if_pos rfl]; exact h1 rfl
 | false=>rw [if_neg Bool.false_ne_true]; exact h2 rfl
theorem fR.same {K:PySem.W.Frag} {H H':Hp} {a:Addr} {ns:List Int} (h:fR K H a ns) (s:al H H'):fR K H' a ns:=⟨s.seq h.1,h.2⟩
structure Blt (mg:Str->Option Value):Prop where
 len:mg "len"=none
 range:mg "range"=none
 tuple:mg "tuple"=none
 list:mg "list"=none
 int:mg "int"=none
 bool:mg "bool"=none
 str:mg "str"=none
 dict:mg "dict"=none
 sum:mg "sum"=none
 all:mg "all"=none
 min:mg "min"=none
 max:mg "max"=none
 sorted:mg "sorted"=none
 enumerate:mg "enumerate"=none
 zip:mg "zip"=none
 isinstance:mg "isinstance"=none
end L2
end
section
namespace L2
open PySem PySem.Spec PyProof.Rows
structure tP (z TI TO j1 j2:Addr) (fp1 fp2:List Addr):Prop where
 a1:TI≠z
 a2:TO≠z
 a3:j1≠z
 a4:j2≠z
 a5:TI≠TO
 a6:TI≠j1
 a7:TI≠j2
 a8:TO≠j1
 a9:TO≠j2
 b0:j1≠j2
 b1:z∉fp1
 b2:TO∉fp1
 b3:j2∉fp1
 b4:z∉fp2
 b5:TO∉fp2
 b6:j1∉fp2
section
variable {prog:Program} {w:World} {A:Around} {E:Value->Shared->Prop} {s:Shared}
theorem _root_.PySem.Draws.but {it:Addr} {fp:List Addr} {n i:Nat} {P:Nat->Value->Prop} {St:Nat->Heap->Prop} {h h':Heap} {c:Addr} (D:Draws prog w A it fp n P St) (hst:St i h) (hs:Heap.SameBut c h h') (hc:c∉fp):St i h':=
 D.frame i _ _ hst fun b hb o e=>hs.extBut b o (fun z=>hc (by rw [<-z]; exact hb)) e
theorem yy {z TI TO j1 j2:Addr} {fp1 fp2:List Addr} {n1 n2 k:Nat} {P1 P2:Nat->Value->Prop} {S1 S2:Nat->Heap->Prop} {a b:Value} {Q:Value->Shared->Prop} (Z:tP z TI TO j1 j2 fp1 fp2)
  (D1:Draws prog w A j1 fp1 n1 P1 S1) (D2:Draws prog w A j2 fp2 n2 P2 S2) (hz:IsZip s.heap z TI TO .none) (hTI:IsPair s.heap TI (.ref j1) (.ref j2)) (hTO:IsPair s.heap TO a b) (h1:S1 k s.heap) (h2:S2 k s.heap) (l1:k < n1) (l2:k < n2)
  (hQ:∀ x y h' tk,P1 k x->P2 k y->IsZip h' z TI TO (rawInt s.heap.objs.size)->(∃ a b,IsPair h' TO a b)->S1 (k + 1) h'->S2 (k + 1) h'->IsPair h' s.heap.objs.size x y->
   (∀ c o,c∉[z,TI,TO,j1,j2]->s.heap.get? c=some o->h'.get? c=some o)->IsPair h' TI (.ref j1) (.ref j2)->Q (.ref s.heap.objs.size) { s with heap:=h',toks:=tk }):
  wpAny (model prog w) A (Builtin.«zip.__next__» ⟨[.ref z],[]⟩) (fun fin s'=>∃ v,fin=.done (.ret v)/\Q v s') E s:=by
 obtain ⟨hp,g,d,tk₀,os⟩:=s
 show wpAny _ _ (field (.ref z) 2 >>= _) _ _ _
 refine wpAny_bind (wpAny_field hz rfl (x:=.bool false) rfl ?_)
 show wpAny _ _ (field (.ref z) 3 >>= _) _ _ _
 refine wpAny_bind (wpAny_field hz rfl (x:=.ref TI) rfl ?_)
 refine wpAny_bind (wpAny_seqItems hTI rfl ?_)
 show wpAny _ _ (Builtin.SmallTypes.ownedTupleIsFree (.ref z) >>= _) _ _ _
 refine wpAny_bind ?_
 unfold Builtin.SmallTypes.ownedTupleIsFree
 refine wpAny_bind (wpAny_field hz rfl (x:=.none) rfl (wpAny_pure ?_))
 simp only [if_true]
 refine wpAny_bind (wpAny_rule ?_)
 refine wpAny_bind (wpAny_field hz rfl (x:=.ref TO) rfl ?_)
 refine wpAny_bind (wpAny_setField_rec hz (by simp) fun g1 hz1 hs1=>?_)
 replace hz1:IsZip g1 z TI TO .ellipsis:=hz1
 replace hs1:Heap.SameBut z hp g1:=hs1
 refine wpAny_bind ?_
 simp only [List.zipIdx_cons,List.zipIdx_nil,List.forIn_cons,List.forIn_nil]
 refine wpAny_bind (wpAny_bind (wpAny_onRaise ?_))
 show wpAny _ _ (Builtin.SmallTypes.nextOf (.ref j1) >>= _) _ _ _
 refine wpAny_bind (D1.item k ⟨g1,g,d,tk₀,os⟩ _ _ l1 (D1.but h1 hs1 Z.b1) fun x g2 tk1 px st1 hs2=>wpAny_pure ?_)
 replace hs2:Heap.SameBut j1 g1 g2:=hs2
 have hTO2:IsPair g2 TO a b:=hs2.extBut _ _ Z.a8 (hs1.extBut _ _ Z.a2 hTO)
 refine wpAny_bind (wpAny_seqItems hTO2 rfl ?_)
 refine wpAny_bind (wpAny_updateSeq_pair hTO2 fun g3 hTO3 hs3=>?_)
 replace hTO3:IsPair g3 TO x b:=hTO3
 replace hs3:Heap.SameBut TO g2 g3:=hs3
 refine wpAny_bind (wpAny_letGo (wpAny_pure ?_))
 refine wpAny_bind (wpAny_bind (wpAny_onRaise ?_))
 show wpAny _ _ (Builtin.SmallTypes.nextOf (.ref j2) >>= _) _ _ _
 refine wpAny_bind (D2.item k ⟨g3,g,d,tk1,os⟩ _ _ l2 (D2.but (D2.but (D2.but h2 hs1 Z.b4) hs2 Z.b6) hs3 Z.b5) fun y g4 tk2 py st2 hs4=>wpAny_pure ?_)
 replace hs4:Heap.SameBut j2 g3 g4:=hs4
 have hTO4:IsPair g4 TO x b:=hs4.extBut _ _ Z.a9 hTO3
 refine wpAny_bind (wpAny_seqItems hTO4 rfl ?_)
 refine wpAny_bind (wpAny_updateSeq_pair hTO4 fun g5 hTO5 hs5=>?_)
 replace hTO5:IsPair g5 TO x y:=hTO5
 replace hs5:Heap.SameBut TO g4 g5:=hs5
 refine wpAny_bind (wpAny_letGo (wpAny_pure (wpAny_pure ?_)))
 refine wpAny_bind (wpAny_seqItems hTO5 rfl ?_)
 refine wpAny_bind (wpAny_newTuple ?_)
 have hsz:g5.objs.size=hp.objs.size:=by rw [hs5.1,hs4.1,hs3.1,hs2.1,hs1.1]
 have hz5:IsZip g5 z TI TO .ellipsis:=hs5.extBut _ _ Z.a2.symm (hs4.extBut _ _ Z.a4.symm (hs3.extBut _ _ Z.a2.symm (hs2.extBut _ _ Z.a3.symm hz1)))
 have k5:∀ c o,c≠z->c≠TO->c≠j1->c≠j2->hp.get? c=some o->g5.get? c=some o:=fun c o c1 c2 c3 c4 e=>
  hs5.extBut _ _ c2 (hs4.extBut _ _ c4 (hs3.extBut _ _ c2 (hs2.extBut _ _ c3 (hs1.extBut _ _ c1 e))))
 have st15:S1 (k + 1) g5:=D1.but (D1.but (D1.but st1 hs3 Z.b2) hs4 Z.b3) hs5 Z.b2
 have st25:S2 (k + 1) g5:=D2.but st2 hs5 Z.b5
 have zlt:z < g5.objs.size:=Heap.lt_size hz5
 show wpAny _ _ (Builtin.SmallTypes.ownedTupleHandOut (.ref z) (.ref g5.objs.size) >>= _) _ _ _
 refine wpAny_bind ?_
 unfold Builtin.SmallTypes.ownedTupleHandOut
 have hz6:IsZip (g5.push { cls:=.type "tuple",data:=.seq #[x,y] }) z TI TO .ellipsis:=Heap.get?_push_of_some _ hz5
 refine wpAny_bind (wpAny_setField_rec hz6 (by simp) fun g7 hz7 hs7=>?_)
 replace hz7:IsZip g7 z TI TO (rawInt g5.objs.size):=hz7
 refine wpAny_setField_rec hz7 (by simp) fun g8 hz8 hs8=>?_
 replace hz8:IsZip g8 z TI TO (rawInt g5.objs.size):=hz8
 have up:∀ c o,c≠z->g5.get? c=some o->g8.get? c=some o:=fun c o c1 e=>hs8.extBut _ _ c1 (hs7.extBut _ _ c1 (Heap.get?_push_of_some _ e))
 have hT8:IsPair g8 g5.objs.size x y:=hs8.extBut _ _ (Nat.ne_of_gt zlt) (hs7.extBut _ _ (Nat.ne_of_gt zlt) (Heap.get?_push_size _ rfl))
 rw [hsz] at hz8 hT8
 refine wpAny_pure ⟨_,rfl,?_⟩
 show Q (.ref g5.objs.size) _
 rw [hsz]
 exact hQ x y g8 tk2 px py hz8 ⟨x,y,up _ _ Z.a2 hTO5⟩ (D1.frame _ _ _ st15 fun c hc o e=>up c o (fun q=>Z.b1 (by rw [<-q]; exact hc)) e) (D2.frame _ _ _ st25 fun c hc o e=>up c o (fun q=>Z.b4 (by rw [<-q]; exact hc)) e) hT8
  (fun c o hc e=>by
   simp only [List.mem_cons,List.not_mem_nil,or_false,not_or] at hc
   exact up c o hc.1 (k5 c o hc.1 hc.2.2.1 hc.2.2.2.1 hc.2.2.2.2 e)) (up _ _ Z.a1 (k5 _ _ Z.a1 Z.a5 Z.a6 Z.a7 hTI))
theorem zT {z TI TO j1 j2:Addr} {fp1 fp2:List Addr} {n1 n2 k:Nat} {P1 P2:Nat->Value->Prop} {S1 S2:Nat->Heap->Prop} {a b:Value} {Q:Fin->Shared->Prop} (Z:tP z TI TO j1 j2 fp1 fp2)
  (D1:Draws prog w A j1 fp1 n1 P1 S1) (D2:Draws prog w A j2 fp2 n2 P2 S2) (hz:IsZip s.heap z TI TO .none) (hTI:IsPair s.heap TI (.ref j1) (.ref j2)) (hTO:IsPair s.heap TO a b) (h1:S1 k s.heap) (h2:S2 k s.heap) (l:k=min n1 n2)
  (hE:∀ h' e tk,(∀ c o,c∉[z,TI,TO,j1,j2]->s.heap.get? c=some o->h'.get? c=some o)->(∃ o,h'.get? e=some o/\o.cls=.type "StopIteration")->E (.ref e) { s with heap:=h',toks:=tk }):
  wpAny (model prog w) A (Builtin.«zip.__next__» ⟨[.ref z],[]⟩) Q E s:=by
 obtain ⟨hp,g,d,tk₀,os⟩:=s
 have kp:∀ {h':Heap},(∀ c o,c≠z->c≠TO->c≠j1->c≠j2->hp.get? c=some o->h'.get? c=some o)->∀ c o,c∉[z,TI,TO,j1,j2]->hp.get? c=some o->h'.get? c=some o:=fun {h'} q c o hc e=>by
  simp only [List.mem_cons,List.not_mem_nil,or_false,not_or] at hc
  exact q c o hc.1 hc.2.2.1 hc.2.2.2.1 hc.2.2.2.2 e
 show wpAny _ _ (field (.ref z) 2 >>= _) _ _ _
 refine wpAny_bind (wpAny_field hz rfl (x:=.bool false) rfl ?_)
 show wpAny _ _ (field (.ref z) 3 >>= _) _ _ _
 refine wpAny_bind (wpAny_field hz rfl (x:=.ref TI) rfl ?_)
 refine wpAny_bind (wpAny_seqItems hTI rfl ?_)
 show wpAny _ _ (Builtin.SmallTypes.ownedTupleIsFree (.ref z) >>= _) _ _ _
 refine wpAny_bind ?_
 unfold Builtin.SmallTypes.ownedTupleIsFree
 refine wpAny_bind (wpAny_field hz rfl (x:=.none) rfl (wpAny_pure ?_))
 simp only [if_true]
 refine wpAny_bind (wpAny_rule ?_)
 refine wpAny_bind (wpAny_field hz rfl (x:=.ref TO) rfl ?_)
 refine wpAny_bind (wpAny_setField_rec hz (by simp) fun g1 hz1 hs1=>?_)
 replace hz1:IsZip g1 z TI TO .ellipsis:=hz1
 replace hs1:Heap.SameBut z hp g1:=hs1
 refine wpAny_bind ?_
 simp only [List.zipIdx_cons,List.zipIdx_nil,List.forIn_cons,List.forIn_nil]
 refine wpAny_bind (wpAny_bind (wpAny_onRaise ?_))
 show wpAny _ _ (Builtin.SmallTypes.nextOf (.ref j1) >>= _) _ _ _
 by_cases hk:k=n1
 ·subst hk
  refine wpAny_bind (D1.done ⟨g1,g,d,tk₀,os⟩ _ _ (D1.but h1 hs1 Z.b1) fun g2 e hs2 he=>?_)
  replace hs2:Heap.ExtBut j1 g1 g2:=hs2
  obtain ⟨oe,hoe,hce⟩:=he
  have hz2:IsZip g2 z TI TO .ellipsis:=hs2 _ _ Z.a3.symm hz1
  have nez:e≠z:=fun q=>by
   subst q
   rw [hz2] at hoe
   cases hoe
   simp at hce
  refine wpAny_setField_rec hz2 (by simp) fun g3 _ hs3=>hE g3 e tk₀ (kp fun c o c1 _ c3 _ q=>hs3.extBut _ _ c1 (hs2 _ _ c3 (hs1.extBut _ _ c1 q))) ⟨oe,hs3.extBut _ _ nez hoe,hce⟩
 ·have hlt:k < n1:=by omega
  have hk2:k=n2:=by omega
  refine wpAny_bind (D1.item k ⟨g1,g,d,tk₀,os⟩ _ _ hlt (D1.but h1 hs1 Z.b1) fun x g2 tk1 px st1 hs2=>wpAny_pure ?_)
  replace hs2:Heap.SameBut j1 g1 g2:=hs2
  have hTO2:IsPair g2 TO a b:=hs2.extBut _ _ Z.a8 (hs1.extBut _ _ Z.a2 hTO)
  refine wpAny_bind (wpAny_seqItems hTO2 rfl ?_)
  refine wpAny_bind (wpAny_updateSeq_pair hTO2 fun g3 hTO3 hs3=>?_)
  replace hs3:Heap.SameBut TO g2 g3:=hs3
  refine wpAny_bind (wpAny_letGo (wpAny_pure ?_))
  refine wpAny_bind (wpAny_bind (wpAny_onRaise ?_))
  show wpAny _ _ (Builtin.SmallTypes.nextOf (.ref j2) >>= _) _ _ _
  subst hk2
  refine wpAny_bind (D2.done ⟨g3,g,d,tk1,os⟩ _ _ (D2.but (D2.but (D2.but h2 hs1 Z.b4) hs2 Z.b6) hs3 Z.b5) fun g4 e hs4 he=>?_)
  replace hs4:Heap.ExtBut j2 g3 g4:=hs4
  obtain ⟨oe,hoe,hce⟩:=he
  have hz4:IsZip g4 z TI TO .ellipsis:=hs4 _ _ Z.a4.symm (hs3.extBut _ _ Z.a2.symm (hs2.extBut _ _ Z.a3.symm hz1))
  have nez:e≠z:=fun q=>by
   subst q
   rw [hz4] at hoe
   cases hoe
   simp at hce
  refine wpAny_setField_rec hz4 (by simp) fun g5 _ hs5=>hE g5 e tk1 (kp fun c o c1 c2 c3 c4 q=>hs5.extBut _ _ c1 (hs4 _ _ c4 (hs3.extBut _ _ c2 (hs2.extBut _ _ c3 (hs1.extBut _ _ c1 q))))) ⟨oe,hs5.extBut _ _ nez hoe,hce⟩
end
noncomputable abbrev zh1 (S1:Src) (h:Heap) (l1:Addr):Heap:=h.push { cls:=.type S1.icls,data:=.fields #[.ref l1,.int 0 0] }
noncomputable abbrev zh2 (S1 S2:Src) (h:Heap) (l1 l2:Addr):Heap:=(zh1 S1 h l1).push { cls:=.type S2.icls,data:=.fields #[.ref l2,.int 0 0] }
noncomputable abbrev zh3 (S1 S2:Src) (h:Heap) (l1 l2:Addr):Heap:=(zh2 S1 S2 h l1 l2).push { cls:=.type "tuple",data:=.seq #[.ref h.objs.size,.ref (zh1 S1 h l1).objs.size] }
noncomputable abbrev zh4 (S1 S2:Src) (h:Heap) (l1 l2:Addr):Heap:=(zh3 S1 S2 h l1 l2).push { cls:=.type "tuple",data:=.seq #[.none,.none] }
noncomputable abbrev zh5 (S1 S2:Src) (h:Heap) (l1 l2:Addr):Heap:=(zh4 S1 S2 h l1 l2).push { cls:=.type "zip",data:=.fields #[.none,.bool false,.bool false,.ref (zh2 S1 S2 h l1 l2).objs.size,.ref (zh3 S1 S2 h l1 l2).objs.size] }
theorem Bx (S1 S2:Src) (l1 l2:Addr) (xs ys:Array Value):
  Meets (Builtin.«zip.__new__» ⟨[.type "zip",.ref l1,.ref l2],[]⟩) (fun _ R s=>S1.Is s.heap l1 xs/\S2.Is s.heap l2 ys/\R (.ok (.ret (.ref (zh4 S1 S2 s.heap l1 l2).objs.size))) { s with heap:=zh5 S1 S2 s.heap l1 l2 }):=
 .of_wp fun prog w A R s h=>by
  obtain ⟨hp,g,d,tk,os⟩:=s
  obtain ⟨q1,q2,h⟩:=h
  have hsub:=sub_zip
  have hL1:S1.Is (Shared.heap ⟨hp,g,d,tk,os⟩) l1 xs:=q1
  have hL2:S2.Is (Shared.heap ⟨zh1 S1 hp l1,g,d,tk,os⟩) l2 ys:=S2.isKeep q2 fun o e=>Heap.get?_push_of_some _ e
  wp_walk using S1.iter hL1,S2.iter hL2
  exact ⟨_,rfl,h⟩
noncomputable def Itz (S1 S2 : Src) (K : PySem.W.Frag) (a b : Addr) : It :=
  ⟨fun i H => ∃ xs ys x y, S1.Sq K H a xs ∧ S2.Sq K H b ys ∧ xs[i]? = some x ∧ ys[i]? = some y,
   fun i H x H' => ∃ T u v, H T = none ∧ x = .ref T ∧ H' = upd H T (.tup [u, v]) ∧ ∀ xs ys, S1.Sq K H a xs → S2.Sq K H b ys → xs[i]? = some u ∧ ys[i]? = some v,
   fun i H => ∃ xs ys, S1.Sq K H a xs ∧ S2.Sq K H b ys ∧ min xs.length ys.length = i⟩
theorem zap {z TI TO j1 j2 a b:Addr} (nd:[z,TI,TO,j1,j2].Nodup) (h1:∀ c∈[z,TI,TO,j1,j2],c≠a) (h2:∀ c∈[z,TI,TO,j1,j2],c≠b):tP z TI TO j1 j2 [j1,a] [j2,b]:=by
 simp only [List.nodup_cons,List.mem_cons,List.not_mem_nil,or_false,not_or] at nd
 obtain ⟨⟨c1,c2,c3,c4⟩,⟨c5,c6,c7⟩,⟨c8,c9⟩,c10,_⟩:=nd
 have g1:=h1 z (by simp)
 have g2:=h1 TO (by simp)
 have g3:=h1 j2 (by simp)
 have g4:=h2 z (by simp)
 have g5:=h2 TO (by simp)
 have g6:=h2 j1 (by simp)
 exact ⟨Ne.symm c1,Ne.symm c2,Ne.symm c3,Ne.symm c4,c5,c6,c7,c8,c9,c10,by simp [c3,g1],by simp [c8,g2],by simp [Ne.symm c10,g3],by simp [c4,g4],by simp [c9,g5],by simp [c10,g6]⟩
theorem zU {P:Program} {w:World} {K:PySem.W.Frag} {elts:List Expr} {k0:Nat} {pos:Pos} (S1 S2:Src) (a b z TI TO j1 j2:Addr) (nd:[z,TI,TO,j1,j2].Nodup):
  ma P w K (.Tuple elts k0 pos) (Itz S1 S2 K a b) [z,TI,TO,j1,j2] z (fun i h=>IsZip h z TI TO .none/\IsPair h TI (.ref j1) (.ref j2)/\(∃ u v,IsPair h TO u v)/\S1.It h j1 a i/\S2.It h j2 b i) where
 mem:=by simp
 obj:=fun i h st c hc=>by
  obtain ⟨q1,q2,⟨u,v,q3⟩,q4,q5⟩:=st
  simp only [List.mem_cons,List.not_mem_nil,or_false] at hc
  rcases hc with rfl | rfl | rfl | rfl | rfl
  ·exact ⟨_,q1,fun v z=>nomatch z⟩
  ·exact ⟨_,q2,fun v z=>nomatch z⟩
  ·exact ⟨_,q3,fun v z=>nomatch z⟩
  ·obtain ⟨o,ho,_,hd⟩:=S1.isIt q4
   exact ⟨o,ho,fun v z=>by rw [hd] at z; cases z⟩
  ·obtain ⟨o,ho,_,hd⟩:=S2.isIt q5
   exact ⟨o,ho,fun v z=>by rw [hd] at z; cases z⟩
 keep:=fun i h h' st k=>by
  obtain ⟨q1,q2,⟨u,v,q3⟩,q4,q5⟩:=st
  exact ⟨k z (by simp) _ q1,k TI (by simp) _ q2,⟨u,v,k TO (by simp) _ q3⟩,S1.itKeep q4 fun o q=>k j1 (by simp) o q,S2.itKeep q5 fun o q=>k j2 (by simp) o q⟩
 item:=by
  intro X hP hw hK hc i pins s σ H E I hf st hg
  subst hP hw hK
  obtain ⟨xs,ys,x,y,hq1,hq2,hx,hy⟩:=hg
  obtain ⟨us,r1,p1,_⟩:=S1.get I hq1
  obtain ⟨vs,r2,p2,_⟩:=S2.get I hq2
  obtain ⟨q1,q2,⟨u0,v0,q3⟩,q4,q5⟩:=st
  obtain ⟨u,hu,ru⟩:=r1.get hx
  obtain ⟨v,hv,rv⟩:=r2.get hy
  have Z:=zap nd (fun c hc'=>S1.off I hq1 (hf c hc')) (fun c hc'=>S2.off I hq2 (hf c hc'))
  have hh:X.A.in1.handled=none:=I.ok.hd hc
  have n1:a≠j1:=Ne.symm (S1.off I hq1 (hf j1 (by simp)))
  have n2:b≠j2:=Ne.symm (S2.off I hq2 (hf j2 (by simp)))
  have l1:i < us.toArray.size:=by have:=(List.getElem?_eq_some_iff.mp hu).1; simpa using this
  have l2:i < vs.toArray.size:=by have:=(List.getElem?_eq_some_iff.mp hv).1; simpa using this
  have hT:s.TypeIs (.ref z) "zip":=⟨_,q1,rfl⟩
  unfold pyNext
  refine wpAny_bind (wpAny_attempt (wpAny_callSpecial?_slot (name:=Str.ofString "__next__") hT F.slot_zip_next (wpAny_call_entry F.slot_zip_next hT F.entry_zip_next
   (yy (A:=X.A.in1) Z (S1.draws hh j1 a n1 us.toArray) (S2.draws hh j2 b n2 vs.toArray) q1 q2 q3 ⟨q4,p1⟩ ⟨q5,p2⟩ l1 l2 fun x' y' h' tk px py z1 z2 z3 z4 z5 z6 z7=>wpAny_pure ?_) (F.args_zip_next_1 _))))
  have ex:x'=u:=by
   have:us.toArray[i]?=some u:=by simpa using hu
   rw [this] at px
   exact (Option.some.inj px).symm
  have ey:y'=v:=by
   have:vs.toArray[i]?=some v:=by simpa using hv
   rw [this] at py
   exact (Option.some.inj py).symm
  subst ex ey
  refine ⟨_,rfl,wpAny_letOwnedTupleGo_zip z1 fun h2 w1 hs2=>?_⟩
  have nz:∀ c,c∈[TI,TO,j1,j2]->c≠z:=fun c hc' e=>by
   subst e
   exact (List.nodup_cons.mp nd).1 hc'
  have zlt:z < s.heap.objs.size:=Heap.lt_size q1
  have hT2:h2.get? s.heap.objs.size=some { cls:=.type "tuple",data:=.seq #[x',y'] }:=hs2.extBut _ _ (CD (Nat.le_refl _) zlt) z5
  have kept:∀ c ob,c∉[z,TI,TO,j1,j2]->s.heap.get? c=some ob->h2.get? c=some ob:=fun c ob hc' q=>hs2.extBut _ _ (fun e=>hc' (by simp [e])) (z6 c ob hc' q)
  obtain ⟨u1,v1,z2⟩:=z2
  refine ⟨.ref s.heap.objs.size,upd H s.heap.objs.size (.tup [x,y]),?_,rfl,⟨_,x,y,I.fresh,rfl,rfl,fun xs' ys' h1 h2=>by rw [S1.inj I h1 hq1,S2.inj I h2 hq2]; exact ⟨hx,hy⟩⟩,
   ⟨w1,hs2.extBut _ _ (nz TI (by simp)) z7,⟨u1,v1,hs2.extBut _ _ (nz TO (by simp)) z2⟩,S1.itKeep z3.1 fun o q=>hs2.extBut _ _ (nz j1 (by simp)) q,S2.itKeep z4.1 fun o q=>hs2.extBut _ _ (nz j2 (by simp)) q⟩,fun c hc'=>?_⟩
  ·exact I.turns (t':=tk) hf kept (Nat.le_refl _) ⟨(by show 2<=sizeLine; decide),[x',y'],.cons ru (.cons rv .nil),_,hT2,rfl,⟨0,rfl⟩,rfl⟩
  ·have lt:c < s.heap.objs.size:=by
    have st':IsZip s.heap z TI TO .none/\IsPair s.heap TI (.ref j1) (.ref j2)/\(∃ u v,IsPair s.heap TO u v)/\S1.It s.heap j1 a i/\S2.It s.heap j2 b i:=⟨q1,q2,⟨u0,v0,q3⟩,q4,q5⟩
    simp only [List.mem_cons,List.not_mem_nil,or_false] at hc'
    rcases hc' with rfl | rfl | rfl | rfl | rfl
    ·exact zlt
    ·exact Heap.lt_size q2
    ·exact Heap.lt_size q3
    ·obtain ⟨o,ho,_⟩:=S1.isIt q4
     exact Heap.lt_size ho
    ·obtain ⟨o,ho,_⟩:=S2.isIt q5
     exact Heap.lt_size ho
   rw [aB (jh lt (Nat.le_refl _))]
   exact (hf c hc').1
 done:=by
  intro X hP hw hK hc i pins s σ H E I hf st hg
  subst hP hw hK
  obtain ⟨xs,ys,hq1,hq2,hi⟩:=hg
  obtain ⟨us,r1,p1,_⟩:=S1.get I hq1
  obtain ⟨vs,r2,p2,_⟩:=S2.get I hq2
  obtain ⟨q1,q2,⟨u0,v0,q3⟩,q4,q5⟩:=st
  have Z:=zap nd (fun c hc'=>S1.off I hq1 (hf c hc')) (fun c hc'=>S2.off I hq2 (hf c hc'))
  have hh:X.A.in1.handled=none:=I.ok.hd hc
  have n1:a≠j1:=Ne.symm (S1.off I hq1 (hf j1 (by simp)))
  have n2:b≠j2:=Ne.symm (S2.off I hq2 (hf j2 (by simp)))
  have hT:s.TypeIs (.ref z) "zip":=⟨_,q1,rfl⟩
  have hl:i=min us.toArray.size vs.toArray.size:=by
   have:=r1.length
   have:=r2.length
   simp only [List.size_toArray]
   omega
  unfold pyNext
  refine wpAny_bind (wpAny_attempt (wpAny_callSpecial?_slot (name:=Str.ofString "__next__") hT F.slot_zip_next (wpAny_call_entry F.slot_zip_next hT F.entry_zip_next
   (zT (A:=X.A.in1) Z (S1.draws hh j1 a n1 us.toArray) (S2.draws hh j2 b n2 vs.toArray) q1 q2 q3 ⟨q4,p1⟩ ⟨q5,p2⟩ hl fun h' e tk kp he=>?_) (F.args_zip_next_1 _))))
  obtain ⟨o,ho,hcl⟩:=he
  refine wpAny_bind (wpAny_isInstance (T:="StopIteration") (b:=true) ⟨o,ho,hcl⟩ isSubtype_stop ?_)
  exact wpAny_pure ⟨rfl,I.turnsN (t':=tk) hf kp⟩
 self:=fun _ _ _ _ _ st h=>wpAny_pyIter_zip st.1 h
section
variable {X:Cx} {elts:List Expr} {k0:Nat} {tpos:Pos}
noncomputable def qo (S1 S2:Src) (K:PySem.W.Frag) (ta:TA):TI:=fun σ H R=>ta σ H fun vs H1=>∃ a b xs ys,vs=[.ref a,.ref b]/\S1.Sq K H1 a xs/\S2.Sq K H1 b ys/\R (Itz S1 S2 K a b) H1
theorem oZ (S1 S2:Src) {a b:Expr} {ta:TA} {p pos:Pos} (hg:Gl X "zip") (hm:X.mg "zip"=none) (ha:PA X [a,b] ta) (hs:starEach [a,b] X.env=[(false,eval a X.env),(false,eval b X.env)]:=by rfl) (hs2:starEach [b] X.env=[(false,eval b X.env)]:=by rfl):
  PI X (.Tuple elts k0 tpos) (.Call (.Name "zip" p) [a,b] [] pos) (qo S1 S2 X.K ta):=by
 intro pins s σ H R I h
 refine Call_ (jK I hg hm boot_zip (PyProof.Rows.callWith_type1 (thn (ha pos pins s σ H _ I h) fun us s1 ⟨vs,H1,I1,r1,q1⟩=>?_) (by rw [hs,hs2]) (by rw [hs2]; rfl)))
 obtain ⟨l1,l2,xs,ys,e,hq1,hq2,q⟩:=q1
 subst e
 obtain ⟨u,v,rfl,ru,rv⟩:=r1.two
 cases ru
 cases rv
 obtain ⟨us1,_,p1,_⟩:=S1.get I1 hq1
 obtain ⟨us2,_,p2,_⟩:=S2.get I1 hq2
 refine callType_new F.called_zip (by decide) (F.typeCall_zip_2 _ _) (F.newCall_zip_2 _ _) (fun obj=>F.args_object_init_3 obj _ _) F.entry_zip_new (Bx S1 S2 l1 l2 us1.toArray us2.toArray) ⟨p1,p2,?_⟩
 generalize hn:s1.heap.objs.size=n
 have z1:(zh1 S1 s1.heap l1).objs.size=n + 1:=by rw [Heap.size_push,hn]
 have z2:(zh2 S1 S2 s1.heap l1 l2).objs.size=n + 2:=by rw [Heap.size_push,z1]
 have z3:(zh3 S1 S2 s1.heap l1 l2).objs.size=n + 3:=by rw [Heap.size_push,z2]
 have z4:(zh4 S1 S2 s1.heap l1 l2).objs.size=n + 4:=by rw [Heap.size_push,z3]
 have g5:(zh5 S1 S2 s1.heap l1 l2).get? (zh4 S1 S2 s1.heap l1 l2).objs.size=some _:=Heap.get?_push_size _ rfl
 have g4:(zh5 S1 S2 s1.heap l1 l2).get? (zh3 S1 S2 s1.heap l1 l2).objs.size=some _:=Heap.get?_push_of_some _ (Heap.get?_push_size _ rfl)
 have g3:(zh5 S1 S2 s1.heap l1 l2).get? (zh2 S1 S2 s1.heap l1 l2).objs.size=some _:=Heap.get?_push_of_some _ (Heap.get?_push_of_some _ (Heap.get?_push_size _ rfl))
 have g2:(zh5 S1 S2 s1.heap l1 l2).get? (zh1 S1 s1.heap l1).objs.size=some _:=Heap.get?_push_of_some _ (Heap.get?_push_of_some _ (Heap.get?_push_of_some _ (Heap.get?_push_size _ rfl)))
 have g1:(zh5 S1 S2 s1.heap l1 l2).get? s1.heap.objs.size=some _:=Heap.get?_push_of_some _ (Heap.get?_push_of_some _ (Heap.get?_push_of_some _ (Heap.get?_push_of_some _ (Heap.get?_push_size _ rfl))))
 have kp:∀ c o,s1.heap.get? c=some o->(zh5 S1 S2 s1.heap l1 l2).get? c=some o:=fun c o e=>
  Heap.get?_push_of_some _ (Heap.get?_push_of_some _ (Heap.get?_push_of_some _ (Heap.get?_push_of_some _ (Heap.get?_push_of_some _ e))))
 show _/\_
 rw [z2,z3,z4] at g5
 rw [z1,z2,hn] at g3
 rw [z3] at g4
 rw [z1] at g2
 rw [hn] at g1
 rw [z4]
 refine ⟨⟨_,g5,rfl⟩,wpAny_pyIter_zip g5 ?_⟩
 have I2:Inv X pins σ H1 { s1 with heap:=zh5 S1 S2 s1.heap l1 l2 }:=I1.kept (t':=s1.toks) kp
 refine ⟨n + 4,[n + 4,n + 2,n + 3,n,n + 1],_,_,H1,rfl,I2,zU S1 S2 l1 l2 _ _ _ _ _ (by simp),⟨g5,g3,⟨_,_,g4⟩,S1.mkI g1 rfl rfl,S2.mkI g2 rfl rfl⟩,fun c hc=>?_,q⟩
 have hc':s1.heap.objs.size<=c:=by
  rw [hn]
  simp only [List.mem_cons,List.not_mem_nil,or_false] at hc
  rcases hc with rfl | rfl | rfl | rfl | rfl
  ·exact Nat.le_add_right _ _
  ·exact Nat.le_add_right _ _
  ·exact Nat.le_add_right _ _
  ·exact Nat.le_refl _
  ·exact Nat.le_add_right _ _
 exact I1.fpOk hc' (I1.hok.fresh hc')
end
end L2
end
section
namespace L2
open PySem PySem.Spec PyProof.Rows
section
variable {X:Cx}
noncomputable def A3 (K:PySem.W.Frag):R2:=fun x y H Q=>∃ a b xs ys,x=.ref a/\y=.ref b/\SqT K H a xs/\SqT K H b ys/\xs.length + ys.length<=sizeLine/\
 (xs=[]->Q (.ref b) H)/\(xs≠[]->ys=[]->Q (.ref a) H)/\(xs≠[]->ys≠[]->∀ p,H p=none->Q (.ref p) (upd H p (.tup (xs++ys))))
theorem By:OpR X (binaryOp .Add) (A3 X.K):=by
 intro pins s σ H x y v u Q I rx ry h
 obtain ⟨a,b,xs,ys,rfl,rfl,ha,hb,hz,q0,q1,q2⟩:=h
 by_cases hx:xs=[]
 ·cases rx
  cases ry
  obtain ⟨its,r1,p1,_⟩:=I.tuple ha
  obtain ⟨its2,r2,p2,_⟩:=I.tuple hb
  obtain ⟨⟨cls,dd,data,sl⟩,ho,hc,n,hd⟩:=id p1
  obtain ⟨⟨cls2,dd2,data2,sl2⟩,ho2,hc2,n2,hd2⟩:=id p2
  simp only at hc hd hc2 hd2
  subst hc hd hc2 hd2
  have e:its=[]:=r1.nil_iff.mpr hx
  exact concat_meets ⟨_,ho,rfl⟩ ⟨_,ho2,rfl⟩ noFill_tuple_add seq_tuple_add PySem.F.slot_tuple_add PySem.F.entry_tuple_add (PySem.F.args_tuple_add_2 _ _)
   (tuple_addW0 a b its.toArray its2.toArray n n2 dd dd2 sl sl2 (by simp [e])) ⟨ho,ho2,⟨.ref b,H,I,rfl,q0 hx⟩⟩
 ·exact Bt pins s σ H _ _ v u Q I rx ry ⟨a,b,xs,ys,rfl,rfl,ha,hb,hx,hz,q1 hx,q2 hx⟩
theorem rk {x:V}:∀ {xs:List V} {us:List Value},aD xs us->xs.all dq=true->us.countP (eqU x)=xs.countP fun y=>eqV y x
 | _,_,.nil,_=>rfl
 | y :: xs,u :: us,.cons r t,f=>by
  rw [List.all_cons,Bool.and_eq_true] at f
  rw [List.countP_cons,List.countP_cons,tI r f.1,rk t f.2]
noncomputable def tBT (r:V->List V->Hp->VK->Prop) (to:TE) (t:TA):TE:=fun σ H Q=>to σ H fun x H1=>(∃ a xs,x=.ref a/\H1 a=some (.tup xs))/\t σ H1 fun xs H2=>r x xs H2 Q
theorem DL {o e:Expr} {es:List Expr} {to:TE} {t:TA} {name:Str} {apos cpos:Pos} {id:String} {r:V->List V->Hp->VK->Prop} (pa:PlainAttrs "tuple") (slot:Slot "tuple" name id) (hty:typeOf (.builtin id)=pure (.type "method_descriptor")) (hm:MtR X id r) (ho:PE X o to) (ha:PA X (e :: es) t)
  (hbase:attributeBase o name X.env (eval o X.env)=eval o X.env:=by rfl)
  (hfew:((backTo cpos (starEach (e :: es) X.env)).all (fun x=>!x.1) && (backToKw cpos (keywordEach [] X.env)).all (fun x=>x.1.isSome)
   && decide ((e :: es).length + ([]:List Keyword).length + (if ([]:List Keyword).isEmpty then 0 else 1) < 30))=true:=by rfl)
  (hline:(apos.endLine == cpos.line)=true:=by rfl) (hs:starEach (e :: es) X.env=(false,eval e X.env) :: starEach es X.env:=by rfl) (hplain:(backTo cpos (starEach es X.env)).any (·.1)=false:=by rfl):
  PE X (.Call (.Attribute o name apos) (e :: es) [] cpos) (tBT r to t):=by
 intro pins s σ H Q I h
 refine wpAny_Call_method_late hbase hfew hline rfl (thn (ho pins s σ H _ I h) fun v s1 ⟨x,H1,I1,r1,ty,q1⟩=>?_)
 obtain ⟨a,xs,rfl,hx⟩:=ty
 cases r1
 obtain ⟨_,its,_,o',ho',hc',_,hd'⟩:=I1.hok a _ hx
 refine ⟨"tuple",id,pa,slot,hty,⟨o',ho',hc'⟩,fun b e=>?_,?_⟩
 ·cases e
  exact ⟨o',ho',hd'⟩
 have hA:=ha cpos pins s1 σ H1 _ I1 q1
 rw [hs] at hA ⊢
 refine Calls.callWith_builtin (by show (false || (backTo cpos (starEach es X.env)).any (·.1))=false; rw [hplain] <;> rfl) (Calls.evalArgs_plain ?_)
 exact thn hA fun us s2 ⟨vs,H2,I2,r2,q2⟩=>hm pins s2 σ H2 (.ref a) vs (.ref a) us Q I2 rfl r2 q2
noncomputable def wq:V->List V->Hp->VK->Prop:=fun x vs H Q=>∃ l xs y,x=.ref l/\vs=[y]/\H l=some (.tup xs)/\dq y=true/\xs.all dq=true/\Q (.int (xs.countP fun z=>eqV z y:Nat)) H
theorem yz:MtR X "tuple.count" wq:=by
 intro pins s σ H x vs v us Q I rx rv h
 obtain ⟨l,xs,y,rfl,rfl,hH,fy,fx,q⟩:=h
 cases rx
 obtain ⟨u,rfl,ru⟩:=rv.one
 obtain ⟨_,its,r,⟨cls,dd,data,sl⟩,ho,hc,⟨n,hd⟩,hdd⟩:=I.hok l _ hH
 simp only at hc hd hdd
 subst hc hd hdd
 refine call_meets PySem.F.slot_tuple_count ⟨_,ho,rfl⟩ PySem.F.entry_tuple_count (PySem.F.args_tuple_count_2 _ _) (SeqAt.tuple_countAt l its.toArray n none sl u (eqU y)) ⟨ho,fun z hz=>iJ ru fy r fx z (by simpa using hz),?_⟩
 refine ⟨.int (xs.countP fun z=>eqV z y:Nat),H,I.tok _,⟨s.toks,?_⟩,q⟩
 show Value.int ((its.toArray.toList.countP (eqU y):Nat):Int) s.toks=_
 rw [show its.toArray.toList=its from rfl,rk r fx]
end
end L2
end
section
namespace L2
open PySem
section
variable {σ:St} {H:Hp} {Q:VK} {D:iH} {K:PySem.W.Frag}
theorem cY {t u:TS} (h:t { nx:=u D,rt:=D.rt,bk:=D.bk,ct:=D.ct } σ H):aq t u D σ H:=h
theorem jE {t u:TS} (h:∀ NX:St->Hp->Prop,(∀ σ H,u D σ H->NX σ H)->t { nx:=NX,rt:=D.rt,bk:=D.bk,ct:=D.ct } σ H):aq t u D σ H:=h _ fun _ _ h=>h
theorem yA (h:D.nx σ H):aX D σ H:=h
theorem A4 {te:TE} {g:TG} (h:te σ H fun x H1=>g x σ H1 D.nx):aU te g D σ H:=h
theorem DM {te:TE} (h:te σ H D.rt):aL te D σ H:=h
theorem CK (h:D.rt .non H):DH D σ H:=h
theorem CL {te:TE} (h:te σ H fun _ H1=>D.nx σ H1):kZ te D σ H:=h
theorem A6 {c:TT} {t u:TS} (h:c σ H fun b H1=>if b=true then t D σ H1 else u D σ H1):bw c t u D σ H:=h
theorem Bz (h:D.bk σ H):Cs D σ H:=h
theorem CM (h:D.ct σ H):DG D σ H:=h
theorem yB {i:Nat} {v:V} {R:St->Hp->Prop} (h:R (σ.set i (some v)) H):am i v σ H R:=h
theorem CN {to ti:TE} {t:zD} {v:V} {R:St->Hp->Prop} (h:to σ H fun o H1=>ti σ H1 fun i H2=>t o i v H2 fun H3=>R σ H3):EH to ti t v σ H R:=h
theorem DN {i:Nat} {v:V} (e:σ[i]?=some (some v)) (h:Q v H):ac i σ H Q:=⟨v,e,h⟩
theorem r_c {v:V} (h:Q v H):tC v σ H Q:=h
theorem EK {r:R2} {ta tb:TE} (h:ta σ H fun x H1=>tb σ H1 fun y H2=>r x y H2 Q):tOp r ta tb σ H Q:=h
theorem EL {r:V->Hp->VK->Prop} {ta:TE} (h:ta σ H fun x H1=>r x H1 Q):tUn r ta σ H Q:=h
theorem EM {g:Int->Int->V} {i j:Int} (h:Q (g i j) H):rI0 g (.int i) (.int j) H Q:=⟨i,j,rfl,rfl,h⟩
theorem r_I {C:Int->Int->Prop} {g:Int->Int->V} {i j:Int} (c:C i j) (h:Q (g i j) H):rI C g (.int i) (.int j) H Q:=⟨i,j,rfl,rfl,c,h⟩
theorem r_U {g:Int->V} {i:Int} (h:Q (g i) H):rU g (.int i) H Q:=⟨i,rfl,h⟩
theorem DO {i j:Int} (h:Q (.bl (decide (i=j))) H):rEq (.int i) (.int j) H Q:=⟨rfl,by rw [show decide (V.int i=V.int j)=decide (i=j) from decide_eq_decide.mpr ⟨fun e=>by injection e,fun e=>by rw [e]⟩]; exact h⟩
theorem DP {i j:Int} (h:Q (.bl (!decide (i=j))) H):rNe (.int i) (.int j) H Q:=⟨rfl,by rw [show decide (V.int i=V.int j)=decide (i=j) from decide_eq_decide.mpr ⟨fun e=>by injection e,fun e=>by rw [e]⟩]; exact h⟩
theorem DQ {i j:Bool} (h:Q (.bl (i == j)) H):rEq (.bl i) (.bl j) H Q:=⟨rfl,by rw [show decide (V.bl i=V.bl j)=(i == j) by cases i <;> cases j <;> rfl]; exact h⟩
theorem DR {i j:Bool} (h:Q (.bl (!(i == j))) H):rNe (.bl i) (.bl j) H Q:=⟨rfl,by rw [show decide (V.bl i=V.bl j)=(i == j) by cases i <;> cases j <;> rfl]; exact h⟩
theorem CO {t:TE} {R:Bool->Hp->Prop} (h:t σ H fun x H'=>∃ k,x=.bl k/\R k H'):aY t σ H R:=h
theorem EN {t:TE} {R:Bool->Hp->Prop} (h:t σ H fun x H'=>∃ k,x=.bl k/\R k H'):tB t σ H R:=h
theorem CP {b:Bool} {R:Bool->Prop} (h:R b):∃ k,V.bl b=.bl k/\R k:=⟨b,rfl,h⟩
theorem DS {t u:TT} {R:Bool->Hp->Prop} (h:t σ H fun c H1=>if c=true then u σ H1 R else R false H1):wL t u σ H R:=h
theorem EO {t u:TT} {R:Bool->Hp->Prop} (h:t σ H fun c H1=>if c=true then R true H1 else u σ H1 R):tOr t u σ H R:=h
theorem DT {t:TT} {R:Bool->Hp->Prop} (h:t σ H fun c H1=>R (!c) H1):fe t σ H R:=h
theorem CQ {ta tb:TE} (h:ta σ H fun x H1=>∃ c,x=.bl c/\if c=true then tb σ H1 Q else Q (.bl false) H1):kY ta tb σ H Q:=h
theorem DU {ta tb:TE} (h:ta σ H fun x H1=>∃ c,x=.bl c/\if c=true then Q (.bl true) H1 else tb σ H1 Q):zC ta tb σ H Q:=h
theorem CS {ta:TE} (h:ta σ H fun x H1=>∃ c,x=.bl c/\Q (.bl (!c)) H1):sw ta σ H Q:=h
theorem EQ {t:TT} {ta tb:TE} (h:t σ H fun c H1=>if c=true then ta σ H1 Q else tb σ H1 Q):tIf t ta tb σ H Q:=h
theorem BA {r r':R2} {ta tb tc:TE} (h:ta σ H fun x H1=>tb σ H1 fun y H2=>r x y H2 fun z H3=>∃ k,z=.bl k/\(if k=true then tc σ H3 fun w' H4=>r' y w' H4 Q else Q (.bl false) H3)):tu r r' ta tb tc σ H Q:=h
theorem DV {R:List V->Hp->Prop} (h:R [] H):ai σ H R:=h
theorem CT {ta:TE} {tr:TA} {R:List V->Hp->Prop} (h:ta σ H fun x H1=>tr σ H1 fun xs H2=>R (x :: xs) H2):ab ta tr σ H R:=h
theorem CU {sp:Sp} {E:XK} {t:TA} (h:t σ H fun vs H1=>sp vs H1 Q E):az sp [] E t σ H Q:=by
 show t σ H fun vs H1=>sp (vs++[]) H1 Q E
 simpa only [List.append_nil] using h
theorem ER {r:List V->Hp->VK->Prop} {t:TA} (h:t σ H fun vs H1=>r vs H1 Q):tCB r t σ H Q:=h
theorem ES {T:String} {r:V->List V->Hp->VK->Prop} {to:TE} {t:TA} (h:to σ H fun x H1=>tyV K T x H1/\t σ H1 fun xs H2=>r x xs H2 Q):tBM K T r to t σ H Q:=h
theorem DW {T:String} {r:V->List V->Hp->VK->Prop} {to:TE} (h:to σ H fun x H1=>tyV K T x H1/\r x [] H1 Q):EJ K T r to σ H Q:=h
theorem ET {r:V->List V->Hp->VK->Prop} {to:TE} {t:TA} (h:to σ H fun x H1=>(∃ a xs,x=.ref a/\H1 a=some (.tup xs))/\t σ H1 fun xs H2=>r x xs H2 Q):tBT r to t σ H Q:=h
theorem EU {r:V->Option Int->Option Int->Hp->VK->Prop} {te:TE} {tl th:TO} (h:te σ H fun x H1=>tl σ H1 fun l H2=>th σ H2 fun u H3=>r x l u H3 Q):tSl r te tl th σ H Q:=h
theorem zV {R:Option Int->Hp->Prop} (h:R none H):m9 σ H R:=h
theorem CV {t:TE} {R:Option Int->Hp->Prop} (h:t σ H fun x H1=>∃ i,x=.int i/\R (some i) H1):sL t σ H R:=h
theorem DX {i:Int} {R:Int->Prop} (h:R i):∃ j,V.int i=.int j/\R j:=⟨i,rfl,h⟩
theorem DY {wi:TI} {g:TG} {tb:TS} (h:wi σ H fun J H1=>∃ W:Nat->Nat->St->Hp->Prop,(∃ m,W 0 m σ H1)/\∀ i m σ H,W i m σ H->
  (J.stop i H/\D.nx σ H)\/(J.go i H/\∃ N:St->Hp->Prop,(∀ σ' H',N σ' H'->∃ m',m' < m/\W (i + 1) m' σ' H')/\∀ x H',J.yld i H x H'->g x σ H' fun σ2 H2=>tb { D with nx:=N,ct:=N,bk:=D.nx } σ2 H2)):gH wi g tb D σ H:=h
theorem CW {wi:TI} {g:CF TG} {tt:CF TT} {te:CF TE} {ix:List (Option Nat)} (h:wi σ H fun J H1=>∀ p,H1 p=none->
  ∃ W:Nat->Nat->List V->Hp->Prop,(∃ m,W 0 m [] (upd H1 p (.lst [])))/\∀ C s' H' fp,dg J (g C s' H' fp) (tt C s' H' fp) (te C s' H' fp) (sub ix σ) p Q W):bT wi g tt te ix σ H Q:=h
section
variable {R:It->Hp->Prop}
theorem BB {tl:TE} (h:tl σ H fun x H1=>∃ a,x=.ref a/\(∃ xs,SqL K H1 a xs)/\R (Itl K a) H1):eB K tl σ H R:=h
theorem CY {tl:TE} (h:tl σ H fun x H1=>∃ a,x=.ref a/\(∃ xs,SqT K H1 a xs)/\R (Itt K a) H1):wP K tl σ H R:=h
theorem BC {ta:TA} (h:ta σ H fun vs H1=>∃ j:Int,vs=[.int j]/\-(2 ^ 62)<=j/\j < 2 ^ 62/\R (Itr 0 j.toNat) H1):fP ta σ H R:=h
theorem BD {ta:TA} (h:ta σ H fun vs H1=>∃ i j:Int,vs=[.int i,.int j]/\(-(2 ^ 62)<=i/\i < 2 ^ 62/\-(2 ^ 62)<=j/\j < 2 ^ 62)/\R (Itr i (j - i).toNat) H1):DI ta σ H R:=h
theorem BE {S:Src} {ta:TA} (h:ta σ H fun vs H1=>∃ a xs,vs=[.ref a]/\S.Sq K H1 a xs/\R (Ite S K a) H1):ni S K ta σ H R:=h
theorem CZ {S1 S2:Src} {ta:TA} (h:ta σ H fun vs H1=>∃ a b xs ys,vs=[.ref a,.ref b]/\S1.Sq K H1 a xs/\S2.Sq K H1 b ys/\R (Itz S1 S2 K a b) H1):qo S1 S2 K ta σ H R:=h
end
noncomputable def Off (l:Addr) (H H':Hp):Prop:=∀ b,b≠l->H' b=H b
theorem kE {l:Addr} {o:HO}:Off l H (upd H l o):=fun b hb=>aB hb
theorem al.off {H0 H':Hp} {l:Addr} (s:al H0 H) (h:H0 l=none) (o:Off l H H'):al H0 H':=fun b u q=>by rw [o b (aH q h)]; exact s b u q
noncomputable def fN (H H':Hp):Prop:=∀ b xs,H b=some (.tup xs)->H' b=some (.tup xs)
theorem fN.refl (H:Hp):fN H H:=fun _ _ h=>h
theorem al.keep {H':Hp} (s:al H H'):fN H H':=fun b _ h=>s b _ h
theorem fN.trans {H1 H2:Hp} (a:fN H H1) (b:fN H1 H2):fN H H2:=fun c o h=>b c o (a c o h)
theorem Off.keep {H':Hp} {l:Addr} {xs:List V} (o:Off l H H') (e:H l=some (.lst xs)):fN H H':=fun b ys q=>by
 rw [o b (wK q e (by intro z; cases z))]
 exact q
theorem C0 {t:TA} (h:t σ H fun xs H1=>xs.length<=sizeLine/\∀ p,H1 p=none->Q (.ref p) (upd H1 p (.tup xs))):wZ t σ H Q:=h
theorem C1 {t:TA} (h:t σ H fun xs H1=>xs.length<=sizeLine/\∀ p,H1 p=none->Q (.ref p) (upd H1 p (.lst xs))):tz t σ H Q:=h
theorem tS {l:Addr} {xs:List V} {y:V} (e:H l=some (.lst xs)) (hz:xs.length < sizeLine) (h:∀ H',Off l H H'->H' l=some (.lst (xs++[y]))->Q .non H'):kD (.ref l) [y] H Q:=⟨l,xs,y,rfl,rfl,e,hz,h _ kE ap⟩
theorem xc {l:Addr} {xs:List V} (e:H l=some (.lst xs)):tyV K "list" (.ref l) H:=.inl ⟨rfl,xs,SqL.of e⟩
theorem fu {l:Addr} {xs:List V} {i:Int} {v:V} (e:SqL K H l xs) (hv:atI xs i=some v) (h:Q v H):fh K (.ref l) (.int i) H Q:=⟨l,xs,i,v,rfl,rfl,e,hv,h⟩
theorem cZ {l:Addr} {xs:List V} {i:Int} {v:V} (e:SqT K H l xs) (hv:atI xs i=some v) (h:Q v H):dJ K (.ref l) (.int i) H Q:=⟨l,xs,i,v,rfl,rfl,e,hv,h⟩
end
theorem bN {p A B:Prop} [Decidable p] (h1:p->A) (h2:¬ p->B):if decide p=true then A else B:=by
 by_cases h:p
 ·rw [if_pos (decide_eq_true h)]; exact h1 h
 ·rw [if_neg (by rw [decide_eq_false h]; exact Bool.false_ne_true)]; exact h2 h
theorem zW {p A B:Prop} [Decidable p] (h1:¬ p->A) (h2:p->B):if (!decide p)=true then A else B:=by
 by_cases h:p
 ·rw [if_neg (by rw [decide_eq_true h]; exact Bool.false_ne_true)]; exact h2 h
 ·rw [if_pos (by rw [decide_eq_false h]; rfl)]; exact h1 h
theorem kF {p A B:Prop} [Decidable p] (h:p) (h1:A):if decide p=true then A else B:=bN (fun _=>h1) (fun n=>absurd h n)
theorem gs {p A B:Prop} [Decidable p] (h:¬ p) (h1:B):if decide p=true then A else B:=bN (fun n=>absurd n h) (fun _=>h1)
theorem hU {b:Bool} {A B:Prop} (h1:b=false->A) (h2:b=true->B):if (!b)=true then A else B:=by cases b; exact mn (h1 rfl); exact mm (h2 rfl)
theorem xf {A B:Prop} (h:B):if (!true)=true then A else B:=by exact mm h
theorem DZ {A B:Prop} (h:A):if (!false)=true then A else B:=by exact mn h
theorem zX {σ:St} {H:Hp} {R:Bool->Hp->Prop} (h:R true H):b8 σ H R:=h
theorem D0 {B:(St->Hp->Prop)->Prop} {R:St->Hp->Prop} (h:B R):∃ N:St->Hp->Prop,(∀ σ' H',N σ' H'->R σ' H')/\B N:=⟨R,fun _ _ h=>h,h⟩
theorem Ea {c:TT} {tb:TS} {D:iH} {σ:St} {H:Hp} (W:Nat->St->Hp->Prop) (m:Nat) (h0:W m σ H) (h:∀ m σ H,W m σ H->c σ H fun b H1=>if b=true then ∃ N:St->Hp->Prop,(∀ σ' H',N σ' H'->∃ m',m' < m/\W m' σ' H')/\tb { D with nx:=N,ct:=N,bk:=D.nx } σ H1 else D.nx σ H1):
  tp c tb D σ H:=⟨W,⟨m,h0⟩,h⟩
noncomputable def fO (K:PySem.W.Frag):List V->Hp->VK->Prop:=fun xs H Q=>∃ p ys,xs=[.ref p]/\(SqL K H p ys\/SqT K H p ys)/\Q (.int ys.length) H
noncomputable def xg (K:PySem.W.Frag):List V->Hp->VK->Prop:=fun xs H Q=>∃ (p:Addr) (ns:List Int),xs=[.ref p]/\SqL K H p (ns.map V.int)/\Q (.int ns.sum) H
noncomputable def zY (K:PySem.W.Frag):List V->Hp->VK->Prop:=fun xs H Q=>∃ (p:Addr) (bs:List Bool),xs=[.ref p]/\SqL K H p (bs.map V.bl)/\Q (.bl (bs.all id)) H
noncomputable def Eb:List V->Hp->VK->Prop:=fun xs H Q=>∃ i j,xs=[.int i,.int j]/\Q (.int (if j < i then j else i)) H
noncomputable def Ec:List V->Hp->VK->Prop:=fun xs H Q=>∃ i j,xs=[.int i,.int j]/\Q (.int (if j > i then j else i)) H
noncomputable def C2:List V->Hp->VK->Prop:=fun xs H Q=>(∃ i,xs=[.int i]/\Q (.int i) H)\/∃ k,xs=[.bl k]/\Q (.int (if k then 1 else 0)) H
noncomputable def C4 (K:PySem.W.Frag):List V->Hp->VK->Prop:=fun xs H Q=>∃ p ys,xs=[.ref p]/\((SqL K H p ys/\∀ l,H l=none->Q (.ref l) (upd H l (.tup ys)))\/(SqT K H p ys/\Q (.ref p) H))
section
variable {K:PySem.W.Frag} {H:Hp} {Q:VK}
theorem Ed {l:Addr} {ys:List V} (e:SqL K H l ys) (h:Q (.int ys.length) H):fO K [.ref l] H Q:=⟨l,ys,rfl,.inl e,h⟩
theorem wt {l:Addr} {ys:List V} (e:SqT K H l ys) (h:Q (.int ys.length) H):fO K [.ref l] H Q:=⟨l,ys,rfl,.inr e,h⟩
theorem Ee {l:Addr} {ns:List Int} (e:SqL K H l (ns.map V.int)) (h:Q (.int ns.sum) H):xg K [.ref l] H Q:=⟨l,ns,rfl,e,h⟩
theorem C5 {i j:Int} (h:Q (.int (if j < i then j else i)) H):Eb [.int i,.int j] H Q:=⟨i,j,rfl,h⟩
theorem C6 {i j:Int} (h:Q (.int (if j > i then j else i)) H):Ec [.int i,.int j] H Q:=⟨i,j,rfl,h⟩
theorem C7 {i:Int} (h:Q (.int i) H):C2 [.int i] H Q:=.inl ⟨i,rfl,h⟩
theorem C8 {k:Bool} (h:Q (.int (if k then 1 else 0)) H):C2 [.bl k] H Q:=.inr ⟨k,rfl,h⟩
end
noncomputable def New (H:Hp) (o:HO) (Q:Addr->Hp->Prop):Prop:=∀ p H',H p=none->al H H'->H' p=some o->Q p H'
theorem New.upd {H:Hp} {o:HO} {Q:Addr->Hp->Prop} (h:New H o Q):∀ p,H p=none->Q p (upd H p o):=fun p hp=>h p _ hp (aR hp _) ap
noncomputable def dh (t:TA):TE:=fun σ H Q=>t σ H fun xs H1=>xs.length<=sizeLine/\New H1 (.tup xs) fun p H2=>Q (.ref p) H2
noncomputable def cE (t:TA):TE:=fun σ H Q=>t σ H fun xs H1=>xs.length<=sizeLine/\New H1 (.lst xs) fun p H2=>Q (.ref p) H2
noncomputable def qp:R2:=fun x y H Q=>∃ l b xs zs,x=.ref l/\y=.ref b/\H l=some (.lst xs)/\H b=some (.lst zs)/\xs.length + zs.length<=sizeLine/\New H (.lst (xs++zs)) fun p H2=>Q (.ref p) H2
noncomputable def mz (K:PySem.W.Frag):List V->Hp->VK->Prop:=fun xs H Q=>∃ p ys,xs=[.ref p]/\(SqL K H p ys\/SqT K H p ys)/\New H (.lst ys) fun l H2=>Q (.ref l) H2
section
variable {σ:St} {H:Hp} {Q:VK} {K:PySem.W.Frag}
theorem Ef {t:TA} (h:t σ H fun xs H1=>xs.length<=sizeLine/\New H1 (.tup xs) fun p H2=>Q (.ref p) H2):dh t σ H Q:=h
theorem Eg {t:TA} (h:t σ H fun xs H1=>xs.length<=sizeLine/\New H1 (.lst xs) fun p H2=>Q (.ref p) H2):cE t σ H Q:=h
theorem sV {l b:Addr} {xs zs:List V} (h1:H l=some (.lst xs)) (h2:H b=some (.lst zs)) (hz:xs.length + zs.length<=sizeLine) (h:∀ p H',H p=none->al H H'->H' p=some (.lst (xs++zs))->Q (.ref p) H'):qp (.ref l) (.ref b) H Q:=⟨l,b,xs,zs,rfl,rfl,h1,h2,hz,h⟩
theorem tT {p:Addr} {ys:List V} (e:SqL K H p ys) (h:∀ l H',H l=none->al H H'->H' l=some (.lst ys)->Q (.ref l) H'):mz K [.ref p] H Q:=⟨p,ys,rfl,.inl e,h⟩
end
section
variable {g:TG} {tb:TS} {NX:St->Hp->Prop} {RT:VK} {σ:St} {H:Hp} {K:PySem.W.Frag}
theorem oq {j:Int} (n:Nat) (hn:j.toNat=n) (hj:j<=1000000000) (hj0:-1000000000<=j) (Pv:Nat->St->Hp->Prop) (h0:Pv 0 σ H) (hs:∀ i σ H,i < n->Pv i σ H->g (.int i) σ H fun σ2 H2=>tb { nx:=Pv (i + 1),rt:=RT,bk:=NX,ct:=Pv (i + 1) } σ2 H2) (hd:∀ σ H,Pv n σ H->NX σ H):
  ∃ j':Int,[V.int j]=[.int j']/\-(2 ^ 62)<=j'/\j' < 2 ^ 62/\∃ W:Nat->Nat->St->Hp->Prop,(∃ m,W 0 m σ H)/\∀ i m σ H,W i m σ H->
   ((Itr 0 j'.toNat).stop i H/\NX σ H)\/((Itr 0 j'.toNat).go i H/\∃ N:St->Hp->Prop,(∀ σ' H',N σ' H'->∃ m',m' < m/\W (i + 1) m' σ' H')/\∀ x H',(Itr 0 j'.toNat).yld i H x H'->g x σ H' fun σ2 H2=>tb { nx:=N,rt:=RT,bk:=NX,ct:=N } σ2 H2):=by
 refine ⟨j,rfl,by omega,by omega,?_⟩
 subst hn
 exact md (lo:=0) (D:={ nx:=NX,rt:=RT }) Pv h0 (fun i σ H hi p=>by rw [Int.zero_add]; exact hs i σ H hi p) hd
theorem qq {a:Addr} (xs:List V) (hx:SqL K H a xs) (Pv:Nat->St->Hp->Prop) (h0:Pv 0 σ H) (hl:∀ i σ H,i<=xs.length->Pv i σ H->SqL K H a xs) (hs:∀ i x σ H,xs[i]?=some x->Pv i σ H->g x σ H fun σ2 H2=>tb { nx:=Pv (i + 1),rt:=RT,bk:=NX,ct:=Pv (i + 1) } σ2 H2) (hd:∀ σ H,Pv xs.length σ H->NX σ H):
  ∃ a',V.ref a=.ref a'/\(∃ xs,SqL K H a' xs)/\∃ W:Nat->Nat->St->Hp->Prop,(∃ m,W 0 m σ H)/\∀ i m σ H,W i m σ H->
   ((Itl K a').stop i H/\NX σ H)\/((Itl K a').go i H/\∃ N:St->Hp->Prop,(∀ σ' H',N σ' H'->∃ m',m' < m/\W (i + 1) m' σ' H')/\∀ x H',(Itl K a').yld i H x H'->g x σ H' fun σ2 H2=>tb { nx:=N,rt:=RT,bk:=NX,ct:=N } σ2 H2):=
 ⟨a,rfl,⟨xs,hx⟩,ol (D:={ nx:=NX,rt:=RT }) Pv h0 hl hs hd⟩
theorem C9 {a:Addr} (xs:List V) (hx:SqT K H a xs) (Pv:Nat->St->Hp->Prop) (h0:Pv 0 σ H) (hl:∀ i σ H,i<=xs.length->Pv i σ H->SqT K H a xs) (hs:∀ i x σ H,xs[i]?=some x->Pv i σ H->g x σ H fun σ2 H2=>tb { nx:=Pv (i + 1),rt:=RT,bk:=NX,ct:=Pv (i + 1) } σ2 H2) (hd:∀ σ H,Pv xs.length σ H->NX σ H):
  ∃ a',V.ref a=.ref a'/\(∃ xs,SqT K H a' xs)/\∃ W:Nat->Nat->St->Hp->Prop,(∃ m,W 0 m σ H)/\∀ i m σ H,W i m σ H->
   ((Itt K a').stop i H/\NX σ H)\/((Itt K a').go i H/\∃ N:St->Hp->Prop,(∀ σ' H',N σ' H'->∃ m',m' < m/\W (i + 1) m' σ' H')/\∀ x H',(Itt K a').yld i H x H'->g x σ H' fun σ2 H2=>tb { nx:=N,rt:=RT,bk:=NX,ct:=N } σ2 H2):=
 ⟨a,rfl,⟨xs,hx⟩,Bk (D:={ nx:=NX,rt:=RT }) Pv h0 hl hs hd⟩
theorem BF {S:Src} {a:Addr} (xs:List V) (hx:S.Sq K H a xs) (Pv:Nat->St->Hp->Prop) (h0:Pv 0 σ H) (hl:∀ i σ H,i<=xs.length->Pv i σ H->S.Sq K H a xs)
  (hs:∀ i x T σ H H',xs[i]?=some x->Pv i σ H->H T=none->al H H'->H' T=some (.tup [.int i,x])->g (.ref T) σ H' fun σ2 H2=>tb { nx:=Pv (i + 1),rt:=RT,bk:=NX,ct:=Pv (i + 1) } σ2 H2) (hd:∀ σ H,Pv xs.length σ H->NX σ H):
  ∃ a' xs',[V.ref a]=[.ref a']/\S.Sq K H a' xs'/\∃ W:Nat->Nat->St->Hp->Prop,(∃ m,W 0 m σ H)/\∀ i m σ H,W i m σ H->
   ((Ite S K a').stop i H/\NX σ H)\/((Ite S K a').go i H/\∃ N:St->Hp->Prop,(∀ σ' H',N σ' H'->∃ m',m' < m/\W (i + 1) m' σ' H')/\∀ x H',(Ite S K a').yld i H x H'->g x σ H' fun σ2 H2=>tb { nx:=N,rt:=RT,bk:=NX,ct:=N } σ2 H2):=
 ⟨a,xs,rfl,hx,tM (D:={ nx:=NX,rt:=RT }) Pv h0 hl (fun i x T σ H e p hT=>hs i x T σ H _ e p hT (aR hT _) ap) hd⟩
end
theorem gu {K:PySem.W.Frag} {i j:Nat} {a:Addr} {x y:V} {σ:St} {H:Hp} {R:St->Hp->Prop} (e:SqT K H a [x,y]) (h:R ((σ.set i (some x)).set j (some y)) H):g0 K 2 (b7 (am i) (b7 (am j) gZ)) (.ref a) σ H R:=
 ⟨a,[x,y],rfl,e,rfl,x,[y],rfl,y,[],rfl,rfl,h⟩
noncomputable def aZ (H:Hp) (p:Addr) (R:Nat->List V->Hp->Prop) (i:Nat) (acc:List V) (H2:Hp):Prop:=al H H2/\H2 p=some (.lst acc)/\acc.length<=i/\R i acc H2
theorem aZ.put {H H4:Hp} {p:Addr} {R:Nat->List V->Hp->Prop} {i:Nat} {acc:List V} {y:V} (hp:H p=none) (st:∀ i acc H H',R i acc H->fN H H'->R i acc H') (s:al H H4) (e:H4 p=some (.lst acc)) (l:acc.length<=i) (r:R (i + 1) (acc++[y]) H4):
  H4 p=some (.lst acc)/\aZ H p R (i + 1) (acc++[y]) (upd H4 p (.lst (acc++[y]))):=
 ⟨e,s.upd hp _,ap,by rw [List.length_append]; exact Nat.add_le_add_right l 1,st _ _ _ _ r (kE.keep e)⟩
theorem aZ.skip {H H4:Hp} {p:Addr} {R:Nat->List V->Hp->Prop} {i:Nat} {acc:List V} (s:al H H4) (e:H4 p=some (.lst acc)) (l:acc.length<=i) (r:R (i + 1) acc H4):aZ H p R (i + 1) acc H4:=⟨s,e,by omega,r⟩
section
variable {g:CF TG} {tt:CF TT} {te:CF TE} {σ₀:St} {Q:VK} {H:Hp} {K:PySem.W.Frag}
theorem iM {j:Int} (n:Nat) (hn:j.toNat=n) (hj:j<=1000000) (hj0:-1000000<=j) (R:Nat->List V->Hp->Prop) (h0:∀ H',al H H'->R 0 [] H')
  (hs:∀ p,H p=none->∀ C s' H' fp,∀ i acc H2,i < n->aZ H p R i acc H2->g C s' H' fp (.int i) σ₀ H2 fun σ2 H3=>tt C s' H' fp σ2 H3 fun b H4=>if b=true then te C s' H' fp σ2 H4 fun y H5=>H5 p=some (.lst acc)/\aZ H p R (i + 1) (acc++[y]) (upd H5 p (.lst (acc++[y]))) else aZ H p R (i + 1) acc H4)
  (hd:∀ p acc H2,H p=none->al H H2->H2 p=some (.lst acc)->R n acc H2->Q (.ref p) H2):
  ∃ j':Int,[V.int j]=[.int j']/\-(2 ^ 62)<=j'/\j' < 2 ^ 62/\∀ p,H p=none->∃ W:Nat->Nat->List V->Hp->Prop,(∃ m,W 0 m [] (upd H p (.lst [])))/\∀ C s' H' fp,dg (Itr 0 j'.toNat) (g C s' H' fp) (tt C s' H' fp) (te C s' H' fp) σ₀ p Q W:=by
 refine ⟨j,rfl,by omega,by omega,fun p hp=>?_⟩
 subst hn
 exact oV (lo:=0) (aZ H p R) ⟨aR hp _,ap,Nat.le_refl _,h0 _ (aR hp _)⟩ (fun i acc H2 _ c=>⟨c.2.1,c.2.2.1⟩) (by rw [sizeLine_eq]; omega) (fun C s' H' fp i acc H2 hi c=>by rw [Int.zero_add]; exact hs p hp C s' H' fp i acc H2 hi c) fun acc H2 c=>hd p acc H2 hp c.1 c.2.1 c.2.2.2
theorem gN {a:Addr} (xs:List V) (hx:SqL K H a xs) (hz:xs.length<=1000000) (R:Nat->List V->Hp->Prop) (h0:∀ H',al H H'->R 0 [] H')
  (hs:∀ p,H p=none->∀ C s' H' fp,∀ i x acc H2,xs[i]?=some x->aZ H p R i acc H2->g C s' H' fp x σ₀ H2 fun σ2 H3=>tt C s' H' fp σ2 H3 fun b H4=>if b=true then te C s' H' fp σ2 H4 fun y H5=>H5 p=some (.lst acc)/\aZ H p R (i + 1) (acc++[y]) (upd H5 p (.lst (acc++[y]))) else aZ H p R (i + 1) acc H4)
  (hd:∀ p acc H2,H p=none->al H H2->H2 p=some (.lst acc)->R xs.length acc H2->Q (.ref p) H2):
  ∃ a',V.ref a=.ref a'/\(∃ xs,SqL K H a' xs)/\∀ p,H p=none->∃ W:Nat->Nat->List V->Hp->Prop,(∃ m,W 0 m [] (upd H p (.lst [])))/\∀ C s' H' fp,dg (Itl K a') (g C s' H' fp) (tt C s' H' fp) (te C s' H' fp) σ₀ p Q W:=
 ⟨a,rfl,⟨xs,hx⟩,fun p hp=>rh (aZ H p R) ⟨aR hp _,ap,Nat.le_refl _,h0 _ (aR hp _)⟩ (fun i acc H2 _ c=>⟨c.2.1,c.2.2.1⟩) (fun i acc H2 _ c=>c.1.seq hx) (by rw [sizeLine_eq]; omega) (fun C s' H' fp i x acc H2 hi c=>hs p hp C s' H' fp i x acc H2 hi c) fun acc H2 c=>hd p acc H2 hp c.1 c.2.1 c.2.2.2⟩
end
section
variable {g:TG} {tb:TS} {NX:St->Hp->Prop} {RT:VK} {σ:St} {H:Hp} {K:PySem.W.Frag}
end
section
variable {K:PySem.W.Frag} {H:Hp} {Q:VK} {a b:Addr} {ns ms:List Int}
theorem Eh (h1:SqL K H a (ns.map V.int)) (h2:SqL K H b (ms.map V.int)) (h:Q (.bl (!decide (ns=ms))) H):jQ (SqL K) true (.ref a) (.ref b) H Q:=⟨a,b,_,_,_,rfl,rfl,h1,h2,ri ns ms,by rw [oX]; exact h⟩
theorem Ei (h1:SqT K H a (ns.map V.int)) (h2:SqT K H b (ms.map V.int)) (h:Q (.bl (decide (ns=ms))) H):jQ (SqT K) false (.ref a) (.ref b) H Q:=⟨a,b,_,_,_,rfl,rfl,h1,h2,ri ns ms,by rw [oX]; exact h⟩
theorem Ej {x:V} {T:String} {t:Value} {c:Bool} (ty:fg K H x t) (e:PySem.W.kitOne K t (.type T)=some c) (h:Q (.bl c) H):lf K [x,.ty T] H Q:=⟨x,T,t,c,rfl,ty,e,h⟩
end
section
variable {g:CF TG} {tt:CF TT} {te:CF TE} {σ₀:St} {Q:VK} {H:Hp} {K:PySem.W.Frag}
theorem o0 {S1 S2:Src} {a b:Addr} (xs ys:List V) (hx:S1.Sq K H a xs) (hy:S2.Sq K H b ys) (kx:∀ H',al H H'->S1.Sq K H' a xs) (ky:∀ H',al H H'->S2.Sq K H' b ys) (hz:xs.length<=1000000) (R:Nat->List V->Hp->Prop) (h0:∀ H',al H H'->R 0 [] H')
  (hs:∀ p,H p=none->∀ C s' H' fp,∀ i x y T acc H2 H3,xs[i]?=some x->ys[i]?=some y->aZ H p R i acc H2->H2 T=none->al H2 H3->H3 T=some (.tup [x,y])->H3 p=some (.lst acc)->g C s' H' fp (.ref T) σ₀ H3 fun σ2 H3=>tt C s' H' fp σ2 H3 fun b H4=>if b=true then te C s' H' fp σ2 H4 fun y H5=>H5 p=some (.lst acc)/\aZ H p R (i + 1) (acc++[y]) (upd H5 p (.lst (acc++[y]))) else aZ H p R (i + 1) acc H4)
  (hd:∀ p acc H2,H p=none->al H H2->H2 p=some (.lst acc)->R (min xs.length ys.length) acc H2->Q (.ref p) H2):
  ∃ a' b' xs' ys',[V.ref a,V.ref b]=[.ref a',.ref b']/\S1.Sq K H a' xs'/\S2.Sq K H b' ys'/\∀ p,H p=none->∃ W:Nat->Nat->List V->Hp->Prop,(∃ m,W 0 m [] (upd H p (.lst [])))/\∀ C s' H' fp,dg (Itz S1 S2 K a' b') (g C s' H' fp) (tt C s' H' fp) (te C s' H' fp) σ₀ p Q W:=by
 refine ⟨a,b,xs,ys,rfl,hx,hy,fun p hp=>nh (n:=min xs.length ys.length) (Y:=fun i H x H1=>∃ T u v,H T=none/\x=.ref T/\H1=upd H T (.tup [u,v])/\xs[i]?=some u/\ys[i]?=some v) (aZ H p R)
  ⟨aR hp _,ap,Nat.le_refl _,h0 _ (aR hp _)⟩ (fun i acc H2 _ c=>⟨c.2.1,c.2.2.1⟩) (by rw [sizeLine_eq]; omega) (fun i acc H2 hi c=>?_) (fun acc H2 c=>?_) (fun i acc H2 x H3 hi c y=>?_) (fun C s' H' fp i x acc H2 H3 hi c y=>?_) fun acc H2 c=>hd p acc H2 hp c.1 c.2.1 c.2.2.2⟩
 ·exact ⟨xs,ys,xs[i],ys[i],kx _ c.1,ky _ c.1,by simp [show i < xs.length by omega],by simp [show i < ys.length by omega]⟩
 ·exact ⟨xs,ys,kx _ c.1,ky _ c.1,rfl⟩
 ·obtain ⟨T,u,v,e1,e2,e3,e4⟩:=y
  obtain ⟨e5,e6⟩:=e4 xs ys (kx _ c.1) (ky _ c.1)
  exact ⟨T,u,v,e1,e2,e3,e5,e6⟩
 ·obtain ⟨T,u,v,e1,rfl,rfl,e4,e5⟩:=y
  exact hs p hp C s' H' fp i u v T acc H2 _ e4 e5 c e1 (aR e1 _) ap (by rw [aB (aH c.2.1 e1)]; exact c.2.1)
noncomputable def xh (K:PySem.W.Frag):V->Option Int->Option Int->Hp->VK->Prop:=fun x lo hi H Q=>∃ a xs,x=.ref a/\SqT K H a xs/\¬ (HT.sIx xs.length 0 lo=0/\HT.sIx xs.length xs.length hi=xs.length)/\New H (.tup (mj xs lo hi)) fun p H2=>Q (.ref p) H2
theorem A7 {a:Addr} {xs:List V} {lo hi:Option Int} (e:SqT K H a xs) (hn:¬ (HT.sIx xs.length 0 lo=0/\HT.sIx xs.length xs.length hi=xs.length)) (h:∀ p H',H p=none->al H H'->H' p=some (.tup (mj xs lo hi))->Q (.ref p) H'):xh K (.ref a) lo hi H Q:=⟨a,xs,rfl,e,hn,h⟩
theorem tU (x:V) (xs:List V):mj (x :: xs) (some 1) none=xs:=by
 unfold mj
 have e:HT.sIx (x :: xs).length 0 (some 1)=min 1 (x :: xs).length:=rfl
 rw [e,show min 1 (x :: xs).length=1 by simp]
 show ((x :: xs).drop 1).take ((x :: xs).length - 1)=xs
 rw [List.take_of_length_le (by simp)]
 rfl
theorem nM (x:V) (xs:List V):¬ (HT.sIx (x :: xs).length 0 (some 1)=0/\HT.sIx (x :: xs).length (x :: xs).length none=(x :: xs).length):=fun h=>by
 have e:HT.sIx (x :: xs).length 0 (some 1)=min 1 (x :: xs).length:=rfl
 rw [e,show min 1 (x :: xs).length=1 by simp] at h
 exact absurd h.1 (by decide)
theorem Ek {x y:Str} (h:Q (.bl (decide (x=y))) H):rEq (.str x) (.str y) H Q:=⟨rfl,by rw [show decide (V.str x=V.str y)=decide (x=y) from decide_eq_decide.mpr ⟨fun e=>by injection e,fun e=>by rw [e]⟩]; exact h⟩
theorem El {x y:Str} (h:Q (.bl (!decide (x=y))) H):rNe (.str x) (.str y) H Q:=⟨rfl,by rw [show decide (V.str x=V.str y)=decide (x=y) from decide_eq_decide.mpr ⟨fun e=>by injection e,fun e=>by rw [e]⟩]; exact h⟩
noncomputable def xi (kvs:List (Str×V)) (a:Addr):R2:=fun x y H Q=>x=.ref a/\∃ k v,y=.str k/\kvs.lookup k=some v/\Q v H
theorem Ba {kvs:List (Str×V)} {a:Addr} {k:Str} {v:V} (e:kvs.lookup k=some v) (h:Q v H):xi kvs a (.ref a) (.str k) H Q:=⟨rfl,k,v,rfl,e,h⟩
noncomputable def pb (kvs:List (Str×V)) (a:Addr) (neg:Bool):R2:=fun x y H Q=>y=.ref a/\∃ k,x=.str k/\Q (.bl (if neg then !(kvs.lookup k).isSome else (kvs.lookup k).isSome)) H
end
noncomputable def hV (K:PySem.W.Frag) (a:Addr) (xs:List V):Prop:=∃ (o:Obj) (its:Array Value) (n:Nat),K.lookup a=some o/\o.cls=.type "tuple"/\o.data=.seq its n/\its.size<=sizeLine/\aD xs its.toList
theorem hV.sq {K:PySem.W.Frag} {a:Addr} {xs:List V} (h:hV K a xs) (H:Hp):SqT K H a xs:=.inr h
section
variable {H:Hp} {Q:VK} {K:PySem.W.Frag}
theorem zZ {l b:Addr} {xs zs:List V} (e:H l=some (.lst xs)) (eb:H b=some (.lst zs)) (hz:xs.length + zs.length<=sizeLine) (h:∀ H',Off l H H'->H' l=some (.lst (xs++zs))->Q .non H'):qj (.ref l) [.ref b] H Q:=⟨l,b,xs,zs,rfl,rfl,e,eb,hz,h _ kE ap⟩
end
theorem yC (xs:List V) (z:Int) {m:Nat} (hl:xs.length=m) (hm:0 < m):∃ x,atI xs (z % (m:Int))=some x/\x∈xs:=by
 have m1:=Int.emod_nonneg z (b:=(m:Int)) (by omega)
 have m2:=Int.emod_lt_of_pos z (b:=(m:Int)) (by omega)
 have hk:(z % (m:Int)).toNat < xs.length:=by omega
 refine ⟨xs[(z % (m:Int)).toNat],?_,List.getElem_mem hk⟩
 have e:z % (m:Int)=(((z % (m:Int)).toNat:Nat):Int):=by omega
 have q:atI xs (((z % (m:Int)).toNat:Nat):Int)=some xs[(z % (m:Int)).toNat]:=fH (List.getElem?_eq_getElem hk)
 rw [<-e] at q
 exact q
noncomputable def Em:R2:=fun x y H Q=>∃ a b,x=.bl a/\y=.bl b/\Q (.bl (!(a == b))) H
theorem Da {a b:Bool} {H:Hp} {Q:VK} (h:Q (.bl (!(a == b))) H):Em (.bl a) (.bl b) H Q:=⟨a,b,rfl,rfl,h⟩
end L2
end
local macro_rules | `(tactic| walk_at "rb1")=>`(tactic| first
 | ((with_reducible refine' L2.DN (v:=?v) ?e ?h); (case e=>exact rfl))
 | (with_reducible first | refine L2.yA ?_ | refine L2.A4 ?_ | refine L2.DM ?_ | refine L2.CK ?_ | refine L2.CL ?_ | refine L2.Bz ?_ | refine L2.CM ?_ | refine L2.yB ?_ | refine L2.CN ?_ | refine L2.r_c ?_ | refine L2.EK ?_ | refine L2.EL ?_ | refine L2.EM ?_ | refine L2.r_U ?_ | refine L2.DO ?_ | refine L2.DP ?_ | refine L2.Ek ?_ | refine L2.El ?_ | refine L2.DQ ?_ | refine L2.DR ?_ | refine L2.Da ?_ | refine L2.CO ?_ | refine L2.EN ?_ | refine L2.CP ?_ | refine L2.DX ?_ | refine L2.DS ?_ | refine L2.EO ?_ | refine L2.DT ?_ | refine L2.CQ ?_ | refine L2.DU ?_ | refine L2.CS ?_ | refine L2.EQ ?_ | refine L2.BA ?_ | refine L2.DV ?_ | refine L2.CT ?_ | refine L2.CU ?_ | refine L2.ER ?_ | refine L2.ES ?_ | refine L2.DW ?_ | refine L2.ET ?_ | refine L2.EU ?_ | refine L2.zV ?_ | refine L2.CV ?_ | refine L2.DY ?_ | refine L2.CW ?_ | refine L2.BB ?_ | refine L2.CY ?_ | refine L2.BC ?_ | refine L2.BD ?_ | refine L2.BE ?_ | refine L2.CZ ?_ | refine L2.C0 ?_ | refine L2.C1 ?_ | refine L2.Ef ?_ | refine L2.Eg ?_ | refine L2.C5 ?_ | refine L2.C6 ?_ | refine L2.C7 ?_ | refine L2.C8 ?_ | refine L2.mn ?_ | refine L2.mm ?_ | refine L2.xf ?_ | refine L2.DZ ?_ | refine L2.zX ?_)
 | ((with_reducible refine L2.r_I ?_ ?_); (first | (show (0:Int) < _; omega) | (show (0:Int) < _; decide) | exact ⟨by decide,by decide,by decide⟩ | exact And.intro (by omega) (by omega) | exact (PySem.IntMulOk.of_right (PySem.intBits_le_64 (by omega) (by omega))) | exact (PySem.IntMulOk.of_left (PySem.intBits_le_64 (by omega) (by omega)))))
 | ((with_reducible refine' L2.Ed (ys:=?y) ?e ?h); (case e=>first | assumption | exact L2.SqL.of (by assumption)))
 | ((with_reducible refine' L2.wt (ys:=?y) ?e ?h); (case e=>first | assumption | exact L2.SqT.of (by assumption)))
 | dsimp only [List.set_cons_zero,List.set_cons_succ,L2.sub,List.map_cons,List.map_nil,List.getElem?_cons_zero,List.getElem?_cons_succ])
local macro_rules | `(tactic| walk_at "rd")=>`(tactic| repeat (first | (with_reducible first | refine L2.cY ?_ | refine L2.A6 ?_) | walk_at "rb1"))
local macro_rules | `(tactic| walk_at "rs")=>`(tactic| repeat (first | (with_reducible refine L2.A6 ?_) | walk_at "rb1"))
local macro_rules | `(tactic| walk_at "ra")=>`(tactic| repeat (walk_at "rb1"))
section
namespace L2
open PySem PyProof.Rows
noncomputable abbrev IA:=Option Int
noncomputable abbrev IK:=Sum IA (List IA)
noncomputable abbrev MK:=Sum IA (List IK)
noncomputable def iaV:V->Option IA
 | .non=>some none
 | .bl b=>some (some (if b then 1 else 0))
 | .int i=>some (some i)
 | _=>none
noncomputable def j6 (H:Hp) (x:V):IK->Prop
 | .inl a=>iaV x=some a
 | .inr as=>∃ c ys,x=.ref c/\H c=some (.tup ys)/\ys.map iaV=as.map some
noncomputable def dL (H:Hp) (x:V):MK->Prop
 | .inl a=>iaV x=some a
 | .inr is=>∃ c xs,x=.ref c/\H c=some (.tup xs)/\Paired (j6 H) xs is
noncomputable def j7:MK->Bool
 | .inl _=>false
 | .inr _=>true
theorem j6.keep {H H':Hp} {x:V} {k:IK} (h:j6 H x k) (kp:fN H H'):j6 H' x k:=by
 cases k with
 | inl a=>exact h
 | inr as=>obtain ⟨c,ys,e,q,r⟩:=h; exact ⟨c,ys,e,kp _ _ q,r⟩
theorem dL.keep {H H':Hp} {x:V} {k:MK} (h:dL H x k) (kp:fN H H'):dL H' x k:=by
 cases k with
 | inl a=>exact h
 | inr as=>obtain ⟨c,xs,e,q,r⟩:=h; exact ⟨c,xs,e,kp _ _ q,Paired.mapP r fun _ _ z=>j6.keep z kp⟩
theorem rl {H H':Hp} {xs:List V} {ks:List MK} (h:Paired (dL H) xs ks) (kp:fN H H'):Paired (dL H') xs ks:=Paired.mapP h fun _ _ z=>dL.keep z kp
theorem jd {α β:Type} {F:α->β->Prop}:∀ {xs:List α} {ys:List β} {i:Nat} {x:α},Paired F xs ys->xs[i]?=some x->∃ y,ys[i]?=some y/\F x y
 | _,_,_,_,.nil,e=>by simp at e
 | _,_,0,_,.cons r _,e=>by simp at e; subst e; exact ⟨_,rfl,r⟩
 | _,_,i + 1,x,.cons _ t,e=>by
  obtain ⟨u,h1,h2⟩:=jd (i:=i) (x:=x) t (by simpa using e)
  exact ⟨u,by simpa using h1,h2⟩
theorem pf (H:Hp):∀ ns:List Int,Paired (j6 H) (ns.map V.int) (ns.map fun n=>(Sum.inl (some n):IK))
 | []=>.nil
 | n :: r=>.cons rfl (pf H r)
theorem BG {H:Hp} {c:Addr} {ns:List Int} (e:H c=some (.tup (ns.map V.int))):dL H (.ref c) (.inr (ns.map fun n=>(Sum.inl (some n):IK))):=⟨c,_,rfl,e,pf H ns⟩
theorem Off.keepD {H H':Hp} {l:Addr} (o:Off l H H') (h:∀ xs,H l≠some (.tup xs)):fN H H':=fun b ys q=>by
 rw [o b (fun z=>by subst z; exact h _ q)]
 exact q
noncomputable def fi {α:Type} [DecidableEq α] (ks:List α):List Nat:=ks.map fun k=>ks.idxOf k
theorem qr {α:Type} [DecidableEq α] (ks:List α):(fi ks).length=ks.length:=List.length_map _
theorem yD {α:Type} [DecidableEq α] {ks:List α} {i:Nat} {k:α} (hk:ks[i]?=some k) (h:k∉ks.take i):ks.idxOf k=i:=by
 obtain ⟨hi,e⟩:=List.getElem?_eq_some_iff.mp hk
 have e1:ks=ks.take i++(k :: ks.drop (i + 1)):=by
  rw [<-e,List.getElem_cons_drop,List.take_append_drop]
 have:=List.idxOf_append (l₁:=ks.take i) (l₂:=k :: ks.drop (i + 1)) (a:=k)
 rw [<-e1,if_neg h,List.idxOf_cons_self,List.length_take] at this
 omega
theorem j8 {α:Type} {ks:List α} {i:Nat} {k:α} (hk:ks[i]?=some k):ks.take (i + 1)=ks.take i++[k]:=by
 rw [List.take_add_one,hk]; rfl
theorem vD {α β:Type} [DecidableEq α] [DecidableEq β] {f:α->β} (inj:∀ a b,f a=f b->a=b) (ks:List α):fi (ks.map f)=fi ks:=by
 unfold fi
 rw [List.map_map]
 refine List.map_congr_left fun k hk=>?_
 show (ks.map f).idxOf (f k)=ks.idxOf k
 clear hk
 induction ks with
 | nil=>rfl
 | cons a r ih=>
  rw [List.map_cons,List.idxOf_cons,List.idxOf_cons,ih]
  by_cases e:a=k
  ·rw [e,beq_self_eq_true,beq_self_eq_true]
  ·rw [beq_eq_false_iff_ne.mpr e,beq_eq_false_iff_ne.mpr (fun z=>e (inj _ _ z))]
end L2
end
section
namespace L2
open PySem PySem.Spec PyProof.Rows
section
variable {κ:Type} [DecidableEq κ]
noncomputable def dY (kvs:List (κ×V)) (k:κ):Option V:=(kvs.find? fun kv=>decide (kv.1=k)).map (·.2)
noncomputable def hZ (kvs:List (κ×V)) (k:κ) (v:V):List (κ×V):=
 if (kvs.any fun kv=>decide (kv.1=k))=true then kvs.map (fun kv=>if kv.1=k then (kv.1,v) else kv) else kvs++[(k,v)]
noncomputable def Bb (kvs:List (κ×V)) (k:κ):List (κ×V):=kvs.filter fun kv=>decide (kv.1≠k)
theorem dZ {p:κ×V} {r:List (κ×V)} {k:κ} (e:p.1=k):dY (p :: r) k=some p.2:=by simp [dY,List.find?_cons,e]
theorem d4 {p:κ×V} {r:List (κ×V)} {k:κ} (e:¬ p.1=k):dY (p :: r) k=dY r k:=by simp [dY,List.find?_cons,e]
theorem lg (k:κ):∀ kvs:List (κ×V),(kvs.any fun kv=>decide (kv.1=k))=(dY kvs k).isSome
 | []=>rfl
 | p :: r=>by
  rw [List.any_cons]
  by_cases e:p.1=k
  ·simp only [dZ e,decide_eq_true e,Bool.true_or,Option.isSome_some]
  ·rw [d4 e,decide_eq_false e,Bool.false_or]; exact lg k r
theorem tV (k j:κ) (y:V):∀ kvs:List (κ×V),dY (kvs.map fun kv=>if kv.1=k then (kv.1,y) else kv) j=(dY kvs j).map fun x=>if j=k then y else x
 | []=>rfl
 | p :: r=>by
  have ih:=tV k j y r
  rw [List.map_cons]
  by_cases h:p.1=k
  ·rw [if_pos h]
   by_cases e:p.1=j
   ·rw [dZ (p:=(p.1,y)) e,dZ e,Option.map_some,if_pos (e.symm.trans h)]
   ·rw [d4 (p:=(p.1,y)) e,d4 e,ih]
  ·rw [if_neg h]
   by_cases e:p.1=j
   ·rw [dZ (p:=p) e,dZ e,Option.map_some,if_neg (fun z=>h (e.trans z))]
   ·rw [d4 (p:=p) e,d4 e,ih]
theorem rn (k j:κ) (y:V):∀ kvs:List (κ×V),dY kvs k=none->dY (kvs++[(k,y)]) j=if j=k then some y else dY kvs j
 | [],_=>by
  by_cases e:k=j
  ·rw [if_pos e.symm]; exact dZ (p:=(k,y)) e
  ·rw [if_neg (fun z=>e z.symm)]; exact d4 (p:=(k,y)) e
 | p :: r,hn=>by
  rw [List.cons_append]
  have hk:¬ p.1=k:=fun z=>by rw [dZ z] at hn; cases hn
  rw [d4 hk] at hn
  have ih:=rn k j y r hn
  by_cases e:p.1=j
  ·rw [dZ e,dZ e,if_neg (fun z=>hk (e.trans z))]
  ·rw [d4 e,d4 e,ih]
theorem Aa (kvs:List (κ×V)) (k j:κ) (y:V):dY (hZ kvs k y) j=if j=k then some y else dY kvs j:=by
 unfold hZ
 by_cases a:(kvs.any fun kv=>decide (kv.1=k))=true
 ·rw [if_pos a,tV]
  rw [lg] at a
  by_cases e:j=k
  ·obtain ⟨x,hx⟩:=Option.isSome_iff_exists.mp a
   rw [if_pos e,e,hx,Option.map_some,if_pos rfl]
  ·rw [if_neg e]
   cases dY kvs j with
   | none=>rfl
   | some x=>rw [Option.map_some,if_neg e]
 ·rw [if_neg a]
  refine rn k j y kvs ?_
  rw [lg] at a
  cases q:dY kvs k with
  | none=>rfl
  | some x=>rw [q] at a; exact (a rfl).elim
theorem nN (kvs:List (κ×V)) (k:κ) (v:V):(hZ kvs k v).length<=kvs.length + 1:=by
 unfold hZ
 split
 ·rw [List.length_map]; omega
 ·rw [List.length_append,List.length_cons,List.length_nil]; omega
theorem fq.isSome_eq {o:Option V} {u:Option Value} (r:fq o u):o.isSome=u.isSome:=by
 cases o with
 | none=>cases u with
  | none=>rfl
  | some _=>exact (show False from r).elim
 | some _=>cases u with
  | none=>exact (show False from r).elim
  | some _=>rfl
theorem fq.getD {o:Option V} {u:Option Value} {d:V} {d':Value} (r:fq o u) (rd:aE d d'):aE (o.getD d) (u.getD d'):=by
 cases o with
 | none=>cases u with
  | none=>exact rd
  | some _=>exact (show False from r).elim
 | some _=>cases u with
  | none=>exact (show False from r).elim
  | some _=>exact r
theorem KV.val {kvs:List (κ×V)} {vs:List (κ×Value)} (r:KV kvs vs) (k:κ):fq (dY kvs k) (valueAt vs k):=by
 unfold KV at r
 induction r with
 | nil=>exact True.intro
 | @cons p q ps qs h t ih=>
  obtain ⟨h1,h2⟩:=h
  by_cases e:p.1=k
  ·have e':q.1=k:=h1.symm.trans e
   have b:valueAt (q :: qs) k=some q.2:=by simp [valueAt,List.find?_cons,e']
   rw [dZ e,b]; exact h2
  ·have e':¬ q.1=k:=fun z=>e (h1.trans z)
   have b:valueAt (q :: qs) k=valueAt qs k:=by simp [valueAt,List.find?_cons,e']
   rw [d4 e,b]; exact ih
theorem KV.any {kvs:List (κ×V)} {vs:List (κ×Value)} (r:KV kvs vs) (k:κ):(kvs.any fun kv=>decide (kv.1=k))=vs.any fun kv=>decide (kv.1=k):=by
 unfold KV at r
 induction r with
 | nil=>rfl
 | cons h t ih=>rw [List.any_cons,List.any_cons,ih,h.1]
theorem KV.repl {kvs:List (κ×V)} {vs:List (κ×Value)} (r:KV kvs vs) (k:κ) {y:V} {u:Value} (ry:aE y u):
  KV (kvs.map fun kv=>if kv.1=k then (kv.1,y) else kv) (vs.map fun kv=>if kv.1=k then (kv.1,u) else kv):=by
 unfold KV at r ⊢
 induction r with
 | nil=>exact .nil
 | @cons p q ps qs h t ih=>
  rw [List.map_cons,List.map_cons]
  refine .cons ?_ ih
  obtain ⟨h1,h2⟩:=h
  by_cases e:p.1=k
  ·rw [if_pos e,if_pos (h1.symm.trans e)]; exact ⟨h1,ry⟩
  ·rw [if_neg e,if_neg (fun z=>e (h1.trans z))]; exact ⟨h1,h2⟩
theorem KV.put {kvs:List (κ×V)} {vs:List (κ×Value)} (r:KV kvs vs) (k:κ) {y:V} {u:Value} (ry:aE y u):KV (hZ kvs k y) (stored vs k u):=by
 unfold hZ stored
 rw [r.any k]
 by_cases e:(vs.any fun kv=>decide (kv.1=k))=true
 ·rw [if_pos e,if_pos e]; exact r.repl k ry
 ·rw [if_neg e,if_neg e]; exact Paired.snoc r ⟨rfl,ry⟩
theorem KV.drop {kvs:List (κ×V)} {vs:List (κ×Value)} (r:KV kvs vs) (k:κ):KV (Bb kvs k) (without vs k):=by
 unfold KV at r ⊢
 unfold Bb without
 induction r with
 | nil=>exact .nil
 | @cons p q ps qs h t ih=>
  obtain ⟨h1,h2⟩:=h
  rw [List.filter_cons,List.filter_cons]
  by_cases e:p.1=k
  ·have a:¬ decide (p.1≠k)=true:=by simp [e]
   have b:¬ decide (q.1≠k)=true:=by simp [h1.symm.trans e]
   rw [if_neg a,if_neg b]; exact ih
  ·have e':¬ q.1=k:=fun z=>e (h1.trans z)
   have a:decide (p.1≠k)=true:=by simp [e]
   have b:decide (q.1≠k)=true:=by simp [e']
   rw [if_pos a,if_pos b]; exact .cons ⟨h1,h2⟩ ih
theorem KV.keys {kvs:List (κ×V)} {vs:List (κ×Value)} (r:KV kvs vs):kvs.map (·.1)=vs.map (·.1):=by
 unfold KV at r
 induction r with
 | nil=>rfl
 | cons h t ih=>rw [List.map_cons,List.map_cons,ih,h.1]
theorem KV.length {kvs:List (κ×V)} {vs:List (κ×Value)} (r:KV kvs vs):kvs.length=vs.length:=Paired.length r
end
theorem Bc {P:Program} {w:World} {k:Key} {u:Value} (r:aE (kV k) u):(gL P w).is k u=true:=by
 cases k with
 | inl i=>obtain ⟨t,e⟩:=(show ∃ t,u=Value.int i t from r); subst e; exact vq P w i t
 | inr x=>obtain ⟨t,e⟩:=(show ∃ t,u=Value.str x t from r); subst e; exact bo P w x t
noncomputable abbrev KT (H:Hp):List (List Key×V)->List (List Key×Addr×Value)->Prop:=Paired fun p q=>p.1=q.1/\H q.2.1=some (.tup (p.1.map kV))/\aE p.2 q.2.2
theorem KT.val {H:Hp} {kvs:List (List Key×V)} {xs:List (List Key×Addr×Value)} (r:KT H kvs xs) (k:List Key):fq (dY kvs k) ((atKey xs k).map (·.2)):=by
 induction r with
 | nil=>exact True.intro
 | @cons p q ps qs h t ih=>
  obtain ⟨h1,_,h2⟩:=h
  by_cases e:p.1=k
  ·have e':q.1=k:=h1.symm.trans e
   have b:atKey (q :: qs) k=some q.2:=by simp [atKey,List.find?_cons,e']
   rw [dZ e,b]; exact h2
  ·have e':¬ q.1=k:=fun z=>e (h1.trans z)
   have b:atKey (q :: qs) k=atKey qs k:=by simp [atKey,List.find?_cons,e']
   rw [d4 e,b]; exact ih
theorem KT.repl {H:Hp} {kvs:List (List Key×V)} {xs:List (List Key×Addr×Value)} (r:KT H kvs xs) (k:List Key) {y:V} {u:Value} (ry:aE y u):
  KT H (kvs.map fun kv=>if kv.1=k then (kv.1,y) else kv) (xs.map (putAt k u)):=by
 induction r with
 | nil=>exact .nil
 | @cons p q ps qs h t ih=>
  rw [List.map_cons,List.map_cons]
  refine .cons ?_ ih
  obtain ⟨h1,h2,h3⟩:=h
  unfold putAt
  by_cases e:p.1=k
  ·rw [if_pos e,if_pos (h1.symm.trans e)]; exact ⟨h1,h2,ry⟩
  ·rw [if_neg e,if_neg (fun z=>e (h1.trans z))]; exact ⟨h1,h2,h3⟩
theorem KT.put {H:Hp} {kvs:List (List Key×V)} {xs:List (List Key×Addr×Value)} (r:KT H kvs xs) (k:List Key) {b:Addr} {y:V} {u:Value} (hb:H b=some (.tup (k.map kV))) (ry:aE y u):
  KT H (hZ kvs k y) (storedH xs k b u):=by
 have e:(kvs.any fun kv=>decide (kv.1=k))=(atKey xs k).isSome:=by
  rw [lg,(r.val k).isSome_eq,Option.isSome_map]
 unfold hZ storedH
 rw [e]
 by_cases q:(atKey xs k).isSome=true
 ·rw [if_pos q,if_pos q]; exact r.repl k ry
 ·rw [if_neg q,if_neg q]; exact Paired.snoc r ⟨rfl,hb,ry⟩
theorem KT.keeps {H H':Hp} {kvs:List (List Key×V)} {xs:List (List Key×Addr×Value)} (r:KT H kvs xs) (ht:∀ b ys,H b=some (.tup ys)->H' b=some (.tup ys)):KT H' kvs xs:=
 Paired.mapP r fun _ _ z=>⟨z.1,ht _ _ z.2.1,z.2.2⟩
section
variable {P:Program} {w:World} {H:Hp} {h:Heap} {a:Addr}
end
noncomputable def xj (H:Hp) (a:Addr) (y:V) (r:Option V):Prop:=
 (∃ kvs k,Rd H a (.dK kvs)/\y=kV k/\r=dY kvs k)\/∃ kvs k b,Rd H a (.dT kvs)/\y=.ref b/\H b=some (.tup (k.map kV))/\r=dY kvs k
noncomputable def xk (H:Hp) (a:Addr) (y v:V) (H':Hp):Prop:=
 (∃ kvs k,H a=some (.dK kvs)/\y=kV k/\kvs.length < sizeLine/\H'=upd H a (.dK (hZ kvs k v)))\/
 ∃ kvs k b,H a=some (.dT kvs)/\y=.ref b/\H b=some (.tup (k.map kV))/\kvs.length < sizeLine/\H'=upd H a (.dT (hZ kvs k v))
theorem xj.k {H:Hp} {a:Addr} {kvs:List (Key×V)} {k:Key} (e:H a=some (.dK kvs)):xj H a (kV k) (dY kvs k):=.inl ⟨kvs,k,.inl e,rfl,rfl⟩
theorem xj.t {H:Hp} {a b:Addr} {kvs:List (List Key×V)} {k:List Key} (e:H a=some (.dT kvs)) (eb:H b=some (.tup (k.map kV))):xj H a (.ref b) (dY kvs k):=.inr ⟨kvs,k,b,.inl e,rfl,eb,rfl⟩
theorem xk.k {H:Hp} {a:Addr} {kvs:List (Key×V)} {k:Key} {v:V} (e:H a=some (.dK kvs)) (hl:kvs.length < sizeLine):xk H a (kV k) v (upd H a (.dK (hZ kvs k v))):=.inl ⟨kvs,k,e,rfl,hl,rfl⟩
theorem xk.t {H:Hp} {a b:Addr} {kvs:List (List Key×V)} {k:List Key} {v:V} (e:H a=some (.dT kvs)) (eb:H b=some (.tup (k.map kV))) (hl:kvs.length < sizeLine):
  xk H a (.ref b) v (upd H a (.dT (hZ kvs k v))):=.inr ⟨kvs,k,b,e,rfl,eb,hl,rfl⟩
section
variable {X:Cx} {pins:List (Addr×Obj)} {σ:St} {H:Hp} {s:Shared} {a:Addr} {y v:V} {u r:Value} {o:Option V} {A:Around} {E:Value->Shared->Prop}
theorem Inv.big (I:Inv X pins σ H s):sysModules < s.heap.objs.size:=by
 have h:mainGlobals < s.heap.objs.size:=(I.mod.glob.keeps I.bk).lt
 exact Nat.lt_trans (by decide) h
theorem wu {h':Heap} {t':Nat} {ob:HO} (I:Inv X pins σ H s) (mu:Mut (H a)) (hs:Heap.SameBut a s.heap h') (he:∃ q,h'.get? a=some q) (new:bR X.prog X.w (upd H a ob) h' a ob):
  Inv X pins σ (upd H a ob) { s with heap:=h',toks:=t' }:=
 I.write (x:=a) (e:=a) mu (.inl rfl) (fun b q hb z=>(hs.2 b hb).trans z) he new
end
section
variable {X:Cx} {pins:List (Addr×Obj)} {σ:St} {H:Hp} {s:Shared} {a:Addr} {kvs:List (Key×V)} {k:Key} {u:Value} {A:Around} {E:Value->Shared->Prop}
end
noncomputable def Ab (i:Expr):Prop:=∀ ov iv,subscripted i false ov iv=operate [ov,iv] (getItem ov iv)
theorem ww {prog:Program} {w:World} {A:Around} {E:Value->Shared->Prop} {s:Shared} {env:Env} {value slice:Expr} {pos:Pos} {T id:String} {Q:Value->Shared->Prop}
  (hl:typeLookup (.type T) "__getitem__"=pure (some (.builtin id))) (hs:Ab slice)
  (h:wpAny (model prog w) A (eval value env) (fun o s₁=>wpAny (model prog w) A (eval slice env) (fun i s₂=>s₂.TypeIs o T/\wpAny (model prog w) A (getItem o i) Q E s₂) E s₁) E s):
  wpAny (model prog w) A (eval (.Subscript value slice pos) env) Q E s:=by
 refine Subscript_ (wpAny_mono h (fun o s₁ h₁=>wpAny_mono h₁ (fun i s₂ h₂=>?_) fun _ _ x=>x) fun _ _ x=>x)
 obtain ⟨hT,h₂⟩:=h₂
 unfold subscriptTail
 refine wpAny_bind ?_
 rw [getitemInPython_of_ne hT.not_modules]
 refine wpAny_bind (wpAny_specialOf hT hl ?_)
 have fin:wpAny (model prog w) A (subscripted slice false o i) (fun r s₃=>wpAny (model prog w) A (letTemporaryGo value o r >>= fun _=>pure r) Q E s₃) E s₂:=by
  rw [hs o i]
  exact wpAny_operating (wpAny_mono h₂ (fun r s₃ h₃=>wpAny_bind (wpAny_letTemporaryGo (wpAny_pure h₃))) fun _ _ x=>x)
 first
  | exact wpAny_pure (wpAny_bind fin)
  | exact wpAny_bind (wpAny_pure (wpAny_bind fin))
  | exact wpAny_bind fin
section
variable {X:Cx} {o i e value:Expr} {pos pos' tpos:Pos} {td ty tv:TE}
end
section
variable {X:Cx} {pos:Pos}
end
structure M1 (X:Cx) (o:Expr) (m:Str) (apos:Pos) (e:Expr) (cpos:Pos):Prop where
 base:attributeBase o m X.env (eval o X.env)=eval o X.env
 few:((backTo cpos (starEach [e] X.env)).all (fun x=>!x.1) && (backToKw cpos (keywordEach [] X.env)).all (fun x=>x.1.isSome)
  && decide (([e]:List Expr).length + ([]:List Keyword).length + (if ([]:List Keyword).isEmpty then 0 else 1) < 30))=true
 line:(apos.endLine == cpos.line)=true
 trees:backTo cpos (starEach [e] X.env)=[(false,eval e X.env)]
structure M2 (X:Cx) (o:Expr) (m:Str) (apos:Pos) (e f:Expr) (cpos:Pos):Prop where
 base:attributeBase o m X.env (eval o X.env)=eval o X.env
 few:((backTo cpos (starEach [e,f] X.env)).all (fun x=>!x.1) && (backToKw cpos (keywordEach [] X.env)).all (fun x=>x.1.isSome)
  && decide (([e,f]:List Expr).length + ([]:List Keyword).length + (if ([]:List Keyword).isEmpty then 0 else 1) < 30))=true
 line:(apos.endLine == cpos.line)=true
 trees:backTo cpos (starEach [e,f] X.env)=[(false,eval e X.env),(false,eval f X.env)]
section
variable {X:Cx} {pins:List (Addr×Obj)} {σ:St} {H:Hp} {s:Shared} {a:Addr} {y d:V} {u r:Value} {o:Option V} {A:Around} {E:Value->Shared->Prop}
end
section
variable {X:Cx} {o e f:Expr} {apos cpos:Pos} {td ty tx:TE}
end
section
variable {X:Cx} {pins:List (Addr×Obj)} {σ:St} {H:Hp} {s:Shared} {a:Addr} {kvs:List (Key×V)} {A:Around} {E:Value->Shared->Prop}
end
section
variable {X:Cx} {pins:List (Addr×Obj)} {σ:St} {H:Hp} {s:Shared} {a:Addr} {y:V} {u:Value} {A:Around} {E:Value->Shared->Prop}
end
end L2
end
section
namespace L2
open PySem PySem.Spec PyProof.Rows
section
variable {prog:Program} {w:World} {A:Around} {E:Value->Shared->Prop} {s:Shared}
theorem nC {b:Bool} {Q:Int->Shared->Prop} (h:Q (hashInt (if b then 1 else 0)) { s with toks:=s.toks + 1 }):wpAny (model prog w) A (pyHash (.bool b)) Q E s:=by
 have hr:=rawHash_range (if b then 1 else 0)
 unfold pyHash
 have hv:[Value.bool b].any Value.onHeap=false:=rfl
 refine wpAny_bind ?_
 rw [cRoomFor,if_neg (by rw [hv]; exact Bool.false_ne_true)]; refine wpAny_pure ?_
 have hT:s.TypeIs (.bool b) "bool":=rfl
 refine wpAny_bind (wpAny_specialOf hT PySem.F.slot_bool_hash.lookup ?_)
 show wpAny _ _ (if (some (Value.builtin "int.__hash__") == some Value.none)=true then _ else _) Q E s
 rw [if_neg (by rw [beq_builtin_none]; exact Bool.false_ne_true)]
 refine wpAny_bind (wpAny_specialOf hT PySem.F.slot_bool_hash.lookup ?_)
 show wpAny _ _ (callSpecialIfBoundUnlessNone? (.bool b) "__hash__" _ >>= _) Q E s
 refine wpAny_bind (wpAny_callSpecialIfBoundUnlessNone?_slot hT PySem.F.slot_bool_hash (wpAny_call_entry PySem.F.slot_bool_hash hT entry_int_hash ?_ (args_int_hash _)))
 cases b with
 | true=>
  refine (show wpAny _ _ (do ret (<-mkInt (rawHash 1))) _ _ s from wpAny_ret_mkInt ?_)
  show wpAny _ _ (if (decide (-(2:Int) ^ 63<=rawHash 1) && decide (rawHash 1 < 2 ^ 63))=true then _ else _) Q E _
  rw [if_pos (by decide)]
  exact wpAny_pure h
 | false=>
  refine (show wpAny _ _ (do ret (<-mkInt (rawHash 0))) _ _ s from wpAny_ret_mkInt ?_)
  show wpAny _ _ (if (decide (-(2:Int) ^ 63<=rawHash 0) && decide (rawHash 0 < 2 ^ 63))=true then _ else _) Q E _
  rw [if_pos (by decide)]
  exact wpAny_pure h
theorem nD {Q:Int->Shared->Prop} (h:Q 4238894112 { s with toks:=s.toks + 1 }):wpAny (model prog w) A (pyHash .none) Q E s:=by
 unfold pyHash
 have hv:[Value.none].any Value.onHeap=false:=rfl
 refine wpAny_bind ?_
 rw [cRoomFor,if_neg (by rw [hv]; exact Bool.false_ne_true)]; refine wpAny_pure ?_
 have hT:s.TypeIs .none "NoneType":=rfl
 refine wpAny_bind (wpAny_specialOf hT PySem.F.slot_NoneType_hash.lookup ?_)
 show wpAny _ _ (if (some (Value.builtin "NoneType.__hash__") == some Value.none)=true then _ else _) Q E s
 rw [if_neg (by rw [beq_builtin_none]; exact Bool.false_ne_true)]
 refine wpAny_bind (wpAny_specialOf hT PySem.F.slot_NoneType_hash.lookup ?_)
 show wpAny _ _ (callSpecialIfBoundUnlessNone? .none "__hash__" _ >>= _) Q E s
 refine wpAny_bind (wpAny_callSpecialIfBoundUnlessNone?_slot hT PySem.F.slot_NoneType_hash (wpAny_call_entry PySem.F.slot_NoneType_hash hT PySem.F.entry_NoneType_hash ?_ (PySem.F.args_NoneType_hash_1 _)))
 refine (show wpAny _ _ (do ret (<-mkInt 4238894112)) _ _ s from wpAny_ret_mkInt ?_)
 show wpAny _ _ (if (decide (-(2:Int) ^ 63<=4238894112) && decide ((4238894112:Int) < 2 ^ 63))=true then _ else _) Q E _
 rw [if_pos (by decide)]
 exact wpAny_pure h
end
noncomputable def tW:IA->Int
 | none=>4238894112
 | some i=>hashInt i
noncomputable def lh:IA->Value->Bool
 | none,.none=>true
 | some i,.int j _=>i == j
 | some i,.bool b=>i == (if b then 1 else 0)
 | _,_=>false
theorem d5 {k:IA} {v:Value} (h:lh k v=true):(k=none/\v=.none)\/(∃ i t,k=some i/\v=.int i t)\/∃ b,k=some (if b then 1 else 0)/\v=.bool b:=by
 rcases k with _ | i <;> cases v <;> (delta lh at h; simp at h)
 ·exact .inl ⟨rfl,rfl⟩
 ·subst h; exact .inr (.inr ⟨_,rfl,rfl⟩)
 ·subst h; exact .inr (.inl ⟨_,_,rfl,rfl⟩)
noncomputable def dz (prog:Program) (w:World):PySem.KeyKind prog w IA where
 is:=lh
 hash:=tW
 inj:=fun v a b ha hb=>by
  rcases d5 ha with ⟨rfl,rfl⟩ | ⟨i,t,rfl,rfl⟩ | ⟨c,rfl,rfl⟩ <;> rcases d5 hb with ⟨rfl,e⟩ | ⟨j,u,rfl,e⟩ | ⟨d,rfl,e⟩ <;> first | rfl | (cases e; rfl) | cases e
 byValue:=fun k v h=>by
  rcases d5 h with ⟨rfl,rfl⟩ | ⟨i,t,rfl,rfl⟩ | ⟨c,rfl,rfl⟩ <;> rfl
 pyHash:=fun hv h=>by
  rcases d5 hv with ⟨rfl,rfl⟩ | ⟨i,t,rfl,rfl⟩ | ⟨c,rfl,rfl⟩
  ·exact nD h
  ·exact wpAny_pyHash_int h
  ·exact nC h
 eqBool:=fun {A E s a b u v Q} hu hv h=>by
  rcases d5 hu with ⟨rfl,rfl⟩ | ⟨i,t,rfl,rfl⟩ | ⟨c,rfl,rfl⟩ <;> rcases d5 hv with ⟨rfl,rfl⟩ | ⟨j,u,rfl,rfl⟩ | ⟨d,rfl,rfl⟩
  ·exact SeqAt.EqAt.same _ _ _ _ _ (by simpa using h)
  ·exact SeqAt.EqAt.none_int _ _ _ _ _ _ (by simpa using h)
  ·exact SeqAt.EqAt.none_bool _ _ _ _ _ (by simpa using h)
  ·exact SeqAt.EqAt.int_none _ _ _ _ _ _ (by simpa using h)
  ·exact SeqAt.EqAt.int_int _ _ _ _ _ _ _ _ (by simpa [Bool.beq_eq_decide_eq] using h)
  ·exact SeqAt.EqAt.int_bool _ _ _ _ _ _ _ (by simpa [Bool.beq_eq_decide_eq] using h)
  ·exact SeqAt.EqAt.bool_none _ _ _ _ _ (by simpa using h)
  ·exact SeqAt.EqAt.bool_int _ _ _ _ _ _ _ (by simpa [Bool.beq_eq_decide_eq] using h)
  ·refine SeqAt.EqAt.bool_bool _ _ _ _ _ _ ?_
   cases c <;> cases d <;> simpa using h
 «strs»:=fun k x t v h=>by
  rcases d5 h with ⟨rfl,e⟩ | ⟨i,u,rfl,e⟩ | ⟨c,rfl,e⟩ <;> cases e
noncomputable def jR:IK->Int
 | .inl a=>tW a
 | .inr as=>reduceHash (Builtin.Tuple.tupleHashOf (as.map tW))
noncomputable def sW (is:List IK):Int:=reduceHash (Builtin.Tuple.tupleHashOf (is.map jR))
noncomputable def kG:IK->Nat
 | .inl _=>1
 | .inr as=>as.length + 1
section
variable (prog:Program) (w:World)
noncomputable def dc (h:Heap):IK->Value->Prop
 | .inl a,v=>lh a v=true
 | .inr as,v=>∃ b,v=.ref b/\IsTupleKey (dz prog w) h as b
noncomputable def gp (h:Heap) (is:List IK) (a:Addr):Prop:=∃ o items n,h.get? a=some o/\o.cls=.type "tuple"/\o.data=.seq items n/\Paired (dc prog w h) is items.toList
end
section
variable {prog:Program} {w:World}
theorem dc.inj {h:Heap} {x y:IK} {v:Value} (hx:dc prog w h x v) (hy:dc prog w h y v):x=y:=by
 cases x with
 | inl a=>cases y with
  | inl b=>rw [(dz prog w).inj v a b hx hy]
  | inr bs=>
   obtain ⟨c,rfl,_⟩:=hy
   rcases d5 hx with ⟨_,e⟩ | ⟨_,_,_,e⟩ | ⟨_,_,e⟩ <;> cases e
 | inr as=>cases y with
  | inl b=>
   obtain ⟨c,rfl,_⟩:=hx
   rcases d5 hy with ⟨_,e⟩ | ⟨_,_,_,e⟩ | ⟨_,_,e⟩ <;> cases e
  | inr bs=>
   obtain ⟨c,rfl,h1⟩:=hx
   obtain ⟨d,e,h2⟩:=hy
   cases e
   rw [h1.inj h2]
theorem yE {h:Heap} {xs ys:List IK} {vs:List Value} (p:Paired (dc prog w h) xs vs):Paired (dc prog w h) ys vs->xs=ys:=by
 induction p generalizing ys with
 | nil=>intro q; cases q; rfl
 | cons a t ih=>intro q; cases q with
  | cons b u=>rw [a.inj b,ih u]
theorem gp.inj {h:Heap} {a:Addr} {x y:List IK} (hx:gp prog w h x a) (hy:gp prog w h y a):x=y:=by
 obtain ⟨o,items,n,ho,_,hd,hi⟩:=hx
 obtain ⟨o',items',n',ho',_,hd',hi'⟩:=hy
 obtain rfl:o=o':=Option.some.inj (ho.symm.trans ho')
 rw [hd] at hd'
 injection hd' with h1 _
 subst h1
 exact yE hi hi'
theorem dc.keeps {h h':Heap} {k:IK} {v:Value} {d:Addr} {o:Obj} {es ep} (x:dc prog w h k v) (ho:h.get? d=some o) (hd:o.data=.dict es ep) (hs:Heap.SameBut d h h'):dc prog w h' k v:=by
 cases k with
 | inl a=>exact x
 | inr as=>obtain ⟨b,e,q⟩:=x; exact ⟨b,e,q.keeps ho hd hs⟩
theorem gp.keeps {h h':Heap} {ks:List IK} {a d:Addr} {o:Obj} {es ep} (x:gp prog w h ks a) (ho:h.get? d=some o) (hd:o.data=.dict es ep) (hs:Heap.SameBut d h h'):gp prog w h' ks a:=by
 obtain ⟨o',items,n,ho',hc,hd',hi⟩:=x
 have hne:a≠d:=by
  rintro rfl
  obtain rfl:o'=o:=Option.some.inj (ho'.symm.trans ho)
  rw [hd] at hd'; exact nomatch hd'
 exact ⟨o',items,n,(hs.2 a hne).trans ho',hc,hd',Paired.mapP hi fun _ _ z=>z.keeps ho hd hs⟩
theorem gp.typeIs {s:Shared} {ks:List IK} {a:Addr} (x:gp prog w s.heap ks a):s.TypeIs (.ref a) "tuple":=let ⟨o,_,_,ho,hc,_⟩:=x; ⟨o,ho,hc⟩
theorem ph {h:Heap} {ks:List IA} {a:Addr} (x:IsTupleKey (dz prog w) h ks a):∃ items,h.IsTuple a items:=let ⟨o,items,n,h1,h2,h3,_⟩:=x; ⟨items,o,h1,h2,n,h3⟩
variable {A:Around} {E:Value->Shared->Prop} {s:Shared}
theorem yF {k:IK} {v:Value} {Q:Int->Shared->Prop} (hu:A.units < cLine) (hk:dc prog w s.heap k v) (h:Q (jR k) { s with toks:=s.toks + kG k }):wpAny (model prog w) A (pyHash v) Q E s:=by
 cases k with
 | inl a=>exact (dz prog w).pyHash (k:=a) hk h
 | inr as=>
  obtain ⟨b,rfl,q⟩:=hk
  exact wpAny_pyHash_tuple (knd:=dz prog w) hu q h
theorem Ac {a:IA} {v:Value} {b:Addr} {items:Array Value} {Q:Bool->Shared->Prop} (hu:A.units < cLine) (hk:lh a v=true) (ht:s.heap.IsTuple b items) (h:Q false s):wpAny (model prog w) A (PySem.eqBool v (.ref b)) Q E s:=by
 rcases d5 hk with ⟨rfl,rfl⟩ | ⟨i,t,rfl,rfl⟩ | ⟨c,rfl,rfl⟩
 ·exact SeqAt.EqAt.none_tuple ht hu _ _ _ _ h
 ·exact SeqAt.EqAt.int_tuple _ _ ht hu _ _ _ _ h
 ·exact SeqAt.EqAt.bool_tuple _ ht hu _ _ _ _ h
theorem Ad {a:IA} {v:Value} {b:Addr} {items:Array Value} {Q:Bool->Shared->Prop} (hu:A.units < cLine) (hk:lh a v=true) (ht:s.heap.IsTuple b items) (h:Q false s):wpAny (model prog w) A (PySem.eqBool (.ref b) v) Q E s:=by
 rcases d5 hk with ⟨rfl,rfl⟩ | ⟨i,t,rfl,rfl⟩ | ⟨c,rfl,rfl⟩
 ·exact SeqAt.EqAt.tuple_none ht hu _ _ _ _ h
 ·exact SeqAt.EqAt.tuple_int _ _ ht hu _ _ _ _ h
 ·exact SeqAt.EqAt.tuple_bool _ ht hu _ _ _ _ h
theorem BH {x y:IK} {u v:Value} {Q:Bool->Shared->Prop} (hu:A.units < cLine) (hx:dc prog w s.heap x u) (hy:dc prog w s.heap y v) (h:Q (decide (x=y)) s):wpAny (model prog w) A (PySem.eqBool u v) Q E s:=by
 cases x with
 | inl a=>cases y with
  | inl b=>
   refine (dz prog w).eqBool (a:=a) (b:=b) hx hy ?_
   rw [show decide (a=b)=decide ((Sum.inl a:IK)=Sum.inl b) from decide_eq_decide.mpr ⟨fun e=>by rw [e],fun e=>Sum.inl.inj e⟩]
   exact h
  | inr bs=>
   obtain ⟨c,rfl,q⟩:=hy
   obtain ⟨items,ht⟩:=ph q
   refine Ac hu hx ht ?_
   rw [decide_eq_false (fun e=>nomatch e)] at h
   exact h
 | inr as=>cases y with
  | inl b=>
   obtain ⟨c,rfl,q⟩:=hx
   obtain ⟨items,ht⟩:=ph q
   refine Ad hu hy ht ?_
   rw [decide_eq_false (fun e=>nomatch e)] at h
   exact h
  | inr bs=>
   obtain ⟨c,rfl,q⟩:=hx
   obtain ⟨d,rfl,q'⟩:=hy
   refine wpAny_eqBool_tuple (knd:=dz prog w) hu q q' ?_
   rw [show decide (as=bs)=decide ((Sum.inr as:IK)=Sum.inr bs) from decide_eq_decide.mpr ⟨fun e=>by rw [e],fun e=>Sum.inr.inj e⟩]
   exact h
noncomputable def tX (ks:List IK):Nat:=(ks.map kG).sum + 1
theorem yG {ks:List IK} {a:Addr} {Q:Int->Shared->Prop} (hu:A.units + 1 < cLine) (hk:gp prog w s.heap ks a) (h:Q (sW ks) { s with toks:=s.toks + tX ks }):
  wpAny (model prog w) A (pyHash (.ref a)) Q E s:=by
 have hT:=hk.typeIs
 obtain ⟨o,items,n,ho,_,hd,hi⟩:=hk
 have hu0:A.units < cLine:=by omega
 unfold pyHash
 first | unfold pyHashByItsType | skip
 first | refine wpAny_bind (wpAny_cRoomFor_or (.inr hu0) ?_) | skip
 refine wpAny_bind (wpAny_specialOf hT F.slot_tuple_hash.lookup ?_)
 show wpAny _ _ (if (some (Value.builtin "tuple.__hash__") == some Value.none)=true then _ else _) Q E s
 rw [if_neg (by rw [beq_builtin_none]; exact Bool.false_ne_true)]
 refine wpAny_bind (wpAny_specialOf hT F.slot_tuple_hash.lookup ?_)
 show wpAny _ _ (callSpecialIfBoundUnlessNone? (.ref a) "__hash__" _ >>= _) Q E s
 refine wpAny_bind (wpAny_callSpecialIfBoundUnlessNone?_slot hT F.slot_tuple_hash (wpAny_call_entry F.slot_tuple_hash hT F.entry_tuple_hash ?_ (F.args_tuple_hash_1 _)))
 show wpAny _ _ (Builtin.Tuple.tupleItemsOf (.ref a) >>= _) _ _ s
 refine wpAny_bind (wpAny_tupleItemsOf ho hd ?_)
 refine wpAny_bind ?_
 rw [<-Array.forIn_toList]
 refine wpAny_forIn_list _
  (fun cM (b:Array Int) s'=>∃ done left,ks=done++left/\Paired (dc prog w s.heap) left cM/\b.toList=done.map jR/\s'={ s with toks:=s.toks + (done.map kG).sum })
  _ ?_ ?_ _ _ ⟨[],ks,rfl,hi,rfl,rfl⟩
 ·rintro x cM b s' ⟨done,left,rfl,hl,hb,rfl⟩
  cases hl with
  | @cons k _ ks' _ h1 hl'=>
   refine wpAny_bind (yF (k:=k) hu h1 ?_)
   have e:(done.map kG).sum + kG k=((done++[k]).map kG).sum:=by simp
   first
    | exact wpAny_pure ⟨done++[k],ks',by simp,hl',by simp [hb],by rw [<-e]; simp [Nat.add_assoc]⟩
    | exact wpAny_bind (wpAny_pure (wpAny_pure ⟨done++[k],ks',by simp,hl',by simp [hb],by rw [<-e]; simp [Nat.add_assoc]⟩))
 ·rintro b s' ⟨done,left,rfl,hl,hb,rfl⟩
  cases hl
  rw [List.append_nil] at h
  show wpAny _ _ (retInt (Builtin.Tuple.tupleHashOf b.toList)) _ _ _
  rw [hb]
  refine wpAny_ret_mkInt ?_
  show wpAny _ _ (if (decide (-(2:Int) ^ 63<=Builtin.Tuple.tupleHashOf (done.map jR)) && decide (Builtin.Tuple.tupleHashOf (done.map jR) < 2 ^ 63))=true then _ else _) Q E _
  unfold sW reduceHash tX at h
  by_cases hr:(decide (-(2:Int) ^ 63<=Builtin.Tuple.tupleHashOf (done.map jR)) && decide (Builtin.Tuple.tupleHashOf (done.map jR) < 2 ^ 63))=true
  ·rw [if_pos hr]
   rw [if_pos hr] at h
   exact wpAny_pure (by simpa [Nat.add_assoc] using h)
  ·rw [if_neg hr]
   rw [if_neg hr] at h
   exact wpAny_bind (wpAny_rule (wpAny_pure (by simpa [Nat.add_assoc] using h)))
theorem xl {x y:List IK} {a b:Addr} {P:Fin->Shared->Prop} (hu:A.units < cLine) (hx:gp prog w s.heap x a) (hy:gp prog w s.heap y b) (h:P (.done (.ret (.bool (decide (x=y))))) s):
  wpAny (model prog w) A (Builtin.«tuple.__eq__» ⟨[.ref a,.ref b],[]⟩) P E s:=by
 have hTb:=hy.typeIs
 obtain ⟨oa,xs,na,hoa,_,hda,hia⟩:=hx
 obtain ⟨ob,ys,nb,hob,_,hdb,hib⟩:=hy
 show wpAny _ _ (isInstance (.ref b) (.type "tuple") >>= _) _ _ s
 refine wpAny_bind (wpAny_isInstance hTb isSubtype_tuple_tuple ?_)
 simp only [Bool.not_true,Bool.false_eq_true,if_false]
 refine wpAny_bind (wpAny_tupleItemsOf hoa hda ?_)
 refine wpAny_bind (wpAny_tupleItemsOf hob hdb ?_)
 refine wpAny_bind ?_
 refine wpAny_forIn_list _
  (fun cM r s'=>r.1=none/\s'=s/\∃ x' y' xs' ys',cM=List.zip xs' ys'/\Paired (dc prog w s.heap) x' xs'/\Paired (dc prog w s.heap) y' ys'/\decide (x'=y')=decide (x=y)/\(xs'.length == ys'.length)=(xs.size == ys.size))
  _ ?_ ?_ _ _ ⟨rfl,rfl,x,y,xs.toList,ys.toList,rfl,hia,hib,rfl,by simp⟩
 ·rintro ⟨u,v⟩ cM r s' ⟨hr,rfl,x',y',xs',ys',hz,hx',hy',hdec,hlen⟩
  cases hx' with
  | nil=>simp at hz
  | @cons k1 u' x'' xs'' h1 hx''=>
   cases hy' with
   | nil=>simp at hz
   | @cons k2 v' y'' ys'' h2 hy''=>
    simp only [List.zip_cons_cons,List.cons.injEq,Prod.mk.injEq] at hz
    obtain ⟨⟨rfl,rfl⟩,rfl⟩:=hz
    refine wpAny_bind (BH (x:=k1) (y:=k2) hu h1 h2 ?_)
    by_cases hk:k1=k2
    ·subst hk
     rw [decide_eq_true rfl]
     simp only [Bool.not_true,Bool.false_eq_true,if_false]
     refine wpAny_pure ⟨rfl,rfl,x'',y'',xs'',ys'',rfl,hx'',hy'',?_,by simpa using hlen⟩
     rw [<-hdec]
     by_cases hxy:x''=y''
     ·simp [hxy]
     ·simp [hxy]
    ·rw [decide_eq_false hk]
     simp only [Bool.not_false,if_true]
     have hf:decide (x=y)=false:=by rw [<-hdec]; simp [hk]
     rw [hf] at h
     exact wpAny_bind (wpAny_pure (wpAny_pure (wpAny_pure h)))
 ·rintro ⟨r1,r2⟩ s' ⟨hr,rfl,x',y',xs',ys',hz,hx',hy',hdec,hlen⟩
  simp only at hr
  subst hr
  refine wpAny_pure ?_
  have hfin:(xs.size == ys.size)=decide (x=y):=by
   rw [<-hdec,<-hlen]
   cases hx' with
   | nil=>
    cases hy' with
    | nil=>simp
    | cons _ _=>simp
   | cons _ _=>
    cases hy' with
    | nil=>simp
    | cons _ _=>simp at hz
  show P (.done (.ret (.bool (xs.size == ys.size)))) s'
  rw [hfin]; exact h
theorem yH {x y:List IK} {a b:Addr} {Q:Bool->Shared->Prop} (hu:A.units + 1 < cLine) (hx:gp prog w s.heap x a) (hy:gp prog w s.heap y b) (h:Q (decide (x=y)) s):
  wpAny (model prog w) A (eqBool (.ref a) (.ref b)) Q E s:=by
 unfold eqBool
 try with_reducible refine wpAny_holding ?_
 show wpAny _ _ (if (Value.ref a == Value.ref b)=true then _ else _) Q E s
 by_cases hab:(Value.ref a == Value.ref b)=true
 ·rw [if_pos hab]
  have e:a=b:=by have:=eq_of_beq hab; injection this
  subst e
  obtain rfl:=hx.inj hy
  exact wpAny_bind (wpAny_rule (wpAny_pure (by simpa using h)))
 ·rw [if_neg hab]
  exact wpAny_bind (wpAny_richCompare_same_room (op:=.Eq) hx.typeIs hy.typeIs F.slot_tuple_eq
   (wpAny_call_entry F.slot_tuple_eq hx.typeIs F.entry_tuple_eq (xl hu hx hy ⟨_,rfl,(fun e=>nomatch e),wpAny_truthy_bool h⟩) (F.args_tuple_eq_2 _ _)) (by omega))
theorem vE {n:Nat} {ks:List IA} {a:Addr} {Q:Bool->Shared->Prop} (hk:IsTupleKey (dz prog w) s.heap ks a) (h:Q true s):wpAny (model prog w) A (eqIsQuiet (n + 1) (.ref a)) Q E s:=by
 have hT:=hk.typeIs
 obtain ⟨o,items,_,ho,_,hd,hi⟩:=hk
 unfold eqIsQuiet
 refine wpAny_bind (wpAny_specialOf hT F.slot_tuple_eq.lookup ?_)
 show wpAny _ _ (isInstance (.ref a) (.type "tuple") >>= _) _ _ s
 refine wpAny_bind (wpAny_isInstance hT isSubtype_tuple_tuple ?_)
 simp only [Bool.not_true,Bool.false_eq_true,if_false]
 refine wpAny_bind (wpAny_seqItems ho hd ?_)
 refine wpAny_bind ?_
 show wpAny _ _ (forIn items _ _) _ _ s
 rw [<-Array.forIn_toList]
 refine wpAny_forIn_list _ (fun cM r s'=>r.1=none/\s'=s/\∀ v∈cM,carriedByValue v=true) _ ?_ ?_ _ _ ⟨rfl,rfl,hi.byValue⟩
 ·rintro v cM r s' ⟨hr,rfl,hall⟩
  rw [eqIsQuiet_byValue _ (hall v List.mem_cons_self)]
  refine wpAny_bind (wpAny_pure ?_)
  simp only [Bool.not_true,Bool.false_eq_true,if_false]
  exact wpAny_pure ⟨rfl,rfl,fun u hu'=>hall u (List.mem_cons_of_mem _ hu')⟩
 ·rintro ⟨r1,r2⟩ s' ⟨hr,rfl,_⟩
  simp only at hr
  subst hr
  exact wpAny_pure h
theorem Ae {ks:List IK} {a:Addr} {Q:Bool->Shared->Prop} (hk:gp prog w s.heap ks a) (h:Q true s):wpAny (model prog w) A (eqIsQuiet 8 (.ref a)) Q E s:=by
 have hT:=hk.typeIs
 obtain ⟨o,items,n,ho,_,hd,hi⟩:=hk
 unfold eqIsQuiet
 refine wpAny_bind (wpAny_specialOf hT F.slot_tuple_eq.lookup ?_)
 show wpAny _ _ (isInstance (.ref a) (.type "tuple") >>= _) _ _ s
 refine wpAny_bind (wpAny_isInstance hT isSubtype_tuple_tuple ?_)
 simp only [Bool.not_true,Bool.false_eq_true,if_false]
 refine wpAny_bind (wpAny_seqItems ho hd ?_)
 refine wpAny_bind ?_
 show wpAny _ _ (forIn items _ _) _ _ s
 rw [<-Array.forIn_toList]
 refine wpAny_forIn_list _ (fun cM r s'=>r.1=none/\s'=s/\∃ ks,Paired (dc prog w s.heap) ks cM) _ ?_ ?_ _ _ ⟨rfl,rfl,ks,hi⟩
 ·rintro v cM r s' ⟨hr,rfl,ks,hall⟩
  cases hall with
  | @cons k _ ks' _ h1 hl=>
   refine wpAny_bind ?_
   have fin:wpAny (model prog w) A (eqIsQuiet 7 v) (fun b s2=>b=true/\s2=s') E s':=by
    cases k with
    | inl a'=>rw [eqIsQuiet_byValue _ ((dz prog w).byValue _ _ h1)]; exact wpAny_pure ⟨rfl,rfl⟩
    | inr as=>obtain ⟨b,rfl,q⟩:=h1; exact vE (n:=6) q ⟨rfl,rfl⟩
   refine wpAny_mono fin (fun b s2 ⟨e1,e2⟩=>?_) fun _ _ x=>x
   subst e1 e2
   simp only [Bool.not_true,Bool.false_eq_true,if_false]
   exact wpAny_pure ⟨rfl,rfl,ks',hl⟩
 ·rintro ⟨r1,r2⟩ s' ⟨hr,rfl,_⟩
  simp only at hr
  subst hr
  exact wpAny_pure h
end
noncomputable def mB (prog:Program) (w:World):HeapKind prog w (List IK) where
 is:=gp prog w
 hash:=sW
 draws:=tX
 room:=fun A=>A.units + 1 < cLine
 inj:=fun hx hy=>hx.inj hy
 keeps:=fun x ho hd hs=>x.keeps ho hd hs
 pyHash:=fun hu hk h=>yG hu hk h
 eqBool:=fun hu hx hy h=>yH hu hx hy h
 quiet:=fun hk h=>Ae hk h
noncomputable def DA (a:Addr) (kvs:List (IA×V)) (h:Heap):Prop:=kvs.length<=sizeLine/\(a == sysModules)=false/\∃ (P:Program) (w:World) (vs:List (IA×Value)),KV kvs vs/\h.DictOf (dz P w) a vs
noncomputable def ZX:List (List IK×Addr×V)->List (List IK×Addr×Value)->Prop:=Paired fun z x=>z.1=x.1/\z.2.1=x.2.1/\aE z.2.2 x.2.2
noncomputable def DB (a:Addr) (zs:List (List IK×Addr×V)) (h:Heap):Prop:=zs.length<=sizeLine/\(a == sysModules)=false/\∃ xs:List (List IK×Addr×Value),ZX zs xs/\
 ∃ o es ep,h.get? a=some o/\o.ExactDict/\o.data=.dict es ep/\es.toList=xs.map (fun x=>⟨sW x.1,.ref x.2.1,x.2.2⟩)/\(xs.map (·.1)).Nodup
noncomputable def dA (a:Addr) (kvs:List (IA×V)):HO:=.ext (DA a kvs)
noncomputable def dB (a:Addr) (zs:List (List IK×Addr×V)):HO:=.ext (DB a zs)
noncomputable def atZ (zs:List (List IK×Addr×V)) (k:List IK):Option V:=(zs.find? fun p=>decide (p.1=k)).map (·.2.2)
noncomputable def Dx (H:Hp) (a:Addr) (s:Bool) (f:MK->Option V) (n:Nat):Prop:=
 (s=false/\∃ kvs,H a=some (dA a kvs)/\(∀ k,dY kvs k=f (.inl k))/\kvs.length<=n)\/
 (s=true/\∃ zs,H a=some (dB a zs)/\(∀ z∈zs,dL H (.ref z.2.1) (.inr z.1))/\(∀ k,atZ zs k=f (.inr k))/\zs.length<=n)
section
variable {H H':Hp} {a b:Addr} {s:Bool} {f g:MK->Option V} {n m:Nat}
theorem Dx.ext (h:Dx H a s f n):∃ φ,H a=some (.ext φ):=by
 rcases h with ⟨_,kvs,e,_⟩ | ⟨_,zs,e,_⟩
 ·exact ⟨_,e⟩
 ·exact ⟨_,e⟩
theorem Dx.keep (h:Dx H a s f n) (e:H' a=H a) (kp:fN H H'):Dx H' a s f n:=by
 rcases h with ⟨hs,kvs,h1,h2⟩ | ⟨hs,zs,h1,h2,h3⟩
 ·exact .inl ⟨hs,kvs,e.trans h1,h2⟩
 ·exact .inr ⟨hs,zs,e.trans h1,fun z hz=>(h2 z hz).keep kp,h3⟩
theorem Dx.same (h:Dx H a s f n) (q:al H H'):Dx H' a s f n:=by
 obtain ⟨φ,h1⟩:=h.ext
 exact h.keep ((q _ _ h1).trans h1.symm) q.keep
theorem Dx.ne_lst {xs:List V} (h:Dx H a s f n) (e:H b=some (.lst xs)):b≠a:=by
 obtain ⟨φ,h1⟩:=h.ext
 exact wK e h1 (fun z=>nomatch z)
theorem Dx.le (h:Dx H a s f n) (e:n<=m):Dx H a s f m:=by
 rcases h with ⟨hs,kvs,h1,h2,h3⟩ | ⟨hs,zs,h1,h2,h3,h4⟩
 ·exact .inl ⟨hs,kvs,h1,h2,Nat.le_trans h3 e⟩
 ·exact .inr ⟨hs,zs,h1,h2,h3,Nat.le_trans h4 e⟩
theorem Dx.congr (h:Dx H a s f n) (e:∀ k,f k=g k):Dx H a s g n:=by
 rcases h with ⟨hs,kvs,h1,h2,h3⟩ | ⟨hs,zs,h1,h2,h3,h4⟩
 ·exact .inl ⟨hs,kvs,h1,fun k=>(h2 k).trans (e _),h3⟩
 ·exact .inr ⟨hs,zs,h1,h2,fun k=>(h3 k).trans (e _),h4⟩
end
end L2
end
section
namespace L2
open PySem PyProof.Rows
theorem Dx.off {H H':Hp} {a l:Addr} {s:Bool} {f:MK->Option V} {n:Nat} {xs:List V} (h:Dx H a s f n) (e:H l=some (.lst xs)) (o:Off l H H'):Dx H' a s f n:=
 h.keep (o a (h.ne_lst e).symm) (o.keep e)
noncomputable def tY:TE:=fun _ H Q=>∃ s,∀ p H',H p=none->al H H'->Dx H' p s (fun _=>none) 0->Q (.ref p) H'
theorem BI {σ:St} {H:Hp} {Q:VK} (s:Bool) (h:∀ p H',H p=none->al H H'->Dx H' p s (fun _=>none) 0->Q (.ref p) H'):tY σ H Q:=⟨s,h⟩
noncomputable def xm:R2:=fun x y H Q=>∃ a s f n k v,x=.ref a/\Dx H a s f n/\dL H y k/\j7 k=s/\f k=some v/\Q v H
noncomputable def li (f:MK->Option V) (k:MK) (v:V):MK->Option V:=fun j=>if j=k then some v else f j
noncomputable def tZ:V->List V->Hp->VK->Prop:=fun x ys H Q=>∃ a s f n k y v,x=.ref a/\ys=[y,v]/\Dx H a s f n/\dL H y k/\j7 k=s/\n < sizeLine/\(∀ u,f k=some u->Q u H)/\
 (f k=none->∀ H',Off a H H'->Dx H' a s (li f k v) (n + 1)->Q v H')
noncomputable def tXM (r:V->List V->Hp->VK->Prop) (to:TE) (t:TA):TE:=fun σ H Q=>to σ H fun x H1=>(∃ a s f n,x=.ref a/\Dx H1 a s f n)/\t σ H1 fun ys H2=>r x ys H2 Q
section
variable {σ:St} {H:Hp} {Q:VK} {a:Addr} {s:Bool} {f:MK->Option V} {n:Nat} {k:MK} {y v:V}
theorem Db (d:Dx H a s f n) (hk:dL H y k) (hs:j7 k=s) (e:f k=some v) (h:Q v H):xm (.ref a) y H Q:=⟨a,s,f,n,k,v,rfl,d,hk,hs,e,h⟩
theorem BJ (d:Dx H a s f n) (hk:dL H y k) (hs:j7 k=s) (hn:n < sizeLine) (h1:∀ u,f k=some u->Q u H) (h2:f k=none->∀ H',Off a H H'->Dx H' a s (li f k v) (n + 1)->Q v H'):tZ (.ref a) [y,v] H Q:=⟨a,s,f,n,k,y,v,rfl,rfl,d,hk,hs,hn,h1,h2⟩
theorem EV {r:V->List V->Hp->VK->Prop} {to:TE} {t:TA} (h:to σ H fun x H1=>(∃ a s f n,x=.ref a/\Dx H1 a s f n)/\t σ H1 fun ys H2=>r x ys H2 Q):tXM r to t σ H Q:=h
end
section
variable {α:Type} [DecidableEq α] {ks:List α} {i:Nat} {k:α}
noncomputable def gv (ks:List α) (i:Nat):α->Option V:=fun k=>if k∈ks.take i then some (.int (ks.idxOf k:Nat)) else none
theorem xn (hk:ks[i]?=some k) (h:k∈ks.take i) (j:α):gv ks i j=gv ks (i + 1) j:=by
 unfold gv
 rw [j8 hk]
 by_cases q:j∈ks.take i
 ·rw [if_pos q,if_pos (List.mem_append_left _ q)]
 ·rw [if_neg q,if_neg]
  intro z
  rcases List.mem_append.mp z with z | z
  ·exact q z
  ·rw [List.mem_singleton.mp z] at q; exact q h
theorem xo (hk:ks[i]?=some k) (h:k∉ks.take i) (j:α):(if j=k then some (V.int (i:Nat)) else gv ks i j)=gv ks (i + 1) j:=by
 unfold gv
 rw [j8 hk]
 by_cases q:j=k
 ·subst q
  rw [if_pos rfl,if_pos (by simp),yD hk h]
 ·rw [if_neg q]
  by_cases z:j∈ks.take i
  ·rw [if_pos z,if_pos (List.mem_append_left _ z)]
  ·rw [if_neg z,if_neg]
   intro w
   rcases List.mem_append.mp w with w | w
   ·exact z w
   ·exact q (List.mem_singleton.mp w)
theorem ro (h:k∈ks.take i):gv ks i k=some (.int (ks.idxOf k:Nat)):=if_pos h
theorem vF (h:k∉ks.take i):gv ks i k=none:=if_neg h
theorem vG (k:α):none=gv ks 0 k:=(if_neg (by simp)).symm
theorem t9 (hk:ks[i]?=some k):(fi ks).take (i + 1)=(fi ks).take i++[ks.idxOf k]:=j8 (by unfold fi; rw [List.getElem?_map,hk]; rfl)
end
end L2
end
section
namespace KM
noncomputable def bb:Nat->Nat
 | 0=>1
 | n + 1=>bb n * (n + 1)
noncomputable def bt:Nat->Nat->Nat
 | _,0=>1
 | 0,_ + 1=>0
 | n + 1,k + 1=>bt n k + bt n (k + 1)
theorem jS:∀ n,0 < bb n
 | 0=>by decide
 | n + 1=>Nat.mul_pos (jS n) (Nat.succ_pos n)
theorem kg (n:Nat):bt n 0=1:=by cases n <;> rfl
theorem j9:∀ (n k:Nat),n < k->bt n k=0
 | _,0,h=>absurd h (Nat.not_lt_zero _)
 | 0,_ + 1,_=>rfl
 | n + 1,k + 1,h=>by rw [bt,j9 n k (by omega),j9 n (k + 1) (by omega)]
theorem nO:∀ n,bt n n=1
 | 0=>rfl
 | n + 1=>by rw [bt,nO n,j9 n (n + 1) (by omega)]
theorem gw:∀ (n k:Nat),k<=n->bt n k * (bb k * bb (n - k))=bb n
 | n,0,_=>by rw [kg,bb,Nat.sub_zero,Nat.one_mul,Nat.one_mul]
 | 0,_ + 1,h=>absurd h (by omega)
 | n + 1,k + 1,h=>by
  rw [bt,Nat.add_mul]
  by_cases hk:k=n
  ·subst hk
   rw [nO,j9 k (k + 1) (by omega),Nat.sub_self]
   simp [bb]
  ·have hk':k + 1<=n:=by omega
   have e1:=gw n k (by omega)
   have e2:=gw n (k + 1) hk'
   have s1:n + 1 - (k + 1)=n - k:=by omega
   have s2:n - k=(n - (k + 1)) + 1:=by omega
   rw [s1]
   have a1:bt n k * (bb (k + 1) * bb (n - k))=(k + 1) * bb n:=by
    rw [<-e1,bb]
    simp only [Nat.mul_assoc,Nat.mul_comm,Nat.mul_left_comm]
   have a2:bt n (k + 1) * (bb (k + 1) * bb (n - k))=(n - k) * bb n:=by
    have s3:bb (n - k)=bb (n - (k + 1)) * (n - k):=by
     rw [s2,bb,<-s2]
    rw [<-e2,s3]
    simp only [Nat.mul_assoc,Nat.mul_comm,Nat.mul_left_comm]
   rw [a1,a2,<-Nat.add_mul,bb,Nat.mul_comm]
   congr 1
   omega
theorem vH (n k:Nat) (h:k + 1<=n):bt n k * (n - k) / (k + 1)=bt n (k + 1):=by
 have e1:=gw n k (by omega)
 have e2:=gw n (k + 1) h
 have s2:n - k=(n - (k + 1)) + 1:=by omega
 have p:0 < bb k * bb (n - (k + 1)):=Nat.mul_pos (jS _) (jS _)
 have q:bt n k * (n - k)=bt n (k + 1) * (k + 1):=by
  have:bt n k * (n - k) * (bb k * bb (n - (k + 1)))=bt n (k + 1) * (k + 1) * (bb k * bb (n - (k + 1))):=by
   have l:bt n k * (n - k) * (bb k * bb (n - (k + 1)))=bb n:=by
    rw [<-e1,show bb (n - k)=bb (n - (k + 1)) * (n - k) by rw [s2,bb,<-s2]]
    simp only [Nat.mul_assoc,Nat.mul_comm,Nat.mul_left_comm]
   have r:bt n (k + 1) * (k + 1) * (bb k * bb (n - (k + 1)))=bb n:=by
    rw [<-e2,bb]
    simp only [Nat.mul_assoc,Nat.mul_comm,Nat.mul_left_comm]
   rw [l,r]
  exact Nat.eq_of_mul_eq_mul_right p this
 rw [q,Nat.mul_div_cancel _ (Nat.succ_pos k)]
noncomputable def fv:Nat->List Nat->Nat
 | _,[]=>1
 | n,s :: r=>bt n s * fv (n - s) r
theorem pj:∀ (ss:List Nat) (n:Nat),ss.sum<=n->fv n ss * ((ss.map bb).foldr (· * ·) 1 * bb (n - ss.sum))=bb n
 | [],n,_=>by simp [fv]
 | s :: r,n,h=>by
  rw [List.sum_cons] at h
  have ih:=pj r (n - s) (by omega)
  have c:=gw n s (by omega)
  rw [fv,List.map_cons,List.foldr_cons,List.sum_cons,<-c,<-ih,Nat.sub_sub]
  simp only [Nat.mul_assoc,Nat.mul_comm,Nat.mul_left_comm]
end KM
end
section
namespace KM
noncomputable def nk (room:List Nat) (w:List Nat):List Nat:=(List.range room.length).filter fun j=>decide (w.count j < room.getD j 0)
noncomputable def eX (room:List Nat) (ws:List (List Nat)):List (List Nat):=ws.flatMap fun w=>(nk room w).map fun j=>w++[j]
noncomputable def cP (room:List Nat):Nat->List (List Nat)
 | 0=>[[]]
 | i + 1=>eX room (cP room i)
noncomputable def words:Nat->List Nat->Nat
 | 0,_=>1
 | n + 1,r=>(((List.range r.length).filter fun j=>decide (0 < r.getD j 0)).map fun j=>words n (r.set j (r.getD j 0 - 1))).sum
noncomputable def left (room w:List Nat):List Nat:=(List.range room.length).map fun j=>room.getD j 0 - w.count j
theorem jT (room w:List Nat):(left room w).length=room.length:=by unfold left; rw [List.length_map,List.length_range]
theorem uf (room w:List Nat) (j:Nat) (h:j < room.length):(left room w).getD j 0=room.getD j 0 - w.count j:=by
 unfold left
 rw [List.getD_eq_getElem?_getD,List.getElem?_map,List.getElem?_range h]
 rfl
theorem yI (room w:List Nat) (j:Nat) (h:j < room.length):left room (w++[j])=(left room w).set j ((left room w).getD j 0 - 1):=by
 apply List.ext_getElem?
 intro k
 by_cases hk:k < room.length
 ·have e1:(left room (w++[j]))[k]?=some (room.getD k 0 - (w++[j]).count k):=by
   unfold left
   rw [List.getElem?_map,List.getElem?_range hk]
   rfl
  rw [e1,List.getElem?_set,uf room w j h,jT]
  by_cases hjk:j=k
  ·subst hjk
   rw [if_pos rfl,if_pos h,List.count_append]
   simp
   omega
  ·rw [if_neg hjk]
   unfold left
   rw [List.getElem?_map,List.getElem?_range hk,List.count_append]
   simp [List.count_cons,hjk]
 ·rw [List.getElem?_eq_none (by rw [jT]; omega),List.getElem?_eq_none (by rw [List.length_set,jT]; omega)]
theorem xp (room w:List Nat):nk room w=(List.range (left room w).length).filter fun j=>decide (0 < (left room w).getD j 0):=by
 unfold nk
 rw [jT]
 apply List.filter_congr
 intro j hj
 rw [List.mem_range] at hj
 rw [uf room w j hj]
 by_cases h:w.count j < room.getD j 0
 ·simp [h]
  omega
 ·simp [h]
  omega
noncomputable def nl (room:List Nat):Nat->List (List Nat)->List (List Nat)
 | 0,ws=>ws
 | n + 1,ws=>nl room n (eX room ws)
theorem kh (room:List Nat):∀ n i,nl room n (cP room i)=cP room (i + n)
 | 0,i=>rfl
 | n + 1,i=>by
  rw [nl,show eX room (cP room i)=cP room (i + 1) from rfl,kh room n (i + 1)]
  congr 1
  omega
theorem ka (f:List Nat->Nat) (room:List Nat):∀ ws:List (List Nat),((eX room ws).map f).sum=(ws.map fun w=>((nk room w).map fun j=>f (w++[j])).sum).sum
 | []=>rfl
 | w :: r=>by
  have ih:=ka f room r
  unfold eX at ih ⊢
  rw [List.flatMap_cons,List.map_append,List.sum_append,ih,List.map_cons,List.sum_cons,List.map_map]
  rfl
theorem mC (room:List Nat):∀ (n:Nat) (ws:List (List Nat)),(nl room n ws).length=(ws.map fun w=>words n (left room w)).sum
 | 0,ws=>by
  rw [nl]
  induction ws with
  | nil=>rfl
  | cons w r ih=>rw [List.length_cons,ih,List.map_cons,List.sum_cons,words]; omega
 | n + 1,ws=>by
  rw [nl,mC room n,ka]
  congr 1
  apply List.map_congr_left
  intro w _
  rw [words,xp]
  congr 1
  apply List.map_congr_left
  intro j hj
  have hj':=List.mem_filter.mp hj
  rw [List.mem_range,jT] at hj'
  rw [yI room w j hj'.1]
noncomputable def ed (r:List Nat):Nat:=(r.map bb).foldr (· * ·) 1
theorem h9 (a:Nat) (r:List Nat):ed (a :: r)=bb a * ed r:=rfl
theorem rp:∀ r,0 < ed r
 | []=>by decide
 | a :: r=>Nat.mul_pos (jS a) (rp r)
theorem rq:∀ (r:List Nat) (j:Nat),j < r.length->0 < r.getD j 0->ed r=ed (r.set j (r.getD j 0 - 1)) * r.getD j 0
 | [],j,h,_=>absurd h (by simp)
 | a :: r,0,_,h=>by
  have h':0 < a:=h
  show ed (a :: r)=ed ((a - 1) :: r) * a
  rw [h9,h9]
  obtain ⟨b,rfl⟩:∃ b,a=b + 1:=⟨a - 1,by omega⟩
  rw [show b + 1 - 1=b by omega,bb]
  simp only [Nat.mul_assoc,Nat.mul_comm,Nat.mul_left_comm]
 | a :: r,j + 1,h,hp=>by
  have ih:=rq r j (by simpa using h) hp
  show ed (a :: r)=ed (a :: r.set j (r.getD j 0 - 1)) * r.getD j 0
  rw [h9,h9,ih]
  simp only [Nat.mul_assoc,Nat.mul_comm,Nat.mul_left_comm]
theorem wy:∀ (r:List Nat) (j:Nat),j < r.length->0 < r.getD j 0->(r.set j (r.getD j 0 - 1)).sum + 1=r.sum
 | [],j,h,_=>absurd h (by simp)
 | a :: r,0,_,h=>by
  have h':0 < a:=h
  show ((a - 1) :: r).sum + 1=(a :: r).sum
  rw [List.sum_cons,List.sum_cons]
  omega
 | a :: r,j + 1,h,hp=>by
  have ih:=wy r j (by simpa using h) hp
  show (a :: r.set j (r.getD j 0 - 1)).sum + 1=(a :: r).sum
  rw [List.sum_cons,List.sum_cons]
  omega
theorem qt (c:Nat) (f:Nat->Nat):∀ l:List Nat,(l.map f).sum * c=(l.map fun j=>f j * c).sum
 | []=>by simp
 | a :: r=>by rw [List.map_cons,List.sum_cons,Nat.add_mul,qt c f r,List.map_cons,List.sum_cons]
theorem ug (r:List Nat):(((List.range r.length).filter fun j=>decide (0 < r.getD j 0)).map fun j=>r.getD j 0).sum=r.sum:=by
 have go:∀ (l:List Nat) (g:Nat->Nat),((l.filter fun j=>decide (0 < g j)).map g).sum=(l.map g).sum:=by
  intro l g
  induction l with
  | nil=>rfl
  | cons a t ih=>
   rw [List.filter_cons]
   by_cases h:0 < g a
   ·rw [if_pos (by simpa using h),List.map_cons,List.sum_cons,ih,List.map_cons,List.sum_cons]
   ·rw [if_neg (by simpa using h),ih,List.map_cons,List.sum_cons]
    omega
 rw [go]
 congr 1
 apply List.ext_getElem?
 intro k
 rw [List.getElem?_map]
 by_cases hk:k < r.length
 ·rw [List.getElem?_range hk,List.getElem?_eq_getElem hk]
  show some (r.getD k 0)=some r[k]
  rw [List.getD_eq_getElem?_getD,List.getElem?_eq_getElem hk]
  rfl
 ·rw [List.getElem?_eq_none (by simpa using hk),List.getElem?_eq_none (by simpa using hk)]
  rfl
theorem lj:∀ (n:Nat) (r:List Nat),r.sum=n->words n r * ed r=bb n
 | 0,r,h=>by
  have:ed r=1:=by
   induction r with
   | nil=>rfl
   | cons a t ih=>
    rw [List.sum_cons] at h
    have ha:a=0:=by omega
    subst ha
    rw [h9,ih (by omega)]
    rfl
  rw [words,this]
  rfl
 | n + 1,r,h=>by
  rw [words,qt]
  have e:((List.range r.length).filter fun j=>decide (0 < r.getD j 0)).map (fun j=>words n (r.set j (r.getD j 0 - 1)) * ed r)=((List.range r.length).filter fun j=>decide (0 < r.getD j 0)).map (fun j=>r.getD j 0 * bb n):=by
   apply List.map_congr_left
   intro j hj
   have hj':=List.mem_filter.mp hj
   rw [List.mem_range] at hj'
   have hp:0 < r.getD j 0:=of_decide_eq_true hj'.2
   rw [rq r j hj'.1 hp,<-Nat.mul_assoc,lj n _ (by have:=wy r j hj'.1 hp; omega),Nat.mul_comm]
  rw [e,<-qt,ug,h,bb,Nat.mul_comm]
theorem Af (room:List Nat):left room []=room:=by
 apply List.ext_getElem?
 intro k
 unfold left
 rw [List.getElem?_map]
 by_cases hk:k < room.length
 ·rw [List.getElem?_range hk,List.getElem?_eq_getElem hk]
  show some (room.getD k 0 - ([]:List Nat).count k)=some room[k]
  rw [List.getD_eq_getElem?_getD,List.getElem?_eq_getElem hk]
  simp
 ·rw [List.getElem?_eq_none (by simpa using hk),List.getElem?_eq_none (by simpa using hk)]
  rfl
theorem yJ (room:List Nat):(cP room room.sum).length * ed room=bb room.sum:=by
 have e:=kh room room.sum 0
 rw [Nat.zero_add] at e
 rw [<-e,mC]
 show (List.map (fun w=>words room.sum (left room w)) [[]]).sum * ed room=bb room.sum
 rw [List.map_cons,List.map_nil,List.sum_cons,List.sum_nil,Af,Nat.add_zero]
 exact lj _ _ rfl
structure Bd (room:List Nat) (i:Nat) (w:List Nat):Prop where
 len:w.length=i
 all:∀ j∈w,j < room.length
 cnt:∀ j,j < room.length->w.count j<=room.getD j 0
theorem gx (room:List Nat):∀ i,∀ w∈cP room i,Bd room i w
 | 0,w,h=>by
  have:w=[]:=by simpa [cP] using h
  subst this
  exact ⟨rfl,fun _ h=>(nomatch h),fun j _=>by simp⟩
 | i + 1,w,h=>by
  rw [cP,eX,List.mem_flatMap] at h
  obtain ⟨v,hv,h⟩:=h
  obtain ⟨j,hj,rfl⟩:=List.mem_map.mp h
  have b:=gx room i v hv
  have hj':=List.mem_filter.mp hj
  rw [List.mem_range] at hj'
  have hc:v.count j < room.getD j 0:=of_decide_eq_true hj'.2
  refine ⟨by rw [List.length_append,b.len]; rfl,fun k hk=>?_,fun k hk=>?_⟩
  ·rcases List.mem_append.mp hk with hk | hk
   ·exact b.all k hk
   ·rw [List.mem_singleton] at hk
    omega
  ·rw [List.count_append]
   by_cases e:j=k
   ·subst e
    rw [List.count_singleton_self]
    omega
   ·have:=b.cnt k hk
    rw [List.count_singleton,if_neg (by simpa using e)]
    omega
theorem pp:∀ (n:Nat) (w:List Nat),(∀ j∈w,j < n)->((List.range n).map fun j=>w.count j).sum=w.length
 | n,[] , _=>by
  have:((List.range n).map fun j=>([]:List Nat).count j)=(List.range n).map fun _=>0:=by simp
  rw [this]
  have go:∀ m,((List.range m).map fun _=>0).sum=0:=by
   intro m
   induction m with
   | zero=>rfl
   | succ m ih=>rw [List.range_succ,List.map_append,List.sum_append,ih]; rfl
  exact go n
 | n,a :: w,h=>by
  have ih:=pp n w fun j hj=>h j (List.mem_cons_of_mem _ hj)
  have ha:a < n:=h a List.mem_cons_self
  rw [List.length_cons,<-ih]
  clear ih h
  have go:∀ m,((List.range m).map fun j=>(a :: w).count j).sum=((List.range m).map fun j=>w.count j).sum + (if a < m then 1 else 0):=by
   intro m
   induction m with
   | zero=>simp
   | succ m ih=>
    rw [List.range_succ,List.map_append,List.sum_append,List.map_append,List.sum_append,ih]
    simp only [List.map_cons,List.map_nil,List.sum_cons,List.sum_nil,List.count_cons]
    by_cases e:a=m
    ·subst e
     rw [if_neg (Nat.lt_irrefl a),if_pos (Nat.lt_succ_self a),if_pos (beq_self_eq_true a)]
     omega
    ·rw [if_neg (show ¬ (a == m)=true by simpa using e)]
     by_cases hl:a < m
     ·rw [if_pos hl,if_pos (show a < m + 1 by omega)]
      omega
     ·rw [if_neg hl,if_neg (show ¬ a < m + 1 by omega)]
      omega
  rw [go,if_pos ha]
theorem xq (room:List Nat):(List.range room.length).map (fun j=>room.getD j 0)=room:=by
 apply List.ext_getElem?
 intro k
 rw [List.getElem?_map]
 by_cases hk:k < room.length
 ·rw [List.getElem?_range hk,List.getElem?_eq_getElem hk]
  show some (room.getD k 0)=some room[k]
  rw [List.getD_eq_getElem?_getD,List.getElem?_eq_getElem hk]
  rfl
 ·rw [List.getElem?_eq_none (by simpa using hk),List.getElem?_eq_none (by simpa using hk)]
  rfl
end KM
end
section
namespace KM
theorem yK (n k:Nat):bt n k<=2 ^ n:=by
 induction n generalizing k with
 | zero=>cases k <;> simp [bt]
 | succ n ih=>
  cases k with
  | zero=>rw [kg]; exact Nat.one_le_two_pow
  | succ k=>
   rw [bt,Nat.pow_succ]
   have:=ih k
   have:=ih (k + 1)
   omega
theorem uh {n i:Nat} (h:i + 1<=n):((bt n i:Nat):Int) * ((n:Int) - (0 + (i:Int))) / (0 + (i:Int) + 1)=((bt n (i + 1):Nat):Int):=by
 have e1:(n:Int) - (0 + (i:Int))=((n - i:Nat):Int):=by omega
 have e2:(0 + (i:Int) + 1)=((i + 1:Nat):Int):=by omega
 rw [e1,e2,<-Int.natCast_mul,<-Int.natCast_ediv,vH n i h]
theorem vI (n:Nat) (ss:List Nat) (h:ss.sum<=n):fv n ss * ed (ss++[n - ss.sum])=bb n:=by
 have e:ed (ss++[n - ss.sum])=(ss.map bb).foldr (· * ·) 1 * bb (n - ss.sum):=by
  generalize n - ss.sum=k
  induction ss with
  | nil=>simp [ed]
  | cons a r ih=>
   have hr:r.sum<=n:=by rw [List.sum_cons] at h; omega
   show bb a * ed (r++[k])=bb a * (r.map bb).foldr (· * ·) 1 * bb k
   rw [ih hr,Nat.mul_assoc]
 rw [e]
 exact pj ss n h
theorem kj {n:Nat} {ss:List Nat} (h:ss.sum<=n):(cP (ss++[n - ss.sum]) n).length=fv n ss:=by
 have e1:=vI n ss h
 have hs:(ss++[n - ss.sum]).sum=n:=by
  rw [List.sum_append,List.sum_cons,List.sum_nil]
  omega
 have e2:=yJ (ss++[n - ss.sum])
 rw [hs] at e2
 exact Nat.eq_of_mul_eq_mul_right (rp _) (e2.trans e1.symm)
theorem words_pos (n:Nat) (r:List Nat) (h:r.sum=n):0 < words n r:=by
 have e:=lj n r h
 have f:=jS n
 rcases Nat.eq_zero_or_pos (words n r) with z | z
 ·rw [z,Nat.zero_mul] at e
  omega
 ·exact z
theorem Ag {room w:List Nat} {i:Nat} (h:Bd room i w):(left room w).sum + i=room.sum:=by
 have go:∀ m,m<=room.length->((List.range m).map fun j=>room.getD j 0 - w.count j).sum + ((List.range m).map fun j=>w.count j).sum=((List.range m).map fun j=>room.getD j 0).sum:=by
  intro m
  induction m with
  | zero=>intro _; rfl
  | succ m ih=>
   intro hm
   have:=ih (by omega)
   have:=h.cnt m (by omega)
   simp only [List.range_succ,List.map_append,List.sum_append,List.map_cons,List.map_nil,List.sum_cons,List.sum_nil] at *
   omega
 have e:=go room.length (Nat.le_refl _)
 rw [pp room.length w h.all,xq,h.len] at e
 exact e
theorem Ah {room:List Nat} {i:Nat} (h:i<=room.sum):(cP room i).length<=(cP room room.sum).length:=by
 have e:=kh room (room.sum - i) i
 rw [show i + (room.sum - i)=room.sum by omega] at e
 rw [<-e,mC]
 have hb:=gx room i
 generalize cP room i=ws at hb
 induction ws with
 | nil=>exact Nat.zero_le _
 | cons w r ih=>
  rw [List.map_cons,List.sum_cons,List.length_cons]
  have:=ih fun v hv=>hb v (List.mem_cons_of_mem _ hv)
  have:=words_pos (room.sum - i) (left room w) (by have:=Ag (hb w List.mem_cons_self); omega)
  omega
noncomputable def fj (room w:List Nat) (k:Nat):List Nat:=(List.range k).filter fun j=>decide (w.count j < room.getD j 0)
theorem nQ (room w:List Nat):fj room w room.length=nk room w:=rfl
theorem ui (room w:List Nat) (k:Nat):fj room w (k + 1)=fj room w k++(if w.count k < room.getD k 0 then [k] else []):=by
 unfold fj
 rw [List.range_succ,List.filter_append]
 by_cases h:w.count k < room.getD k 0
 ·rw [if_pos h,List.filter_cons_of_pos (by simpa using h)]
  rfl
 ·rw [if_neg h,List.filter_cons_of_neg (by simpa using h)]
  rfl
theorem yL (room:List Nat) (ws:List (List Nat)) (i:Nat) (w:List Nat) (h:ws[i]?=some w):eX room (ws.take (i + 1))=eX room (ws.take i)++(nk room w).map fun j=>w++[j]:=by
 unfold eX
 rw [List.take_add_one,h,List.flatMap_append]
 simp
theorem uj (room:List Nat) (ws:List (List Nat)) (i:Nat):(eX room (ws.take i)).length<=(eX room ws).length:=by
 have:eX room ws=eX room (ws.take i)++eX room (ws.drop i):=by
  unfold eX
  rw [<-List.flatMap_append,List.take_append_drop]
 rw [this,List.length_append]
 omega
end KM
end
section
namespace L2
open PySem PyProof.Rows
noncomputable def yM:V->Bool
 | .int _=>true
 | _=>false
noncomputable def ba:V->Int->Int->Bool
 | .int i,lo,hi=>decide (lo<=i) && decide (i<=hi)
 | _,_,_=>false
noncomputable def fw (K:PySem.W.Frag) (H:Hp) (x:V):Prop:=∃ t b1 b2,fg K H x t/\PySem.W.kitOne K t (.type "int")=some b1/\PySem.W.kitOne K t (.type "bool")=some b2/\(b1 && !b2)=yM x
theorem fw.int {K:PySem.W.Frag} {H:Hp} (i:Int):fw K H (.int i):=⟨_,_,_,.int i,vz K,tL K,rfl⟩
theorem yN {K:PySem.W.Frag} {H H':Hp} {x:V} {t:Value} (h:fg K H x t) (s:al H H'):fg K H' x t:=by
 cases h with
 | non=>exact .non
 | bl b=>exact .bl b
 | int i=>exact .int i
 | str x=>exact .str x
 | flt x=>exact .flt x
 | lst e=>exact .lst (s _ _ e)
 | frz e=>exact .frz (s _ _ e)
 | tup e=>exact .tup (s _ _ e)
 | dK e=>exact .dK (s _ _ e)
 | dT e=>exact .dT (s _ _ e)
 | ins e cl ha hn htk hm=>exact .ins (s _ _ e) cl ha hn htk hm
theorem fw.same {K:PySem.W.Frag} {H H':Hp} {x:V} (h:fw K H x) (s:al H H'):fw K H' x:=by
 obtain ⟨t,b1,b2,ty,r⟩:=h
 exact ⟨t,b1,b2,yN ty s,r⟩
noncomputable def BK (K:PySem.W.Frag):Sp:=fun vs H Q _=>∃ x,vs=[x]/\fw K H x/\Q (.bl (yM x)) H
noncomputable abbrev dr (K:PySem.W.Frag):Sp:=BK K
noncomputable def pz (K:PySem.W.Frag):TS:=(aL (kY (tCB (lf K) (ab (ac 0) (ab (tC (.ty "int")) ai))) (sw (tCB (lf K) (ab (ac 0) (ab (tC (.ty "bool")) ai))))))
theorem uk {K:PySem.W.Frag} {vs:List V} {H:Hp} {Q:VK} {E:XK} (h:dr K vs H Q E):vs.length=1:=by
 obtain ⟨x,rfl,_⟩:=h
 rfl
theorem vJ {K:PySem.W.Frag} {vs:List V} {H:Hp} {Q:VK} {E:XK} (h:dr K vs H Q E):pz K { nx:=fun _ H'=>Q .non H',rt:=Q } (aN ["thing"] vs) H:=by
 obtain ⟨x,rfl,⟨t,b1,b2,ty,k1,k2,e⟩,q⟩:=h
 refine ⟨_,rfl,_,_,_,_,rfl,ty,k1,_,rfl,hJ (fun c=>?_) (fun c=>?_)⟩
 ·subst c
  refine ⟨_,rfl,_,_,_,_,rfl,ty,k2,_,rfl,?_⟩
  rw [<-e,Bool.true_and] at q
  exact q
 ·subst c
  rw [<-e,Bool.false_and] at q
  exact q
noncomputable def Ai (K:PySem.W.Frag):Sp:=fun vs H Q _=>∃ x lo hi,vs=[x,.int lo,.int hi]/\fw K H x/\Q (.bl (ba x lo hi)) H
noncomputable abbrev bJ (K:PySem.W.Frag):Sp:=Ai K
noncomputable def nR (K:PySem.W.Frag):TS:=(aL (kY (az (dr K) [] E0 (ab (ac 0) ai)) (tu (rI0 fun i j=>.bl (decide (i<=j))) (rI0 fun i j=>.bl (decide (i<=j))) (ac 1) (ac 0) (ac 2))))
theorem rL {K:PySem.W.Frag} {vs:List V} {H:Hp} {Q:VK} {E:XK} (h:bJ K vs H Q E):vs.length=3:=by
 obtain ⟨x,lo,hi,rfl,_⟩:=h
 rfl
theorem ul {K:PySem.W.Frag} {vs:List V} {H:Hp} {Q:VK} {E:XK} (h:bJ K vs H Q E):nR K { nx:=fun _ H'=>Q .non H',rt:=Q } (aN ["thing","least","most"] vs) H:=by
 obtain ⟨x,lo,hi,rfl,pl,q⟩:=h
 refine ⟨_,rfl,x,rfl,pl,_,rfl,hJ (fun c=>?_) (fun c=>?_)⟩
 ·cases x with
  | int i=>
   refine ⟨_,rfl,_,rfl,_,_,rfl,rfl,_,rfl,hJ (fun d=>?_) (fun d=>?_)⟩
   ·refine ⟨_,rfl,_,_,rfl,rfl,?_⟩
    have q':Q (.bl (decide (lo<=i) && decide (i<=hi))) H:=q
    rw [d,Bool.true_and] at q'
    exact q'
   ·have q':Q (.bl (decide (lo<=i) && decide (i<=hi))) H:=q
    rw [d,Bool.false_and] at q'
    exact q'
  | _=>cases c
 ·cases x with
  | int i=>cases c
  | _=>exact q
noncomputable def kl (zs:List V):Int:=(zs.map fun z=>match z with | .int i=>i | _=>0).sum
noncomputable def Be (x:V) (zs:List V):Bool:=match x with
 | .int c=>(decide (0<=c) && decide (c<=12)) && (decide (1<=zs.length) && decide (zs.length<=5)) && zs.all (fun z=>ba z 0 c) && decide (kl zs<=c)
 | _=>false
theorem qu {zs:List V} {lo hi:Int} (h:zs.all (fun z=>ba z lo hi)=true):∃ ns:List Int,zs=ns.map V.int/\kl zs=ns.sum:=by
 induction zs with
 | nil=>exact ⟨[],rfl,rfl⟩
 | cons z r ih=>
  rw [List.all_cons,Bool.and_eq_true] at h
  obtain ⟨ns,e,es⟩:=ih h.2
  cases z with
  | int i=>
   refine ⟨i :: ns,by rw [e]; rfl,?_⟩
   show i + kl r=(i :: ns).sum
   rw [es,List.sum_cons]
  | _=>exact absurd h.1 Bool.false_ne_true
noncomputable def Bf (K:PySem.W.Frag) (H:Hp) (y:V) (zs:Option (List V)):Prop:=match zs with
 | some zs=>∃ a,y=.ref a/\(H a=some (.lst zs)\/∃ o,H a=some (.frz o (.lst zs)))/\zs.length<=1000/\∀ z∈zs,fw K H z
 | none=>∃ t,fg K H y t/\PySem.W.kitOne K t (.type "list")=some false
noncomputable def pA (x:V):Option (List V)->Bool
 | some zs=>Be x zs
 | none=>false
noncomputable def Dc (K:PySem.W.Frag):Sp:=fun vs H Q _=>∃ x y zs,vs=[x,y]/\fw K H x/\Bf K H y zs/\∀ H',al H H'->Q (.bl (pA x zs)) H'
noncomputable abbrev gb (K:PySem.W.Frag):Sp:=Dc K
noncomputable def rA (K:PySem.W.Frag):TS:=(aq (bw (fe (tB (az (bJ K) [] E0 (ab (ac 0) (ab (tC (.int 0)) (ab (tC (.int 12)) ai)))))) (aL (tC (.bl false))) aX)
 (aq (bw (tOr (fe (tB (tCB (lf K) (ab (ac 1) (ab (tC (.ty "list")) ai))))) (fe (tB (az (bJ K) [] E0 (ab (tCB (fO K) (ab (ac 1) ai)) (ab (tC (.int 1)) (ab (tC (.int 5)) ai))))))) (aL (tC (.bl false))) aX)
 (aL (kY (tCB (zY K) (ab (bT (eB K (ac 1)) (fun _ _ _ _=>(am 0)) (fun _ _ _ _=>b8) (fun _ _ _ _=>(az (bJ K) [] E0 (ab (ac 0) (ab (tC (.int 0)) (ab (ac 1) ai))))) [none,some 0]) ai)) (tOp (rI0 fun i j=>.bl (decide (i<=j))) (tCB (xg K) (ab (ac 1) ai)) (ac 0))))))
theorem vK {K:PySem.W.Frag} {vs:List V} {H:Hp} {Q:VK} {E:XK} (h:gb K vs H Q E):vs.length=2:=by
 obtain ⟨x,y,zs,rfl,_⟩:=h
 rfl
theorem xr {K:PySem.W.Frag} {vs:List V} {H:Hp} {Q:VK} {E:XK} (h:gb K vs H Q E):rA K { nx:=fun _ H'=>Q .non H',rt:=Q } (aN ["cards","sizes"] vs) H:=by
 obtain ⟨x,y,zs,rfl,px,hz,q⟩:=h
 refine ⟨_,rfl,x,0,12,rfl,px,_,rfl,hJ (fun c=>?_) (fun c=>?_)⟩
 ·
  have e:pA x zs=false:=by
   have c':ba x 0 12=false:=by simpa using c
   cases zs with
   | none=>rfl
   | some zs=>
    cases x with
    | int i=>
     show ((decide (0<=i) && decide (i<=12)) && (decide (1<=zs.length) && decide (zs.length<=5)) && zs.all (fun z=>ba z 0 i) && decide (kl zs<=i))=false
     rw [show (decide (0<=i) && decide (i<=12))=false from c']
     rfl
    | _=>rfl
  have:=q H (al.refl H)
  rw [e] at this
  exact this
 ·have c':ba x 0 12=true:=by simpa using c
  cases x with
  | int i=>
   cases zs with
   | none=>
    obtain ⟨t,ty,k⟩:=hz
    refine ⟨_,rfl,_,_,_,_,rfl,ty,k,_,rfl,mn (mn ?_)⟩
    exact q H (al.refl H)
   | some zs=>
    obtain ⟨a,rfl,ha,hlen,hp⟩:=hz
    have hS:SqL K H a zs:=ha.elim (fun h=>.inl (.inl h)) (fun h=>.inl (.inr h))
    have ty:fg K H (.ref a) (.type "list"):=ha.elim (fun h=>.lst h) (fun ⟨o,h⟩=>.frz h)
    refine ⟨_,rfl,_,_,_,_,rfl,ty,vA K,_,rfl,mm ?_⟩
    refine ⟨_,rfl,a,_,rfl,.inl hS,_,1,5,rfl,fw.int _,_,rfl,hJ (fun d=>?_) (fun d=>?_)⟩
    ·have e:pA (.int i) (some zs)=false:=by
      have d0:ba (.int (zs.length:Int)) 1 5=false:=by simpa using d
      have d':(decide ((1:Int)<=(zs.length:Int)) && decide ((zs.length:Int)<=5))=false:=d0
      show ((decide (0<=i) && decide (i<=12)) && (decide (1<=zs.length) && decide (zs.length<=5)) && zs.all (fun z=>ba z 0 i) && decide (kl zs<=i))=false
      have e1:decide (1<=zs.length)=decide ((1:Int)<=(zs.length:Int)):=decide_eq_decide.mpr (by omega)
      have e2:decide (zs.length<=5)=decide ((zs.length:Int)<=5):=decide_eq_decide.mpr (by omega)
      rw [e1,e2,d',Bool.and_false]
      rfl
     have:=q H (al.refl H)
     rw [e] at this
     exact this
    ·have d0:ba (.int (zs.length:Int)) 1 5=true:=by simpa using d
     have d':(decide ((1:Int)<=(zs.length:Int)) && decide ((zs.length:Int)<=5))=true:=d0
     have e0:pA (.int i) (some zs)=(zs.all (fun z=>ba z 0 i) && decide (kl zs<=i)):=by
      show ((decide (0<=i) && decide (i<=12)) && (decide (1<=zs.length) && decide (zs.length<=5)) && zs.all (fun z=>ba z 0 i) && decide (kl zs<=i))=_
      have e1:decide (1<=zs.length)=decide ((1:Int)<=(zs.length:Int)):=decide_eq_decide.mpr (by omega)
      have e2:decide (zs.length<=5)=decide ((zs.length:Int)<=5):=decide_eq_decide.mpr (by omega)
      rw [e1,e2,d',show (decide (0<=i) && decide (i<=12))=true from c',Bool.true_and,Bool.true_and]
     rw [e0] at q
     refine ⟨_,rfl,a,rfl,⟨_,hS⟩,fun p hp'=>rh (K:=K) (a:=a) (xs:=zs) (fun k acc H2=>acc=((zs.take k).map fun z=>ba z 0 i).map V.bl/\al H H2/\H2 p=some (.lst acc)) ⟨rfl,aR hp' _,ap⟩ ?_ ?_ (sU hlen) ?_ ?_⟩
     ·rintro k acc H2 hk ⟨rfl,s2,e2⟩
      exact ⟨e2,by rw [List.length_map,List.length_map,List.length_take]; omega⟩
     ·rintro k acc H2 hk ⟨rfl,s2,e2⟩
      exact s2.seq hS
     ·rintro _ _ _ _ k z acc H2 hzk ⟨rfl,s2,e2⟩
      refine ⟨_,rfl,_,rfl,z,0,i,rfl,(hp z (List.mem_of_getElem? hzk)).same s2,e2,?_,s2.upd hp' _,ap⟩
      rw [List.take_add_one,hzk,List.map_append,List.map_append]
      rfl
     ·rintro acc H2 ⟨rfl,s2,e2⟩
      rw [List.take_length] at e2
      refine ⟨p,_,rfl,SqL.of e2,_,rfl,?_⟩
      have ea:(zs.map fun z=>ba z 0 i).all id=zs.all fun z=>ba z 0 i:=by
       rw [List.all_map]
       rfl
      rw [ea]
      refine hJ (fun g=>?_) (fun g=>?_)
      ·obtain ⟨ns,en,es⟩:=qu g
       rw [g,Bool.true_and,es] at q
       refine ⟨_,rfl,a,ns,rfl,by rw [<-en]; exact s2.seq hS,_,rfl,_,_,rfl,rfl,?_⟩
       exact q H2 s2
      ·rw [g,Bool.false_and] at q
       exact q H2 s2
  | _=>exact absurd c' Bool.false_ne_true
noncomputable def yO:Sp:=fun vs H Q _=>∃ n k:Nat,vs=[.int n,.int k]/\k<=n/\n<=50/\Q (.int (KM.bt n k:Nat)) H
noncomputable abbrev gc (K:PySem.W.Frag):Sp:=yO
noncomputable def rB (K:PySem.W.Frag):TS:=(aq (aU (tC (.int 1)) (am 2))
 (aq (gH (fP (ab (ac 1) ai)) (am 3) (aU (tOp (rI me fun i j=>.int (i / j)) (tOp (rI IntMulOk fun i j=>.int (i * j)) (ac 2) (tOp (rI0 fun i j=>.int (i - j)) (ac 0) (ac 3))) (tOp (rI0 fun i j=>.int (i + j)) (ac 3) (tC (.int 1)))) (am 2)))
 (aL (ac 2))))
theorem vL {K:PySem.W.Frag} {vs:List V} {H:Hp} {Q:VK} {E:XK} (h:gc K vs H Q E):vs.length=2:=by
 obtain ⟨n,k,rfl,_⟩:=h
 rfl
theorem xt {K:PySem.W.Frag} {vs:List V} {H:Hp} {Q:VK} {E:XK} (h:gc K vs H Q E):rB K { nx:=fun _ H'=>Q .non H',rt:=Q } (aN ["many","taken","ways","step"] vs) H:=by
 obtain ⟨n,k,rfl,hk,hn,q⟩:=h
 refine ⟨_,rfl,_,rfl,by omega,by omega,md (lo:=0) (n:=((k:Nat):Int).toNat) (fun i σ H2=>∃ st,σ=[some (.int n),some (.int k),some (.int (KM.bt n i:Nat)),st]/\H2=H) ⟨none,by rw [KM.kg]; rfl,rfl⟩ ?_ ?_⟩
 ·rintro i σ H2 hi ⟨st,rfl,rfl⟩
  have hi':i + 1<=n:=by omega
  refine ⟨_,rfl,_,rfl,_,rfl,_,_,rfl,rfl,_,_,rfl,rfl,.of_right (intBits_le_64 (by omega) (by omega)),_,rfl,_,_,rfl,rfl,_,_,rfl,rfl,⟨by omega,by omega⟩,?_⟩
  dsimp only
  rw [KM.uh hi']
  exact ⟨_,rfl,rfl⟩
 ·rintro σ H2 ⟨st,rfl,rfl⟩
  refine ⟨_,rfl,?_⟩
  rw [show ((k:Nat):Int).toNat=k by omega]
  exact q
structure um (c:Nat) (ss:List Nat):Prop where
 c12:c<=12
 l1:1<=ss.length
 l5:ss.length<=5
 sum:ss.sum<=c
noncomputable def aw (ss:List Nat):List V:=ss.map fun (s:Nat)=>V.int ((s:Nat):Int)
theorem gO (ss:List Nat):aw ss=(ss.map fun (s:Nat)=>((s:Nat):Int)).map V.int:=by unfold aw; rw [List.map_map]; rfl
theorem cF (ss:List Nat):(aw ss).length=ss.length:=List.length_map _
theorem jU:∀ ss:List Nat,(ss.map fun (s:Nat)=>((s:Nat):Int)).sum=((ss.sum:Nat):Int)
 | []=>rfl
 | a :: r=>by rw [List.map_cons,List.sum_cons,List.sum_cons,jU r]; omega
theorem pB:∀ {ss:List Nat} {s:Nat},s∈ss->s<=ss.sum
 | a :: r,s,h=>by
  rw [List.sum_cons]
  rcases List.mem_cons.mp h with rfl | h
  ·omega
  ·have:=pB h
   omega
theorem Aj {c:Nat} {ss:List Nat} (p:um c ss):Be (.int c) (aw ss)=true:=by
 have h1:=p.c12
 have h2:=p.l1
 have h3:=p.l5
 have h4:=p.sum
 show ((decide ((0:Int)<=(c:Int)) && decide ((c:Int)<=12)) && (decide (1<=(aw ss).length) && decide ((aw ss).length<=5)) && (aw ss).all (fun z=>ba z 0 c) && decide (kl (aw ss)<=c))=true
 have e1:(aw ss).all (fun z=>ba z 0 c)=true:=by
  unfold aw
  rw [List.all_map,List.all_eq_true]
  intro s hs
  have:=pB hs
  show (decide ((0:Int)<=(s:Int)) && decide ((s:Int)<=(c:Int)))=true
  rw [decide_eq_true (by omega),decide_eq_true (by omega)]
  rfl
 have e2:kl (aw ss)=((ss.sum:Nat):Int):=by
  rw [<-jU]
  unfold kl aw
  rw [List.map_map]
  rfl
 rw [e1,e2,cF,decide_eq_true (by omega),decide_eq_true (by omega),decide_eq_true h2,decide_eq_true h3,decide_eq_true (by omega)]
 rfl
theorem Ak {K:PySem.W.Frag} {H:Hp} {a:Addr} {ss:List Nat} (h:H a=some (.lst (aw ss))) (hl:ss.length<=1000):Bf K H (.ref a) (some (aw ss)):=
 ⟨a,rfl,.inl h,by rw [cF]; exact hl,fun z hz=>by
  obtain ⟨s,_,rfl⟩:=List.mem_map.mp hz
  exact fw.int _⟩
noncomputable def En (K:PySem.W.Frag):Sp:=fun vs H Q _=>∃ (c:Nat) (a:Addr) (ss:List Nat),vs=[.int c,.ref a]/\H a=some (.lst (aw ss))/\um c ss/\∀ H',al H H'->Q (.int (KM.fv c ss:Nat)) H'
noncomputable abbrev fI (K:PySem.W.Frag):Sp:=En K
noncomputable def pE (K:PySem.W.Frag):TS:=(aq (bw (fe (tB (az (gb K) [] E0 (ab (ac 0) (ab (ac 1) ai))))) oN aX)
 (aq (aU (tC (.int 1)) (am 2))
 (aq (aU (ac 0) (am 3))
 (aq (gH (eB K (ac 1)) (am 4) (aq (aU (tOp (rI IntMulOk fun i j=>.int (i * j)) (ac 2) (az (gc K) [] E0 (ab (ac 3) (ab (ac 4) ai)))) (am 2))
 (aU (tOp (rI0 fun i j=>.int (i - j)) (ac 3) (ac 4)) (am 3))))
 (aL (ac 2))))))
theorem uo {K:PySem.W.Frag} {vs:List V} {H:Hp} {Q:VK} {E:XK} (h:fI K vs H Q E):vs.length=2:=by
 obtain ⟨c,a,ss,rfl,_⟩:=h
 rfl
theorem vM {K:PySem.W.Frag} {vs:List V} {H:Hp} {Q:VK} {E:XK} (h:fI K vs H Q E):pE K { nx:=fun _ H'=>Q .non H',rt:=Q } (aN ["cards","sizes","many","left","size"] vs) H:=by
 obtain ⟨c,a,ss,rfl,ha,p,q⟩:=h
 have h12:=p.c12
 have h5:=p.l5
 refine ⟨_,rfl,_,rfl,_,_,some (aw ss),rfl,fw.int _,Ak ha (by omega),fun H1 s1=>⟨_,rfl,?_⟩⟩
 rw [show pA (.int c) (some (aw ss))=true from Aj p]
 refine mm ?_
 refine ⟨_,rfl,?_⟩
 refine ⟨_,rfl,a,rfl,⟨_,SqL.of (s1 _ _ ha)⟩,ol (K:=K) (a:=a) (xs:=aw ss) (fun i σ H2=>∃ (m l:Nat) (st:Option V),σ=[some (.int c),some (.ref a),some (.int m),some (.int l),st]/\H2=H1/\m * KM.fv l (ss.drop i)=KM.fv c ss/\(ss.drop i).sum<=l/\l<=12)
  ⟨1,c,none,rfl,rfl,by rw [Nat.one_mul]; rfl,p.sum,h12⟩ (fun i σ H2 _ ⟨_,_,_,_,e,_⟩=>by subst e; exact SqL.of (s1 _ _ ha)) ?_ ?_⟩
 ·rintro i x σ H2 hx ⟨m,l,st,rfl,rfl,hm,hs,hl⟩
  obtain ⟨z,hz,rfl⟩:∃ z:Nat,ss[i]?=some z/\x=.int (z:Int):=by
   unfold aw at hx
   rw [List.getElem?_map] at hx
   cases e:ss[i]? with
   | none=>rw [e] at hx; cases hx
   | some z=>rw [e] at hx; exact ⟨z,rfl,(Option.some.inj hx).symm⟩
  have hd:ss.drop i=z :: ss.drop (i + 1):=by
   obtain ⟨h1,h2⟩:=List.getElem?_eq_some_iff.mp hz
   rw [List.drop_eq_getElem_cons h1,h2]
  rw [hd,List.sum_cons] at hs
  rw [hd,KM.fv] at hm
  have hle:=KM.yK l z
  have h2:(2:Nat) ^ l<=2 ^ 12:=Nat.pow_le_pow_right (by decide) hl
  refine ⟨_,rfl,_,rfl,_,rfl,l,z,rfl,by omega,by omega,_,_,rfl,rfl,.of_right (intBits_le_64 (by omega) (by omega)),?_⟩
  refine ⟨_,rfl,_,rfl,_,_,rfl,rfl,m * KM.bt l z,l - z,some (.int (z:Int)),?_,rfl,by rw [Nat.mul_assoc]; exact hm,by omega,by omega⟩
  have e1:((m:Nat):Int) * ((KM.bt l z:Nat):Int)=((m * KM.bt l z:Nat):Int):=(Int.natCast_mul _ _).symm
  have e2:((l:Nat):Int) - ((z:Nat):Int)=((l - z:Nat):Int):=by omega
  dsimp only
  rw [e1,e2]
  rfl
 ·rintro σ H2 ⟨m,l,st,rfl,rfl,hm,hs,hl⟩
  refine ⟨_,rfl,?_⟩
  rw [cF,List.drop_length,KM.fv,Nat.mul_one] at hm
  rw [hm]
  exact q _ s1
noncomputable def bx (H:Hp) (p:Addr) (ws:List (List Nat)):Prop:=∃ rs:List Addr,H p=some (.lst (rs.map V.ref))/\Paired (fun (a:Addr) (w:List Nat)=>H a=some (.tup (aw w))) rs ws
theorem iX {H H':Hp} {rs:List Addr} {ws:List (List Nat)} (h:Paired (fun (a:Addr) (w:List Nat)=>H a=some (.tup (aw w))) rs ws) (s:∀ a xs,H a=some (.tup xs)->H' a=some (.tup xs)):Paired (fun (a:Addr) (w:List Nat)=>H' a=some (.tup (aw w))) rs ws:=
 Paired.mapP h fun a w e=>s _ _ e
theorem lm {α β:Type} {F:α->β->Prop}:∀ {l:List α} {m:List β} {i:Nat} {a:α},Paired F l m->l[i]?=some a->∃ b,m[i]?=some b/\F a b
 | _,_,_,_,.nil,h=>by simp at h
 | _,_,0,_,.cons r _,h=>by simp at h; subst h; exact ⟨_,rfl,r⟩
 | _,_,i + 1,a,.cons _ t,h=>by
  obtain ⟨b,h1,h2⟩:=lm (i:=i) (a:=a) t (by simpa using h)
  exact ⟨b,by simpa using h1,h2⟩
theorem jv {α β:Type} {F:α->β->Prop}:∀ {l:List α} {m:List β} {l':List α} {m':List β},Paired F l m->Paired F l' m'->Paired F (l++l') (m++m')
 | _,_,_,_,.nil,h=>h
 | _,_,_,_,.cons r t,h=>.cons r (jv t h)
theorem xu (w:List Nat) (j:Nat):(aw w).countP (fun z=>eqV z (.int (j:Int)))=w.count j:=by
 unfold aw
 rw [List.countP_map,List.count_eq_countP]
 congr 1
 funext k
 show ((k:Int) == (j:Int))=(k == j)
 by_cases h:k=j
 ·subst h; simp
 ·rw [beq_eq_false_iff_ne.mpr h,beq_eq_false_iff_ne.mpr (by omega)]
theorem yP (w:List Nat):(aw w).all dq=true:=by unfold aw; rw [List.all_map]; simp [dq]
noncomputable def Dd (K:PySem.W.Frag):Sp:=fun vs H Q _=>∃ (b r:Addr) (ws:List (List Nat)) (room:List Nat),vs=[.ref b,.ref r]/\bx H b ws/\H r=some (.lst (aw room))/\room.length<=6/\(KM.eX room ws).length<=2000/\(∀ w∈ws,w.length<=12)/\
 ∀ (p:Addr) (H':Hp),al H H'->H p=none->bx H' p (KM.eX room ws)->Q (.ref p) H'
noncomputable abbrev di (K:PySem.W.Frag):Sp:=Dd K
noncomputable def kb (K:PySem.W.Frag):TS:=(aq (aU (tz ai) (am 2))
 (aq (gH (eB K (ac 0)) (am 3) (gH (ni eW K (ab (ac 1) ai)) (g0 K 2 (b7 (am 4) (b7 (am 5) gZ))) (bw (aY (tOp (rI0 fun i j=>.bl (decide (i < j))) (tBT wq (ac 3) (ab (ac 4) ai)) (ac 5))) (kZ (tBM K "list" kD (ac 2) (ab (tOp (A3 K) (ac 3) (wZ (ab (ac 4) ai))) ai))) aX)))
 (aL (ac 2))))
theorem nE {K:PySem.W.Frag} {vs:List V} {H:Hp} {Q:VK} {E:XK} (h:di K vs H Q E):vs.length=2:=by
 obtain ⟨b,r,ws,room,rfl,_⟩:=h
 rfl
theorem ou {K:PySem.W.Frag} {vs:List V} {H:Hp} {Q:VK} {E:XK} (h:di K vs H Q E):kb K { nx:=fun _ H'=>Q .non H',rt:=Q } (aN ["begun","room","longer","deal","who","most"] vs) H:=by
 obtain ⟨b,r,ws,room,rfl,⟨rs,hb,hp⟩,hrm,h6,h2000,h12,q⟩:=h
 refine ⟨(by show 0<=sizeLine; decide),fun l hl=>?_⟩
 have sl:al H (upd H l (.lst [])):=aR hl _
 have hrl:ws.length=rs.length:=hp.length.symm
 refine ⟨_,rfl,b,rfl,⟨_,SqL.of (sl _ _ hb)⟩,ol (K:=K) (a:=b) (xs:=rs.map V.ref)
  (fun i σ H2=>∃ d wh mo:Option V,σ=[some (.ref b),some (.ref r),some (.ref l),d,wh,mo]/\al H H2/\bx H2 l (KM.eX room (ws.take i)))
  ⟨none,none,none,rfl,sl,[],by rw [ap]; rfl,.nil⟩ (fun i σ H2 _ ⟨_,_,_,_,s2,_⟩=>SqL.of (s2 _ _ hb)) ?_ ?_⟩
 ·rintro i x σ H2 hx ⟨d,wh,mo,rfl,s2,D2⟩
  obtain ⟨a,ea,rfl⟩:∃ a,rs[i]?=some a/\x=.ref a:=by
   rw [List.getElem?_map] at hx
   cases e:rs[i]? with
   | none=>rw [e] at hx; cases hx
   | some a=>rw [e] at hx; exact ⟨a,rfl,(Option.some.inj hx).symm⟩
  obtain ⟨u,hu,ha⟩:=lm hp ea
  have hu12:=h12 u (List.mem_of_getElem? hu)
  have gt:=KM.yL room ws i u hu
  have gle:=KM.uj room ws (i + 1)
  refine ⟨_,rfl,r,_,rfl,SqL.of (s2 _ _ hrm),tM (S:=eW) (K:=K) (a:=r) (xs:=aw room)
   (fun j σ H3=>∃ wh mo:Option V,σ=[some (.ref b),some (.ref r),some (.ref l),some (.ref a),wh,mo]/\al H H3/\bx H3 l (KM.eX room (ws.take i)++(KM.fj room u j).map fun k=>u++[k]))
   ⟨wh,mo,rfl,s2,by simpa [KM.fj] using D2⟩ (fun j σ H3 _ ⟨_,_,_,s3,_⟩=>SqL.of (s3 _ _ hrm)) ?_ ?_⟩
  ·rintro j x T σ H3 hxj ⟨wh',mo',rfl,s3,qs,hq,pq⟩ hT
   obtain ⟨m,hm,rfl⟩:∃ m:Nat,room[j]?=some m/\x=.int (m:Int):=by
    unfold aw at hxj
    rw [List.getElem?_map] at hxj
    cases e:room[j]? with
    | none=>rw [e] at hxj; cases hxj
    | some z=>rw [e] at hxj; exact ⟨z,rfl,(Option.some.inj hxj).symm⟩
   have hmD:room.getD j 0=m:=by rw [List.getD_eq_getElem?_getD,hm]; rfl
   have hjl:j < room.length:=(List.getElem?_eq_some_iff.mp hm).1
   have nT:H T=none:=s3.free hT
   have s4:al H (upd H3 T (.tup [.int (j:Int),.int (m:Int)])):=s3.upd nT _
   have a4:(upd H3 T (.tup [.int (j:Int),.int (m:Int)])) a=some (.tup (aw u)):=s4 _ _ ha
   have nlT:l≠T:=aH hq hT
   have q4:(upd H3 T (.tup [.int (j:Int),.int (m:Int)])) l=some (.lst (qs.map V.ref)):=by rw [aB nlT]; exact hq
   have p4:Paired (fun (a:Addr) (w:List Nat)=>(upd H3 T (.tup [.int (j:Int),.int (m:Int)])) a=some (.tup (aw w))) qs (KM.eX room (ws.take i)++(KM.fj room u j).map fun k=>u++[k]):=
    iX pq fun a xs e=>by rw [aB (aH e hT)]; exact e
   have hqlen:qs.length<=2000:=by
    have e1:=pq.length
    rw [List.length_append,List.length_map] at e1
    rw [gt,List.length_append,List.length_map,<-KM.nQ] at gle
    have e3:(KM.fj room u j).length<=(KM.fj room u room.length).length:=by
     unfold KM.fj
     have:(List.range j).Sublist (List.range room.length):=List.range_sublist.mpr (by omega)
     exact (this.filter _).length_le
    omega
   have t4:(upd H3 T (.tup [.int (j:Int),.int (m:Int)])) T=some (.tup [.int (j:Int),.int (m:Int)]):=ap
   generalize upd H3 T (.tup [.int (j:Int),.int (m:Int)])=H4 at s4 a4 q4 p4 t4
   have ns:=KM.ui room u j
   rw [hmD] at ns
   refine ⟨T,_,rfl,SqT.of t4,rfl,_,_,rfl,_,_,rfl,rfl,?_⟩
   refine ⟨_,rfl,⟨a,_,rfl,a4⟩,_,rfl,a,_,_,rfl,rfl,a4,rfl,yP u,_,rfl,_,_,rfl,rfl,_,rfl,?_⟩
   rw [xu]
   refine hJ (fun c=>?_) (fun c=>?_)
   ·have c':u.count j < m:=by have:=of_decide_eq_true c; omega
    rw [if_pos c'] at ns
    have fin:∀ (d:Addr) (H5:Hp),al H4 H5->H5 d=some (.tup (aw (u++[j])))->∃ (l':Addr) (xs:List V) (y:V),V.ref l=.ref l'/\[V.ref d]=[y]/\H5 l'=some (.lst xs)/\xs.length < sizeLine/\
      ∃ wh mo:Option V,([some (.ref b),some (.ref r),some (.ref l),some (.ref a),some (.int (j:Int)),some (.int (m:Int))]:L2.St)=[some (.ref b),some (.ref r),some (.ref l),some (.ref a),wh,mo]/\al H (upd H5 l' (.lst (xs++[y])))/\
       bx (upd H5 l' (.lst (xs++[y]))) l (KM.eX room (ws.take i)++(KM.fj room u (j + 1)).map fun k=>u++[k]):=by
     intro d H5 s5 e5
     refine ⟨l,_,_,rfl,rfl,s5 _ _ q4,Nat.lt_of_le_of_lt (by rw [List.length_map]; exact hqlen) (by decide),_,_,rfl,(s4.trans s5).upd hl _,qs++[d],by rw [ap,List.map_append]; rfl,?_⟩
     have keep:∀ (c:Addr) (xs:List V),H5 c=some (.tup xs)->upd H5 l (.lst (qs.map V.ref++[V.ref d])) c=some (.tup xs):=fun c xs e=>by
      rw [aB (wK e (s5 _ _ q4) (by intro z; cases z))]
      exact e
     rw [ns,List.map_append,<-List.append_assoc]
     exact jv (iX (iX p4 fun c xs e=>s5 _ _ e) keep) (.cons (keep _ _ e5) .nil)
    refine ⟨_,rfl,.inl ⟨rfl,_,SqL.of q4⟩,_,rfl,_,rfl,(by show 1<=sizeLine; decide),fun t ht=>?_⟩
    have st:al H4 (upd H4 t (.tup [.int (j:Int)])):=aR ht _
    have ej:aw (u++[j])=aw u++[.int (j:Int)]:=by unfold aw; rw [List.map_append]; rfl
    refine ⟨a,t,aw u,[.int (j:Int)],rfl,rfl,SqT.of (st _ _ a4),SqT.of ap,sU (by rw [cF]; show u.length + 1<=1000; omega),fun e0=>?_,fun _ e0=>(nomatch e0),fun _ _ p hp'=>?_⟩
    ·exact fin t _ st (by rw [ap,ej,e0]; rfl)
    ·exact fin p _ (st.trans (aR hp' _)) (by rw [ap,ej])
   ·have c':¬ u.count j < m:=by have:=of_decide_eq_false c; omega
    rw [if_neg c',List.append_nil] at ns
    exact ⟨_,_,rfl,s4,qs,q4,by rw [ns]; exact p4⟩
  ·rintro σ H3 ⟨wh',mo',rfl,s3,D3⟩
   rw [cF,KM.nQ,<-gt] at D3
   exact ⟨_,_,_,rfl,s3,D3⟩
 ·rintro σ H2 ⟨d,wh,mo,rfl,s2,D2⟩
  refine ⟨_,rfl,?_⟩
  rw [List.length_map,<-hrl,List.take_length] at D2
  exact q l H2 s2 hl D2
noncomputable def BL (K:PySem.W.Frag):Sp:=fun vs H Q _=>∃ (c:Nat) (a:Addr) (ss:List Nat),vs=[.int c,.ref a]/\H a=some (.lst (aw ss))/\um c ss/\KM.fv c ss<=2000/\
 ∀ (p:Addr) (H':Hp),al H H'->H p=none->bx H' p (KM.cP (ss++[c - ss.sum]) c)->Q (.ref p) H'
theorem eD (ss:List Nat) (c:Nat):aw ss++[.int (c:Int)]=aw (ss++[c]):=by unfold aw; rw [List.map_append]; rfl
noncomputable abbrev fJ (K:PySem.W.Frag):Sp:=BL K
noncomputable def pF (K:PySem.W.Frag):TS:=(aq (bw (aY (tOp (rI0 fun i j=>.bl (decide (j < i))) (az (fI K) [] E0 (ab (ac 0) (ab (ac 1) ai))) (tC (.int 2000)))) oN aX)
 (aq (aU (tOp CC (ac 1) (tz (ab (tOp (rI0 fun i j=>.int (i - j)) (ac 0) (tCB (xg K) (ab (ac 1) ai))) ai))) (am 2))
 (aq (aU (tz (ab (wZ ai) ai)) (am 3))
 (aq (gH (fP (ab (ac 0) ai)) (am 4) (aU (az (di K) [] E0 (ab (ac 3) (ab (ac 2) ai))) (am 3)))
 (aL (ac 3))))))
theorem uq {K:PySem.W.Frag} {vs:List V} {H:Hp} {Q:VK} {E:XK} (h:fJ K vs H Q E):vs.length=2:=by
 obtain ⟨c,a,ss,rfl,_⟩:=h
 rfl
theorem vN {K:PySem.W.Frag} {vs:List V} {H:Hp} {Q:VK} {E:XK} (h:fJ K vs H Q E):pF K { nx:=fun _ H'=>Q .non H',rt:=Q } (aN ["cards","sizes","room","begun","card"] vs) H:=by
 obtain ⟨c,a,ss,rfl,ha,p,hm,q⟩:=h
 have h12:=p.c12
 have h5:=p.l5
 have hsum:=p.sum
 refine ⟨_,rfl,_,rfl,c,a,ss,rfl,ha,p,fun H1 s1=>?_⟩
 refine ⟨_,_,rfl,rfl,_,rfl,hJ (fun k=>?_) (fun _=>?_)⟩
 ·have k':(2000:Int) < ((KM.fv c ss:Nat):Int):=of_decide_eq_true k
  omega
 have a1:=s1 _ _ ha
 refine ⟨_,rfl,_,rfl,_,rfl,a,_,rfl,by rw [<-gO]; exact SqL.of a1,_,_,rfl,rfl,(by show 1<=sizeLine; decide),fun l hl=>?_⟩
 have s2:al H (upd H1 l (.lst [.int ((c:Int) - (ss.map fun (s:Nat)=>((s:Nat):Int)).sum)])):=s1.trans (aR hl _)
 have e2:(upd H1 l (.lst [.int ((c:Int) - (ss.map fun (s:Nat)=>((s:Nat):Int)).sum)])) l=some (.lst [.int ((c:Int) - (ss.map fun (s:Nat)=>((s:Nat):Int)).sum)]):=ap
 rw [show (c:Int) - (ss.map fun (s:Nat)=>((s:Nat):Int)).sum=((c - ss.sum:Nat):Int) by rw [jU]; omega] at s2 e2
 dsimp only
 rw [show (c:Int) - (ss.map fun (s:Nat)=>((s:Nat):Int)).sum=((c - ss.sum:Nat):Int) by rw [jU]; omega]
 generalize upd H1 l (.lst [.int ((c - ss.sum:Nat):Int)])=H2 at s2 e2
 refine ⟨a,l,_,_,rfl,rfl,s2 _ _ ha,e2,sU (by rw [cF]; show ss.length + 1<=1000; omega),fun rm hrm=>?_⟩
 rw [eD]
 have hRs:(ss++[c - ss.sum]).sum=c:=by rw [List.sum_append,List.sum_cons,List.sum_nil]; omega
 have hRl:(ss++[c - ss.sum]).length<=6:=by rw [List.length_append]; show ss.length + 1<=6; omega
 have hlev:=KM.kj hsum
 have s3:al H (upd H2 rm (.lst (aw (ss++[c - ss.sum])))):=s2.trans (aR hrm _)
 have e3:(upd H2 rm (.lst (aw (ss++[c - ss.sum])))) rm=some (.lst (aw (ss++[c - ss.sum]))):=ap
 generalize ss++[c - ss.sum]=R at *
 generalize upd H2 rm (.lst (aw R))=H3 at s3 e3
 refine ⟨(by show 0<=sizeLine; decide),fun t ht=>⟨(by show 1<=sizeLine; decide),fun b hb=>?_⟩⟩
 have s4:al H3 (upd (upd H3 t (.tup [])) b (.lst [.ref t])):=(aR ht _).trans (aR hb _)
 have D4:bx (upd (upd H3 t (.tup [])) b (.lst [.ref t])) b (KM.cP R 0):=⟨[t],ap,.cons (by rw [aB (aH (ap (o:=HO.tup [])) hb)]; exact ap) .nil⟩
 have f4:H b=none:=by
  have:H3 b=none:=(aR ht _).free hb
  exact s3.free this
 generalize upd (upd H3 t (.tup [])) b (.lst [.ref t])=H4 at s4 D4
 refine ⟨_,rfl,_,rfl,by omega,by omega,md (lo:=0) (n:=((c:Nat):Int).toNat) (fun i σ H5=>∃ (b:Addr) (st:Option V),σ=[some (.int c),some (.ref a),some (.ref rm),some (.ref b),st]/\al H3 H5/\H b=none/\bx H5 b (KM.cP R i)) ⟨b,none,rfl,s4,f4,D4⟩ ?_ ?_⟩
 ·rintro i σ H5 hi ⟨b',st,rfl,s5,f5,D5⟩
  have hi':i + 1<=c:=by omega
  refine ⟨_,rfl,_,rfl,b',rm,_,R,rfl,D5,s5 _ _ e3,hRl,?_,fun u hu=>?_,fun p' H6 s6 f6 D6=>?_⟩
  ·have h1:=KM.Ah (room:=R) (i:=i + 1) (by omega)
   rw [hRs,hlev] at h1
   exact Nat.le_trans h1 hm
  ·have:=(KM.gx R i u hu).len
   omega
  ·exact ⟨p',_,rfl,s5.trans s6,(s3.trans s5).free f6,D6⟩
 ·rintro σ H5 ⟨b',st,rfl,s5,f5,D5⟩
  refine ⟨_,rfl,?_⟩
  rw [show ((c:Nat):Int).toNat=c by omega] at D5
  exact q b' H5 (s3.trans s5) f5 D5
noncomputable def mD (xs:List Int) (w:Int) (i:Nat):List Int:=((List.range i).filter fun j=>decide (xs[j]?=some w)).map fun (j:Nat)=>((j:Nat):Int)
theorem yQ (xs:List Int) (w:Int) (i:Nat):mD xs w (i + 1)=mD xs w i++(if xs[i]?=some w then [(i:Int)] else []):=by
 unfold mD
 rw [List.range_succ,List.filter_append,List.map_append]
 by_cases h:xs[i]?=some w
 ·rw [if_pos h,List.filter_cons_of_pos (by simpa using h)]
  rfl
 ·rw [if_neg h,List.filter_cons_of_neg (by simpa using h)]
  rfl
theorem Al (xs:List Int) (w:Int) (i:Nat):(mD xs w i).length<=i:=by
 unfold mD
 rw [List.length_map]
 have h:=List.length_filter_le (fun j=>decide (xs[j]?=some w)) (List.range i)
 rw [List.length_range] at h
 exact h
noncomputable def BN (K:PySem.W.Frag):Sp:=fun vs H Q _=>∃ (d:Addr) (xs:List Int) (v:Int),vs=[.ref d,.int v]/\SqT K H d (xs.map V.int)/\xs.length<=1000/\
 ∀ (r:Addr) (H':Hp),al H H'->H' r=some (.tup ((mD xs v xs.length).map V.int))->Q (.ref r) H'
theorem De {xs:List Int} {i:Nat} {x:V} (h:(xs.map V.int)[i]?=some x):∃ z,xs[i]?=some z/\x=.int z:=by
 rw [List.getElem?_map] at h
 cases e:xs[i]? with
 | none=>rw [e] at h; cases h
 | some z=>rw [e] at h; exact ⟨z,rfl,(Option.some.inj h).symm⟩
noncomputable abbrev dQ (K:PySem.W.Frag):Sp:=BN K
noncomputable def pG (K:PySem.W.Frag):TS:=(aL (tCB (C4 K) (ab (bT (ni gI K (ab (ac 0) ai)) (fun _ _ _ _=>(g0 K 2 (b7 (am 0) (b7 (am 1) gZ)))) (fun _ _ _ _=>(aY (tOp rEq (ac 1) (ac 2)))) (fun _ _ _ _=>(ac 0)) [none,none,some 1]) ai)))
theorem ur {K:PySem.W.Frag} {vs:List V} {H:Hp} {Q:VK} {E:XK} (h:dQ K vs H Q E):vs.length=2:=by
 obtain ⟨d,xs,v,rfl,_⟩:=h
 rfl
theorem vO {K:PySem.W.Frag} {vs:List V} {H:Hp} {Q:VK} {E:XK} (h:dQ K vs H Q E):pG K { nx:=fun _ H'=>Q .non H',rt:=Q } (aN ["deal","who"] vs) H:=by
 obtain ⟨d,xs,v,rfl,hd,hlen,q⟩:=h
 have hl:(xs.map V.int).length=xs.length:=List.length_map _
 refine ⟨_,rfl,d,_,rfl,hd,fun p hp=>rj (S:=gI) (K:=K) (a:=d) (xs:=xs.map V.int) (fun i acc H2=>acc=(mD xs v i).map V.int/\al H H2/\H2 p=some (.lst acc)) ⟨rfl,aR hp _,ap⟩ ?_ ?_ ?_ ?_ ?_⟩
 ·rintro i acc H2 hi ⟨rfl,s2,e2⟩
  exact ⟨e2,by rw [List.length_map]; exact Al _ _ _⟩
 ·rintro i acc H2 hi ⟨rfl,s2,e2⟩
  exact s2.tup hd
 ·rw [hl]
  exact sU hlen
 ·rintro _ _ _ _ i x T acc H2 hx ⟨rfl,s2,e2⟩ hT
  obtain ⟨z,hz,rfl⟩:=De hx
  have nTp:p≠T:=aH e2 hT
  have nT:H T=none:=s2.free hT
  refine ⟨T,_,rfl,SqT.of ap,rfl,_,_,rfl,_,_,rfl,rfl,_,rfl,_,rfl,rfl,_,rfl,?_⟩
  have eu:=yQ xs v i
  refine hJ (fun c=>?_) (fun c=>?_)
  ·have c':z=v:=by
    have:=of_decide_eq_true c
    injection this
   subst c'
   rw [if_pos hz] at eu
   refine ⟨_,rfl,by rw [aB nTp]; exact e2,?_,(s2.upd nT _).upd hp _,ap⟩
   rw [eu,List.map_append]
   rfl
  ·have c':¬ xs[i]?=some v:=by
    rw [hz]
    intro e
    have:=of_decide_eq_false c
    exact this (by rw [Option.some.inj e])
   rw [if_neg c',List.append_nil] at eu
   exact ⟨by rw [eu],s2.upd nT _,by rw [aB nTp]; exact e2⟩
 ·rintro acc H2 ⟨rfl,s2,e2⟩
  rw [hl] at e2
  exact ⟨p,_,rfl,.inl ⟨SqL.of e2,fun t ht=>q t _ (s2.trans (aR ht _)) ap⟩⟩
end L2
end
section
namespace L2
open PySem PyProof.Rows
end L2
end
section
namespace L2
open PySem PyProof.Rows
end L2
end
section
namespace L2
open PySem PyProof.Rows
end L2
end
section
namespace L2
open PySem PyProof.Rows
end L2
end
section
namespace L2
open PySem PyProof.Rows
noncomputable def Eo:V->Bool
 | .non=>true
 | .bl _=>true
 | .int _=>true
 | _=>false
inductive iY (K:PySem.W.Frag) (H:Hp):Nat->V->V->Prop where
 | flat {n:Nat} {x:V} (h:Eo x=true):iY K H n x x
 | lst {n:Nat} {a b:Addr} {xs ys:List V} (e1:SqL K H a xs) (e2:SqL K H b ys) (hl:xs.length=ys.length) (h:∀ (i:Nat) (x y:V),xs[i]?=some x->ys[i]?=some y->iY K H n x y):iY K H (n + 1) (.ref a) (.ref b)
 | tup {n:Nat} {a b:Addr} {xs ys:List V} (e1:SqT K H a xs) (e2:SqT K H b ys) (hl:xs.length=ys.length) (h:∀ (i:Nat) (x y:V),xs[i]?=some x->ys[i]?=some y->iY K H n x y):iY K H (n + 1) (.ref a) (.ref b)
section
variable {K:PySem.W.Frag} {H:Hp} {Q:VK}
theorem iY.up {n m:Nat} {x y:V} (h:iY K H n x y) (hm:n<=m):iY K H m x y:=by
 induction h generalizing m with
 | flat h=>exact .flat h
 | lst e1 e2 hl _ ih=>
  obtain ⟨k,rfl⟩:∃ k,m=k + 1:=⟨m - 1,by omega⟩
  exact .lst e1 e2 hl fun i x y hx hy=>ih i x y hx hy (by omega)
 | tup e1 e2 hl _ ih=>
  obtain ⟨k,rfl⟩:∃ k,m=k + 1:=⟨m - 1,by omega⟩
  exact .tup e1 e2 hl fun i x y hx hy=>ih i x y hx hy (by omega)
theorem Ep {a:Addr} {x:V} {xs:List V} {c:Bool} (e:SqL K H a xs) (fx:dq x=true) (fs:xs.all dq=true) (hc:inV x xs=c) (h:Q (.bl c) H):rIn K false x (.ref a) H Q:=⟨a,xs,rfl,.inl e,fx,fs,by rw [<-hc] at h; exact h⟩
theorem ut {a:Addr} {x:V} {xs:List V} {c:Bool} (e:SqL K H a xs) (fx:dq x=true) (fs:xs.all dq=true) (hc:inV x xs=c) (h:Q (.bl (!c)) H):rIn K true x (.ref a) H Q:=⟨a,xs,rfl,.inl e,fx,fs,by rw [<-hc] at h; exact h⟩
end
section
variable {g:CF TG} {tt:CF TT} {te:CF TE} {σ₀:St} {Q:VK} {H:Hp} {K:PySem.W.Frag}
theorem BO {S:Src} {a:Addr} (xs:List V) (hx:S.Sq K H a xs) (kx:∀ H',al H H'->S.Sq K H' a xs) (hz:xs.length<=1000000) (R:Nat->List V->Hp->Prop) (h0:∀ H',al H H'->R 0 [] H')
  (hs:∀ p,H p=none->∀ C s' H' fp,∀ i x T acc H2 H3,xs[i]?=some x->aZ H p R i acc H2->H2 T=none->al H2 H3->H3 T=some (.tup [.int i,x])->H3 p=some (.lst acc)->g C s' H' fp (.ref T) σ₀ H3 fun σ2 H4=>tt C s' H' fp σ2 H4 fun b H5=>if b=true then te C s' H' fp σ2 H5 fun y H6=>H6 p=some (.lst acc)/\aZ H p R (i + 1) (acc++[y]) (upd H6 p (.lst (acc++[y]))) else aZ H p R (i + 1) acc H5)
  (hd:∀ p acc H2,H p=none->al H H2->H2 p=some (.lst acc)->R xs.length acc H2->Q (.ref p) H2):
  ∃ a' xs',[V.ref a]=[.ref a']/\S.Sq K H a' xs'/\∀ p,H p=none->∃ W:Nat->Nat->List V->Hp->Prop,(∃ m,W 0 m [] (upd H p (.lst [])))/\∀ C s' H' fp,dg (Ite S K a') (g C s' H' fp) (tt C s' H' fp) (te C s' H' fp) σ₀ p Q W:=
 ⟨a,xs,rfl,hx,fun p hp=>rj (aZ H p R) ⟨aR hp _,ap,Nat.le_refl _,h0 _ (aR hp _)⟩ (fun i acc H2 _ c=>⟨c.2.1,c.2.2.1⟩) (fun i acc H2 _ c=>kx _ c.1) (by rw [sizeLine_eq]; omega)
  (fun C s' H' fp i x T acc H2 hi c hT=>hs p hp C s' H' fp i x T acc H2 _ hi c hT (aR hT _) ap (by rw [aB (aH c.2.1 hT)]; exact c.2.1)) fun acc H2 c=>hd p acc H2 hp c.1 c.2.1 c.2.2.2⟩
end
end L2
end
section
namespace L2
open PySem PyProof.Rows
noncomputable def cJ (K:PySem.W.Frag):Sp:=fun vs H Q _=>∃ (a:Addr) (xs:List V) (ks:List MK) (s:Bool),vs=[.ref a]/\H a=some (.lst xs)/\Paired (dL H) xs ks/\(∀ k∈ks,j7 k=s)/\ks.length<=100000/\
 ∀ p H',H p=none->al H H'->H' p=some (.lst (aw (fi ks)))->Q (.ref p) H'
noncomputable def fb (K:PySem.W.Frag):TS:=(aq (aU tY (am 1))
 (aq (gH (ni eW K (ab (ac 0) ai)) (g0 K 2 (b7 (am 2) (b7 (am 3) gZ))) (kZ (tXM tZ (ac 1) (ab (ac 3) (ab (ac 2) ai)))))
 (aL (bT (eB K (ac 0)) (fun _ _ _ _=>(am 0)) (fun _ _ _ _=>b8) (fun _ _ _ _=>(tOp xm (ac 1) (ac 0))) [none,some 1]))))
theorem lR {K:PySem.W.Frag} {vs:List V} {H:Hp} {Q:VK} {E:XK} (h:cJ K vs H Q E):vs.length=1:=by
 obtain ⟨a,xs,ks,s,rfl,e,hk,hs,hl,q⟩:=h
 rfl
theorem mE {K:PySem.W.Frag} {vs:List V} {H:Hp} {Q:VK} {E:XK} (h:cJ K vs H Q E):fb K { nx:=fun _ H'=>Q .non H',rt:=Q } (aN ["marks","firsts","thing","mark"] vs) H:=by
 obtain ⟨a,xs,ks,s,rfl,e,hk,hs,hl,q⟩:=h
 show fb K _ [some _,none,none,none] _
 unfold fb
 have hlen:xs.length=ks.length:=Paired.length hk
 walk_at "rd"
 refine BI s fun d H1 hd s1 dx1=>?_
 walk_at "rd"
 refine BF (S:=eW) xs (SqL.of (s1 _ _ e)) (fun i σ H3=>∃ (u v:Option V),σ=[some (.ref a),some (.ref d),u,v]/\al H H3/\Dx H3 d s (gv ks i) i) ?_ ?_ ?_ ?_
 ·exact ⟨none,none,rfl,s1,dx1.congr vG⟩
 ·rintro i σ H3 hi ⟨u,v,rfl,s3,dx3⟩
  exact SqL.of (s3 _ _ e)
 ·rintro i x T σ H3 H4 hx ⟨u,v,rfl,s3,dx3⟩ hT s4 eT
  obtain ⟨k,hki,hkv⟩:=jd hk hx
  have hks:=hs k (List.mem_of_getElem? hki)
  have hi:i < ks.length:=(List.getElem?_eq_some_iff.mp hki).1
  refine gu (SqT.of eT) ?_
  have s34:=s3.trans s4
  have hkv4:=hkv.keep s34.keep
  have dx4:=dx3.same s4
  walk_at "rd"
  refine EV ?_
  walk_at "rd"
  refine ⟨⟨d,s,_,_,rfl,dx4⟩,?_⟩
  walk_at "rd"
  refine BJ dx4 hkv4 hks (by rw [sizeLine_eq]; omega) (fun w hw=>?_) (fun hn H5 o5 dx5=>?_)
  ·have hm:k∈ks.take i:=by
    by_cases q:k∈ks.take i
    ·exact q
    ·rw [vF q] at hw; cases hw
   exact ⟨_,_,rfl,s34,(dx4.congr (xn hki hm)).le (Nat.le_succ i)⟩
  ·have hm:k∉ks.take i:=fun q=>by rw [ro q] at hn; cases hn
   exact ⟨_,_,rfl,s34.off hd o5,dx5.congr (xo hki hm)⟩
 ·rintro σ H3 ⟨u,v,rfl,s3,dx3⟩
  walk_at "rd"
  refine gN xs (SqL.of (s3 _ _ e)) (by omega) (fun i acc _=>acc=aw ((fi ks).take i)) (fun H' _=>rfl) ?_ ?_
  ·rintro p hp C s' H' fp i x acc H4 hx ⟨s4,e4,l4,rfl⟩
   obtain ⟨k,hki,hkv⟩:=jd hk hx
   have hks:=hs k (List.mem_of_getElem? hki)
   have hi:i < ks.length:=(List.getElem?_eq_some_iff.mp hki).1
   walk_at "rd"
   refine Db (dx3.same s4) (hkv.keep (s3.trans s4).keep) hks (ro (by rw [hlen,List.take_length]; exact List.mem_of_getElem? hki)) ?_
   refine aZ.put hp (fun _ _ _ _ r _=>r) s4 e4 l4 ?_
   rw [t9 hki,eD]
  ·rintro p acc H4 hp s4 e4 rfl
   refine q _ _ (s3.free hp) (s3.trans s4) ?_
   rw [e4,List.take_of_length_le (by rw [qr,hlen]; exact Nat.le_refl _)]
noncomputable def sX (w:List Nat) (h:Int):List Int:=mD (w.map fun (s:Nat)=>((s:Nat):Int)) h w.length
noncomputable def uu (ns:List Int):MK:=.inr (ns.map fun n=>(Sum.inl (some n):IK))
theorem Am (a b:List Int) (e:uu a=uu b):a=b:=by
 have h:a.map (fun n=>(Sum.inl (some n):IK))=b.map (fun n=>(Sum.inl (some n):IK)):=Sum.inr.inj e
 clear e
 induction a generalizing b with
 | nil=>cases b with
  | nil=>rfl
  | cons _ _=>simp at h
 | cons x r ih=>cases b with
  | nil=>simp at h
  | cons y t=>
   rw [List.map_cons,List.map_cons] at h
   injection h with h1 h2
   injection h1 with h1
   injection h1 with h1
   rw [h1,ih t h2]
noncomputable def kH (ws:List (List Nat)) (h:Int):List Nat:=fi (ws.map fun w=>sX w h)
theorem vP (ws:List (List Nat)) (h:Int):fi (ws.map fun w=>uu (sX w h))=kH ws h:=by
 unfold kH
 rw [<-vD (f:=uu) Am,List.map_map]
 rfl
theorem bx.to' {H H':Hp} {p:Addr} {ws:List (List Nat)} (d:bx H p ws) (k:fN H H') (e:∀ rs:List Addr,H p=some (.lst (rs.map V.ref))->H' p=some (.lst (rs.map V.ref))):bx H' p ws:=by
 obtain ⟨rs,h1,h2⟩:=d
 exact ⟨rs,e rs h1,iX h2 fun a xs e=>k _ _ e⟩
theorem bx.same' {H H':Hp} {p:Addr} {ws:List (List Nat)} (d:bx H p ws) (s:al H H'):bx H' p ws:=d.to' s.keep fun rs e=>s _ _ e
theorem Df {rs:List Addr} {i:Nat} {x:V} (hx:(rs.map V.ref)[i]?=some x):∃ a,rs[i]?=some a/\x=.ref a:=by
 rw [List.getElem?_map] at hx
 cases e:rs[i]? with
 | none=>rw [e] at hx; cases hx
 | some z=>rw [e] at hx; exact ⟨z,rfl,(Option.some.inj hx).symm⟩
noncomputable def eh (K:PySem.W.Frag):Sp:=fun vs H Q _=>∃ (a:Addr) (ws:List (List Nat)) (h:Int),vs=[.ref a,.int h]/\bx H a ws/\(∀ w∈ws,w.length<=1000)/\ws.length<=100000/\
 ∀ p H',H p=none->al H H'->H' p=some (.lst (aw (kH ws h)))->Q (.ref p) H'
theorem yR {H:Hp} {xs:List V} {ks:List MK} {x:V} {k:MK} (h:Paired (dL H) xs ks) (q:dL H x k):Paired (dL H) (xs++[x]) (ks++[k]):=by
 induction h with
 | nil=>exact .cons q .nil
 | cons r _ ih=>exact .cons r ih
noncomputable def ib (K:PySem.W.Frag):TS:=(aL (az (cJ K) [] E0 (ab (bT (eB K (ac 0)) (fun _ _ _ _=>(am 0)) (fun _ _ _ _=>b8) (fun _ _ _ _=>(az (dQ K) [] E0 (ab (ac 0) (ab (ac 1) ai)))) [none,some 1]) ai)))
theorem qv {K:PySem.W.Frag} {vs:List V} {H:Hp} {Q:VK} {E:XK} (h:eh K vs H Q E):vs.length=2:=by
 obtain ⟨a,ws,h,rfl,hD,hw,hl,q⟩:=h
 rfl
theorem rM {K:PySem.W.Frag} {vs:List V} {H:Hp} {Q:VK} {E:XK} (h:eh K vs H Q E):ib K { nx:=fun _ H'=>Q .non H',rt:=Q } (aN ["deals","hand"] vs) H:=by
 obtain ⟨a,ws,h,rfl,hD,hw,hl,q⟩:=h
 show ib K _ [some _,some _] _
 unfold ib
 obtain ⟨rs,e,hr⟩:=id hD
 have hlr:rs.length=ws.length:=Paired.length hr
 walk_at "rd"
 refine gN (rs.map V.ref) (SqL.of e) (by rw [List.length_map]; omega) (fun i acc H'=>Paired (dL H') acc ((ws.take i).map fun w=>uu (sX w h))) (fun H' _=>.nil) ?_ ?_
 ·rintro p hp C s' H' fp i x acc H2 hx ⟨s2,e2,l2,r2⟩
  obtain ⟨b,hb,rfl⟩:=Df hx
  obtain ⟨w,hwi,ew⟩:=jd hr hb
  walk_at "rd"
  refine ⟨b,w.map fun (s:Nat)=>((s:Nat):Int),h,rfl,by rw [<-gO]; exact SqT.of (s2 _ _ ew),by rw [List.length_map]; exact hw w (List.mem_of_getElem? hwi),fun r H3 s3 e3=>?_⟩
  rw [List.length_map] at e3
  refine aZ.put hp (fun _ _ _ _ r k=>rl r k) (s2.trans s3) (s3 _ _ e2) l2 ?_
  rw [j8 hwi,List.map_append]
  exact yR (rl r2 s3.keep) (BG (ns:=sX w h) e3)
 ·rintro p acc H2 hp s2 e2 r2
  rw [List.length_map,hlr,List.take_length] at r2
  walk_at "rd"
  refine ⟨p,acc,_,true,rfl,e2,r2,?_,by rw [List.length_map]; omega,fun p3 H3 hp3 s3 e3=>?_⟩
  ·intro k hk
   obtain ⟨w,_,rfl⟩:=List.mem_map.mp hk
   rfl
  ·rw [vP] at e3
   exact q _ _ (s2.free hp3) (s2.trans s3) e3
end L2
end
section
namespace L2
open PySem PyProof.Rows
end L2
end
section
namespace L2
open PySem PyProof.Rows
theorem aZ.putW {H H4:Hp} {p:Addr} {R:Nat->List V->Hp->Prop} {i:Nat} {acc:List V} {y:V} (hp:H p=none) (s:al H H4) (e:H4 p=some (.lst acc)) (l:acc.length<=i) (r:∀ H6,Off p H4 H6->R (i + 1) (acc++[y]) H6):
  H4 p=some (.lst acc)/\aZ H p R (i + 1) (acc++[y]) (upd H4 p (.lst (acc++[y]))):=
 ⟨e,s.upd hp _,ap,by rw [List.length_append]; exact Nat.add_le_add_right l 1,r _ kE⟩
section
variable {g:CF TG} {tt:CF TT} {te:CF TE} {σ₀:St} {Q:VK} {H:Hp} {K:PySem.W.Frag}
theorem yS {j:Int} (n:Nat) (hn:j.toNat=n) (hj:j<=1000000) (hj0:-1000000<=j) (R:Addr->Nat->List V->Hp->Prop) (h0:∀ p H',al H H'->R p 0 [] H')
  (hs:∀ p,H p=none->∀ C s' H' fp,∀ i acc H2,i < n->aZ H p (R p) i acc H2->g C s' H' fp (.int i) σ₀ H2 fun σ2 H3=>tt C s' H' fp σ2 H3 fun b H4=>if b=true then te C s' H' fp σ2 H4 fun y H5=>H5 p=some (.lst acc)/\aZ H p (R p) (i + 1) (acc++[y]) (upd H5 p (.lst (acc++[y]))) else aZ H p (R p) (i + 1) acc H4)
  (hd:∀ p acc H2,H p=none->al H H2->H2 p=some (.lst acc)->R p n acc H2->Q (.ref p) H2):
  ∃ j':Int,[V.int j]=[.int j']/\-(2 ^ 62)<=j'/\j' < 2 ^ 62/\∀ p,H p=none->∃ W:Nat->Nat->List V->Hp->Prop,(∃ m,W 0 m [] (upd H p (.lst [])))/\∀ C s' H' fp,dg (Itr 0 j'.toNat) (g C s' H' fp) (tt C s' H' fp) (te C s' H' fp) σ₀ p Q W:=by
 refine ⟨j,rfl,by omega,by omega,fun p hp=>?_⟩
 subst hn
 exact oV (lo:=0) (aZ H p (R p)) ⟨aR hp _,ap,Nat.le_refl _,h0 _ _ (aR hp _)⟩ (fun i acc H2 _ c=>⟨c.2.1,c.2.2.1⟩) (by rw [sizeLine_eq]; omega) (fun C s' H' fp i acc H2 hi c=>by rw [Int.zero_add]; exact hs p hp C s' H' fp i acc H2 hi c) fun acc H2 c=>hd p acc H2 hp c.1 c.2.1 c.2.2.2
end
end L2
end
section
namespace L2
open PySem PySem.Spec PyProof.Rows
theorem bz.units64 {k:Nat} {A:Around} (r:bz k A):A.units + 64 < cLine:=by have:=r.un; omega
section
variable {X:Cx}
theorem OpR.weak {f:Value->Value->Sem Value} {r r':R2} (h:OpR X f r) (w:∀ x y H Q,r' x y H Q->r x y H Q):OpR X f r':=fun pins s σ H x y v u Q I rx ry q=>h pins s σ H x y v u Q I rx ry (w x y H Q q)
theorem dF.weak {f:Value} {r r':List V->Hp->VK->Prop} (h:dF X f r) (w:∀ xs H Q,r' xs H Q->r xs H Q):dF X f r':=fun pins s σ H xs us Q I rx q=>h pins s σ H xs us Q I rx (w xs H Q q)
theorem pH:OpR X (binaryOp .Add) qp:=yt.weak fun _ _ _ _ ⟨l,b,xs,zs,e1,e2,h1,h2,hz,q⟩=>⟨l,b,xs,zs,e1,e2,h1,h2,hz,q.upd⟩
theorem qw:dF X (.type "list") (mz X.K):=tK.weak fun _ _ _ ⟨p,ys,e,h,q⟩=>⟨p,ys,e,h,q.upd⟩
end
section
variable {X:Cx} {es:List Expr} {t:TA} {pos:Pos}
theorem bS {x1} (h:PA X es t):PE X (.Tuple es x1 pos) (dh t):=by
 intro pins s σ H Q I hq
 refine wpAny_Tuple_spliced (thn (h pos pins s σ H _ I hq) fun us s1 ⟨xs,H1,I1,r,z,q⟩=>⟨by rw [<-r.length]; exact z,?_⟩)
 have hf:H1 s1.heap.objs.size=none:=I1.hok.fresh (Nat.le_refl _)
 refine ⟨.ref s1.heap.objs.size,upd H1 s1.heap.objs.size (.tup xs),I1.laid (t':=s1.toks) (fun b u e=>Heap.get?_push_of_some _ e) (Nat.le_refl _) ?_,rfl,q.upd _ hf⟩
 exact ⟨z,us,r,fB.new _ _⟩
theorem bv (h:PA X es t):PE X (.List es pos) (cE t):=by
 intro pins s σ H Q I hq
 refine wpAny_List_spliced (thn (h pos pins s σ H _ I hq) fun us s1 ⟨xs,H1,I1,r,z,q⟩=>⟨by rw [<-r.length]; exact z,?_⟩)
 have hf:H1 s1.heap.objs.size=none:=I1.hok.fresh (Nat.le_refl _)
 refine ⟨.ref s1.heap.objs.size,upd H1 s1.heap.objs.size (.lst xs),I1.laid (t':=s1.toks) (fun b u e=>Heap.get?_push_of_some _ e) (Nat.le_refl _) ?_,rfl,q.upd _ hf⟩
 exact ⟨z,us,0,r,Heap.get?_push_size _ rfl⟩
end
section
variable {X:Cx} {es:List Expr} {te:TE} {t:TA}
theorem af {v:Const} {j:Nat} {p:Pos} (ha:PE X (.Constant v j p) te) (hr:PA X es t):PA X (.Constant v j p :: es) (ab te t):=fZ ha hr rfl
theorem ad {x:Str} {p:Pos} (ha:PE X (.Name x p) te) (hr:PA X es t):PA X (.Name x p :: es) (ab te t):=fZ ha hr rfl
theorem bi {a b:Expr} {o:Operator} {p:Pos} (ha:PE X (.BinOp a o b p) te) (hr:PA X es t):PA X (.BinOp a o b p :: es) (ab te t):=fZ ha hr rfl
theorem bu {f:Expr} {as:List Expr} {ks:List Keyword} {p:Pos} (ha:PE X (.Call f as ks p) te) (hr:PA X es t):PA X (.Call f as ks p :: es) (ab te t):=fZ ha hr rfl
theorem bq {as:List Expr} {k:Nat} {p:Pos} (ha:PE X (.Tuple as k p) te) (hr:PA X es t):PA X (.Tuple as k p :: es) (ab te t):=fZ ha hr rfl
theorem cc {as:List Expr} {p:Pos} (ha:PE X (.List as p) te) (hr:PA X es t):PA X (.List as p :: es) (ab te t):=fZ ha hr rfl
theorem bg {a b:Expr} {p:Pos} (ha:PE X (.Subscript a b p) te) (hr:PA X es t):PA X (.Subscript a b p :: es) (ab te t):=fZ ha hr rfl
theorem cQ {e:Expr} (ha:PE X e te) (hr:PA X es t) (hs:starEach (e :: es) X.env=(false,eval e X.env) :: starEach es X.env:=by rfl):PA X (e :: es) (ab te t):=fZ ha hr hs
structure aj (N:List Str) (sc:Scope) (i:Nat) (x:Str):Prop where
 n:N[i]?=some x
 v:Vis sc x
 d:(x == ("__debug__":Str))=false
 c:(x == ("__classdict__":Str))=false
theorem pvQ {N:List Str} {sc:Scope} {i:Nat} {x:Str} {pos:Pos} (h:aj N sc i x) (hN:X.N=N) (hS:X.env.scope=sc):PE X (.Name x pos) (ac i):=by
 subst hN hS
 exact yb h.n h.v h.d h.c
end
end L2
end
section
namespace L2
open PySem PySem.Spec PyProof.Rows
theorem yT {X:Cx}:SlR X (xh X.K):=fun pins s σ H x v vl vu lo hi sl Q I rx hs pl pu ⟨a,xs,e,h,n,q⟩=>CA pins s σ H x v vl vu lo hi sl Q I rx hs pl pu ⟨a,xs,e,h,n,q.upd⟩
noncomputable def pI (P:Program) (w:World) (K:PySem.W.Frag) (a:Addr) (kvs:List (Str×V)):Prop:=
 (a == sysModules)=false/\∃ (o:Obj) (es:Array DictEntry) (ep:Nat) (vs:List (Key×Value)),K.lookup a=some o/\o.ExactDict/\o.data=.dict es ep/\KeysOf (gL P w) es/\Pairs (gL P w) es.toList vs/\(vs.map (·.1)).Nodup/\
  Paired (fun (p:Str×V) (q:Key×Value)=>q.1=.inr p.1/\aE p.2 q.2) kvs vs
theorem ji {k:Str} {v:V}:∀ {kvs:List (Str×V)} {vs:List (Key×Value)},Paired (fun (p:Str×V) (q:Key×Value)=>q.1=.inr p.1/\aE p.2 q.2) kvs vs->kvs.lookup k=some v->∃ u,valueAt vs (.inr k)=some u/\aE v u
 | _,_,.nil,h=>by cases h
 | _,_,.cons (a:=p) (b:=q) r t,h=>by
  obtain ⟨x,y⟩:=p
  obtain ⟨kq,u⟩:=q
  obtain ⟨r1,r2⟩:=r
  simp only at r1 r2
  subst r1
  rw [List.lookup_cons] at h
  unfold valueAt
  rw [List.find?_cons]
  by_cases e:k=x
  ·subst e
   rw [beq_self_eq_true] at h
   cases h
   rw [show decide ((Sum.inr k:Key)=Sum.inr k)=true from decide_eq_true rfl]
   exact ⟨u,rfl,r2⟩
  ·rw [show (k == x)=false from beq_eq_false_iff_ne.mpr e] at h
   rw [show decide ((Sum.inr x:Key)=Sum.inr k)=false from decide_eq_false fun z=>e (Sum.inr.inj z).symm]
   exact ji t h
section
variable {X:Cx} {o i:Expr} {pos:Pos} {td ty:TE} {a:Addr} {kvs:List (Str×V)}
theorem pI.of {pins:List (Addr×Obj)} {σ:St} {H:Hp} {s:Shared} (D:pI X.prog X.w X.K a kvs) (I:Inv X pins σ H s):∃ vs,s.heap.DictOf (gL X.prog X.w) a vs/\Paired (fun (p:Str×V) (q:Key×Value)=>q.1=.inr p.1/\aE p.2 q.2) kvs vs:=by
 obtain ⟨_,o,es,ep,vs,lk,ex,hd,hk,hp,nd,rel⟩:=D
 exact ⟨vs,⟨o,es,ep,I.kIn a o lk,ex,hd,hk,hp,nd⟩,rel⟩
theorem yU (D:pI X.prog X.w X.K a kvs) (ho:PE X o td) (hi:PE X i ty) (hs:Ab i):PE X (.Subscript o i pos) (tOp (xi kvs a) td ty):=by
 intro pins s σ H Q I h
 refine ww PySem.F.slot_dict_getitem.lookup hs (thn (ho pins s σ H _ I h) fun u s1 ⟨x,H1,I1,rx,q1⟩=>thn (hi pins s1 σ H1 _ I1 q1) fun iv s2 ⟨y,H2,I2,ry,ex,k,v,ey,el,q2⟩=>?_)
 subst ex ey
 obtain rfl:u=Value.ref a:=rx
 obtain ⟨vs,dd,rel⟩:=D.of I2
 obtain ⟨w',hw,rw'⟩:=ji rel el
 exact ⟨dd.typeIs,wpAny_getItem_of (Bc (k:=.inr k) ry) dd.mapOf hw ⟨v,H2,I2.tok _,rw',q2⟩⟩
theorem nS {k:Str}:∀ {kvs:List (Str×V)} {vs:List (Key×Value)},Paired (fun (p:Str×V) (q:Key×Value)=>q.1=.inr p.1/\aE p.2 q.2) kvs vs->kvs.lookup k=none->valueAt vs (.inr k)=none
 | _,_,.nil,_=>rfl
 | _,_,.cons (a:=p) (b:=q) r t,h=>by
  obtain ⟨x,y⟩:=p
  obtain ⟨kq,u⟩:=q
  obtain ⟨r1,r2⟩:=r
  simp only at r1 r2
  subst r1
  rw [List.lookup_cons] at h
  unfold valueAt
  rw [List.find?_cons]
  by_cases e:k=x
  ·subst e
   rw [beq_self_eq_true] at h
   cases h
  ·rw [show (k == x)=false from beq_eq_false_iff_ne.mpr e] at h
   rw [show decide ((Sum.inr x:Key)=Sum.inr k)=false from decide_eq_false fun z=>e (Sum.inr.inj z).symm]
   exact nS t h
theorem uv (D:pI X.prog X.w X.K a kvs):OpR X (compareOp .NotIn) (pb kvs a true):=by
 intro pins s σ H x y v u Q I rx ry h
 obtain ⟨rfl,k,rfl,q⟩:=h
 obtain rfl:u=Value.ref a:=ry
 obtain ⟨vs,dd,rel⟩:=D.of I
 refine wpAny_notIn_of (Bc (k:=.inr k) rx) D.1 dd.mapOf ?_
 refine ⟨.bl (!(kvs.lookup k).isSome),H,I.tok _,?_,q⟩
 cases e:kvs.lookup k with
 | none=>rw [nS rel e]; rfl
 | some v'=>
  obtain ⟨w',hw,_⟩:=ji rel e
  rw [hw]
  rfl
end
end L2
end
section
namespace L2
open PySem PyProof.Rows
inductive Sy where
 | holds (w c:Nat) | sees (h:Nat) | not (s:Sy) | and (s t:Sy) | or (s t:Sy) | knows (h:Nat) (s:Sy) | all (g:List Nat) (s:Sy) | common (g:List Nat) (s:Sy)
namespace Sy
noncomputable def words:Sy->Nat
 | .holds _ _=>1 | .sees _=>1 | .not s=>s.words + 1 | .and s t=>s.words + t.words + 1 | .or s t=>s.words + t.words + 1 | .knows _ s=>s.words + 1 | .all _ s=>s.words + 1 | .common _ s=>s.words + 1
noncomputable def word:Sy->Str
 | .holds _ _=>"holds" | .sees _=>"sees" | .not _=>"not" | .and _ _=>"and" | .or _ _=>"or" | .knows _ _=>"knows" | .all _ _=>"all" | .common _ _=>"common"
noncomputable def form:Sy->List Str
 | .holds _ _=>["holder","card"] | .sees _=>["hand"] | .not _=>["saying"] | .and _ _=>["saying","saying"] | .or _ _=>["saying","saying"] | .knows _ _=>["hand","saying"] | .all _ _=>["hands","saying"] | .common _ _=>["hands","saying"]
noncomputable def plain:Sy->Bool
 | .holds _ _=>true | .not _=>true | .and _ _=>true | .or _ _=>true | _=>false
noncomputable def alone:Sy->Bool
 | .holds _ _=>true | .sees _=>false | .not s=>s.alone | .and s t=>s.alone && t.alone | .or s t=>s.alone && t.alone | .knows _ _=>false | .all _ _=>false | .common _ _=>false
noncomputable def Ok (cards hands:Nat):Sy->Prop
 | .holds w c=>w<=hands/\c < cards | .sees h=>h < hands | .not s=>s.Ok cards hands | .and s t=>s.Ok cards hands/\t.Ok cards hands | .or s t=>s.Ok cards hands/\t.Ok cards hands
 | .knows h s=>h < hands/\s.Ok cards hands | .all g s=>(g.Pairwise (· < ·)/\∀ k∈g,k < hands)/\s.Ok cards hands | .common g s=>(g.Pairwise (· < ·)/\∀ k∈g,k < hands)/\s.Ok cards hands
theorem words_pos (s:Sy):1<=s.words:=by cases s <;> simp [words]
end Sy
noncomputable def cR (H:Hp):V->Sy->Prop
 | v,.holds w c=>∃ a,v=.ref a/\H a=some (.tup [.str "holds",.int w,.int c])
 | v,.sees h=>∃ a,v=.ref a/\H a=some (.tup [.str "sees",.int h])
 | v,.not s=>∃ a x,v=.ref a/\H a=some (.tup [.str "not",x])/\cR H x s
 | v,.and s t=>∃ a x y,v=.ref a/\H a=some (.tup [.str "and",x,y])/\cR H x s/\cR H y t
 | v,.or s t=>∃ a x y,v=.ref a/\H a=some (.tup [.str "or",x,y])/\cR H x s/\cR H y t
 | v,.knows h s=>∃ a x,v=.ref a/\H a=some (.tup [.str "knows",.int h,x])/\cR H x s
 | v,.all g s=>∃ a b x,v=.ref a/\H a=some (.tup [.str "all",.ref b,x])/\H b=some (.tup (aw g))/\cR H x s
 | v,.common g s=>∃ a b x,v=.ref a/\H a=some (.tup [.str "common",.ref b,x])/\H b=some (.tup (aw g))/\cR H x s
theorem cR.keep {H H':Hp} (k:fN H H'):∀ {s:Sy} {v:V},cR H v s->cR H' v s
 | .holds _ _,_,⟨a,e,h⟩=>⟨a,e,k _ _ h⟩
 | .sees _,_,⟨a,e,h⟩=>⟨a,e,k _ _ h⟩
 | .not _,_,⟨a,x,e,h,r⟩=>⟨a,x,e,k _ _ h,cR.keep k r⟩
 | .and _ _,_,⟨a,x,y,e,h,r,q⟩=>⟨a,x,y,e,k _ _ h,cR.keep k r,cR.keep k q⟩
 | .or _ _,_,⟨a,x,y,e,h,r,q⟩=>⟨a,x,y,e,k _ _ h,cR.keep k r,cR.keep k q⟩
 | .knows _ _,_,⟨a,x,e,h,r⟩=>⟨a,x,e,k _ _ h,cR.keep k r⟩
 | .all _ _,_,⟨a,b,x,e,h,i,r⟩=>⟨a,b,x,e,k _ _ h,k _ _ i,cR.keep k r⟩
 | .common _ _,_,⟨a,b,x,e,h,i,r⟩=>⟨a,b,x,e,k _ _ h,k _ _ i,cR.keep k r⟩
noncomputable def mF (form:List Str) (items:List V):List V:=((form.zip items).filter fun p=>decide (p.1=("saying":Str))).map (·.2)
noncomputable def ln (H:Hp) (xs:List V) (ss:List Sy):Prop:=Paired (cR H) xs ss
theorem ln.keep {H H':Hp} (k:fN H H') {xs:List V} {ss:List Sy} (h:ln H xs ss):ln H' xs ss:=Paired.mapP h fun _ _ r=>r.keep k
structure Glo where
 forms:Addr
 cw:Addr
 f1:Addr
 f2:Addr
 f3:Addr
 f4:Addr
 f5:Addr
 f6:Addr
 f7:Addr
 f8:Addr
noncomputable def Glo.kvs (G:Glo):List (Str×V):=[("holds",.ref G.f1),("not",.ref G.f2),("and",.ref G.f3),("or",.ref G.f4),("knows",.ref G.f5),("all",.ref G.f6),("common",.ref G.f7),("sees",.ref G.f8)]
structure np (K:PySem.W.Frag) (G:Glo):Prop where
 t1:hV K G.f1 [.str "holder",.str "card"]
 t2:hV K G.f2 [.str "saying"]
 t3:hV K G.f3 [.str "saying",.str "saying"]
 t4:hV K G.f4 [.str "saying",.str "saying"]
 t5:hV K G.f5 [.str "hand",.str "saying"]
 t6:hV K G.f6 [.str "hands",.str "saying"]
 t7:hV K G.f7 [.str "hands",.str "saying"]
 t8:hV K G.f8 [.str "hand"]
theorem Er {x y:Str} {v:V} {r:List (Str×V)}:((x,v) :: r).lookup y=if y=x then some v else r.lookup y:=by
 rw [List.lookup_cons]
 by_cases h:y=x
 ·rw [if_pos h,show (y == x)=true from beq_iff_eq.mpr h]
 ·rw [if_neg h,show (y == x)=false from beq_eq_false_iff_ne.mpr h]
theorem np.form {K:PySem.W.Frag} {G:Glo} (g:np K G) (s:Sy):∃ f,G.kvs.lookup s.word=some (.ref f)/\hV K f (s.form.map V.str):=by
 cases s with
 | holds w c=>exact ⟨G.f1,rfl,g.t1⟩
 | sees w=>exact ⟨G.f8,rfl,g.t8⟩
 | not s=>exact ⟨G.f2,rfl,g.t2⟩
 | and s t=>exact ⟨G.f3,rfl,g.t3⟩
 | or s t=>exact ⟨G.f4,rfl,g.t4⟩
 | knows w s=>exact ⟨G.f5,rfl,g.t5⟩
 | all g' s=>exact ⟨G.f6,rfl,g.t6⟩
 | common g' s=>exact ⟨G.f7,rfl,g.t7⟩
theorem nu (x:V) (xs:List V):atI (x :: xs) 0=some x:=by
 have:atI (x :: xs) ((0:Nat):Int)=some x:=fH rfl
 exact this
theorem yV (form:List Str) (items:List V) (i:Nat) (f:Str) (x:V) (hf:form[i]?=some f) (hx:items[i]?=some x):mF (form.take (i + 1)) (items.take (i + 1))=mF (form.take i) (items.take i)++(if f="saying" then [x] else []):=by
 unfold mF
 have e:(form.take (i + 1)).zip (items.take (i + 1))=(form.take i).zip (items.take i)++[(f,x)]:=by
  rw [List.take_add_one,List.take_add_one,hf,hx]
  rw [List.zip_append (by
   have h1:=(List.getElem?_eq_some_iff.mp hf).1
   have h2:=(List.getElem?_eq_some_iff.mp hx).1
   rw [List.length_take,List.length_take]
   omega)]
  rfl
 rw [e,List.filter_append,List.map_append]
 congr 1
 by_cases h:f="saying"
 ·rw [if_pos h,List.filter_cons_of_pos (by simpa using h)]
  rfl
 ·rw [if_neg h,List.filter_cons_of_neg (by simpa using h)]
  rfl
theorem An (form:List Str) (items:List V):(mF form items).length<=form.length:=by
 unfold mF
 rw [List.length_map]
 refine Nat.le_trans (List.length_filter_le _ _) ?_
 rw [List.length_zip]
 omega
theorem rC {H:Hp} {xs:List V} {ss:List Sy} (h:ln H xs ss):xs.length=ss.length:=by
 induction h with
 | nil=>rfl
 | cons _ _ ih=>rw [List.length_cons,List.length_cons,ih]
end L2
end
section
namespace L2
open PySem PySem.Spec PyProof.Rows
structure xv (P:Program) (w:World) (K:PySem.W.Frag) (mg:Str->Option Value) (G:Glo):Prop where
 ok:np K G
 mf:mg "FORMS"=some (.ref G.forms)
 df:pI P w K G.forms G.kvs
structure E3 (P:Program) (w:World) (K:PySem.W.Frag) (mg:Str->Option Value) (G:Glo):Prop extends xv P w K mg G where
 mc:mg "CARD_WORDS"=some (.ref G.cw)
 cwk:hV K G.cw [.str "holds",.str "not",.str "and",.str "or"]
theorem gP {K:PySem.W.Frag} {a:Addr} {od:Option Addr} {its:Array Value} {n:Nat} {sl:Array (Option Value)} (l:K.lookup a=some ⟨.type "tuple",od,.seq its n,sl⟩) (xs:List V) (hz:its.size<=sizeLine) (r:aD xs its.toList):hV K a xs:=⟨_,its,n,l,rfl,rfl,hz,r⟩
theorem BP {P:Program} {w:World} {K:PySem.W.Frag} {mg:Str->Option Value} {aF aC f1 f2 f3 f4 f5 f6 f7 f8:Addr} {k1 k2 k3 k4 k5 k6 k7 k8 u1 u2 u3 u4 u5 u6 u7 u8 u9 ua ub uc ud ue:Tok} {ep n1 n2 n3 n4 n5 n6 n7 n8:Nat} {o1 o2 o3 o4 o5 o6 o7 o8:Option Addr} {s1 s2 s3 s4 s5 s6 s7 s8:Array (Option Value)}
  (nF:(aF == sysModules)=false) (mf:mg "FORMS"=some (.ref aF))
  (lF:K.lookup aF=some ⟨.type "dict",none,.dict #[⟨PyData.keyHash w.params "holds",.str "holds" k1,.ref f1⟩,⟨PyData.keyHash w.params "not",.str "not" k2,.ref f2⟩,⟨PyData.keyHash w.params "and",.str "and" k3,.ref f3⟩,⟨PyData.keyHash w.params "or",.str "or" k4,.ref f4⟩,
   ⟨PyData.keyHash w.params "knows",.str "knows" k5,.ref f5⟩,⟨PyData.keyHash w.params "all",.str "all" k6,.ref f6⟩,⟨PyData.keyHash w.params "common",.str "common" k7,.ref f7⟩,⟨PyData.keyHash w.params "sees",.str "sees" k8,.ref f8⟩] ep,#[]⟩)
  (l1:K.lookup f1=some ⟨.type "tuple",o1,.seq #[.str "holder" u1,.str "card" u2] n1,s1⟩) (l2:K.lookup f2=some ⟨.type "tuple",o2,.seq #[.str "saying" u3] n2,s2⟩) (l3:K.lookup f3=some ⟨.type "tuple",o3,.seq #[.str "saying" u4,.str "saying" u5] n3,s3⟩) (l4:K.lookup f4=some ⟨.type "tuple",o4,.seq #[.str "saying" u6,.str "saying" u7] n4,s4⟩)
  (l5:K.lookup f5=some ⟨.type "tuple",o5,.seq #[.str "hand" u8,.str "saying" u9] n5,s5⟩) (l6:K.lookup f6=some ⟨.type "tuple",o6,.seq #[.str "hands" ua,.str "saying" ub] n6,s6⟩) (l7:K.lookup f7=some ⟨.type "tuple",o7,.seq #[.str "hands" uc,.str "saying" ud] n7,s7⟩) (l8:K.lookup f8=some ⟨.type "tuple",o8,.seq #[.str "hand" ue] n8,s8⟩)
  : xv P w K mg ⟨aF,aC,f1,f2,f3,f4,f5,f6,f7,f8⟩ where
 mf:=mf
 ok:=⟨gP l1 _ (by show 2<=sizeLine; decide) (.cons ⟨_,rfl⟩ (.cons ⟨_,rfl⟩ .nil)),gP l2 _ (by show 1<=sizeLine; decide) (.cons ⟨_,rfl⟩ .nil),gP l3 _ (by show 2<=sizeLine; decide) (.cons ⟨_,rfl⟩ (.cons ⟨_,rfl⟩ .nil)),gP l4 _ (by show 2<=sizeLine; decide) (.cons ⟨_,rfl⟩ (.cons ⟨_,rfl⟩ .nil)),
  gP l5 _ (by show 2<=sizeLine; decide) (.cons ⟨_,rfl⟩ (.cons ⟨_,rfl⟩ .nil)),gP l6 _ (by show 2<=sizeLine; decide) (.cons ⟨_,rfl⟩ (.cons ⟨_,rfl⟩ .nil)),gP l7 _ (by show 2<=sizeLine; decide) (.cons ⟨_,rfl⟩ (.cons ⟨_,rfl⟩ .nil)),gP l8 _ (by show 1<=sizeLine; decide) (.cons ⟨_,rfl⟩ .nil)⟩
 df:=by
  refine ⟨nF,_,_,_,[(.inr "holds",.ref f1),(.inr "not",.ref f2),(.inr "and",.ref f3),(.inr "or",.ref f4),(.inr "knows",.ref f5),(.inr "all",.ref f6),(.inr "common",.ref f7),(.inr "sees",.ref f8)],lF,⟨rfl,rfl,rfl⟩,rfl,?_,?_,?_,?_⟩
  ·intro e he
   simp only [List.mem_toArray,Array.mem_def,List.mem_cons,List.not_mem_nil,or_false] at he
   rcases he with rfl | rfl | rfl | rfl | rfl | rfl | rfl | rfl
   ·exact ⟨.inr "holds",bo P w _ _,rfl⟩
   ·exact ⟨.inr "not",bo P w _ _,rfl⟩
   ·exact ⟨.inr "and",bo P w _ _,rfl⟩
   ·exact ⟨.inr "or",bo P w _ _,rfl⟩
   ·exact ⟨.inr "knows",bo P w _ _,rfl⟩
   ·exact ⟨.inr "all",bo P w _ _,rfl⟩
   ·exact ⟨.inr "common",bo P w _ _,rfl⟩
   ·exact ⟨.inr "sees",bo P w _ _,rfl⟩
  ·exact .cons (bo P w _ _) rfl (.cons (bo P w _ _) rfl (.cons (bo P w _ _) rfl (.cons (bo P w _ _) rfl (.cons (bo P w _ _) rfl (.cons (bo P w _ _) rfl (.cons (bo P w _ _) rfl (.cons (bo P w _ _) rfl .nil)))))))
  ·show ([.inr "holds",.inr "not",.inr "and",.inr "or",.inr "knows",.inr "all",.inr "common",.inr "sees"]:List Key).Nodup
   decide +kernel
  ·exact .cons ⟨rfl,rfl⟩ (.cons ⟨rfl,rfl⟩ (.cons ⟨rfl,rfl⟩ (.cons ⟨rfl,rfl⟩ (.cons ⟨rfl,rfl⟩ (.cons ⟨rfl,rfl⟩ (.cons ⟨rfl,rfl⟩ (.cons ⟨rfl,rfl⟩ .nil)))))))
end L2
end
section
namespace L2
open PySem PySem.Spec PyProof.Rows
noncomputable def CX1 (P:Program) (w:World):CXT:=fun outer H s E e s'=>
 ∃ (a C:Addr) (a0:Value) (H':Hp) (B:Heap),e=.ref a/\s'.os=s.os/\AllBare s'.gens/\Un (frs outer) [] H H' s.heap s'.heap/\HOk P w H' s'.heap/\
  Heap.FlyingW B outer a (.ref C) a0 s'.heap/\(∀ b o,s.heap.get? b=some o->H b=none->b∉frs outer->B.get? b=some o)/\
  (∀ b o,s.heap.get? b=some o->b∉frs outer->∃ o',B.get? b=some o')/\(∀ b u o,H' b=some u->s'.heap.get? b=some o->B.get? b=some o)/\H' a=none/\E (.ref C) (some a) H'
theorem bR.there {P:Program} {w:World} {H:Hp} {h:Heap} {a:Addr} {o:HO} (x:bR P w H h a o):∃ ob,h.get? a=some ob:=by
 cases o with
 | lst xs=>obtain ⟨_,_,_,_,e⟩:=x; exact ⟨_,e⟩
 | tup xs=>obtain ⟨_,_,_,_,e,_⟩:=x; exact ⟨_,e⟩
 | dK kvs=>obtain ⟨_,_,_,_,o,_,_,e,_⟩:=x; exact ⟨_,e⟩
 | dT kvs=>obtain ⟨_,_,_,_,o,_,_,e,_⟩:=x; exact ⟨_,e⟩
 | set S n=>obtain ⟨o,_,_,_,e,_⟩:=x; exact ⟨_,e⟩
 | ins C dx fs=>obtain ⟨_,_,_,e,_⟩:=x; exact ⟨_,e⟩
 | own y=>exact x
 | xd fs=>obtain ⟨_,⟨_,_,_,e,_⟩,_⟩:=x; exact ⟨_,e⟩
 | rng lo hi=>obtain ⟨_,_,_,e⟩:=x; exact ⟨_,e⟩
 | frz ob u=>obtain ⟨e,_⟩:=x; exact ⟨_,e⟩
 | tbl ps=>exact ⟨_,x⟩
 | met f y=>exact ⟨_,x⟩
 | ext φ=>obtain ⟨_,e,_⟩:=x; exact e
theorem HOk.on {P:Program} {w:World} {H:Hp} {h h':Heap} (x:HOk P w H h) (k:∀ b u o,H b=some u->h.get? b=some o->h'.get? b=some o):HOk P w H h':=fun a o e=>
 (x a o e).stay (fun b u hb q=>by
  rcases hb with rfl | hb
  ·exact k _ _ _ e q
  ·exact k _ _ _ hb q) (fun _ q=>q) fun _ _ q=>q
section
variable {P:Program} {w:World} {K:PySem.W.Frag} {mg:Str->Option Value} {base:Heap} {N:List Str} {qual:Str} {scope:Scope} {f:Addr} {cd:Value} {A:Around} {outer:List Env} {s:Shared} {H:Hp} {E:XK}
end
end L2
end
section
namespace L2
open PySem PySem.Spec PyProof.Rows
structure E4 (X:Cx) (pins:List (Addr×Obj)) (H:Hp) (B:Heap):Prop where
 s0:∀ b o,X.s₀.heap.get? b=some o->b∉frs X.stack->∃ o',B.get? b=some o'
 ce:∀ x c,X.env.cells.lookup x=some c->∃ o,B.get? c=some o
 pi:∀ p∈X.pn++pins,B.get? p.1=some p.2
 tr:∀ b u,H b=some u->∃ o,B.get? b=some o
section
variable {X:Cx} {pins:List (Addr×Obj)} {σ:St} {H:Hp} {s:Shared} {B h':Heap}
end
section
variable {X:Cx} {pins pn pins':List (Addr×Obj)} {σ:St} {H:Hp} {s:Shared} {B:Heap} {E:Value->Shared->Prop} {a:Addr}
end
end L2
end
section
namespace L2
open PySem PySem.Spec PySem.W PyProof.Rows
structure ExI (K:Frag) (C:Addr):Prop where
 ga:findIn K (.ref C) "__getattribute__"=some (some (.builtin "BaseException.__getattribute__"))
 gt:findIn K (.ref C) "__getattr__"=some none
 cl:findIn K (.ref C) "__class__"=some (some (.builtin "object.__class__"))
 mo:mroIn K C (.type "object")=some true
 mb:mroIn K C (.type "BaseException")=some true
section
variable {prog:Program} {w:World} {A:Around} {E:Value->Shared->Prop} {h:Heap} {g:Array GenState} {d:Drawn} {t:Nat} {os:OsState} {a:Addr} {o:Obj} {C:Addr} {K:Frag}
end
end L2
end
section
namespace L2
open PySem PySem.Spec PySem.W PyProof.Rows
noncomputable def FnX (P:Program) (w:World) (K:Frag) (mg:Str->Option Value) (base:Heap) (k:Nat) (x:Str) (ps:List Str) (sp:Sp):Prop:=
 ∃ f fd,cb P w K mg base (CX1 P w) k f fd ps sp/\mg x=some (.ref f)/\keepIn K (.ref f)=true/\eZ K fd ps []
theorem FnX.mono {P:Program} {w:World} {K:Frag} {mg:Str->Option Value} {base:Heap} {j k:Nat} {x:Str} {ps:List Str} {sp:Sp} (F:FnX P w K mg base j x ps sp) (h:j<=k):FnX P w K mg base k x ps sp:=by
 obtain ⟨f,fd,ok,r⟩:=F
 exact ⟨f,fd,ok.mono h,r⟩
end L2
end
section
namespace L2
open PySem PySem.Spec PySem.W PyProof.Rows
section
variable {P:Program} {w:World} {K:Frag} {mg:Str->Option Value} {base:Heap} {k:Nat} {f:Addr} {fd:FuncData} {ps:List Str}
theorem cb.up {sp:Sp} (F:cb P w K mg base CX0 k f fd ps sp):cb P w K mg base (CX1 P w) k f fd ps sp:=
 ⟨F.len,fun A outer s H args us vs Q E hr he hb hv hs=>codeAny_mono (F.run A outer s H args us vs Q E hr he hb hv hs) fun r s' h=>by
  cases r with
  | ok fl=>cases fl <;> exact h
  | error e=>exact (show False from h).elim⟩
theorem cb.or {CX:CXT} {sp sp':Sp} (F:cb P w K mg base CX k f fd ps sp) (G:cb P w K mg base CX k f fd ps sp'):cb P w K mg base CX k f fd ps (fun vs H Q E=>sp vs H Q E\/sp' vs H Q E):=
 ⟨fun vs H Q E h=>h.elim (F.len vs H Q E) (G.len vs H Q E),fun A outer s H args us vs Q E hr he hb hv hs=>hs.elim (F.run A outer s H args us vs Q E hr he hb hv) (G.run A outer s H args us vs Q E hr he hb hv)⟩
end
end L2
end
section
namespace L2
open PySem PySem.Spec PySem.W PyProof.Rows
section
variable {P:Program} {w:World} {K:Frag} {mg:Str->Option Value} {base:Heap}
noncomputable def FnM (P:Program) (w:World) (K:Frag) (mg:Str->Option Value) (base:Heap) (k:Nat) (C:Addr) (m:Str) (ps:List Str) (sp:Sp):Prop:=
 ∃ f fd,cb P w K mg base CX0 k f fd ps sp/\tw K C m f/\eZ K fd ps []
theorem FnM.mono {j k:Nat} {C:Addr} {m:Str} {ps:List Str} {sp:Sp} (F:FnM P w K mg base j C m ps sp) (h:j<=k):FnM P w K mg base k C m ps sp:=by
 obtain ⟨f,fd,ok,r⟩:=F
 exact ⟨f,fd,ok.mono h,r⟩
structure mG (K:Frag) (C:Addr) (m qual:Str) (st:Stmt) (ps:List Str) (f:Addr) (fd:FuncData):Prop where
 fn:Fun K m qual st f fd
 mt:tw K C m f
 b:eZ K fd ps []
theorem mG.ok {C:Addr} {m qual:Str} {st:Stmt} {N ps:List Str} {f:Addr} {fd:FuncData} {k:Nat} {sp:Sp} (D:mG K C m qual st ps f fd) (S:aA N ps (aa st)) (len:∀ vs H Q E,sp vs H Q E->vs.length=ps.length)
  (hbody:∀ (cdv:Value) (A:Around) (outer:List Env) (s:Shared) (H:Hp) (vs:List V) (Q:VK) (E:XK),bz k (A.deeper (envOfC qual (aa st) s.heap.objs.size f cdv))->sp vs H Q E->
   ∃ t,PSs (jO CX0 P w K mg base N qual (aa st) f cdv A outer s H E).nox (ay st) t/\t { nx:=fun _ H'=>Q .non H',rt:=Q } (aN N vs) H):FnM P w K mg base (k + 1) C m ps sp:=
 ⟨f,fd,D.fn.ok S len hbody,D.mt,D.b⟩
noncomputable def FnI (P:Program) (w:World) (K:Frag) (mg:Str->Option Value) (base:Heap) (k:Nat) (C:Addr) (ps:List Str) (sp:Sp):Prop:=
 ∃ f fd,cb P w K mg base CX0 k f fd ps sp/\Mk K C f/\eZ K fd ps []
structure uw (K:Frag) (C:Addr) (qual:Str) (st:Stmt) (ps:List Str) (f:Addr) (fd:FuncData):Prop where
 fn:Fun K "__init__" qual st f fd
 made:Mk K C f
 b:eZ K fd ps []
theorem uw.ok {C:Addr} {qual:Str} {st:Stmt} {N ps:List Str} {f:Addr} {fd:FuncData} {k:Nat} {sp:Sp} (D:uw K C qual st ps f fd) (S:aA N ps (aa st)) (len:∀ vs H Q E,sp vs H Q E->vs.length=ps.length)
  (hbody:∀ (cdv:Value) (A:Around) (outer:List Env) (s:Shared) (H:Hp) (vs:List V) (Q:VK) (E:XK),bz k (A.deeper (envOfC qual (aa st) s.heap.objs.size f cdv))->sp vs H Q E->
   ∃ t,PSs (jO CX0 P w K mg base N qual (aa st) f cdv A outer s H E).nox (ay st) t/\t { nx:=fun _ H'=>Q .non H',rt:=Q } (aN N vs) H):FnI P w K mg base (k + 1) C ps sp:=
 ⟨f,fd,D.fn.ok S len hbody,D.made,D.b⟩
end
section
variable {X:Cx} {k:Nat} {C:Addr} {m:Str} {ps:List Str} {sp:Sp} {p pos apos:Pos} {o e:Expr} {es:List Expr} {ta:TE} {t:TA}
theorem dM {a:Expr} {f:Str} {p:Pos} {te:TE} (ha:PE X (.Attribute a f p) te) (hr:PA X es t):PA X (.Attribute a f p :: es) (ab te t):=fZ ha hr rfl
theorem ow {pl:Sem Bool} (F:FnM X.prog X.w X.K X.mg X.base k C m ps sp) (hr:bz k X.A) (c:Cls X.K C) (he:PE X o ta) (ha:PA X (e :: es) t)
  (hst:starEach (e :: es) X.env=(false,eval e X.env) :: starEach es X.env:=by rfl) (hpl:(backTo pos (starEach es X.env)).any (·.1)=false:=by rfl)
  (ht:eval (.Call (.Attribute o m apos) (e :: es) [] pos) X.env=(do
   let ov <-eval o X.env
   standAt apos.atName
   let (f,first) <-holding [ov] (getMethod ov m pl)
   callWith pos f first (backTo pos (starEach (e :: es) X.env)) (backToKw pos (keywordEach [] X.env))):=by rfl):
  PE X (.Call (.Attribute o m apos) (e :: es) [] pos) (jq C m sp [] E0 ta t):=by
 obtain ⟨f,fd,ok,mt,b⟩:=F
 exact Bp he c mt ok hr b .nil sT ha hst hpl ht
theorem yW {pl:Sem Bool} (F:FnM X.prog X.w X.K X.mg X.base k C m ps sp) (hr:bz k X.A) (c:Cls X.K C) (he:PE X o ta)
  (ht:eval (.Call (.Attribute o m apos) [] [] pos) X.env=(do
   let ov <-eval o X.env
   standAt apos.atName
   let (f,first) <-holding [ov] (getMethod ov m pl)
   callWith pos f first (backTo pos (starEach [] X.env)) (backToKw pos (keywordEach [] X.env))):=by rfl):
  PE X (.Call (.Attribute o m apos) [] [] pos) (jq C m sp [] E0 ta ai):=by
 obtain ⟨f,fd,ok,mt,b⟩:=F
 exact zM he c mt ok hr b .nil sT ht
theorem Ao {x:Str} (F:FnI X.prog X.w X.K X.mg X.base k C ps sp) (hr:bz (k + 1) X.A) (hm:X.mg x=some (.ref C)) (ha:PA X (e :: es) t) (hg:Gl X x:=by rfl)
  (hdb:(x == ("__debug__":Str))=false:=by decide) (he:starEach (e :: es) X.env=(false,eval e X.env) :: starEach es X.env:=by rfl) (hpl:(backTo pos (starEach es X.env)).any (·.1)=false:=by rfl):
  PE X (.Call (.Name x p) (e :: es) [] pos) (sH C sp [] E0 t):=by
 obtain ⟨f,fd,ok,mk,b⟩:=F
 exact Bq mk ok hr hg hm b .nil sT ha hdb he hpl
end
end L2
end
section
namespace L2
open PySem PySem.Spec PySem.W PyProof.Rows
structure xw (K:Frag) (C:Addr):Prop where
 cl:Cls K C
 n1:eC K C "dealt"
 n2:eC K C "cards"
 n3:eC K C "sizes"
 n4:eC K C "hands"
 n5:eC K C "views"
 n6:eC K C "deeds"
structure GF extends Glo where
 Table:Addr
structure ic (P:Program) (w:World) (K:Frag) (mg:Str->Option Value) (G:GF):Prop where
 tb:xv P w K mg G.toGlo
 m_Table:mg "Table"=some (.ref G.Table)
 ct:xw K G.Table
theorem ic.cl_Table {P:Program} {w:World} {K:Frag} {mg:Str->Option Value} {G:GF} (T:ic P w K mg G):Cls K G.Table:=T.ct.cl
theorem Ap {P:Program} {w:World} {K:Frag} {mg:Str->Option Value} {G:Glo} {aT:Addr} (t:xv P w K mg G) (m:mg "Table"=some (.ref aT)) (pg:plainGet K aT Str.empty=true) (hd:hasDictIn K aT=true) (po:plainOver K aT=true) (sa:findIn K (.ref aT) "__setattr__"=some (some (.builtin "object.__setattr__")))
  (n1:findIn K (.ref aT) "dealt"=some none) (n2:findIn K (.ref aT) "cards"=some none) (n3:findIn K (.ref aT) "sizes"=some none) (n4:findIn K (.ref aT) "hands"=some none) (n5:findIn K (.ref aT) "views"=some none) (n6:findIn K (.ref aT) "deeds"=some none):ic P w K mg ⟨G,aT⟩:=
 ⟨t,m,⟨⟨pg,hd,po,sa⟩,n1,n2,n3,n4,n5,n6⟩⟩
end L2
end
section
namespace L2
open PySem PyProof.Rows
theorem kI {K:PySem.W.Frag} {ta tv:TE} {f:Str} {D:iH} {σ:St} {H:Hp} (h:tv σ H fun y H1=>ta σ H1 fun x H2=>∃ a C dx fs,x=.ref a/\H2 a=some (.ins C dx fs)/\Cls K C/\eC K C f/\fs.length < 1000/\D.nx σ (upd H2 a (.ins C dx (fQ f y fs)))):lb K ta tv f D σ H:=h
theorem lp {K:PySem.W.Frag} {ta:TE} {f:Str} {σ:St} {H:Hp} {Q:VK} (h:ta σ H fun x H1=>∃ a C dx fs v,x=.ref a/\H1 a=some (.ins C dx fs)/\Cls K C/\eC K C f/\fs.lookup f=some v/\Q v H1):la K ta f σ H Q:=h
theorem Dg {C:Addr} {sp:Sp} {dvs:List V} {E:XK} {t:TA} {σ:St} {H:Hp} {Q:VK} (h:t σ H fun vs H1=>∀ x dx,H1 x=none->H1 dx=none->dx≠x->sp (.ref x :: (vs++dvs)) (upd (upd H1 dx (.own x)) x (.ins C dx [])) (fun v H2=>v=.non/\Q (.ref x) H2) E):sH C sp dvs E t σ H Q:=h
theorem pJ {C:Addr} {m:Str} {sp:Sp} {dvs:List V} {E:XK} {ta:TE} {t:TA} {σ:St} {H:Hp} {Q:VK} (h:ta σ H fun x H1=>∃ a dx fs,x=.ref a/\H1 a=some (.ins C dx fs)/\fs.lookup m=none/\t σ H1 fun vs H2=>sp (x :: (vs++dvs)) H2 Q E):jq C m sp dvs E ta t σ H Q:=h
noncomputable def Kx (x:Addr) (H H':Hp):Prop:=∀ b o,b≠x->H b=some o->H' b=some o
theorem Kx.refl (x:Addr) (H:Hp):Kx x H H:=fun _ _ _ e=>e
theorem Kx.same {x:Addr} {H H1 H2:Hp} (k:Kx x H H1) (s:al H1 H2):Kx x H H2:=fun b o n e=>s _ _ (k b o n e)
theorem Kx.upd {x:Addr} {H H1:Hp} {u:HO} (k:Kx x H H1):Kx x H (L2.upd H1 x u):=fun b o n e=>by rw [aB n]; exact k b o n e
noncomputable def gz (G:GF) (av:Addr) (H:Hp) (x:Addr) (c k:Nat) (ws:List (List Nat)):Prop:=
 ∃ (dx pd ps pv pe:Addr) (vs:List V),H x=some (.ins G.Table dx [("dealt",.ref pd),("cards",.int c),("sizes",.ref ps),("hands",.int k),("views",.ref pv),("deeds",.ref pe)])/\bx H pd ws/\H pv=some (.lst vs)/\vs.length=k/\
  (∀ i:Nat,i < k->∃ q,vs[i]?=some (.ref q)/\H q=some (.lst (aw (kH ws (i:Int))))/\q≠av)/\H pe=some (.lst [])/\(x≠av/\pd≠av/\pv≠av/\pe≠av)
theorem gz.same {G:GF} {av:Addr} {H H':Hp} {x:Addr} {c k:Nat} {ws:List (List Nat)} (t:gz G av H x c k ws) (s:al H H'):gz G av H' x c k ws:=by
 obtain ⟨dx,pd,ps,pv,pe,vs,h1,h2,h3,h4,h5,h6,h7⟩:=t
 exact ⟨dx,pd,ps,pv,pe,vs,s _ _ h1,h2.same' s,s _ _ h3,h4,fun i hi=>by obtain ⟨q,e1,e2,e3⟩:=h5 i hi; exact ⟨q,e1,s _ _ e2,e3⟩,s _ _ h6,h7⟩
theorem gz.off {G:GF} {av:Addr} {H H':Hp} {x:Addr} {c k:Nat} {ws:List (List Nat)} {zs:List V} (t:gz G av H x c k ws) (ea:H av=some (.lst zs)) (o:Off av H H'):gz G av H' x c k ws:=by
 obtain ⟨dx,pd,ps,pv,pe,vs,h1,⟨rs,d1,d2⟩,h3,h4,h5,h6,n1,n2,n3,n4⟩:=t
 exact ⟨dx,pd,ps,pv,pe,vs,(o _ n1).trans h1,⟨rs,(o _ n2).trans d1,Paired.mapP d2 fun a w e=>(o _ fun z=>by rw [z,ea] at e; cases e).trans e⟩,(o _ n3).trans h3,h4,fun i hi=>by obtain ⟨q,e1,e2,e3⟩:=h5 i hi; exact ⟨q,e1,(o _ e3).trans e2,e3⟩,(o _ n4).trans h6,n1,n2,n3,n4⟩
theorem iN {H H':Hp} {x p:Addr} {ws:List (List Nat)} {C dx:Addr} {fs:List (Str×V)} (D:bx H p ws) (hx:H x=some (.ins C dx fs)) (k:Kx x H H'):bx H' p ws:=by
 obtain ⟨rs,e,hr⟩:=D
 refine ⟨rs,k _ _ (fun z=>by rw [z,hx] at e; cases e) e,Paired.mapP hr fun a w e=>k _ _ (fun z=>by rw [z,hx] at e; cases e) e⟩
theorem mH {H:Hp} {x b:Addr} {C dx:Addr} {fs:List (Str×V)} {xs:List V} (hx:H x=some (.ins C dx fs)) (e:H b=some (.lst xs)):b≠x:=fun z=>by rw [z,hx] at e; cases e
noncomputable def ei (_:PySem.W.Frag) (G:GF):Sp:=fun vs H Q _=>∃ (x dx a:Addr) (c:Nat) (ss:List Nat),vs=[.ref x,.int c,.ref a]/\H x=some (.ins G.Table dx [])/\H a=some (.lst (aw ss))/\um c ss/\KM.fv c ss<=2000/\
 ∀ H',Kx x H H'->gz G a H' x c ss.length (KM.cP (ss++[c - ss.sum]) c)->Q .non H'
noncomputable def ie (K:PySem.W.Frag) (G:GF):TS:=(aq (lb K (ac 0) (az (fJ K) [] E0 (ab (ac 1) (ab (ac 2) ai))) "dealt")
 (aq (lb K (ac 0) (ac 1) "cards")
 (aq (lb K (ac 0) (tCB (mz K) (ab (ac 2) ai)) "sizes")
 (aq (lb K (ac 0) (tCB (fO K) (ab (ac 2) ai)) "hands")
 (aq (lb K (ac 0) (bT (fP (ab (la K (ac 0) "hands") ai)) (fun _ _ _ _=>(am 0)) (fun _ _ _ _=>b8) (fun _ _ _ _=>(az (eh K) [] E0 (ab (la K (ac 1) "dealt") (ab (ac 0) ai)))) [none,some 0]) "views")
 (lb K (ac 0) (cE ai) "deeds"))))))
noncomputable abbrev ux:List Str:=["self","cards","sizes"]
theorem qx {K:PySem.W.Frag} {G:GF} {vs:List V} {H:Hp} {Q:VK} {E:XK} (h:ei K G vs H Q E):vs.length=3:=by
 obtain ⟨x,dx,a,c,ss,rfl,_⟩:=h
 rfl
theorem rN {K:PySem.W.Frag} {G:GF} (ct:xw K G.Table) {vs:List V} {H:Hp} {Q:VK} {E:XK} (h:ei K G vs H Q E):ie K G { nx:=fun _ H'=>Q .non H',rt:=Q } (aN ux vs) H:=by
 obtain ⟨x,dx,a,c,ss,rfl,hx,e,pk,hm,q⟩:=h
 have h5:=pk.l5
 have nxa:a≠x:=fun z=>by rw [z,hx] at e; cases e
 show ie K G _ [some _,some _,some _] _
 unfold ie
 refine cY (kI ?_)
 walk_at "rd"
 refine ⟨c,a,ss,rfl,e,pk,hm,fun p H1 s1 hp D1=>?_⟩
 have hws:∀ w∈KM.cP (ss++[c - ss.sum]) c,w.length<=1000:=fun w hw=>by
  have:=(KM.gx _ c w hw).len
  have:=pk.c12
  omega
 have hwl:(KM.cP (ss++[c - ss.sum]) c).length<=2000:=by rw [KM.kj pk.sum]; exact hm
 generalize KM.cP (ss++[c - ss.sum]) c=ws at *
 walk_at "rd"
 refine ⟨x,G.Table,dx,[],rfl,s1 _ _ hx,ct.cl,ct.n1,by simp,?_⟩
 have k2:Kx x H (upd H1 x (.ins G.Table dx [("dealt",.ref p)])):=Kx.upd (Kx.same (Kx.refl x H) s1)
 have x2:(upd H1 x (.ins G.Table dx [("dealt",.ref p)])) x=some (.ins G.Table dx [("dealt",.ref p)]):=ap
 have D2:bx (upd H1 x (.ins G.Table dx [("dealt",.ref p)])) p ws:=iN D1 (s1 _ _ hx) (Kx.upd (Kx.refl x H1))
 have a2:(upd H1 x (.ins G.Table dx [("dealt",.ref p)])) a=some (.lst (aw ss)):=k2 _ _ nxa e
 show aq _ _ _ _ (upd H1 x (.ins G.Table dx [("dealt",.ref p)]))
 generalize upd H1 x (.ins G.Table dx [("dealt",.ref p)])=H2 at *
 refine cY (kI ?_)
 walk_at "rd"
 refine ⟨x,G.Table,dx,_,rfl,x2,ct.cl,ct.n2,by simp,?_⟩
 have k3:Kx x H (upd H2 x (.ins G.Table dx [("dealt",.ref p),("cards",.int c)])):=k2.upd
 have x3:(upd H2 x (.ins G.Table dx [("dealt",.ref p),("cards",.int c)])) x=some (.ins G.Table dx [("dealt",.ref p),("cards",.int c)]):=ap
 have D3:bx (upd H2 x (.ins G.Table dx [("dealt",.ref p),("cards",.int c)])) p ws:=iN D2 x2 (Kx.upd (Kx.refl x H2))
 have a3:(upd H2 x (.ins G.Table dx [("dealt",.ref p),("cards",.int c)])) a=some (.lst (aw ss)):=k3 _ _ nxa e
 show aq _ _ _ _ (upd H2 x (.ins G.Table dx [("dealt",.ref p),("cards",.int c)]))
 generalize upd H2 x (.ins G.Table dx [("dealt",.ref p),("cards",.int c)])=H3 at *
 refine cY (kI ?_)
 walk_at "rd"
 refine tT (SqL.of a3) fun l4 H4 hl4 s4 e4=>?_
 walk_at "rd"
 refine ⟨x,G.Table,dx,_,rfl,s4 _ _ x3,ct.cl,ct.n3,by simp,?_⟩
 have k5:Kx x H (upd H4 x (.ins G.Table dx [("dealt",.ref p),("cards",.int c),("sizes",.ref l4)])):=(k3.same s4).upd
 have x5:(upd H4 x (.ins G.Table dx [("dealt",.ref p),("cards",.int c),("sizes",.ref l4)])) x=some (.ins G.Table dx [("dealt",.ref p),("cards",.int c),("sizes",.ref l4)]):=ap
 have D5:bx (upd H4 x (.ins G.Table dx [("dealt",.ref p),("cards",.int c),("sizes",.ref l4)])) p ws:=iN (D3.same' s4) (s4 _ _ x3) (Kx.upd (Kx.refl x H4))
 have a5:(upd H4 x (.ins G.Table dx [("dealt",.ref p),("cards",.int c),("sizes",.ref l4)])) a=some (.lst (aw ss)):=k5 _ _ nxa e
 show aq _ _ _ _ (upd H4 x (.ins G.Table dx [("dealt",.ref p),("cards",.int c),("sizes",.ref l4)]))
 generalize upd H4 x (.ins G.Table dx [("dealt",.ref p),("cards",.int c),("sizes",.ref l4)])=H5 at *
 refine cY (kI ?_)
 walk_at "rd"
 rw [cF]
 refine ⟨x,G.Table,dx,_,rfl,x5,ct.cl,ct.n4,by simp,?_⟩
 have k6:Kx x H (upd H5 x (.ins G.Table dx [("dealt",.ref p),("cards",.int c),("sizes",.ref l4),("hands",.int ss.length)])):=k5.upd
 have x6:(upd H5 x (.ins G.Table dx [("dealt",.ref p),("cards",.int c),("sizes",.ref l4),("hands",.int ss.length)])) x=some (.ins G.Table dx [("dealt",.ref p),("cards",.int c),("sizes",.ref l4),("hands",.int ss.length)]):=ap
 have a6:(upd H5 x (.ins G.Table dx [("dealt",.ref p),("cards",.int c),("sizes",.ref l4),("hands",.int ss.length)])) a=some (.lst (aw ss)):=k6 _ _ nxa e
 have D6:bx (upd H5 x (.ins G.Table dx [("dealt",.ref p),("cards",.int c),("sizes",.ref l4),("hands",.int ss.length)])) p ws:=iN D5 x5 (Kx.upd (Kx.refl x H5))
 show aq _ _ _ _ (upd H5 x (.ins G.Table dx [("dealt",.ref p),("cards",.int c),("sizes",.ref l4),("hands",.int ss.length)]))
 generalize upd H5 x (.ins G.Table dx [("dealt",.ref p),("cards",.int c),("sizes",.ref l4),("hands",.int ss.length)])=H6 at *
 refine cY (kI ?_)
 walk_at "rd"
 refine lp ?_
 walk_at "rd"
 refine ⟨x,G.Table,dx,_,_,rfl,x6,ct.cl,ct.n4,rfl,?_⟩
 walk_at "rd"
 refine yS ss.length (by omega) (by omega) (by omega) (fun p' i acc H2=>acc.length=i/\∀ j:Nat,j < i->∃ q,acc[j]?=some (.ref q)/\(q≠p'/\q≠a)/\H2 q=some (.lst (aw (kH ws (j:Int))))) (fun _ _ _=>⟨rfl,fun j hj=>absurd hj (Nat.not_lt_zero _)⟩) ?_ ?_
 ·intro p' hp' C s' H' fp i acc H7 hi ⟨s7,e7,l7,r7⟩
  walk_at "rd"
  refine lp ?_
  walk_at "rd"
  refine ⟨x,G.Table,dx,_,_,rfl,s7 _ _ x6,ct.cl,ct.n1,rfl,?_⟩
  walk_at "rd"
  refine ⟨p,ws,(i:Int),rfl,D6.same' s7,hws,by omega,fun q8 H8 hq8 s8 e8=>?_⟩
  obtain ⟨r1,r2⟩:=r7
  refine aZ.putW hp' (s7.trans s8) (s8 _ _ e7) l7 fun H9 o9=>⟨by rw [List.length_append,r1]; rfl,fun j hj=>?_⟩
  by_cases hj2:j < i
  ·obtain ⟨q,h1,h2,h3⟩:=r2 j hj2
   exact ⟨q,by rw [List.getElem?_append_left (by omega)]; exact h1,h2,(o9 _ h2.1).trans (s8 _ _ h3)⟩
  ·have ej:j=i:=by omega
   subst ej
   have hqp:q8≠p':=fun z=>by rw [z,e7] at hq8; cases hq8
   exact ⟨q8,by rw [List.getElem?_append_right (by omega),r1,Nat.sub_self]; rfl,⟨hqp,Ne.symm (aH (s7 _ _ a6) hq8)⟩,(o9 _ hqp).trans e8⟩
 ·intro pv acc H7 hpv s7 e7 ⟨r1,r2⟩
  walk_at "rd"
  refine ⟨x,G.Table,dx,_,rfl,s7 _ _ x6,ct.cl,ct.n5,by simp,?_⟩
  have k8:Kx x H (upd H7 x (.ins G.Table dx [("dealt",.ref p),("cards",.int c),("sizes",.ref l4),("hands",.int ss.length),("views",.ref pv)])):=(k6.same s7).upd
  have x8:(upd H7 x (.ins G.Table dx [("dealt",.ref p),("cards",.int c),("sizes",.ref l4),("hands",.int ss.length),("views",.ref pv)])) x=some (.ins G.Table dx [("dealt",.ref p),("cards",.int c),("sizes",.ref l4),("hands",.int ss.length),("views",.ref pv)]):=ap
  have kk:Kx x H7 (upd H7 x (.ins G.Table dx [("dealt",.ref p),("cards",.int c),("sizes",.ref l4),("hands",.int ss.length),("views",.ref pv)])):=Kx.upd (Kx.refl x H7)
  have D8:=iN (D6.same' s7) (s7 _ _ x6) kk
  have a8:=kk _ _ nxa (s7 _ _ a6)
  have v8:=kk _ _ (mH (s7 _ _ x6) e7) e7
  have r8:∀ j:Nat,j < ss.length->∃ q,acc[j]?=some (.ref q)/\q≠a/\(upd H7 x (.ins G.Table dx [("dealt",.ref p),("cards",.int c),("sizes",.ref l4),("hands",.int ss.length),("views",.ref pv)])) q=some (.lst (aw (kH ws (j:Int)))):=fun j hj=>by
   obtain ⟨q,h1,h2,h3⟩:=r2 j hj
   exact ⟨q,h1,h2.2,kk _ _ (mH (s7 _ _ x6) h3) h3⟩
  show lb _ _ _ _ _ _ (upd H7 x (.ins G.Table dx [("dealt",.ref p),("cards",.int c),("sizes",.ref l4),("hands",.int ss.length),("views",.ref pv)]))
  generalize upd H7 x (.ins G.Table dx [("dealt",.ref p),("cards",.int c),("sizes",.ref l4),("hands",.int ss.length),("views",.ref pv)])=H8 at *
  refine kI ?_
  walk_at "rd"
  refine ⟨by simp [sizeLine_eq],fun pe H9 hpe s9 e9=>?_⟩
  walk_at "rd"
  refine ⟨x,G.Table,dx,_,rfl,s9 _ _ x8,ct.cl,ct.n6,by simp,?_⟩
  have kz:Kx x H9 (upd H9 x (.ins G.Table dx [("dealt",.ref p),("cards",.int c),("sizes",.ref l4),("hands",.int ss.length),("views",.ref pv),("deeds",.ref pe)])):=Kx.upd (Kx.refl x H9)
  refine q _ (Kx.upd (k8.same s9)) ⟨dx,p,l4,pv,pe,acc,ap,iN (D8.same' s9) (s9 _ _ x8) kz,kz _ _ (mH (s9 _ _ x8) (s9 _ _ v8)) (s9 _ _ v8),r1,fun i hi=>?_,kz _ _ (mH (s9 _ _ x8) e9) e9,Ne.symm nxa,Ne.symm (aH e hp),Ne.symm (aH a6 hpv),Ne.symm (aH a8 hpe)⟩
  obtain ⟨q',h1,h2,h3⟩:=r8 i hi
  exact ⟨q',h1,kz _ _ (mH (s9 _ _ x8) (s9 _ _ h3)) (s9 _ _ h3),h2⟩
noncomputable def dW (_:PySem.W.Frag) (G:GF):Sp:=fun vs H Q _=>∃ (x av:Addr) (c k:Nat) (ws:List (List Nat)),vs=[.ref x]/\gz G av H x c k ws/\∀ (p:Addr) (H':Hp),H p=none->al H H'->bx H' p ws->Q (.ref p) H'
noncomputable def gA (K:PySem.W.Frag) (G:GF):TS:=(aL (tCB (mz K) (ab (la K (ac 0) "dealt") ai)))
noncomputable abbrev rO:List Str:=["self"]
theorem pK {K:PySem.W.Frag} {G:GF} {vs:List V} {H:Hp} {Q:VK} {E:XK} (h:dW K G vs H Q E):vs.length=1:=by
 obtain ⟨x,av,c,k,ws,rfl,_⟩:=h
 rfl
theorem qy {K:PySem.W.Frag} {G:GF} (ct:xw K G.Table) {vs:List V} {H:Hp} {Q:VK} {E:XK} (h:dW K G vs H Q E):gA K G { nx:=fun _ H'=>Q .non H',rt:=Q } (aN rO vs) H:=by
 obtain ⟨x,av,c,k,ws,rfl,⟨dx,pd,ps,pv,pe,vs,hx,D,ev,lv,hv,ee,_⟩,q⟩:=h
 show gA K G _ [some _] _
 unfold gA
 walk_at "rd"
 refine lp ?_
 walk_at "rd"
 refine ⟨x,G.Table,dx,_,_,rfl,hx,ct.cl,ct.n1,rfl,?_⟩
 walk_at "rd"
 obtain ⟨rs,er,hr⟩:=D
 refine tT (SqL.of er) fun p H1 hp s1 e1=>?_
 exact q p H1 hp s1 ⟨rs,e1,Paired.mapP hr fun a w e=>s1 _ _ e⟩
end L2
end
section
namespace L2
open PySem PyProof.Rows
theorem mI {α:Type} {ks:List α} {i:Nat} {k:α} (hk:ks[i]?=some k):ks.take (i + 1)=ks.take i++[k]:=by
 rw [List.take_add_one,hk]; rfl
theorem wz {α β:Type} {R:α->β->Prop} {x:α} {y:β}:∀ {xs:List α} {ys:List β},Paired R xs ys->R x y->Paired R (xs++[x]) (ys++[y])
 | _,_,.nil,q=>.cons q .nil
 | _,_,.cons r t,q=>.cons r (wz t q)
theorem Bg {α β:Type} {R:α->β->Prop}:∀ {xs:List α} {ys:List β},Paired R xs ys->∀ {i:Nat} {x:α},xs[i]?=some x->∃ y,ys[i]?=some y/\R x y
 | _,_,.nil,i,x,e=>by cases e
 | _,_,.cons r t,0,x,e=>by cases e; exact ⟨_,rfl,r⟩
 | _,_,.cons r t,i + 1,x,e=>Bg t e
theorem yX {α β:Type} {R:α->β->Prop}:∀ {xs:List α} {ys:List β},Paired R xs ys->∀ {i:Nat} {y:β},ys[i]?=some y->∃ x,xs[i]?=some x/\R x y
 | _,_,.nil,i,x,e=>by cases e
 | _,_,.cons r t,0,x,e=>by cases e; exact ⟨_,rfl,r⟩
 | _,_,.cons r t,i + 1,x,e=>yX t e
theorem nv {rs:List Addr} {i:Nat} {x:V} (hx:(rs.map V.ref)[i]?=some x):∃ a,rs[i]?=some a/\x=.ref a:=by
 rw [List.getElem?_map] at hx
 cases h:rs[i]? with
 | none=>rw [h] at hx; cases hx
 | some a=>rw [h] at hx; cases hx; exact ⟨a,rfl,rfl⟩
theorem kJ {bs:List Bool} {j:Nat} {z:Bool} (h:bs[j]?=some z):atI (bs.map V.bl) (j:Int)=some (.bl z):=fH (by rw [List.getElem?_map,h]; rfl)
section
variable {α:Type} {f:α->List V} {H H' H2 H5:Hp} {p r:Addr} {rs:List Addr} {fs:List α} {v:α}
noncomputable def LsP (f:α->List V) (H:Hp) (rs:List Addr) (fs:List α):Prop:=Paired (fun (a:Addr) (v:α)=>H a=some (.lst (f v))) rs fs
noncomputable def Aq (f:α->List V) (H:Hp) (p:Addr) (fs:List α):Prop:=∃ rs:List Addr,H p=some (.lst (rs.map V.ref))/\LsP f H rs fs
theorem LsP.same (h:LsP f H rs fs) (s:al H H'):LsP f H' rs fs:=Paired.mapP h fun _ _ q=>s _ _ q
theorem Aq.same (h:Aq f H p fs) (s:al H H'):Aq f H' p fs:=let ⟨rs,e,q⟩:=h; ⟨rs,s _ _ e,q.same s⟩
noncomputable def ig (f:α->List V) (p:Addr) (H:Hp) (rs:List Addr) (fs:List α):Prop:=Paired (fun (a:Addr) (v:α)=>a≠p/\H a=some (.lst (f v))) rs fs
theorem ig.ls (h:ig f p H rs fs):LsP f H rs fs:=Paired.mapP h fun _ _ q=>q.2
theorem ig.same (h:ig f p H rs fs) (s:al H H'):ig f p H' rs fs:=Paired.mapP h fun _ _ q=>⟨q.1,s _ _ q.2⟩
theorem ig.off (h:ig f p H rs fs) (o:Off p H H'):ig f p H' rs fs:=Paired.mapP h fun _ _ q=>⟨q.1,by rw [o _ q.1]; exact q.2⟩
theorem LsP.len (h:LsP f H rs fs):rs.length=fs.length:=Paired.length h
theorem ig.len (h:ig f p H rs fs):rs.length=fs.length:=Paired.length h
theorem LsP.get (h:LsP f H rs fs) {i:Nat} {a:Addr} (e:rs[i]?=some a):∃ v,fs[i]?=some v/\H a=some (.lst (f v)):=Bg h e
theorem LsP.of (h:LsP f H rs fs) {i:Nat} {v:α} (e:fs[i]?=some v):∃ a,rs[i]?=some a/\H a=some (.lst (f v)):=yX h e
noncomputable def Ar (f:α->List V) (H:Hp) (p:Addr) (fs:List α) (i:Nat) (acc:List V) (H2:Hp):Prop:=
 al H H2/\H2 p=some (.lst acc)/\acc.length<=i/\∃ rs:List Addr,acc=rs.map V.ref/\ig f p H2 rs (fs.take i)
theorem Ar.put {i:Nat} {acc:List V} (hp:H p=none) (h:Ar f H p fs i acc H2) (hv:fs[i]?=some v) (hr:H2 r=none) (s:al H2 H5) (e:H5 r=some (.lst (f v))):
  H5 p=some (.lst acc)/\Ar f H p fs (i + 1) (acc++[.ref r]) (upd H5 p (.lst (acc++[.ref r]))):=by
 obtain ⟨s2,e2,l2,rs,rfl,h2⟩:=h
 have nr:r≠p:=(aH e2 hr).symm
 refine ⟨s _ _ e2,(s2.trans s).upd hp _,ap,by simp at l2 ⊢; omega,rs++[r],by simp,?_⟩
 rw [mI hv]
 exact wz ((h2.same s).off kE) ⟨nr,by rw [aB nr]; exact e⟩
end
section
variable {α:Type} {f:α->List V} {g:CF TG} {tt:CF TT} {te:CF TE} {σ₀:St} {Q:VK} {H:Hp} {K:PySem.W.Frag}
end
end L2
end
section
namespace L2
open PySem PyProof.Rows
noncomputable def dkP (kvs:List (Key×V)) (i:Int) (v:V):List (Key×V):=
 if (kvs.any fun kv=>decide (kv.1=(Sum.inl i:Key)))=true then kvs.map (fun kv=>if kv.1=(Sum.inl i:Key) then (kv.1,v) else kv) else kvs++[((Sum.inl i:Key),v)]
noncomputable def DkI (kvs:List (Key×V)):Prop:=∀ p∈kvs,∃ i:Int,p.1=Sum.inl i
theorem DkI.put {kvs:List (Key×V)} (h:DkI kvs) (i:Int) (v:V):DkI (dkP kvs i v):=by
 unfold dkP
 split
 ·intro p hp
  obtain ⟨q,hq,rfl⟩:=List.mem_map.mp hp
  by_cases e:q.1=Sum.inl i
  ·rw [if_pos e]; exact ⟨i,e⟩
  ·rw [if_neg e]; exact h q hq
 ·intro p hp
  rcases List.mem_append.mp hp with hp | hp
  ·exact h p hp
  ·rw [List.mem_singleton.mp hp]; exact ⟨i,rfl⟩
section
variable {σ:St} {H:Hp} {Q:VK} {a:Addr} {kvs:List (Key×V)} {i:Int} {v:V}
end
section
variable {g:CF TG} {tt:CF TT} {te:CF TE} {σ₀:St} {Q:VK} {H:Hp}
end
end L2
end
section
namespace L2
open PySem PyProof.Rows
theorem xx {α:Type} [DecidableEq α]:∀ {l m:List α},l.Nodup->(∀ x∈l,x∈m)->l.length<=m.length
 | [],m,_,_=>Nat.zero_le _
 | x :: l,m,nd,h=>by
  have hx:=h x (by simp)
  rw [List.nodup_cons] at nd
  have:=xx (m:=m.erase x) nd.2 fun y hy=>(List.mem_erase_of_ne (fun (e:y=x)=>nd.1 (e ▸ hy))).mpr (h y (by simp [hy]))
  rw [List.length_erase_of_mem hx] at this
  have hp:0 < m.length:=List.length_pos_of_mem hx
  simp only [List.length_cons]
  omega
theorem Es {α:Type} [DecidableEq α] {l m:List α} (h1:l.Nodup) (h2:m.Nodup) (h:∀ x,x∈l↔x∈m):l.length=m.length:=Nat.le_antisymm (xx h1 fun x hx=>(h x).mp hx) (xx h2 fun x hx=>(h x).mpr hx)
end L2
end
section
namespace L2
open PySem PyProof.Rows
noncomputable def isN:V->Bool
 | .non=>true
 | _=>false
noncomputable def gQ:R2:=fun x y H Q=>y=.non/\Q (.bl (isN x)) H
theorem fz {x:V} {H:Hp} {Q:VK} (h:Q (.bl (isN x)) H):gQ x .non H Q:=⟨rfl,h⟩
noncomputable def xy (K:PySem.W.Frag):List V->Hp->VK->Prop:=fun xs H Q=>∃ (p:Addr) (ns:List Int),xs=[.ref p]/\SqL K H p (ns.map V.int)/\ns.length<=1000/\∀ (q:Addr) (H':Hp) (S:Int->Bool) (n:Nat),H q=none->al H H'->H' q=some (.set S n)->n<=ns.length->(∃ L:List Int,L.Nodup/\(∀ x,x∈L↔x∈ns)/\n=L.length)->Q (.ref q) H'
noncomputable def xz:List V->Hp->VK->Prop:=fun xs H Q=>∃ (p:Addr) (S:Int->Bool) (n:Nat),xs=[.ref p]/\H p=some (.set S n)/\n<=1000000/\Q (.int (n:Int)) H
noncomputable def wA (K:PySem.W.Frag) (ta:TA):TE:=tCB xz (ab (tCB (xy K) ta) ai)
theorem yY {K:PySem.W.Frag} {σ:St} {H:Hp} {Q:VK} {p:Addr} {ns:List Int} (e:SqL K H p (ns.map V.int)) (hl:ns.length<=1000) (h:∀ (L:List Int) (H':Hp),al H H'->L.Nodup->(∀ x,x∈L↔x∈ns)->Q (.int (L.length:Int)) H'):
  xy K [.ref p] H fun x H1=>ai σ H1 fun xs H2=>xz (x :: xs) H2 Q:=
 ⟨p,ns,rfl,e,hl,fun q H' S n _ s e2 hn ⟨L,nd,hm,hi⟩=>⟨q,S,n,rfl,e2,by omega,by rw [hi]; exact h L H' s nd hm⟩⟩
end L2
end
section
namespace L2
open PySem
end L2
end
section
namespace L2
open PySem PyProof.Rows
noncomputable abbrev Cl:=Nat×List Bool
noncomputable def ClP (H:Hp) (a:Addr) (c:Cl):Prop:=∃ l,H a=some (.tup [.int (c.1:Int),.ref l])/\H l=some (.lst (c.2.map V.bl))
noncomputable def ii (H:Hp) (p:Addr) (cs:List Cl):Prop:=∃ as:List Addr,H p=some (.lst (as.map V.ref))/\Paired (ClP H) as cs
theorem ClP.same {H H':Hp} (s:al H H') {a:Addr} {c:Cl} (h:ClP H a c):ClP H' a c:=let ⟨l,e,q⟩:=h; ⟨l,s _ _ e,s _ _ q⟩
theorem ii.same {H H':Hp} (s:al H H') {p:Addr} {cs:List Cl} (h:ii H p cs):ii H' p cs:=let ⟨as,e,q⟩:=h; ⟨as,s _ _ e,Paired.mapP q fun _ _ x=>x.same s⟩
theorem kK {α β:Type} {F:α->β->Prop} {l:List α} {m:List β} (h:Paired F l m):l.length=m.length:=by
 induction h with
 | nil=>rfl
 | cons _ _ ih=>rw [List.length_cons,List.length_cons,ih]
theorem uz {α β:Type} {F:α->β->Prop} {l:List α} {m:List β} (h:Paired F l m):∀ {i:Nat} {x:α},l[i]?=some x->∃ y,m[i]?=some y/\F x y:=by
 induction h with
 | nil=>intro i x e; cases e
 | cons q _ ih=>
  intro i x e
  cases i with
  | zero=>cases e; exact ⟨_,rfl,q⟩
  | succ i=>exact ih e
noncomputable def lyB (cs:List Cl) (d h:Nat):Bool:=cs.any fun c=>c.1 == h && !c.2.getD d false
noncomputable def lyN (cs:List Cl) (d:Nat):Nat:=((List.range 5).filter (lyB cs d)).length
theorem Dh {cs:List Cl} {d:Nat} (h5:∀ c∈cs,c.1 < 5) {L:List Int} (nd:L.Nodup) (hm:∀ x,x∈L↔∃ c∈cs,x=(c.1:Int)/\c.2.getD d false=false):L.length=lyN cs d:=by
 unfold lyN
 rw [<-List.length_map (f:=fun n:Nat=>(n:Int)) (as:=(List.range 5).filter (lyB cs d))]
 refine Es nd ?_ fun x=>?_
 ·have:∀ l:List Nat,l.Nodup->(l.map fun n:Nat=>(n:Int)).Nodup:=by
   intro l h
   induction l with
   | nil=>exact List.nodup_nil
   | cons a l ih=>
    rw [List.nodup_cons] at h
    rw [List.map_cons,List.nodup_cons]
    refine ⟨fun z=>?_,ih h.2⟩
    obtain ⟨b,hb,e⟩:=List.mem_map.mp z
    have:b=a:=by omega
    exact h.1 (this ▸ hb)
  exact this _ (List.nodup_range.filter _)
 ·rw [hm]
  constructor
  ·rintro ⟨c,hc,rfl,hd⟩
   exact List.mem_map.mpr ⟨c.1,List.mem_filter.mpr ⟨List.mem_range.mpr (h5 c hc),List.any_eq_true.mpr ⟨c,hc,by rw [hd]; simp⟩⟩,rfl⟩
  ·intro h
   obtain ⟨n,hn,rfl⟩:=List.mem_map.mp h
   obtain ⟨c,hc,hb⟩:=List.any_eq_true.mp (List.mem_filter.mp hn).2
   rw [Bool.and_eq_true,beq_iff_eq,Bool.not_eq_true'] at hb
   exact ⟨c,hc,by rw [hb.1],hb.2⟩
structure ox (cs:List Cl) (m:Nat):Prop where
 len:cs.length<=60
 hand:∀ c∈cs,c.1 < 5
 row:∀ c∈cs,c.2.length=m
noncomputable def dR (_:PySem.W.Frag):Sp:=fun vs H Q _=>∃ (p:Addr) (cs:List Cl) (m:Nat),vs=[.int (m:Int),.ref p]/\ii H p cs/\ox cs m/\m<=2000/\
 ∀ f H',H f=none->al H H'->H' f=some (.lst (aw ((List.range m).map (lyN cs))))->Q (.ref f) H'
noncomputable def jw (K:PySem.W.Frag):TS:=(aL (bT (fP (ab (ac 0) ai)) (fun _ _ _ _=>(am 0)) (fun _ _ _ _=>b8) (fun _ _ _ _=>(wA K (ab (bT (eB K (ac 1)) (fun _ _ _ _=>(g0 K 2 (b7 (am 0) (b7 (am 1) gZ)))) (fun _ _ _ _=>(fe (tB (tOp (fh K) (ac 1) (ac 2))))) (fun _ _ _ _=>(ac 0)) [none,none,some 0]) ai))) [none,some 1]))
theorem pL {bs:List Bool} {d:Nat} (h:d < bs.length):bs[d]?=some (bs.getD d false):=by
 rw [List.getD_eq_getElem?_getD,List.getElem?_eq_getElem h]; rfl
theorem uB {K:PySem.W.Frag} {vs:List V} {H:Hp} {Q:VK} {E:XK} (h:dR K vs H Q E):vs.length=2:=by
 obtain ⟨p,cs,m,rfl,A,ok,hm,q⟩:=h
 rfl
theorem vQ {K:PySem.W.Frag} {vs:List V} {H:Hp} {Q:VK} {E:XK} (h:dR K vs H Q E):jw K { nx:=fun _ H'=>Q .non H',rt:=Q } (aN ["many","claims"] vs) H:=by
 obtain ⟨p,cs,m,rfl,A,ok,hm,q⟩:=h
 show jw K _ [some _,some _] _
 unfold jw
 obtain ⟨as,ep,pr⟩:=id A
 have hal:=kK pr
 have hcl:=ok.len
 walk_at "rd"
 refine iM m (by omega) (by omega) (by omega) (fun i acc _=>acc=aw ((List.range i).map (lyN cs))) (fun _ _=>rfl) ?_ ?_
 ·rintro w hw C s' H' fp d acc H2 hd ⟨s2,e2,l2,rfl⟩
  walk_at "rd"
  unfold wA
  walk_at "rd"
  refine gN (as.map V.ref) (SqL.of (s2 _ _ ep)) (by rw [List.length_map]; omega) (fun i acc _=>acc=(((cs.take i).filter fun c=>!c.2.getD d false).map fun c=>(c.1:Int)).map V.int) (fun _ _=>rfl) ?_ ?_
  ·rintro w3 hw3 C3 s3' H3' fp3 i x acc H3 hx ⟨s3,e3,l3,rfl⟩
   obtain ⟨a,ha,rfl⟩:=nv hx
   obtain ⟨c,hc,l,ea,el⟩:=uz pr ha
   have s23:=s2.trans s3
   walk_at "rd"
   refine gu (SqT.of (s23 _ _ ea)) ?_
   walk_at "rd"
   refine fu (SqL.of (s23 _ _ el)) (kJ (pL (by rw [ok.row c (List.mem_of_getElem? hc)]; exact hd))) ?_
   walk_at "rd"
   refine hU (fun h=>?_) (fun h=>?_)
   ·walk_at "rd"
    refine aZ.put hw3 (fun _ _ _ _ r _=>r) s3 e3 l3 ?_
    rw [mI hc,List.filter_append,show [c].filter (fun c=>!c.2.getD d false)=[c] from List.filter_cons_of_pos (by show (!_)=true; rw [h]; rfl),List.map_append,List.map_append]
    rfl
   ·refine aZ.skip s3 e3 l3 ?_
    rw [mI hc,List.filter_append,show [c].filter (fun c=>!c.2.getD d false)=[] from List.filter_cons_of_neg (by show ¬ (!_)=true; rw [h]; exact Bool.false_ne_true),List.append_nil]
  ·rintro w3 acc H3 hw3 s3 e3 rfl
   rw [List.length_map,hal,List.take_length] at e3
   walk_at "rd"
   refine yY (SqL.of e3) (by rw [List.length_map]; exact Nat.le_trans (List.length_filter_le _ _) (by omega)) fun L H4 s4 nd hL=>?_
   have hlen:L.length=lyN cs d:=Dh (d:=d) ok.hand nd fun x=>by
    rw [hL,List.mem_map]
    constructor
    ·rintro ⟨c,hc,rfl⟩
     obtain ⟨h1,h2⟩:=List.mem_filter.mp hc
     exact ⟨c,h1,rfl,by simpa using h2⟩
    ·rintro ⟨c,hc,rfl,h⟩
     exact ⟨c,List.mem_filter.mpr ⟨hc,by rw [h]; rfl⟩,rfl⟩
   rw [hlen]
   refine ⟨s4 _ _ (s3 _ _ e2),?_⟩
   refine (aZ.put hw (fun _ _ _ _ r _=>r) (s2.trans (s3.trans s4)) (s4 _ _ (s3 _ _ e2)) l2 ?_).2
   rw [List.range_succ,List.map_append]
   show _=aw (_++[lyN cs d])
   rw [<-eD]
 ·rintro w acc H2 hw s2 e2 rfl
  exact q _ _ hw s2 e2
noncomputable def gR (_:PySem.W.Frag):Sp:=fun vs H Q _=>∃ (p:Addr) (cs:List Cl) (m:Nat) (mo:Int),vs=[.int (m:Int),.ref p,.int mo]/\ii H p cs/\ox cs m/\m<=2000/\
 ∀ f H',H f=none->al H H'->H' f=some (.lst (aw ((List.range m).filter fun d=>decide ((lyN cs d:Int)<=mo))))->Q (.ref f) H'
noncomputable def lq (K:PySem.W.Frag):TS:=(aL (bT (ni eW K (ab (az (dR K) [] E0 (ab (ac 0) (ab (ac 1) ai))) ai)) (fun _ _ _ _=>(g0 K 2 (b7 (am 0) (b7 (am 1) gZ)))) (fun _ _ _ _=>(aY (tOp (rI0 fun i j=>.bl (decide (i<=j))) (ac 1) (ac 2)))) (fun _ _ _ _=>(ac 0)) [none,none,some 2]))
theorem xA {K:PySem.W.Frag} {vs:List V} {H:Hp} {Q:VK} {E:XK} (h:gR K vs H Q E):vs.length=3:=by
 obtain ⟨p,cs,m,mo,rfl,A,ok,hm,q⟩:=h
 rfl
theorem yZ {K:PySem.W.Frag} {vs:List V} {H:Hp} {Q:VK} {E:XK} (h:gR K vs H Q E):lq K { nx:=fun _ H'=>Q .non H',rt:=Q } (aN ["many","claims","most"] vs) H:=by
 obtain ⟨p,cs,m,mo,rfl,A,ok,hm,q⟩:=h
 show lq K _ [some _,some _,some _] _
 unfold lq
 walk_at "rd"
 refine ⟨p,cs,m,rfl,A,ok,hm,fun f H1 hf s1 e1=>?_⟩
 walk_at "rd"
 refine BO (S:=eW) (aw ((List.range m).map (lyN cs))) (SqL.of e1) (fun H' s=>s.seq (SqL.of e1)) (by rw [cF,List.length_map,List.length_range]; omega) (fun i acc _=>acc=aw ((List.range i).filter fun d=>decide ((lyN cs d:Int)<=mo))) (fun _ _=>rfl) ?_ ?_
 ·rintro w hw C s' H' fp i x T acc H2 H3 hx ⟨s2,e2,l2,rfl⟩ hT s3 e3 e4
  have hx':x=.int (lyN cs i:Int)/\i < m:=by
   unfold aw at hx
   rw [List.map_map,List.getElem?_map] at hx
   cases h:(List.range m)[i]? with
   | none=>rw [h] at hx; cases hx
   | some j=>
    obtain ⟨h1,h2⟩:=List.getElem?_eq_some_iff.mp h
    rw [List.getElem_range] at h2
    rw [List.length_range] at h1
    rw [h] at hx
    subst h2
    exact ⟨(Option.some.inj hx).symm,h1⟩
  obtain ⟨rfl,hi⟩:=hx'
  walk_at "rd"
  refine gu (SqT.of e3) ?_
  walk_at "rd"
  refine bN (fun h=>?_) (fun h=>?_)
  ·walk_at "rd"
   refine aZ.put hw (fun _ _ _ _ r _=>r) (s2.trans s3) e4 l2 ?_
   rw [List.range_succ,List.filter_append,show [i].filter (fun d=>decide ((lyN cs d:Int)<=mo))=[i] by simp [h],<-eD]
  ·refine aZ.skip (s2.trans s3) e4 l2 ?_
   rw [List.range_succ,List.filter_append,show [i].filter (fun d=>decide ((lyN cs d:Int)<=mo))=[] by simp [h],List.append_nil]
 ·rintro w acc H2 hw s2 e2 rfl
  rw [cF,List.length_map,List.length_range] at e2
  exact q _ _ (s1.free hw) (s1.trans s2) e2
end L2
end
section
namespace L2
open PySem
noncomputable def Et (o:HO):Prop:=∀ ps,o≠.tbl ps
noncomputable def bM (H H':Hp):Prop:=∀ b o,Et o->H b=some o->H' b=some o
theorem bM.refl (H:Hp):bM H H:=fun _ _ _ e=>e
theorem al.toT {H H':Hp} (s:al H H'):bM H H':=fun b o _ e=>s b o e
theorem bM.trans {H H1 H2:Hp} (a:bM H H1) (b:bM H1 H2):bM H H2:=fun c o n e=>b c o n (a c o n e)
theorem bM.lst {H H':Hp} (s:bM H H') {b:Addr} {xs:List V} (e:H b=some (.lst xs)):H' b=some (.lst xs):=s _ _ (fun _ z=>nomatch z) e
theorem bM.tup {H H':Hp} (s:bM H H') {b:Addr} {xs:List V} (e:H b=some (.tup xs)):H' b=some (.tup xs):=s _ _ (fun _ z=>nomatch z) e
theorem bM.seq {K:PySem.W.Frag} {H H':Hp} (s:bM H H') {a:Addr} {xs:List V} (h:SqL K H a xs):SqL K H' a xs:=by
 rcases h with (h | ⟨o,h⟩) | h
 ·exact .inl (.inl (s.lst h))
 ·exact .inl (.inr ⟨o,s _ _ (fun _ z=>nomatch z) h⟩)
 ·exact .inr h
theorem bM.script {K:PySem.W.Frag} {H H':Hp} (s:bM H H') {a:Addr} {ns:List Int} (h:fR K H a ns):fR K H' a ns:=⟨s.seq h.1,h.2⟩
noncomputable abbrev TK:=V->Hp->Int->Int->Prop
noncomputable def kIx (K:PySem.W.Frag):TK:=fun vy H n k=>∃ (z:Addr) (ys:List V),vy=.ref z/\SqL K H z ys/\0<=n/\atI ys n=some (.int k)
noncomputable def xB (K:PySem.W.Frag) (L:Hp->Prop) (j:Nat) (bd:TK) (t:TA):TE:=fun σ H Q=>t σ H fun vs H1=>∃ (l:Addr) (ns:List Int) (vy:V) (kf:Nat->Int),vs=[.ref l]/\SqL K H1 l (ns.map V.int)/\0 < ns.length/\σ[j]?=some (some vy)/\(∀ i n,ns[i]?=some n->bd vy H1 n (kf i))/\L H1/\
 ∀ (i:Nat) (n:Int) (H2:Hp),bM H1 H2->L H2->ns[i]?=some n->(∀ k,k < ns.length->kf i<=kf k/\(k < i->kf i < kf k))->Q (.int n) H2
theorem Di {K:PySem.W.Frag} {L:Hp->Prop} {j:Nat} {bd:TK} {t:TA} {σ:St} {H:Hp} {Q:VK} (h:t σ H fun vs H1=>∃ (l:Addr) (ns:List Int) (vy:V) (kf:Nat->Int),vs=[.ref l]/\SqL K H1 l (ns.map V.int)/\0 < ns.length/\σ[j]?=some (some vy)/\(∀ i n,ns[i]?=some n->bd vy H1 n (kf i))/\L H1/\
 ∀ (i:Nat) (n:Int) (H2:Hp),bM H1 H2->L H2->ns[i]?=some n->(∀ k,k < ns.length->kf i<=kf k/\(k < i->kf i < kf k))->Q (.int n) H2):xB K L j bd t σ H Q:=h
noncomputable def kL (K:PySem.W.Frag) (L:Hp->Prop):Sp:=fun vs H Q _=>∃ (a:Addr) (ns:List Int),vs=[.ref a]/\fR K H a ns/\L H/\∀ H',Q (.bl true) H'
end L2
end
section
namespace L2
open PySem
noncomputable def uC (H:Hp) (rs:List Addr) (ws:List (List Int)):Prop:=Paired (fun (a:Addr) (w:List Int)=>H a=some (.tup (w.map V.int))) rs ws
theorem uC.same {H H':Hp} {rs:List Addr} {ws:List (List Int)} (t:uC H rs ws) (s:al H H'):uC H' rs ws:=Paired.mapP t fun _ _ e=>s _ _ e
end L2
end
section
namespace L2
open PySem
end L2
end
section
namespace L2
open PySem PyProof.Rows
theorem wB (z:Int) (ns:List Int):inV (.int z) (ns.map V.int)=decide (z∈ns):=by
 unfold inV
 rw [List.any_map]
 cases h:ns.any ((fun y=>eqV y (.int z)) ∘ V.int) with
 | true=>
  obtain ⟨n,hn,e⟩:=List.any_eq_true.mp h
  have e':(n == z)=true:=e
  rw [beq_iff_eq] at e'
  exact (decide_eq_true (e' ▸ hn)).symm
 | false=>
  refine (decide_eq_false fun hz=>?_).symm
  have:=List.any_eq_false.mp h z hz
  exact this (show (z == z)=true by simp)
theorem uD (ns:List Int):(ns.map V.int).all dq=true:=List.all_eq_true.mpr fun x hx=>by
 obtain ⟨n,_,rfl⟩:=List.mem_map.mp hx
 rfl
noncomputable def cm (bs:List Bool) (m:Nat):List Nat:=(List.range m).filter fun d=>!bs.getD d false
noncomputable def lr (cs:List Cl) (d:Nat):List Int:=[((lyN cs d:Nat):Int) - 1,(d:Int)]
noncomputable def mJ (cs:List Cl) (bs:List Bool) (m:Nat):List (List Int):=(cm bs m).map (lr cs)
noncomputable def Bh (ws:List (List Int)) (w:List Int):Prop:=w∈ws/\∀ u∈ws,HT.w5 u w=false
theorem Dj (a b c d:Int):HT.w5 [a,b] [c,d]=(if a=c then (if b=d then false else decide (b < d)) else decide (a < c)):=rfl
theorem nU (bs:List Bool) (i:Nat):cm bs (i + 1)=cm bs i++(if bs.getD i false=false then [i] else []):=by
 unfold cm
 rw [List.range_succ,List.filter_append]
 congr 1
 cases h:bs.getD i false with
 | true=>rw [if_neg (by simp)]; exact List.filter_cons_of_neg (by show ¬ (!bs.getD i false)=true; rw [h]; exact Bool.false_ne_true)
 | false=>rw [if_pos rfl]; exact List.filter_cons_of_pos (by show (!bs.getD i false)=true; rw [h]; rfl)
theorem rD {bs:List Bool} {m d:Nat} (h:d∈cm bs m):d < m:=List.mem_range.mp (List.mem_filter.mp h).1
theorem y7 (bs:List Bool) (m:Nat):(cm bs m).Pairwise (· < ·):=List.Pairwise.filter _ List.pairwise_lt_range
noncomputable def dS (_:PySem.W.Frag) (L:Hp->Prop):Sp:=fun vs H Q _=>∃ (p b:Addr) (cs:List Cl) (m:Nat) (bs:List Bool),vs=[.int (m:Int),.ref p,.ref b]/\ii H p cs/\ox cs m/\m<=2000/\H b=some (.lst (bs.map V.bl))/\bs.length=m/\L H/\
 (mJ cs bs m=[]->∀ H',al H H'->Q .non H')/\∀ (w:List Int) (t:Addr) (H':Hp),Bh (mJ cs bs m) w->bM H H'->L H'->H' t=some (.tup (w.map V.int))->Q (.ref t) H'
noncomputable def jx (K:PySem.W.Frag) (L:Hp->Prop):TS:=(aq (aU (az (dR K) [] E0 (ab (ac 0) (ab (ac 1) ai))) (am 3))
 (aq (aU (bT (fP (ab (ac 0) ai)) (fun _ _ _ _=>(am 0)) (fun _ _ _ _=>(fe (tB (tOp (fh K) (ac 1) (ac 0))))) (fun _ _ _ _=>(ac 0)) [none,some 2]) (am 4))
 (aq (bw (aY (tOp rEq (tCB (fO K) (ab (ac 4) ai)) (tC (.int 0)))) (aL (tC .non)) aX)
 (aq (aU (xB K L 3 (kIx K) (ab (ac 4) ai)) (am 5))
 (aL (dh (ab (tOp (rI0 fun i j=>.int (i - j)) (tOp (fh K) (ac 3) (ac 5)) (tC (.int 1))) (ab (ac 5) ai))))))))
noncomputable abbrev xC:List Str:=["many","claims","truths","liars","wrong","first"]
theorem uE {K:PySem.W.Frag} {L:Hp->Prop} {vs:List V} {H:Hp} {Q:VK} {E:XK} (h:dS K L vs H Q E):vs.length=3:=by
 obtain ⟨p,b,cs,m,bs,rfl,_⟩:=h
 rfl
theorem vR {K:PySem.W.Frag} {L:Hp->Prop} (hL:∀ H H',L H->al H H'->L H') {vs:List V} {H:Hp} {Q:VK} {E:XK} (h:dS K L vs H Q E):jx K L { nx:=fun _ H'=>Q .non H',rt:=Q } (aN xC vs) H:=by
 obtain ⟨p,b,cs,m,bs,rfl,A,ok,hm,eb,hbl,l0,q0,q1⟩:=h
 show jx K L _ [some _,some _,some _,none,none,none] _
 unfold jx
 walk_at "rd"
 refine ⟨p,cs,m,rfl,A,ok,hm,fun f H1 hf s1 e1=>?_⟩
 walk_at "rd"
 refine iM m (by omega) (by omega) (by omega) (fun i acc _=>acc=aw (cm bs i)) (fun _ _=>rfl) ?_ ?_
 ·rintro w hw C s' H' fp d acc H2 hd ⟨s2,e2,l2,rfl⟩
  walk_at "rd"
  refine fu (SqL.of (s2 _ _ (s1 _ _ eb))) (kJ (pL (by omega))) ?_
  walk_at "rd"
  refine hU (fun h=>?_) (fun h=>?_)
  ·walk_at "rd"
   refine aZ.put hw (fun _ _ _ _ r _=>r) s2 e2 l2 ?_
   rw [nU,if_pos h,<-eD]
  ·refine aZ.skip s2 e2 l2 ?_
   rw [nU,if_neg (by rw [h]; exact Bool.noConfusion),List.append_nil]
 ·rintro w acc H2 hw s2 e2 rfl
  walk_at "rd"
  rw [cF]
  refine bN (fun c=>?_) (fun c=>?_)
  ·walk_at "rd"
   refine q0 ?_ H2 (s1.trans s2)
   unfold mJ
   rw [List.eq_nil_of_length_eq_zero (l:=cm bs m) (by omega)]
   rfl
  ·walk_at "rd"
   refine Di ?_
   walk_at "rd"
   refine ⟨w,(cm bs m).map (fun (s:Nat)=>(s:Int)),.ref f,fun i=>((lyN cs ((cm bs m).getD i 0):Nat):Int),rfl,by rw [<-gO]; exact SqL.of e2,by rw [List.length_map]; omega,rfl,fun i n hn=>?_,hL _ _ l0 (s1.trans s2),fun i n H3 s3 l3 hn best=>?_⟩
   ·rw [List.getElem?_map] at hn
    obtain ⟨d,hd,rfl⟩:=Option.map_eq_some_iff.mp hn
    have hdm:=rD (List.mem_of_getElem? hd)
    refine ⟨f,_,rfl,SqL.of (s2 _ _ e1),by omega,fH ?_⟩
    unfold aw
    rw [List.getElem?_map,List.getElem?_map,List.getElem?_range hdm]
    show some (V.int ((lyN cs d:Nat):Int))=some (V.int ((lyN cs ((cm bs m).getD i 0):Nat):Int))
    rw [List.getD_eq_getElem?_getD,hd]
    rfl
   ·rw [List.getElem?_map] at hn
    obtain ⟨d,hd,rfl⟩:=Option.map_eq_some_iff.mp hn
    have hdm:=rD (List.mem_of_getElem? hd)
    have hil:=(List.getElem?_eq_some_iff.mp hd).1
    walk_at "rd"
    refine fu (SqL.of (s3.lst (s2 _ _ e1))) (fH (v:=.int ((lyN cs d:Nat):Int)) (by unfold aw; rw [List.getElem?_map,List.getElem?_map,List.getElem?_range hdm]; rfl)) ?_
    walk_at "rd"
    refine ⟨by simp [sizeLine_eq],fun t H4 ht s4 e4=>?_⟩
    refine q1 (lr cs d) t H4 ⟨List.mem_map.mpr ⟨d,List.mem_of_getElem? hd,rfl⟩,fun u hu=>?_⟩ (((s1.trans s2).toT.trans s3).trans s4.toT) (hL _ _ l3 s4) e4
    obtain ⟨e,he,rfl⟩:=List.mem_map.mp hu
    obtain ⟨k,hk⟩:=List.getElem?_of_mem he
    have hkl:=(List.getElem?_eq_some_iff.mp hk).1
    have hb:=best k (by rw [List.length_map]; exact hkl)
    simp only [List.getD_eq_getElem?_getD,hd,hk,Option.getD_some] at hb
    unfold lr
    rw [Dj]
    by_cases z:((lyN cs e:Nat):Int) - 1=((lyN cs d:Nat):Int) - 1
    ·rw [if_pos z]
     by_cases z2:(e:Int)=(d:Int)
     ·rw [if_pos z2]
     ·rw [if_neg z2]
      refine decide_eq_false fun z3=>?_
      have hki:k < i:=by
       rcases Nat.lt_trichotomy k i with y | y | y
       ·exact y
       ·subst y
        rw [hd] at hk
        cases hk
        exact absurd rfl z2
       ·have:=List.pairwise_iff_getElem.mp (y7 bs m) i k hil hkl y
        rw [(List.getElem?_eq_some_iff.mp hd).2,(List.getElem?_eq_some_iff.mp hk).2] at this
        omega
      have:=hb.2 hki
      omega
    ·rw [if_neg z]
     exact decide_eq_false (by have:=hb.1; omega)
noncomputable def bA (K:PySem.W.Frag):Sp:=fun vs H Q _=>∃ (a:Addr) (ns:List Int) (k:Int),vs=[.ref a,.int k]/\fR K H a ns/\0<=k/\k<=1000/\∀ z:Int,Q (.int z) H
theorem pM {K:PySem.W.Frag} {vs:List V} {H:Hp} {Q:VK} {E:XK} (h:bA K vs H Q E):vs.length=2:=by
 obtain ⟨a,ns,k,rfl,h⟩:=h
 rfl
noncomputable def gB (K:PySem.W.Frag):TS:=(aq (bw (aY (tOp (rI0 fun i j=>.bl (decide (i < j))) (ac 1) (tCB (fO K) (ab (ac 0) ai)))) (aL (tOp (fh K) (ac 0) (ac 1))) aX)
 (aq (aU (tOp (rI0 fun i j=>.int (i + j)) (tOp (rI IntMulOk fun i j=>.int (i * j)) (ac 1) (tC (.int 7919))) (tC (.int 23))) (am 2))
 (aq (bw (aY (tOp (rI0 fun i j=>.bl (decide (j < i))) (tCB (fO K) (ab (ac 0) ai)) (tC (.int 0)))) (aU (tOp (rI0 fun i j=>.int (i + j)) (tOp (rI IntMulOk fun i j=>.int (i * j)) (tOp (rI (fun _ j=>0 < j) fun i j=>.int (i % j)) (tOp (fh K) (ac 0) (tOp (rI (fun _ j=>0 < j) fun i j=>.int (i % j)) (tOp (rI IntMulOk fun i j=>.int (i * j)) (ac 1) (tC (.int 5))) (tCB (fO K) (ab (ac 0) ai)))) (tC (.int 2147483647))) (tC (.int 48271))) (tOp (rI IntMulOk fun i j=>.int (i * j)) (ac 1) (tC (.int 7919)))) (am 2)) aX)
 (aq (aU (tOp (rI (fun _ j=>0 < j) fun i j=>.int (i % j)) (tOp (rI IntMulOk fun i j=>.int (i * j)) (ac 2) (ac 2)) (tC (.int 2147483629))) (am 2))
 (aL (tOp (rI (fun _ j=>0 < j) fun i j=>.int (i % j)) (tOp (rI IntMulOk fun i j=>.int (i * j)) (ac 2) (tOp (rI0 fun i j=>.int (i + j)) (ac 2) (tC (.int 48271)))) (tC (.int 2147483647))))))))
noncomputable abbrev rP:List Str:=["_law_script","_law_k","_law_number"]
theorem qz {K:PySem.W.Frag} {vs:List V} {H:Hp} {Q:VK} {E:XK} (h:bA K vs H Q E):gB K { nx:=fun _ H'=>Q .non H',rt:=Q } (aN rP vs) H:=by
 obtain ⟨a,ns,k,rfl,⟨hS,h63,hbits⟩,h0,h1,q⟩:=h
 show gB K _ [some _,some _,none] _
 unfold gB
 have hl:(ns.map V.int).length=ns.length:=List.length_map _
 walk_at "rd"
 rw [hl]
 refine bN (fun c=>?_) (fun c=>?_)
 ·walk_at "rd"
  refine fu hS (tO h0 c) ?_
  exact q _
 ·refine yA ?_
  dsimp only
  refine cY ?_
  walk_at "rs"
  refine jE fun NX hNX=>?_
  have last:∀ n0:Int,0<=n0->n0<=1000000000000000->NX [some (.ref a),some (.int k),some (.int n0)] H:=by
   intro n0 z0 z1
   refine hNX _ _ ?_
   walk_at "rd"
   exact q _
  walk_at "rs"
  rw [hl]
  refine bN (fun d=>?_) (fun d=>?_)
  ·have m1:0<=k * 5 % (ns.length:Int):=Int.emod_nonneg _ (by omega)
   have m2:k * 5 % (ns.length:Int) < (ns.length:Int):=Int.emod_lt_of_pos _ d
   walk_at "rs"
   rw [hl]
   refine fu hS (tO m1 m2) ?_
   walk_at "rs"
   refine last _ ?_ ?_ <;> omega
  ·walk_at "rs"
   refine last _ ?_ ?_ <;> omega
noncomputable def cf (_:PySem.W.Frag):Sp:=fun vs H Q _=>∃ (b k:Int),vs=[.int b,.int k]/\0<=k/\k<=100000/\∀ z:Int,0<=z->z<=1000003->Q (.int z) H
theorem oy {K:PySem.W.Frag} {vs:List V} {H:Hp} {Q:VK} {E:XK} (h:cf K vs H Q E):vs.length=2:=by
 obtain ⟨b,k,rfl,h⟩:=h
 rfl
noncomputable def gd (K:PySem.W.Frag):TS:=(aq (aU (tOp (rI (fun _ j=>0 < j) fun i j=>.int (i % j)) (tOp (rI0 fun i j=>.int (i + j)) (tOp (rI0 fun i j=>.int (i + j)) (tOp (rI IntMulOk fun i j=>.int (i * j)) (tOp (rI (fun _ j=>0 < j) fun i j=>.int (i % j)) (ac 0) (tC (.int 2147483647))) (tC (.int 48271))) (tOp (rI IntMulOk fun i j=>.int (i * j)) (ac 1) (tC (.int 69621)))) (tC (.int 3))) (tC (.int 2147483629))) (am 2))
 (aq (aU (tOp (rI (fun _ j=>0 < j) fun i j=>.int (i % j)) (tOp (rI IntMulOk fun i j=>.int (i * j)) (ac 2) (tOp (rI0 fun i j=>.int (i + j)) (ac 2) (tC (.int 40503)))) (tC (.int 2147483647))) (am 2))
 (aL (tOp (rI (fun _ j=>0 < j) fun i j=>.int (i % j)) (tOp (rI IntMulOk fun i j=>.int (i * j)) (ac 2) (tOp (rI0 fun i j=>.int (i + j)) (ac 2) (tC (.int 7)))) (tC (.int 1000003))))))
noncomputable abbrev qA:List Str:=["_law_cell_here","_law_k","_law_number"]
theorem pN {K:PySem.W.Frag} {vs:List V} {H:Hp} {Q:VK} {E:XK} (h:cf K vs H Q E):gd K { nx:=fun _ H'=>Q .non H',rt:=Q } (aN qA vs) H:=by
 obtain ⟨b,k,rfl,k0,k1,q⟩:=h
 show gd K _ [some _,some _,none] _
 unfold gd
 walk_at "rd"
 exact q _ (by omega) (by omega)
end L2
end
section
namespace L2
open PySem
noncomputable def km (t1 t2:String):Bool:=t1 == t2 || (t1 == "bool" && t2 == "int")
noncomputable def jV:List String:=["NoneType","bool","int","str","tuple","list","dict"]
noncomputable def qB:List String:=["bool","int","str","tuple","list"]
theorem Dk {K:PySem.W.Frag} {t1 t2:String} {b:Bool} (h:(if (Value.type t1 == Value.type t2)=true then some true else if PySem.W.kitMeta t2=true then (fastBuiltinMro t1).map (·.contains (.type t2)) else none)=some b):PySem.W.kitOne K (.type t1) (.type t2)=some b:=h
theorem qC (K:PySem.W.Frag):∀ t1∈jV,∀ t2∈qB,PySem.W.kitOne K (.type t1) (.type t2)=some (km t1 t2):=by
 have go:∀ t1∈jV,∀ t2∈qB,(if (Value.type t1 == Value.type t2)=true then some true else if PySem.W.kitMeta t2=true then (fastBuiltinMro t1).map (·.contains (.type t2)) else none)=some (km t1 t2):=by decide +kernel
 exact fun t1 h1 t2 h2=>Dk (go t1 h1 t2 h2)
end L2
end
section
namespace L2
open PySem PyProof.Rows
inductive aQ (H:Hp):V->Prop where
 | non:aQ H .non
 | bl (b:Bool):aQ H (.bl b)
 | int (i:Int):aQ H (.int i)
 | str (x:Str):aQ H (.str x)
 | tup {a:Addr} {vs:List V} (e:H a=some (.tup vs)) (h:∀ v∈vs,aQ H v):aQ H (.ref a)
 | lst {a:Addr} {vs:List V} (e:H a=some (.lst vs)):aQ H (.ref a)
 | dic {a:Addr} {kvs:List (Key×V)} (e:H a=some (.dK kvs)):aQ H (.ref a)
theorem aQ.same {H H':Hp} (s:al H H') {v:V} (h:aQ H v):aQ H' v:=by
 induction h with
 | non=>exact .non
 | bl b=>exact .bl b
 | int i=>exact .int i
 | str x=>exact .str x
 | tup e h ih=>exact .tup (s _ _ e) ih
 | lst e=>exact .lst (s _ _ e)
 | dic e=>exact .dic (s _ _ e)
noncomputable def tyN (H:Hp):V->String
 | .non=>"NoneType" | .bl _=>"bool" | .int _=>"int" | .str _=>"str"
 | .ref a=>(match H a with | some (.tup _)=>"tuple" | some (.lst _)=>"list" | some (.dK _)=>"dict" | _=>"object")
 | _=>"object"
theorem jF {H:Hp} {a:Addr} {vs:List V} (e:H a=some (.tup vs)):tyN H (.ref a)="tuple":=by simp only [tyN,e]
theorem kM {H:Hp} {a:Addr} {vs:List V} (e:H a=some (.lst vs)):tyN H (.ref a)="list":=by simp only [tyN,e]
theorem kN {H:Hp} {a:Addr} {vs:List (Key×V)} (e:H a=some (.dK vs)):tyN H (.ref a)="dict":=by simp only [tyN,e]
theorem aQ.ty (K:PySem.W.Frag) {H:Hp} {v:V} (h:aQ H v):fg K H v (.type (tyN H v)):=by
 cases h with
 | non=>exact .non
 | bl b=>exact .bl b
 | int i=>exact .int i
 | str x=>exact .str x
 | tup e h=>rw [jF e]; exact .tup e
 | lst e=>rw [kM e]; exact .lst e
 | dic e=>rw [kN e]; exact .dK e
theorem aQ.tn {H:Hp} {v:V} (h:aQ H v):tyN H v∈jV:=by
 cases h with
 | non=>show "NoneType"∈jV; decide
 | bl b=>show "bool"∈jV; decide
 | int i=>show "int"∈jV; decide
 | str x=>show "str"∈jV; decide
 | tup e h=>rw [jF e]; decide
 | lst e=>rw [kM e]; decide
 | dic e=>rw [kN e]; decide
theorem uF {K:PySem.W.Frag} {H:Hp} {Q:VK} {v:V} {T:String} (k:aQ H v) (hT:T∈qB) (h:Q (.bl (km (tyN H v) T)) H):lf K [v,.ty T] H Q:=Ej (k.ty K) (qC K _ k.tn T hT) h
theorem aQ.plain {K:PySem.W.Frag} {H:Hp} {v:V} (h:aQ H v):fw K H v:=by
 refine ⟨.type (tyN H v),km (tyN H v) "int",km (tyN H v) "bool",h.ty K,qC K _ h.tn _ (by decide),qC K _ h.tn _ (by decide),?_⟩
 cases h with
 | non=>rfl
 | bl b=>rfl
 | int i=>rfl
 | str x=>rfl
 | tup e h=>rw [jF e]; rfl
 | lst e=>rw [kM e]; rfl
 | dic e=>rw [kN e]; rfl
noncomputable def fK (h:Int):Int->List V->Bool
 | _,[]=>true
 | lo,.int i :: r=>ba (.int i) lo (h - 1) && fK h (i + 1) r
 | _,_ :: _=>false
noncomputable def eL (H:Hp) (h:Int):V->Bool
 | .ref a=>(match H a with | some (.tup vs)=>fK h 0 vs | _=>false)
 | _=>false
noncomputable def d6 (c h:Int) (H:Hp) (place:Str) (v:V):Bool:=
 if place="holder" then ba v 0 h else if place="card" then ba v 0 (c - 1) else if place="hand" then ba v 0 (h - 1) else if place="hands" then eL H h v else true
noncomputable def oz:List (Str×List Str):=[("holds",["holder","card"]),("not",["saying"]),("and",["saying","saying"]),("or",["saying","saying"]),("knows",["hand","saying"]),("all",["hands","saying"]),("common",["hands","saying"]),("sees",["hand"])]
noncomputable def cq (w:Str):Option (List Str):=oz.lookup w
noncomputable def dt (c h:Int) (H:Hp):List V->Bool
 | .str w :: items=>(match cq w with | some form=>decide (items.length=form.length) && (form.zip items).all (fun p=>d6 c h H p.1 p.2) | none=>false)
 | _=>false
noncomputable def cz (c h:Int) (H:Hp):V->Bool
 | .ref a=>(match H a with | some (.tup vs)=>dt c h H vs | _=>false)
 | _=>false
theorem cV {c h:Int} {H:Hp} {a:Addr} {vs:List V} (e:H a=some (.tup vs)):cz c h H (.ref a)=dt c h H vs:=by simp only [cz,e]
theorem ij {h:Int} {H:Hp} {a:Addr} {vs:List V} (e:H a=some (.tup vs)):eL H h (.ref a)=fK h 0 vs:=by simp only [eL,e]
noncomputable def eS:List V->List V
 | .str w :: items=>(match cq w with | some form=>mF form items | none=>[])
 | _=>[]
noncomputable def bK (H:Hp):V->List V
 | .ref a=>(match H a with | some (.tup vs)=>eS vs | _=>[])
 | _=>[]
theorem b9 {H:Hp} {a:Addr} {vs:List V} (e:H a=some (.tup vs)):bK H (.ref a)=eS vs:=by simp only [bK,e]
theorem vS {H H':Hp} (s:al H H') {v:V} (k:aQ H v) (h:Int):eL H' h v=eL H h v:=by
 cases k with
 | tup e _=>rw [ij e,ij (s _ _ e)]
 | lst e=>simp only [eL,e,s _ _ e]
 | dic e=>simp only [eL,e,s _ _ e]
 | _=>rfl
theorem rE {H H':Hp} (s:al H H') {v:V} (k:aQ H v) (c h:Int) (p:Str):d6 c h H' p v=d6 c h H p v:=by unfold d6; rw [vS s k]
theorem qD {α β:Type}:∀ {l:List α} {m:List β} {p:α×β},p∈l.zip m->p.2∈m
 | [],_,_,h=>by simp at h
 | _ :: _,[],_,h=>by simp at h
 | a :: l,b :: m,p,h=>by
  rw [List.zip_cons_cons] at h
  rcases List.mem_cons.mp h with rfl | h
  ·exact List.mem_cons_self
  ·exact List.mem_cons_of_mem _ (qD h)
theorem xE {α:Type} {l:List α} {f g:α->Bool} (h:∀ x∈l,f x=g x):l.all f=l.all g:=by
 induction l with
 | nil=>rfl
 | cons a r ih=>rw [List.all_cons,List.all_cons,h a List.mem_cons_self,ih fun x hx=>h x (List.mem_cons_of_mem _ hx)]
theorem xF {H H':Hp} (s:al H H') {vs:List V} (k:∀ v∈vs,aQ H v) (c h:Int):dt c h H' vs=dt c h H vs:=by
 cases vs with
 | nil=>rfl
 | cons x items=>
  cases x with
  | str w=>
   show (match cq w with | some form=>decide (items.length=form.length) && (form.zip items).all (fun p=>d6 c h H' p.1 p.2) | none=>false)=(match cq w with | some form=>decide (items.length=form.length) && (form.zip items).all (fun p=>d6 c h H p.1 p.2) | none=>false)
   cases cq w with
   | none=>rfl
   | some form=>
    show (decide (items.length=form.length) && (form.zip items).all (fun p=>d6 c h H' p.1 p.2))=(decide (items.length=form.length) && (form.zip items).all (fun p=>d6 c h H p.1 p.2))
    rw [xE fun p hp=>rE s (k p.2 (List.mem_cons_of_mem _ (qD hp))) c h p.1]
  | _=>rfl
theorem ik {H H':Hp} (s:al H H') {v:V} (k:aQ H v) (c h:Int):cz c h H' v=cz c h H v:=by
 cases k with
 | tup e k=>rw [cV e,cV (s _ _ e),xF s k]
 | lst e=>simp only [cz,e,s _ _ e]
 | dic e=>simp only [cz,e,s _ _ e]
 | _=>rfl
theorem kn {H H':Hp} (s:al H H') {v:V} (k:aQ H v):bK H' v=bK H v:=by
 cases k with
 | tup e k=>rw [b9 e,b9 (s _ _ e)]
 | lst e=>simp only [bK,e,s _ _ e]
 | dic e=>simp only [bK,e,s _ _ e]
 | _=>rfl
theorem uG {c h:Int} {H:Hp} {v:V} (w:cz c h H v=true):∃ a x items form,v=.ref a/\H a=some (.tup (.str x :: items))/\cq x=some form/\items.length=form.length:=by
 cases v with
 | ref a=>
  cases e:H a with
  | none=>simp [cz,e] at w
  | some o=>
   cases o with
   | tup vs=>
    rw [cV e] at w
    cases vs with
    | nil=>cases w
    | cons x items=>
     cases x with
     | str x=>
      cases ef:cq x with
      | none=>simp [dt,ef] at w
      | some form=>
       simp only [dt,ef,Bool.and_eq_true] at w
       exact ⟨a,x,items,form,rfl,e,ef,of_decide_eq_true w.1⟩
     | _=>cases w
   | _=>simp [cz,e] at w
 | _=>cases w
theorem pO (G:Glo) (x:Str):G.kvs.lookup x=none/\cq x=none\/∃ f form,G.kvs.lookup x=some (.ref f)/\cq x=some form/\∀ K:PySem.W.Frag,np K G->hV K f (form.map V.str):=by
 unfold cq oz Glo.kvs
 simp only [Er]
 have lookF:∀ {y z:Str} {v:List Str} {r:List (Str×List Str)},((y,v) :: r).lookup z=if z=y then some v else r.lookup z:=by
  intro y z v r
  rw [List.lookup_cons]
  by_cases h:z=y
  ·rw [if_pos h,show (z == y)=true from beq_iff_eq.mpr h]
  ·rw [if_neg h,show (z == y)=false from beq_eq_false_iff_ne.mpr h]
 simp only [lookF]
 by_cases h1:x="holds"
 ·rw [if_pos h1,if_pos h1]; exact .inr ⟨_,_,rfl,rfl,fun K g=>g.t1⟩
 rw [if_neg h1,if_neg h1]
 by_cases h2:x="not"
 ·rw [if_pos h2,if_pos h2]; exact .inr ⟨_,_,rfl,rfl,fun K g=>g.t2⟩
 rw [if_neg h2,if_neg h2]
 by_cases h3:x="and"
 ·rw [if_pos h3,if_pos h3]; exact .inr ⟨_,_,rfl,rfl,fun K g=>g.t3⟩
 rw [if_neg h3,if_neg h3]
 by_cases h4:x="or"
 ·rw [if_pos h4,if_pos h4]; exact .inr ⟨_,_,rfl,rfl,fun K g=>g.t4⟩
 rw [if_neg h4,if_neg h4]
 by_cases h5:x="knows"
 ·rw [if_pos h5,if_pos h5]; exact .inr ⟨_,_,rfl,rfl,fun K g=>g.t5⟩
 rw [if_neg h5,if_neg h5]
 by_cases h6:x="all"
 ·rw [if_pos h6,if_pos h6]; exact .inr ⟨_,_,rfl,rfl,fun K g=>g.t6⟩
 rw [if_neg h6,if_neg h6]
 by_cases h7:x="common"
 ·rw [if_pos h7,if_pos h7]; exact .inr ⟨_,_,rfl,rfl,fun K g=>g.t7⟩
 rw [if_neg h7,if_neg h7]
 by_cases h8:x="sees"
 ·rw [if_pos h8,if_pos h8]; exact .inr ⟨_,_,rfl,rfl,fun K g=>g.t8⟩
 rw [if_neg h8,if_neg h8]
 exact .inl ⟨rfl,rfl⟩
theorem iO {w:Str} {form:List Str} (h:cq w=some form):form.length<=2:=by
 have key:∀ (l:List (Str×List Str)),(∀ p∈l,p.2.length<=2)->l.lookup w=some form->form.length<=2:=by
  intro l
  induction l with
  | nil=>intro _ h; cases h
  | cons a r ih=>
   intro ha h
   obtain ⟨x,v⟩:=a
   rw [List.lookup_cons] at h
   cases e:(w == x) with
   | true=>rw [e] at h; cases h; exact ha _ List.mem_cons_self
   | false=>rw [e] at h; exact ih (fun p hp=>ha p (List.mem_cons_of_mem _ hp)) h
 exact key oz (by decide +kernel) h
theorem As {H:Hp} {Q:VK} {kvs:List (Str×V)} {a:Addr} {k:Str} (e:kvs.lookup k=none) (h:Q (.bl true) H):pb kvs a true (.str k) (.ref a) H Q:=⟨rfl,k,rfl,by rw [e]; exact h⟩
theorem y8 {H:Hp} {Q:VK} {kvs:List (Str×V)} {a:Addr} {k:Str} {v:V} (e:kvs.lookup k=some v) (h:Q (.bl false) H):pb kvs a true (.str k) (.ref a) H Q:=⟨rfl,k,rfl,by rw [e]; exact h⟩
noncomputable def dU (_:PySem.W.Frag):Sp:=fun vs H Q _=>∃ (x:V) (b:Int),vs=[x,.int b]/\aQ H x/\Q (.bl (ba x 0 (b - 1))) H
noncomputable def jy (K:PySem.W.Frag):TS:=(aL (az (bJ K) [] E0 (ab (ac 0) (ab (tC (.int 0)) (ab (tOp (rI0 fun i j=>.int (i - j)) (ac 1) (tC (.int 1))) ai)))))
theorem uH {K:PySem.W.Frag} {vs:List V} {H:Hp} {Q:VK} {E:XK} (h:dU K vs H Q E):vs.length=2:=by
 obtain ⟨x,b,rfl,k,q⟩:=h
 rfl
theorem vT {K:PySem.W.Frag} {vs:List V} {H:Hp} {Q:VK} {E:XK} (h:dU K vs H Q E):jy K { nx:=fun _ H'=>Q .non H',rt:=Q } (aN ["thing","bound"] vs) H:=by
 obtain ⟨x,b,rfl,k,q⟩:=h
 show jy K _ [some _,some _] _
 unfold jy
 walk_at "rd"
 exact ⟨x,0,b - 1,rfl,k.plain,q⟩
noncomputable def fk (_:PySem.W.Frag):Sp:=fun vs H Q _=>∃ (x:V) (h:Int),vs=[x,.int h]/\aQ H x/\Q (.bl (eL H h x)) H
noncomputable def iZ (K:PySem.W.Frag):TS:=(aq (bw (fe (tB (tCB (lf K) (ab (ac 0) (ab (tC (.ty "tuple")) ai))))) (aL (tC (.bl false))) aX)
 (aq (aU (tC (.int 0)) (am 2))
 (aq (gH (wP K (ac 0)) (am 3) (aq (bw (fe (tB (az (bJ K) [] E0 (ab (ac 3) (ab (ac 2) (ab (tOp (rI0 fun i j=>.int (i - j)) (ac 1) (tC (.int 1))) ai)))))) (aL (tC (.bl false))) aX)
 (aU (tOp (rI0 fun i j=>.int (i + j)) (ac 3) (tC (.int 1))) (am 2))))
 (aL (tC (.bl true))))))
theorem At {H:Hp} {x:V} {h:Int} (k:aQ H x) (n:km (tyN H x) "tuple"=false):eL H h x=false:=by
 cases k with
 | tup e _=>rw [jF e] at n; cases n
 | lst e=>simp only [eL,e]
 | dic e=>simp only [eL,e]
 | _=>rfl
theorem wC {H:Hp} {x:V} (k:aQ H x) (n:km (tyN H x) "tuple"=true):∃ a vs,x=.ref a/\H a=some (.tup vs)/\∀ v∈vs,aQ H v:=by
 cases k with
 | tup e h=>exact ⟨_,_,rfl,e,h⟩
 | lst e=>rw [kM e] at n; cases n
 | dic e=>rw [kN e] at n; cases n
 | _=>cases n
theorem rQ {K:PySem.W.Frag} {vs:List V} {H:Hp} {Q:VK} {E:XK} (h:fk K vs H Q E):vs.length=2:=by
 obtain ⟨x,h,rfl,k,q⟩:=h
 rfl
theorem uI {K:PySem.W.Frag} {vs:List V} {H:Hp} {Q:VK} {E:XK} (h:fk K vs H Q E):iZ K { nx:=fun _ H'=>Q .non H',rt:=Q } (aN ["thing","hands","least","hand"] vs) H:=by
 obtain ⟨x,h,rfl,k,q⟩:=h
 show iZ K _ [some _,some _,none,none] _
 unfold iZ
 walk_at "rd"
 refine uF k (by decide) ?_
 walk_at "rd"
 refine hU (fun n=>?_) (fun n=>?_)
 ·walk_at "rd"
  rw [At k n] at q
  exact q
 ·obtain ⟨a,vs,rfl,e,kv⟩:=wC k n
  rw [ij e] at q
  walk_at "rd"
  refine C9 vs (SqT.of e) (fun i σ H2=>∃ (lo:Int) (st:Option V),σ=[some (.ref a),some (.int h),some (.int lo),st]/\H2=H/\fK h lo (vs.drop i)=fK h 0 vs) ⟨0,none,rfl,rfl,rfl⟩ (fun i σ H2 _ ⟨_,_,_,eH,_⟩=>by subst eH; exact SqT.of e) ?_ ?_
  ·rintro i y σ H2 hy ⟨lo,st,rfl,rfl,hr⟩
   have hd:vs.drop i=y :: vs.drop (i + 1):=by
    obtain ⟨h1,h2⟩:=List.getElem?_eq_some_iff.mp hy
    rw [List.drop_eq_getElem_cons h1,h2]
   rw [hd] at hr
   have ky:=kv y (List.mem_of_getElem? hy)
   walk_at "rd"
   refine ⟨y,lo,h - 1,rfl,ky.plain,?_⟩
   walk_at "rd"
   refine hU (fun n=>?_) (fun n=>?_)
   ·walk_at "rd"
    have z:fK h lo (y :: vs.drop (i + 1))=false:=by
     cases y with
     | int j=>rw [fK,n,Bool.false_and]
     | _=>rfl
    rw [<-hr,z] at q
    exact q
   ·cases y with
    | int j=>
     rw [fK,n,Bool.true_and] at hr
     walk_at "rd"
     exact ⟨_,_,rfl,rfl,hr⟩
    | _=>cases n
  ·rintro σ H2 ⟨lo,st,rfl,rfl,hr⟩
   rw [List.drop_length] at hr
   walk_at "rd"
   rw [<-hr] at q
   exact q
noncomputable def jG (_:PySem.W.Frag):Sp:=fun vs H Q _=>∃ (c h:Int) (p:Str) (x:V),vs=[.int c,.int h,.str p,x]/\aQ H x/\Q (.bl (d6 c h H p x)) H
noncomputable def pP (K:PySem.W.Frag):TS:=(aq (bw (aY (tOp rEq (ac 2) (tC (.str "holder")))) (aL (az (dU K) [] E0 (ab (ac 3) (ab (tOp (rI0 fun i j=>.int (i + j)) (ac 1) (tC (.int 1))) ai)))) aX)
 (aq (bw (aY (tOp rEq (ac 2) (tC (.str "card")))) (aL (az (dU K) [] E0 (ab (ac 3) (ab (ac 0) ai)))) aX)
 (aq (bw (aY (tOp rEq (ac 2) (tC (.str "hand")))) (aL (az (dU K) [] E0 (ab (ac 3) (ab (ac 1) ai)))) aX)
 (aq (bw (aY (tOp rEq (ac 2) (tC (.str "hands")))) (aL (az (fk K) [] E0 (ab (ac 3) (ab (ac 1) ai)))) aX)
 (aL (tC (.bl true)))))))
theorem Au {K:PySem.W.Frag} {vs:List V} {H:Hp} {Q:VK} {E:XK} (h:jG K vs H Q E):vs.length=4:=by
 obtain ⟨c,h,p,x,rfl,k,q⟩:=h
 rfl
theorem BQ {K:PySem.W.Frag} {vs:List V} {H:Hp} {Q:VK} {E:XK} (h:jG K vs H Q E):pP K { nx:=fun _ H'=>Q .non H',rt:=Q } (aN ["cards","hands","place","part"] vs) H:=by
 obtain ⟨c,h,p,x,rfl,k,q⟩:=h
 show pP K _ [some _,some _,some _,some _] _
 unfold pP
 unfold d6 at q
 walk_at "rd"
 refine bN (fun n=>?_) (fun n=>?_)
 ·rw [if_pos n] at q
  walk_at "rd"
  exact ⟨x,h + 1,rfl,k,by rw [show h + 1 - 1=h by omega]; exact q⟩
 rw [if_neg n] at q
 walk_at "rd"
 refine bN (fun n=>?_) (fun n=>?_)
 ·rw [if_pos n] at q
  walk_at "rd"
  exact ⟨x,c,rfl,k,q⟩
 rw [if_neg n] at q
 walk_at "rd"
 refine bN (fun n=>?_) (fun n=>?_)
 ·rw [if_pos n] at q
  walk_at "rd"
  exact ⟨x,h,rfl,k,q⟩
 rw [if_neg n] at q
 walk_at "rd"
 refine bN (fun n=>?_) (fun n=>?_)
 ·rw [if_pos n] at q
  walk_at "rd"
  exact ⟨x,h,rfl,k,q⟩
 rw [if_neg n] at q
 walk_at "rd"
 exact q
noncomputable def ge (_:PySem.W.Frag):Sp:=fun vs H Q _=>∃ (c h:Int) (x:V),vs=[.int c,.int h,x]/\aQ H x/\∀ H',al H H'->Q (.bl (cz c h H x)) H'
noncomputable def kc (K:PySem.W.Frag) (G:Glo):TS:=(aq (bw (tOr (fe (tB (tCB (lf K) (ab (ac 2) (ab (tC (.ty "tuple")) ai))))) (aY (tOp rEq (tCB (fO K) (ab (ac 2) ai)) (tC (.int 0))))) (aL (tC (.bl false))) aX)
 (aq (bw (tOr (fe (tB (tCB (lf K) (ab (tOp (dJ K) (ac 2) (tC (.int 0))) (ab (tC (.ty "str")) ai))))) (aY (tOp (pb G.kvs G.forms true) (tOp (dJ K) (ac 2) (tC (.int 0))) (tC (.ref G.forms))))) (aL (tC (.bl false))) aX)
 (aq (aU (tOp (xi G.kvs G.forms) (tC (.ref G.forms)) (tOp (dJ K) (ac 2) (tC (.int 0)))) (am 3))
 (aq (bw (aY (tOp rNe (tCB (fO K) (ab (ac 2) ai)) (tOp (rI0 fun i j=>.int (i + j)) (tC (.int 1)) (tCB (fO K) (ab (ac 3) ai))))) (aL (tC (.bl false))) aX)
 (aL (tCB (zY K) (ab (bT (qo gI gI K (ab (ac 3) (ab (tSl (xh K) (ac 2) (sL (tC (.int 1))) m9) ai))) (fun _ _ _ _=>(g0 K 2 (b7 (am 0) (b7 (am 1) gZ)))) (fun _ _ _ _=>b8) (fun _ _ _ _=>(az (jG K) [] E0 (ab (ac 2) (ab (ac 3) (ab (ac 0) (ab (ac 1) ai)))))) [none,none,some 0,some 1]) ai)))))))
theorem vU {K:PySem.W.Frag} {vs:List V} {H:Hp} {Q:VK} {E:XK} (h:ge K vs H Q E):vs.length=3:=by
 obtain ⟨c,h,x,rfl,_⟩:=h
 rfl
theorem BR {H:Hp} {x:V} {c h:Int} (k:aQ H x) (n:km (tyN H x) "tuple"=false):cz c h H x=false:=by
 cases k with
 | tup e _=>rw [jF e] at n; cases n
 | lst e=>simp only [cz,e]
 | dic e=>simp only [cz,e]
 | _=>rfl
theorem BS {H:Hp} {x:V} (k:aQ H x) (n:km (tyN H x) "str"=true):∃ w,x=.str w:=by
 cases k with
 | tup e h=>rw [jF e] at n; cases n
 | lst e=>rw [kM e] at n; cases n
 | dic e=>rw [kN e] at n; cases n
 | str w=>exact ⟨w,rfl⟩
 | _=>cases n
theorem Av {c h:Int} {H:Hp} {x:V} {items:List V} (k:aQ H x) (n:km (tyN H x) "str"=false):dt c h H (x :: items)=false:=by
 cases k with
 | str w=>cases n
 | _=>rfl
theorem xG {K:PySem.W.Frag} {G:Glo} (g:np K G) {vs:List V} {H:Hp} {Q:VK} {E:XK} (h:ge K vs H Q E):kc K G { nx:=fun _ H'=>Q .non H',rt:=Q } (aN ["cards","hands","thing","form"] vs) H:=by
 obtain ⟨c,h,x,rfl,k,q⟩:=h
 show kc K G _ [some _,some _,some _,none] _
 unfold kc
 walk_at "rd"
 refine uF k (by decide) ?_
 walk_at "rd"
 refine hU (fun n=>?_) (fun n=>?_)
 ·walk_at "rd"
  have:=q H (al.refl H)
  rw [BR k n] at this
  exact this
 obtain ⟨a,vs,rfl,e,kv⟩:=wC k n
 rw [cV e] at q
 walk_at "rd"
 cases vs with
 | nil=>
  refine kF rfl ?_
  walk_at "rd"
  exact q H (al.refl H)
 | cons y items=>
  refine gs (by show ¬ (((items.length + 1:Nat):Int)=0); omega) ?_
  walk_at "rd"
  refine cZ (SqT.of e) (nu _ _) ?_
  walk_at "rd"
  have ky:=kv y List.mem_cons_self
  refine uF ky (by decide) ?_
  walk_at "rd"
  refine hU (fun n=>?_) (fun n=>?_)
  ·walk_at "rd"
   have:=q H (al.refl H)
   rw [Av ky n] at this
   exact this
  obtain ⟨w,rfl⟩:=BS ky n
  walk_at "rd"
  refine cZ (SqT.of e) (nu _ _) ?_
  walk_at "rd"
  rcases pO G w with ⟨l1,l2⟩ | ⟨f,form,l1,l2,tf⟩
  ·refine As l1 ?_
   walk_at "rd"
   have:=q H (al.refl H)
   rw [show dt c h H (.str w :: items)=false by simp only [dt,l2]] at this
   exact this
  have et:dt c h H (.str w :: items)=(decide (items.length=form.length) && (form.zip items).all (fun p=>d6 c h H p.1 p.2)):=by simp only [dt,l2]
  rw [et] at q
  have tf':=tf K g
  refine y8 l1 ?_
  walk_at "rd"
  refine cZ (SqT.of e) (nu _ _) ?_
  refine Ba l1 ?_
  walk_at "rd"
  refine wt (tf'.sq _) ?_
  walk_at "rd"
  rw [List.length_map]
  refine zW (fun n=>?_) (fun n=>?_)
  ·walk_at "rd"
   have n':¬ items.length=form.length:=fun z=>n (by show ((items.length + 1:Nat):Int)=1 + ((form.length:Nat):Int); omega)
   have:=q H (al.refl H)
   rw [decide_eq_false n',Bool.false_and] at this
   exact this
  have n':items.length=form.length:=by
   have:((items.length + 1:Nat):Int)=1 + ((form.length:Nat):Int):=n
   omega
  rw [decide_eq_true n',Bool.true_and] at q
  walk_at "rd"
  refine A7 (SqT.of e) (nM _ _) fun b H1 hb s1 e1=>?_
  rw [tU] at e1
  walk_at "rd"
  have hfl:form.length<=1000:=by
   have:=iO l2
   omega
  refine o0 (S1:=gI) (S2:=gI) (form.map V.str) items (tf'.sq _) (SqT.of e1) (fun H' _=>tf'.sq _) (fun H' s'=>SqT.of (s' _ _ e1)) (by rw [List.length_map]; omega) (fun i acc _=>acc=(((form.zip items).take i).map fun p=>d6 c h H p.1 p.2).map V.bl) (fun _ _=>rfl) ?_ ?_
  ·rintro p hp C s' H' fp i x y T acc H2 H3 hx hy ⟨s2,e2,l2',r2⟩ hT s3 e3 e4
   obtain ⟨z,hz,rfl⟩:∃ z,form[i]?=some z/\x=.str z:=by
    rw [List.getElem?_map] at hx
    cases e:form[i]? with
    | none=>rw [e] at hx; cases hx
    | some z=>rw [e] at hx; exact ⟨z,rfl,(Option.some.inj hx).symm⟩
   subst r2
   refine gu (SqT.of e3) ?_
   walk_at "rd"
   have ki:=(kv y (List.mem_cons_of_mem _ (List.mem_of_getElem? hy)))
   have s13:=(s1.trans s2).trans s3
   refine ⟨c,h,z,y,rfl,ki.same s13,?_⟩
   rw [rE s13 ki]
   refine aZ.put hp (fun _ _ _ _ r _=>r) (s2.trans s3) e4 l2' ?_
   have ez:(form.zip items)[i]?=some (z,y):=by rw [List.getElem?_zip_eq_some]; exact ⟨hz,hy⟩
   rw [List.take_add_one,ez,List.map_append,List.map_append]
   rfl
  ·intro p acc H2 hp s2 e2 r2
   have el:(form.zip items).take (min (form.map V.str).length items.length)=form.zip items:=by
    rw [List.take_of_length_le]
    rw [List.length_zip,List.length_map]
    exact Nat.le_refl _
   rw [el] at r2
   subst r2
   walk_at "rd"
   refine ⟨p,_,rfl,SqL.of e2,?_⟩
   rw [List.all_map]
   exact q _ (s1.trans s2)
noncomputable def fL (_:PySem.W.Frag):Sp:=fun vs H Q _=>∃ (c h:Int) (v:V),vs=[v]/\aQ H v/\cz c h H v=true/\∀ (p:Addr) (H':Hp),al H H'->H p=none->H' p=some (.lst (bK H v))->Q (.ref p) H'
noncomputable def jz (K:PySem.W.Frag) (G:Glo):TS:=(aq (aU (tOp (xi G.kvs G.forms) (tC (.ref G.forms)) (tOp (dJ K) (ac 0) (tC (.int 0)))) (am 1))
 (aL (bT (qo gI gI K (ab (ac 1) (ab (tSl (xh K) (ac 0) (sL (tC (.int 1))) m9) ai))) (fun _ _ _ _=>(g0 K 2 (b7 (am 0) (b7 (am 1) gZ)))) (fun _ _ _ _=>(aY (tOp rEq (ac 0) (tC (.str "saying"))))) (fun _ _ _ _=>(ac 1)) [none,none])))
theorem uJ {K:PySem.W.Frag} {vs:List V} {H:Hp} {Q:VK} {E:XK} (h:fL K vs H Q E):vs.length=1:=by
 obtain ⟨c,h,v,rfl,_⟩:=h
 rfl
theorem vV {K:PySem.W.Frag} {G:Glo} (g:np K G) {vs:List V} {H:Hp} {Q:VK} {E:XK} (h:fL K vs H Q E):jz K G { nx:=fun _ H'=>Q .non H',rt:=Q } (aN ["saying","form"] vs) H:=by
 obtain ⟨c,h,v,rfl,k,hw,q⟩:=h
 obtain ⟨a,w,items,form,rfl,e,ef,hl⟩:=uG hw
 rcases pO G w with ⟨l1,l2⟩ | ⟨f,form',l1,l2,tf⟩
 ·rw [ef] at l2
  cases l2
 rw [ef] at l2
 cases l2
 have tf':=tf K g
 have hfl:=iO ef
 have ep:bK H (.ref a)=mF form items:=by rw [b9 e]; simp only [eS,ef]
 rw [ep] at q
 show jz K G _ [some _,none] _
 unfold jz
 walk_at "rd"
 refine cZ (SqT.of e) (nu _ _) ?_
 refine Ba l1 ?_
 walk_at "rd"
 refine A7 (SqT.of e) (nM _ _) fun b H1 hb s1 e1=>?_
 rw [tU] at e1
 walk_at "rd"
 have hml:min (form.map V.str).length items.length=form.length:=by rw [List.length_map,hl]; omega
 refine o0 (S1:=gI) (S2:=gI) (form.map V.str) items (tf'.sq _) (SqT.of e1) (fun H' _=>tf'.sq _) (fun H' s'=>SqT.of (s' _ _ e1)) (by rw [List.length_map]; omega) (fun i acc _=>acc=mF (form.take i) (items.take i)) (fun _ _=>rfl) ?_ ?_
 ·intro p hp' C s' H' fp i x y T acc H2 H3 hx hy ⟨s2,e2,l2,r2⟩ hT s3 e3 e4
  obtain ⟨z,hz,rfl⟩:∃ z,form[i]?=some z/\x=.str z:=by
   rw [List.getElem?_map] at hx
   cases e:form[i]? with
   | none=>rw [e] at hx; cases hx
   | some z=>rw [e] at hx; exact ⟨z,rfl,(Option.some.inj hx).symm⟩
  have pt:=yV form items i z y hz hy
  subst r2
  refine gu (SqT.of e3) ?_
  walk_at "rd"
  refine bN (fun c=>?_) (fun c=>?_)
  ·walk_at "rd"
   rw [if_pos c] at pt
   exact aZ.put hp' (fun _ _ _ _ r _=>r) (s2.trans s3) e4 l2 pt.symm
  ·rw [if_neg c,List.append_nil] at pt
   exact aZ.skip (s2.trans s3) e4 l2 pt.symm
 ·intro p acc H2 hp' s2 e2 r2
  rw [hml,<-hl,List.take_length,hl,List.take_length] at r2
  subst r2
  exact q p H2 (s1.trans s2) (s1.free hp') e2
theorem mK {H:Hp} {v:V} (k:aQ H v):∀ p∈bK H v,aQ H p:=by
 intro p hp
 cases k with
 | tup e kv=>
  rw [b9 e] at hp
  rename_i vs
  cases vs with
  | nil=>cases hp
  | cons x items=>
   cases x with
   | str w=>
    cases ef:cq w with
    | none=>simp [eS,ef] at hp
    | some form=>
     simp only [eS,ef] at hp
     obtain ⟨z,hz,rfl⟩:=List.mem_map.mp hp
     exact kv _ (List.mem_cons_of_mem _ (qD (List.mem_filter.mp hz).1))
   | _=>cases hp
 | lst e=>simp [bK,e] at hp
 | dic e=>simp [bK,e] at hp
 | _=>cases hp
theorem pQ {c h:Int} {H:Hp} {v:V} (w:cz c h H v=true):(bK H v).length<=2:=by
 obtain ⟨a,w,items,form,rfl,e,ef,hl⟩:=uG w
 rw [b9 e]
 simp only [eS,ef]
 exact Nat.le_trans (An _ _) (iO ef)
noncomputable def dH (_:PySem.W.Frag):Sp:=fun vs H Q _=>∃ (c h:Int) (l:Addr) (xs:List V),vs=[.ref l]/\H l=some (.lst xs)/\xs.length<=100/\(∀ x∈xs,aQ H x/\cz c h H x=true)/\∀ (p:Addr) (H':Hp),al H H'->H p=none->H' p=some (.lst (xs.flatMap (bK H)))->Q (.ref p) H'
noncomputable def gf (K:PySem.W.Frag):TS:=(aq (aU (cE ai) (am 1))
 (aq (gH (eB K (ac 0)) (am 2) (kZ (tBM K "list" qj (ac 1) (ab (az (fL K) [] E0 (ab (ac 2) ai)) ai))))
 (aL (ac 1))))
theorem oA {H:Hp} {c h:Int}:∀ {xs:List V},(∀ x∈xs,aQ H x/\cz c h H x=true)->(xs.flatMap (bK H)).length<=2 * xs.length
 | [],_=>Nat.le_refl _
 | x :: r,hx=>by
  rw [List.flatMap_cons,List.length_append,List.length_cons]
  have:=oA (xs:=r) fun y hy=>hx y (List.mem_cons_of_mem _ hy)
  have:=pQ (hx x List.mem_cons_self).2
  omega
theorem oB {K:PySem.W.Frag} {vs:List V} {H:Hp} {Q:VK} {E:XK} (h:dH K vs H Q E):vs.length=1:=by
 obtain ⟨c,h,l,xs,rfl,hl,h100,hx,q⟩:=h
 rfl
theorem pR {K:PySem.W.Frag} {vs:List V} {H:Hp} {Q:VK} {E:XK} (h:dH K vs H Q E):gf K { nx:=fun _ H'=>Q .non H',rt:=Q } (aN ["sayings","parts","saying"] vs) H:=by
 obtain ⟨c,h,l,xs,rfl,hl,h100,hx,q⟩:=h
 show gf K _ [some _,none,none] _
 unfold gf
 walk_at "rd"
 refine ⟨by simp [sizeLine_eq],fun p H1 hp s1 e1=>?_⟩
 walk_at "rd"
 refine qq xs (SqL.of (s1 _ _ hl)) (fun i σ H2=>∃ st,σ=[some (.ref l),some (.ref p),st]/\al H H2/\H2 p=some (.lst ((xs.take i).flatMap (bK H)))) ⟨none,rfl,s1,e1⟩ (fun i σ H2 _ ⟨_,_,s2,_⟩=>SqL.of (s2 _ _ hl)) ?_ ?_
 ·rintro i x σ H2 hxi ⟨st,rfl,s2,e2⟩
  obtain ⟨kx,wx⟩:=hx x (List.mem_of_getElem? hxi)
  walk_at "rd"
  refine ⟨xc e2,?_⟩
  walk_at "rd"
  refine ⟨c,h,x,rfl,kx.same s2,by rw [ik s2 kx]; exact wx,fun r H3 s3 hr e3=>?_⟩
  rw [kn s2 kx] at e3
  walk_at "rd"
  have hle:((xs.take i).flatMap (bK H)).length<=200:=by
   have:=oA (xs:=xs.take i) fun y hy=>hx y (List.mem_of_mem_take hy)
   rw [List.length_take] at this
   omega
  have hl2:=pQ wx
  refine zZ (s3 _ _ e2) e3 (by rw [sizeLine_eq]; omega) fun H4 o4 e4=>?_
  refine ⟨_,rfl,(s2.trans s3).off hp o4,?_⟩
  rw [e4,List.take_add_one,hxi,List.flatMap_append]
  simp
 ·rintro σ H2 ⟨st,rfl,s2,e2⟩
  rw [List.take_length] at e2
  walk_at "rd"
  exact q p H2 s2 hp e2
inductive gq (c h:Int) (H:Hp):V->Nat->Prop where
 | mk {v:V} {ns:List Nat} (w:cz c h H v=true) (p:Paired (gq c h H) (bK H v) ns):gq c h H v (1 + ns.sum)
inductive Bad (c h:Int) (H:Hp):V->Prop where
 | top {v:V} (w:cz c h H v=false):Bad c h H v
 | part {v p:V} (w:cz c h H v=true) (m:p∈bK H v) (b:Bad c h H p):Bad c h H v
theorem Bad.same {c h:Int} {H H':Hp} (s:al H H') {v:V} (b:Bad c h H v) (k:aQ H v):Bad c h H' v:=by
 induction b with
 | top w=>exact .top (by rw [ik s k]; exact w)
 | part w m b ih=>exact .part (by rw [ik s k]; exact w) (by rw [kn s k]; exact m) (ih (mK k _ m))
theorem gq.word {c h:Int} {H:Hp} {v:V} {n:Nat} (s:gq c h H v n):cz c h H v=true:=by cases s with | mk w p=>exact w
theorem gq.pos {c h:Int} {H:Hp} {v:V} {n:Nat} (s:gq c h H v n):1<=n:=by cases s with | mk w p=>omega
theorem rF {c h:Int} {H:Hp}:∀ {xs:List V} {ns:List Nat},Paired (gq c h H) xs ns->xs.length<=ns.sum
 | _,_,.nil=>Nat.le_refl _
 | _,_,.cons r t=>by
  have:=r.pos
  have:=rF t
  rw [List.length_cons,List.sum_cons]
  omega
theorem ko {c h:Int} {H:Hp}:∀ {xs:List V} {ns:List Nat},Paired (gq c h H) xs ns->∃ ms,Paired (gq c h H) (xs.flatMap (bK H)) ms/\xs.length + ms.sum=ns.sum
 | _,_,.nil=>⟨[],.nil,rfl⟩
 | _,_,.cons (a:=x) r t=>by
  obtain ⟨ms,p,e⟩:=ko t
  cases r with
  | mk w q=>
   rename_i ks
   refine ⟨ks++ms,jv q p,?_⟩
   rw [List.length_cons,List.sum_append,List.sum_cons]
   omega
noncomputable def fm (_:PySem.W.Frag):Sp:=fun vs H Q _=>∃ (c h:Int) (v:V) (b:Bool),vs=[.int c,.int h,v]/\aQ H v/\((b=true/\∃ n,n<=30/\gq c h H v n)\/(b=false/\(Bad c h H v\/∃ n,30 < n/\gq c h H v n)))/\∀ H',al H H'->Q (.bl b) H'
noncomputable def i0 (K:PySem.W.Frag):TS:=(aq (bw (tOr (fe (tB (az (dr K) [] E0 (ab (ac 0) ai)))) (fe (tB (az (dr K) [] E0 (ab (ac 1) ai))))) (aL (tC (.bl false))) aX)
 (aq (aU (tC (.int 0)) (am 3))
 (aq (aU (cE (ab (ac 2) ai)) (am 4))
 (aq (tp (aY (tOp (rI0 fun i j=>.bl (decide (j < i))) (tCB (fO K) (ab (ac 4) ai)) (tC (.int 0)))) (aq (aU (tOp (rI0 fun i j=>.int (i + j)) (ac 3) (tCB (fO K) (ab (ac 4) ai))) (am 3))
 (aq (bw (tOr (aY (tOp (rI0 fun i j=>.bl (decide (j < i))) (ac 3) (tC (.int 30)))) (fe (tB (tCB (zY K) (ab (bT (eB K (ac 4)) (fun _ _ _ _=>(am 0)) (fun _ _ _ _=>b8) (fun _ _ _ _=>(az (ge K) [] E0 (ab (ac 1) (ab (ac 2) (ab (ac 0) ai))))) [none,some 0,some 1]) ai))))) (aL (tC (.bl false))) aX)
 (aU (az (dH K) [] E0 (ab (ac 4) ai)) (am 4)))))
 (aL (tC (.bl true)))))))
theorem rR {K:PySem.W.Frag} {vs:List V} {H:Hp} {Q:VK} {E:XK} (h:fm K vs H Q E):vs.length=3:=by
 obtain ⟨c,h,v,b,rfl,k,hb,q⟩:=h
 rfl
theorem uK {K:PySem.W.Frag} {vs:List V} {H:Hp} {Q:VK} {E:XK} (h:fm K vs H Q E):i0 K { nx:=fun _ H'=>Q .non H',rt:=Q } (aN ["cards","hands","thing","words","level"] vs) H:=by
 obtain ⟨c,h,v,b,rfl,k,hb,q⟩:=h
 show i0 K _ [some _,some _,some _,none,none] _
 unfold i0
 walk_at "rd"
 refine ⟨_,rfl,fw.int _,?_⟩
 walk_at "rd"
 refine xf ?_
 walk_at "rd"
 refine ⟨_,rfl,fw.int _,?_⟩
 walk_at "rd"
 refine xf ?_
 walk_at "rd"
 refine ⟨by simp [sizeLine_eq],fun p H1 hp s1 e1=>?_⟩
 refine yB ?_
 dsimp only [List.set_cons_zero,List.set_cons_succ]
 refine cY ?_
 refine Ea (fun m σ H2=>∃ (W:Nat) (l:Addr) (xs:List V),σ=[some (.int c),some (.int h),some v,some (.int W),some (.ref l)]/\al H H2/\H2 l=some (.lst xs)/\(∀ x∈xs,aQ H x)/\xs.length<=100/\W<=30/\m=31 - W/\
   ((b=true/\∃ ns:List Nat,Paired (gq c h H) xs ns/\W + ns.sum<=30)\/(b=false/\∃ x∈xs,Bad c h H x)\/(b=false/\∃ ns:List Nat,Paired (gq c h H) xs ns/\30 < W + ns.sum))) 31
  ⟨0,p,[v],rfl,s1,e1,fun x hx=>by rw [List.mem_singleton] at hx; subst hx; exact k,by simp,by decide,rfl,?_⟩ ?_
 ·rcases hb with ⟨h1,n,h2,h3⟩ | ⟨h1,h2 | ⟨n,h2,h3⟩⟩
  ·exact .inl ⟨h1,[n],.cons h3 .nil,by simp; omega⟩
  ·exact .inr (.inl ⟨h1,v,List.mem_singleton.mpr rfl,h2⟩)
  ·exact .inr (.inr ⟨h1,[n],.cons h3 .nil,by simp; omega⟩)
 rintro m σ H2 ⟨W,l,xs,rfl,s2,e2,kx,h100,hW,hm,hc⟩
 walk_at "rd"
 refine bN (fun c0=>?_) (fun c0=>?_)
 ·refine D0 ?_
  have no:b=false->∀ H3,al H2 H3->Q (.bl false) H3:=fun hbf H3 s3=>by rw [<-hbf]; exact q _ (s2.trans s3)
  have big:30 < (W:Int) + (xs.length:Int)->b=false:=by
   intro z
   rcases hc with ⟨h1,ns,h2,h3⟩ | ⟨h1,_⟩ | ⟨h1,_⟩
   ·have:=rF h2
    omega
   ·exact h1
   ·exact h1
  walk_at "rd"
  refine bN (fun c1=>?_) (fun c1=>?_)
  ·walk_at "rd"
   exact no (big c1) _ (al.refl _)
  ·walk_at "rd"
   refine gN xs (SqL.of e2) (by omega) (fun i acc _=>acc=((xs.take i).map (cz c h H)).map V.bl) (fun _ _=>rfl) ?_ ?_
   ·intro p' hp' C s' H' fp i x acc H3 hxi ⟨s3,e3,l3,r3⟩
    subst r3
    have kx':=kx x (List.mem_of_getElem? hxi)
    walk_at "rd"
    refine ⟨c,h,x,rfl,kx'.same (s2.trans s3),fun H4 s4=>?_⟩
    rw [ik (s2.trans s3) kx']
    refine aZ.put hp' (fun _ _ _ _ r _=>r) (s3.trans s4) (s4 _ _ e3) l3 ?_
    rw [List.take_add_one,hxi,List.map_append,List.map_append]
    rfl
   ·intro p' acc H3 hp' s3 e3 r3
    rw [List.take_length] at r3
    subst r3
    walk_at "rd"
    refine ⟨p',_,rfl,SqL.of e3,?_⟩
    rw [List.all_map]
    refine CP ?_
    refine hU (fun n=>?_) (fun n=>?_)
    ·walk_at "rd"
     refine no ?_ _ s3
     rcases hc with ⟨h1,ns,h2,h3⟩ | ⟨h1,_⟩ | ⟨h1,_⟩
     ·have:xs.all (id ∘ cz c h H)=true:=by
       rw [List.all_eq_true]
       intro x hx
       obtain ⟨i,hi⟩:=List.getElem?_of_mem hx
       obtain ⟨n',_,hs⟩:=lm h2 hi
       exact hs.word
      rw [this] at n
      cases n
     ·exact h1
     ·exact h1
    ·have all:∀ x∈xs,cz c h H x=true:=fun x hx=>(List.all_eq_true.mp n) x hx
     walk_at "rd"
     have s23:=s2.trans s3
     refine ⟨c,h,l,xs,rfl,s3 _ _ e2,h100,fun x hx=>⟨(kx x hx).same s23,by rw [ik s23 (kx x hx)]; exact all x hx⟩,fun r H4 s4 hr e4=>?_⟩
     have ep:xs.flatMap (bK H3)=xs.flatMap (bK H):=by
      have:∀ ys:List V,(∀ y∈ys,aQ H y)->ys.flatMap (bK H3)=ys.flatMap (bK H):=by
       intro ys
       induction ys with
       | nil=>intro _; rfl
       | cons y r ih=>intro hy; rw [List.flatMap_cons,List.flatMap_cons,kn s23 (hy y List.mem_cons_self),ih fun z hz=>hy z (List.mem_cons_of_mem _ hz)]
      exact this xs kx
     rw [ep] at e4
     have hfl:=oA (H:=H) (c:=c) (h:=h) (xs:=xs) fun x hx=>⟨kx x hx,all x hx⟩
     walk_at "rd"
     have a1:31 - (W + xs.length) < m:=by clear hc hb; omega
     have a2:(xs.flatMap (bK H)).length<=100:=by clear hc hb; omega
     have a3:W + xs.length<=30:=by clear hc hb; omega
     refine ⟨31 - (W + xs.length),a1,W + xs.length,r,_,by rw [Int.natCast_add],s23.trans s4,e4,?_,a2,a3,rfl,?_⟩
     ·intro x hx
      obtain ⟨y,hy,hxy⟩:=List.mem_flatMap.mp hx
      exact mK (kx y hy) x hxy
     ·rcases hc with ⟨h1,ns,h2,h3⟩ | ⟨h1,x,hx,hbad⟩ | ⟨h1,ns,h2,h3⟩
      ·obtain ⟨ms,p2,e5⟩:=ko h2
       exact .inl ⟨h1,ms,p2,by omega⟩
      ·refine .inr (.inl ⟨h1,?_⟩)
       cases hbad with
       | top w=>rw [all x hx] at w; cases w
       | part w m b=>exact ⟨_,List.mem_flatMap.mpr ⟨x,hx,m⟩,b⟩
      ·obtain ⟨ms,p2,e5⟩:=ko h2
       exact .inr (.inr ⟨h1,ms,p2,by omega⟩)
 ·have hx0:xs=[]:=List.length_eq_zero_iff.mp (by omega)
  walk_at "rd"
  rcases hc with ⟨h1,_⟩ | ⟨_,x,hx,_⟩ | ⟨_,ns,h2,h3⟩
  ·rw [<-h1]
   exact q _ s2
  ·rw [hx0] at hx
   cases hx
  ·subst hx0
   cases h2
   simp at h3
   omega
end L2
end
section
namespace L2
open PySem PyProof.Rows
theorem nV {α β:Type} {F:α->β->Prop}:∀ {l:List α} {m:List β},Paired F l m->l≠[]->∃ l0 x m0 y,l=l0++[x]/\m=m0++[y]/\Paired F l0 m0/\F x y
 | _,_,.nil,h=>absurd rfl h
 | _,_,.cons (a:=a) (b:=b) r .nil,_=>⟨[],a,[],b,rfl,rfl,.nil,r⟩
 | _,_,.cons (a:=a) (b:=b) r (.cons q t),_=>by
  obtain ⟨l0,x,m0,y,e1,e2,p,f⟩:=nV (.cons q t) (by simp)
  exact ⟨a :: l0,x,b :: m0,y,by rw [e1]; rfl,by rw [e2]; rfl,.cons r p,f⟩
noncomputable def mL (ss:List Sy):Nat:=(ss.map Sy.words).sum
theorem Aw (a b:List Sy):mL (a++b)=mL a + mL b:=by unfold mL; rw [List.map_append,List.sum_append]
theorem Ax (s:Sy):mL [s]=s.words:=by unfold mL; simp
structure jA (H H2:Hp) (r:Addr) (c h room:Nat) (ss:List Sy) (spent:Nat):Prop where
 same:al H H2
 new:H r=none
 at_:∃ xs,H2 r=some (.lst xs)/\ln H2 xs ss
 sum:mL ss=spent
 room:spent + ss.length<=room + 1
 emp:ss=[]->spent=0
 ok:∀ s∈ss,s.Ok c h
noncomputable def Sy.two (b:Bool) (s t:Sy):Sy:=if b then .and s t else .or s t
theorem jA.push {H H':Hp} {r:Addr} {c h room spent:Nat} {ss0:List Sy} {s':Sy} {xs0:List V} {v:V} (same:al H H') (new:H r=none) (e:H' r=some (.lst (xs0++[v]))) (hs:ln H' xs0 ss0) (hv:cR H' v s') (sum:mL ss0 + s'.words=spent) (hr:spent + ss0.length<=room) (ok:∀ s∈ss0,s.Ok c h) (ok':s'.Ok c h):
  jA H H' r c h room (ss0++[s']) spent where
 same:=same
 new:=new
 at_:=⟨_,e,jv hs (.cons hv .nil)⟩
 sum:=by rw [Aw,Ax]; exact sum
 room:=by rw [List.length_append]; show spent + (ss0.length + 1)<=room + 1; omega
 emp:=fun e=>by simp at e
 ok:=fun s hs=>by
  rcases List.mem_append.mp hs with hs | hs
  ·exact ok s hs
  ·rw [List.mem_singleton] at hs; subst hs; exact ok'
theorem jA.last {H H2:Hp} {r:Addr} {c h room spent:Nat} {ss:List Sy} (R:jA H H2 r c h room ss spent) (hl:1<=ss.length):∃ xs0 x ss0 s,H2 r=some (.lst (xs0++[x]))/\ss=ss0++[s]/\ln H2 xs0 ss0/\cR H2 x s:=by
 obtain ⟨xs,e,p⟩:=R.at_
 have hxl:=rC p
 obtain ⟨xs0,x,ss0,s,rfl,rfl,p0,f⟩:=nV p (by intro z; subst z; simp at hxl; omega)
 exact ⟨xs0,x,ss0,s,e,rfl,p0,f⟩
theorem jA.len {H H2:Hp} {r:Addr} {c h room spent:Nat} {ss:List Sy} (R:jA H H2 r c h room ss spent):∃ xs,H2 r=some (.lst xs)/\xs.length=ss.length:=by
 obtain ⟨xs,e,p⟩:=R.at_
 exact ⟨xs,e,rC p⟩
theorem jA.to {H H2 H3:Hp} {r:Addr} {c h room spent:Nat} {ss:List Sy} (R:jA H H2 r c h room ss spent) (s:al H2 H3):jA H H3 r c h room ss spent where
 same:=R.same.trans s
 new:=R.new
 at_:=by obtain ⟨xs,e,p⟩:=R.at_; exact ⟨xs,s _ _ e,p.keep s.keep⟩
 sum:=R.sum
 room:=R.room
 emp:=R.emp
 ok:=R.ok
end L2
end
section
namespace L2
open PySem PyProof.Rows
section
variable {c h:Int} {H:Hp} {x y:V}
theorem xH:d6 c h H "holder" x=ba x 0 h:=by unfold d6; rw [if_pos rfl]
theorem Ay:d6 c h H "card" x=ba x 0 (c - 1):=by unfold d6; rw [if_neg (by decide +kernel),if_pos rfl]
theorem uL:d6 c h H "hand" x=ba x 0 (h - 1):=by unfold d6; rw [if_neg (by decide +kernel),if_neg (by decide +kernel),if_pos rfl]
theorem rG:d6 c h H "hands" x=eL H h x:=by unfold d6; rw [if_neg (by decide +kernel),if_neg (by decide +kernel),if_neg (by decide +kernel),if_pos rfl]
theorem gh:d6 c h H "saying" x=true:=by unfold d6; rw [if_neg (by decide +kernel),if_neg (by decide +kernel),if_neg (by decide +kernel),if_neg (by decide +kernel)]
theorem fS {w:Str} {form:List Str} {items:List V} (e:cq w=some form):dt c h H (.str w :: items)=(decide (items.length=form.length) && (form.zip items).all (fun p=>d6 c h H p.1 p.2)):=by simp only [dt,e]
theorem BT:cq "holds"=some (["holder","card"]:List Str):=rfl
theorem Eu:cq "not"=some (["saying"]:List Str):=rfl
theorem Ev:cq "and"=some (["saying","saying"]:List Str):=rfl
theorem EW:cq "or"=some (["saying","saying"]:List Str):=rfl
theorem BU:cq "knows"=some (["hand","saying"]:List Str):=rfl
theorem Ew:cq "all"=some (["hands","saying"]:List Str):=rfl
theorem Az:cq "common"=some (["hands","saying"]:List Str):=rfl
theorem Dl:cq "sees"=some (["hand"]:List Str):=rfl
theorem AB:dt c h H [.str "holds",x,y]=(ba x 0 h && ba y 0 (c - 1)):=by
 rw [fS BT]
 simp only [List.zip_cons_cons,List.zip_nil_left,List.all_cons,List.all_nil,xH,Ay,Bool.and_true,List.length_cons,List.length_nil,decide_true,Bool.true_and]
theorem BV:dt c h H [.str "sees",x]=ba x 0 (h - 1):=by
 rw [fS Dl]
 simp only [List.zip_cons_cons,List.zip_nil_left,List.all_cons,List.all_nil,uL,Bool.and_true,List.length_cons,List.length_nil,decide_true,Bool.true_and]
theorem Dm:dt c h H [.str "not",x]=true:=by
 rw [fS Eu]
 simp only [List.zip_cons_cons,List.zip_nil_left,List.all_cons,List.all_nil,gh,Bool.and_true,List.length_cons,List.length_nil,decide_true,Bool.true_and]
theorem Dn:dt c h H [.str "and",x,y]=true:=by
 rw [fS Ev]
 simp only [List.zip_cons_cons,List.zip_nil_left,List.all_cons,List.all_nil,gh,Bool.and_true,List.length_cons,List.length_nil,decide_true,Bool.true_and]
theorem Ex:dt c h H [.str "or",x,y]=true:=by
 rw [fS EW]
 simp only [List.zip_cons_cons,List.zip_nil_left,List.all_cons,List.all_nil,gh,Bool.and_true,List.length_cons,List.length_nil,decide_true,Bool.true_and]
theorem AC:dt c h H [.str "knows",x,y]=ba x 0 (h - 1):=by
 rw [fS BU]
 simp only [List.zip_cons_cons,List.zip_nil_left,List.all_cons,List.all_nil,gh,uL,Bool.and_true,List.length_cons,List.length_nil,decide_true,Bool.true_and]
theorem Do:dt c h H [.str "all",x,y]=eL H h x:=by
 rw [fS Ew]
 simp only [List.zip_cons_cons,List.zip_nil_left,List.all_cons,List.all_nil,gh,rG,Bool.and_true,List.length_cons,List.length_nil,decide_true,Bool.true_and]
theorem y9:dt c h H [.str "common",x,y]=eL H h x:=by
 rw [fS Az]
 simp only [List.zip_cons_cons,List.zip_nil_left,List.all_cons,List.all_nil,gh,rG,Bool.and_true,List.length_cons,List.length_nil,decide_true,Bool.true_and]
theorem io {i lo hi:Int} (h1:lo<=i) (h2:i<=hi):ba (.int i) lo hi=true:=by show (decide (lo<=i) && decide (i<=hi))=true; rw [decide_eq_true h1,decide_eq_true h2]; rfl
theorem BW:eS [.str "not",x]=[x]:=rfl
theorem BX:eS [.str "and",x,y]=[x,y]:=rfl
theorem Dp:eS [.str "or",x,y]=[x,y]:=rfl
theorem za:eS [.str "knows",x,y]=[y]:=rfl
theorem BY:eS [.str "all",x,y]=[y]:=rfl
theorem xI:eS [.str "common",x,y]=[y]:=rfl
theorem zb:eS [.str "holds",x,y]=[]:=rfl
theorem AD:eS [.str "sees",x]=[]:=rfl
end
theorem mM {h:Nat}:∀ (g:List Nat) (lo:Int),(∀ k∈g,lo<=(k:Int))->g.Pairwise (· < ·)->(∀ k∈g,k < h)->fK (h:Int) lo (aw g)=true
 | [],_,_,_,_=>rfl
 | k :: r,lo,h1,h2,h3=>by
  show (ba (.int (k:Int)) lo ((h:Int) - 1) && fK (h:Int) ((k:Int) + 1) (aw r))=true
  rw [List.pairwise_cons] at h2
  have hk:=h3 k List.mem_cons_self
  rw [io (h1 k List.mem_cons_self) (by omega),mM r _ (fun j hj=>by have:=h2.1 j hj; omega) h2.2 fun j hj=>h3 j (List.mem_cons_of_mem _ hj)]
  rfl
theorem je {H:Hp}:∀ v∈([]:List V),aQ H v:=fun _ h=>(nomatch h)
theorem bH {H:Hp} {x:V} {xs:List V} (h:aQ H x) (t:∀ v∈xs,aQ H v):∀ v∈x :: xs,aQ H v:=fun v hv=>by
 rcases List.mem_cons.mp hv with rfl | hv
 ·exact h
 ·exact t v hv
theorem zd {H:Hp} (g:List Nat):∀ v∈aw g,aQ H v:=fun v hv=>by
 obtain ⟨k,_,rfl⟩:=List.mem_map.mp hv
 exact .int _
theorem cR.known {H:Hp}:∀ {s:Sy} {v:V},cR H v s->aQ H v
 | .holds _ _,_,⟨a,e,h⟩=>by subst e; exact .tup h (bH (.str _) (bH (.int _) (bH (.int _) je)))
 | .sees _,_,⟨a,e,h⟩=>by subst e; exact .tup h (bH (.str _) (bH (.int _) je))
 | .not _,_,⟨a,x,e,h,r⟩=>by subst e; exact .tup h (bH (.str _) (bH r.known je))
 | .and _ _,_,⟨a,x,y,e,h,r,q⟩=>by subst e; exact .tup h (bH (.str _) (bH r.known (bH q.known je)))
 | .or _ _,_,⟨a,x,y,e,h,r,q⟩=>by subst e; exact .tup h (bH (.str _) (bH r.known (bH q.known je)))
 | .knows _ _,_,⟨a,x,e,h,r⟩=>by subst e; exact .tup h (bH (.str _) (bH (.int _) (bH r.known je)))
 | .all g _,_,⟨a,b,x,e,h,i,r⟩=>by subst e; exact .tup h (bH (.str _) (bH (.tup i (zd g)) (bH r.known je)))
 | .common g _,_,⟨a,b,x,e,h,i,r⟩=>by subst e; exact .tup h (bH (.str _) (bH (.tup i (zd g)) (bH r.known je)))
theorem gS {c h:Int} {H:Hp} {v:V} {ns:List Nat} {n:Nat} (w:cz c h H v=true) (p:Paired (gq c h H) (bK H v) ns) (e:n=1 + ns.sum):gq c h H v n:=by subst e; exact .mk w p
theorem cR.sayw {H:Hp} {c h:Nat}:∀ {s:Sy} {v:V},cR H v s->s.Ok c h->gq (c:Int) (h:Int) H v s.words
 | .holds w k,_,⟨a,e,i⟩,ok=>by
  subst e
  have ok':w<=h/\k < c:=ok
  refine gS (ns:=[]) ?_ ?_ rfl
  ·rw [cV i,AB,io (by omega) (by omega),io (by omega) (by omega)]; rfl
  ·rw [b9 i,zb]; exact .nil
 | .sees k,_,⟨a,e,i⟩,ok=>by
  subst e
  have ok':k < h:=ok
  refine gS (ns:=[]) ?_ ?_ rfl
  ·rw [cV i,BV,io (by omega) (by omega)]
  ·rw [b9 i,AD]; exact .nil
 | .not s,_,⟨a,x,e,i,r⟩,ok=>by
  subst e
  refine gS (ns:=[s.words]) ?_ ?_ (by simp [Sy.words]; omega)
  ·rw [cV i,Dm]
  ·rw [b9 i,BW]; exact .cons (r.sayw ok) .nil
 | .and s t,_,⟨a,x,y,e,i,r,q⟩,ok=>by
  subst e
  refine gS (ns:=[s.words,t.words]) ?_ ?_ (by simp [Sy.words]; omega)
  ·rw [cV i,Dn]
  ·rw [b9 i,BX]; exact .cons (r.sayw ok.1) (.cons (q.sayw ok.2) .nil)
 | .or s t,_,⟨a,x,y,e,i,r,q⟩,ok=>by
  subst e
  refine gS (ns:=[s.words,t.words]) ?_ ?_ (by simp [Sy.words]; omega)
  ·rw [cV i,Ex]
  ·rw [b9 i,Dp]; exact .cons (r.sayw ok.1) (.cons (q.sayw ok.2) .nil)
 | .knows k s,_,⟨a,x,e,i,r⟩,ok=>by
  subst e
  have ok':k < h:=ok.1
  refine gS (ns:=[s.words]) ?_ ?_ (by simp [Sy.words]; omega)
  ·rw [cV i,AC,io (by omega) (by omega)]
  ·rw [b9 i,za]; exact .cons (r.sayw ok.2) .nil
 | .all g s,_,⟨a,b,x,e,i,j,r⟩,ok=>by
  subst e
  refine gS (ns:=[s.words]) ?_ ?_ (by simp [Sy.words]; omega)
  ·rw [cV i,Do,ij j,mM g 0 (fun k _=>by omega) ok.1.1 ok.1.2]
  ·rw [b9 i,BY]; exact .cons (r.sayw ok.2) .nil
 | .common g s,_,⟨a,b,x,e,i,j,r⟩,ok=>by
  subst e
  refine gS (ns:=[s.words]) ?_ ?_ (by simp [Sy.words]; omega)
  ·rw [cV i,y9,ij j,mM g 0 (fun k _=>by omega) ok.1.1 ok.1.2]
  ·rw [b9 i,xI]; exact .cons (r.sayw ok.2) .nil
end L2
end
section
namespace L2
open PySem
noncomputable def AE (K:PySem.W.Frag):List V->Hp->VK->Prop:=fun xs H Q=>∃ (p:Addr) (bs:List Bool),xs=[.ref p]/\SqL K H p (bs.map V.bl)/\Q (.bl (bs.any id)) H
theorem Ey {K:PySem.W.Frag} {p:Addr} {bs:List Bool} {H:Hp} {Q:VK} (e:SqL K H p (bs.map V.bl)) (h:Q (.bl (bs.any id)) H):AE K [.ref p] H Q:=⟨p,bs,rfl,e,h⟩
noncomputable def cK:Sp:=fun _ _ _ _=>False
end L2
end
section
namespace L2
open PySem PyProof.Rows
theorem kO {bs:List Bool} {i:Nat} {x:V} (h:(bs.map V.bl)[i]?=some x):∃ b,bs[i]?=some b/\x=.bl b:=by
 rw [List.getElem?_map] at h
 cases e:bs[i]? with
 | none=>rw [e] at h; cases h
 | some b=>rw [e] at h; exact ⟨b,rfl,(Option.some.inj h).symm⟩
noncomputable def jH (_:PySem.W.Frag):Sp:=fun vs H Q _=>∃ (a b:Addr) (xs ys:List Bool),vs=[.ref a,.ref b]/\H a=some (.lst (xs.map V.bl))/\H b=some (.lst (ys.map V.bl))/\xs.length=ys.length/\xs.length<=2000/\
 ∀ p (zs:List Bool) H',H p=none->al H H'->H' p=some (.lst (zs.map V.bl))->zs.length=xs.length->Q (.ref p) H'
noncomputable def pS (K:PySem.W.Frag):TS:=(aL (bT (qo eW eW K (ab (ac 0) (ab (ac 1) ai))) (fun _ _ _ _=>(g0 K 2 (b7 (am 0) (b7 (am 1) gZ)))) (fun _ _ _ _=>b8) (fun _ _ _ _=>(kY (ac 0) (ac 1))) [none,none]))
theorem AF {K:PySem.W.Frag} {vs:List V} {H:Hp} {Q:VK} {E:XK} (h:jH K vs H Q E):vs.length=2:=by
 obtain ⟨a,b,xs,ys,rfl,ea,eb,hl,hn,q⟩:=h
 rfl
theorem BZ {K:PySem.W.Frag} {vs:List V} {H:Hp} {Q:VK} {E:XK} (h:jH K vs H Q E):pS K { nx:=fun _ H'=>Q .non H',rt:=Q } (aN ["ones","others"] vs) H:=by
 obtain ⟨a,b,xs,ys,rfl,ea,eb,hl,hn,q⟩:=h
 show pS K _ [some _,some _] _
 unfold pS
 walk_at "rd"
 refine o0 (S1:=eW) (S2:=eW) _ _ (SqL.of ea) (SqL.of eb) (fun H' s=>s.seq (SqL.of ea)) (fun H' s=>s.seq (SqL.of eb)) (by rw [List.length_map]; omega) (fun i acc _=>∃ zs:List Bool,acc=zs.map V.bl/\zs.length=i) (fun _ _=>⟨[],rfl,rfl⟩) ?_ ?_
 ·rintro p hp C s' H' fp i x y T acc H2 H3 hx hy ⟨s2,e2,l2,zs,rfl,hz⟩ hT s3 e3 e4
  obtain ⟨b1,_,rfl⟩:=kO hx
  obtain ⟨b2,_,rfl⟩:=kO hy
  have put:∀ b:Bool,H3 p=some (.lst (zs.map V.bl))/\aZ H p (fun i acc _=>∃ zs:List Bool,acc=zs.map V.bl/\zs.length=i) (i + 1) (zs.map V.bl++[.bl b]) (upd H3 p (.lst (zs.map V.bl++[.bl b]))):=fun b=>aZ.put hp (fun _ _ _ _ r _=>r) (s2.trans s3) e4 l2 ⟨zs++[b],by rw [List.map_append]; rfl,by rw [List.length_append,hz]; rfl⟩
  walk_at "rd"
  refine gu (SqT.of e3) ?_
  walk_at "rd"
  cases b1 with
  | true=>refine mn ?_; walk_at "rd"; exact put _
  | false=>refine mm ?_; exact put _
 ·rintro p acc H2 hp s2 e2 ⟨zs,rfl,hz⟩
  rw [List.length_map,List.length_map,<-hl,Nat.min_self] at hz
  exact q p zs H2 hp s2 e2 hz
noncomputable def gT (_:PySem.W.Frag):Sp:=fun vs H Q _=>∃ (a b:Addr) (xs ys:List Bool),vs=[.ref a,.ref b]/\H a=some (.lst (xs.map V.bl))/\H b=some (.lst (ys.map V.bl))/\xs.length=ys.length/\xs.length<=2000/\
 ∀ p (zs:List Bool) H',H p=none->al H H'->H' p=some (.lst (zs.map V.bl))->zs.length=xs.length->Q (.ref p) H'
noncomputable def lu (K:PySem.W.Frag):TS:=(aL (bT (qo eW eW K (ab (ac 0) (ab (ac 1) ai))) (fun _ _ _ _=>(g0 K 2 (b7 (am 0) (b7 (am 1) gZ)))) (fun _ _ _ _=>b8) (fun _ _ _ _=>(zC (ac 0) (ac 1))) [none,none]))
theorem xJ {K:PySem.W.Frag} {vs:List V} {H:Hp} {Q:VK} {E:XK} (h:gT K vs H Q E):vs.length=2:=by
 obtain ⟨a,b,xs,ys,rfl,ea,eb,hl,hn,q⟩:=h
 rfl
theorem ze {K:PySem.W.Frag} {vs:List V} {H:Hp} {Q:VK} {E:XK} (h:gT K vs H Q E):lu K { nx:=fun _ H'=>Q .non H',rt:=Q } (aN ["ones","others"] vs) H:=by
 obtain ⟨a,b,xs,ys,rfl,ea,eb,hl,hn,q⟩:=h
 show lu K _ [some _,some _] _
 unfold lu
 walk_at "rd"
 refine o0 (S1:=eW) (S2:=eW) _ _ (SqL.of ea) (SqL.of eb) (fun H' s=>s.seq (SqL.of ea)) (fun H' s=>s.seq (SqL.of eb)) (by rw [List.length_map]; omega) (fun i acc _=>∃ zs:List Bool,acc=zs.map V.bl/\zs.length=i) (fun _ _=>⟨[],rfl,rfl⟩) ?_ ?_
 ·rintro p hp C s' H' fp i x y T acc H2 H3 hx hy ⟨s2,e2,l2,zs,rfl,hz⟩ hT s3 e3 e4
  obtain ⟨b1,_,rfl⟩:=kO hx
  obtain ⟨b2,_,rfl⟩:=kO hy
  have put:∀ b:Bool,H3 p=some (.lst (zs.map V.bl))/\aZ H p (fun i acc _=>∃ zs:List Bool,acc=zs.map V.bl/\zs.length=i) (i + 1) (zs.map V.bl++[.bl b]) (upd H3 p (.lst (zs.map V.bl++[.bl b]))):=fun b=>aZ.put hp (fun _ _ _ _ r _=>r) (s2.trans s3) e4 l2 ⟨zs++[b],by rw [List.map_append]; rfl,by rw [List.length_append,hz]; rfl⟩
  walk_at "rd"
  refine gu (SqT.of e3) ?_
  walk_at "rd"
  cases b1 with
  | true=>refine mn ?_; exact put _
  | false=>refine mm ?_; walk_at "rd"; exact put _
 ·rintro p acc H2 hp s2 e2 ⟨zs,rfl,hz⟩
  rw [List.length_map,List.length_map,<-hl,Nat.min_self] at hz
  exact q p zs H2 hp s2 e2 hz
noncomputable def Pl:Sy->Prop
 | .holds _ _=>True
 | .not s=>Pl s
 | .and s t=>Pl s/\Pl t
 | .or s t=>Pl s/\Pl t
 | _=>False
noncomputable def bB (_:PySem.W.Frag) (m:Nat):Sp:=fun vals H Q _=>∃ (a b:Addr) (x:V) (c h:Nat) (ws:List (List Nat)) (s:Sy),vals=[.ref a,.ref b,x]/\bx H a ws/\(∀ w∈ws,w.length=c)/\ws.length<=2000/\cR H x s/\Pl s/\s.Ok c h/\s.words<=m/\
 ∀ p (zs:List Bool) H',H p=none->al H H'->H' p=some (.lst (zs.map V.bl))->zs.length=ws.length->Q (.ref p) H'
noncomputable def i4 (K:PySem.W.Frag) (n:Nat):TS:=(aq (aU (tOp (dJ K) (ac 2) (tC (.int 0))) (am 3))
 (aq (bw (aY (tOp rEq (ac 3) (tC (.str "holds")))) (aL (bT (eB K (ac 0)) (fun _ _ _ _=>(am 0)) (fun _ _ _ _=>b8) (fun _ _ _ _=>(tOp rEq (tOp (dJ K) (ac 0) (tOp (dJ K) (ac 1) (tC (.int 2)))) (tOp (dJ K) (ac 1) (tC (.int 1))))) [none,some 2])) aX)
 (aq (bw (aY (tOp rEq (ac 3) (tC (.str "sees")))) (aL (az cK [] E0 (ab (bT (eB K (ac 0)) (fun _ _ _ _=>(am 0)) (fun _ _ _ _=>b8) (fun _ _ _ _=>(az (dQ K) [] E0 (ab (ac 0) (ab (tCB (fO K) (ab (ac 1) ai)) ai)))) [none,some 1]) (ab (tOp (fh K) (ac 1) (tOp (dJ K) (ac 2) (tC (.int 1)))) ai)))) aX)
 (aq (bw (aY (tOp rEq (ac 3) (tC (.str "not")))) (aL (bT (eB K (az (bB K n) [] E0 (ab (ac 0) (ab (ac 1) (ab (tOp (dJ K) (ac 2) (tC (.int 1))) ai))))) (fun _ _ _ _=>(am 0)) (fun _ _ _ _=>b8) (fun _ _ _ _=>(sw (ac 0))) [none])) aX)
 (aq (bw (aY (tOp rEq (ac 3) (tC (.str "and")))) (aL (az (jH K) [] E0 (ab (az (bB K n) [] E0 (ab (ac 0) (ab (ac 1) (ab (tOp (dJ K) (ac 2) (tC (.int 1))) ai)))) (ab (az (bB K n) [] E0 (ab (ac 0) (ab (ac 1) (ab (tOp (dJ K) (ac 2) (tC (.int 2))) ai)))) ai)))) aX)
 (aq (bw (aY (tOp rEq (ac 3) (tC (.str "or")))) (aL (az (gT K) [] E0 (ab (az (bB K n) [] E0 (ab (ac 0) (ab (ac 1) (ab (tOp (dJ K) (ac 2) (tC (.int 1))) ai)))) (ab (az (bB K n) [] E0 (ab (ac 0) (ab (ac 1) (ab (tOp (dJ K) (ac 2) (tC (.int 2))) ai)))) ai)))) aX)
 (aq (aU (az (bB K n) [] E0 (ab (ac 0) (ab (ac 1) (ab (tOp (dJ K) (ac 2) (tC (.int 2))) ai)))) (am 4))
 (aq (bw (aY (tOp rEq (ac 3) (tC (.str "knows")))) (aL (az cK [] E0 (ab (tOp (fh K) (ac 1) (tOp (dJ K) (ac 2) (tC (.int 1)))) (ab (ac 4) ai)))) aX)
 (aq (aU (bT (wP K (tOp (dJ K) (ac 2) (tC (.int 1)))) (fun _ _ _ _=>(am 0)) (fun _ _ _ _=>b8) (fun _ _ _ _=>(tOp (fh K) (ac 1) (ac 0))) [none,some 1]) (am 5))
 (aq (bw (aY (tOp rEq (ac 3) (tC (.str "all")))) (aL (az cK [] E0 (ab (ac 5) (ab (ac 4) ai)))) aX)
 (aL (az cK [] E0 (ab (az cK [] E0 (ab (tCB (fO K) (ab (ac 0) ai)) (ab (ac 5) ai))) (ab (ac 4) ai))))))))))))))
noncomputable abbrev vW:List Str:=["deals","views","S","word","inner","some"]
theorem rS {K:PySem.W.Frag} {n:Nat} {vs:List V} {H:Hp} {Q:VK} {E:XK} (h:bB K n vs H Q E):vs.length=3:=by
 obtain ⟨a,b,x,c,h,ws,s,rfl,_⟩:=h
 rfl
theorem mN {K:PySem.W.Frag} {vs:List V} {H:Hp} {Q:VK} {E:XK} (h:bB K 0 vs H Q E):False:=by
 obtain ⟨a,b,x,c,h,ws,s,rfl,_,_,_,_,_,_,h,_⟩:=h
 have:=s.words_pos
 omega
theorem uM {K:PySem.W.Frag} {m:Nat} {vals:List V} {H:Hp} {Q:VK} {E:XK} (h:bB K (m + 1) vals H Q E):i4 K m { nx:=fun _ H'=>Q .non H',rt:=Q } (aN vW vals) H:=by
 obtain ⟨a,b,x,c,h,ws,s,rfl,D,hcw,hn,hS,hp,hok,hw,q⟩:=h
 show i4 K m _ [some _,some _,some _,none,none,none] _
 unfold i4
 obtain ⟨rs,ea,hr⟩:=id D
 have hlr:rs.length=ws.length:=Paired.length hr
 cases s with
 | holds w k=>
  obtain ⟨t,rfl,et⟩:=hS
  obtain ⟨hwh,hkc⟩:=hok
  walk_at "rd"
  refine cZ (SqT.of et) (i:=0) rfl ?_
  walk_at "rd"
  refine kF rfl ?_
  walk_at "rd"
  refine gN (rs.map V.ref) (SqL.of ea) (by rw [List.length_map]; omega) (fun i acc _=>∃ zs:List Bool,acc=zs.map V.bl/\zs.length=i) (fun _ _=>⟨[],rfl,rfl⟩) ?_ ?_
  ·rintro p hp C s' H' fp i x acc H2 hx ⟨s2,e2,l2,zs,rfl,hz⟩
   obtain ⟨d,hd,rfl⟩:=nv hx
   obtain ⟨u,hu,eu⟩:=jd hr hd
   have huc:=hcw u (List.mem_of_getElem? hu)
   have e1:atI (aw u) (k:Int)=some (.int ((u.getD k 0:Nat):Int)):=fH (by unfold aw; rw [List.getElem?_map,List.getD_eq_getElem?_getD,List.getElem?_eq_getElem (by omega)]; rfl)
   walk_at "rd"
   refine cZ (SqT.of (s2 _ _ et)) (i:=2) rfl ?_
   walk_at "rd"
   refine cZ (SqT.of (s2 _ _ eu)) e1 ?_
   walk_at "rd"
   refine cZ (SqT.of (s2 _ _ et)) (i:=1) rfl ?_
   walk_at "rd"
   exact aZ.put hp (fun _ _ _ _ r _=>r) s2 e2 l2 ⟨zs++[_],by rw [List.map_append]; rfl,by rw [List.length_append,hz]; rfl⟩
  ·rintro p acc H2 hp s2 e2 ⟨zs,rfl,hz⟩
   rw [List.length_map,hlr] at hz
   exact q _ zs _ hp s2 e2 hz
 | sees k=>exact hp.elim
 | knows k s=>exact hp.elim
 | all g s=>exact hp.elim
 | common g s=>exact hp.elim
 | not s=>
  obtain ⟨t,y,rfl,et,hy⟩:=hS
  have hw':s.words<=m:=by simp only [Sy.words] at hw; omega
  walk_at "rd"
  refine cZ (SqT.of et) (i:=0) rfl ?_
  walk_at "rd"
  refine gs (by decide) ?_
  walk_at "rd"
  refine gs (by decide) ?_
  walk_at "rd"
  refine kF rfl ?_
  walk_at "rd"
  refine cZ (SqT.of et) (i:=1) rfl ?_
  walk_at "rd"
  refine ⟨a,b,y,c,h,ws,s,rfl,D,hcw,hn,hy,hp,hok,hw',fun p1 xs H1 hp1 s1 e1 l1=>?_⟩
  walk_at "rd"
  refine gN (xs.map V.bl) (SqL.of e1) (by rw [List.length_map]; omega) (fun i acc _=>∃ zs:List Bool,acc=zs.map V.bl/\zs.length=i) (fun _ _=>⟨[],rfl,rfl⟩) ?_ ?_
  ·rintro p hp C s' H' fp i x acc H2 hx ⟨s2,e2,l2,zs,rfl,hz⟩
   obtain ⟨b1,_,rfl⟩:=kO hx
   walk_at "rd"
   exact aZ.put hp (fun _ _ _ _ r _=>r) s2 e2 l2 ⟨zs++[_],by rw [List.map_append]; rfl,by rw [List.length_append,hz]; rfl⟩
  ·rintro p acc H2 hp s2 e2 ⟨zs,rfl,hz⟩
   rw [List.length_map,l1] at hz
   exact q _ zs _ (s1.free hp) (s1.trans s2) e2 hz
 | and s u=>
  obtain ⟨t,y,z,rfl,et,hy,hz⟩:=hS
  have hw':s.words<=m/\u.words<=m:=by simp only [Sy.words] at hw; omega
  walk_at "rd"
  refine cZ (SqT.of et) (i:=0) rfl ?_
  walk_at "rd"
  refine gs (by decide) ?_
  walk_at "rd"
  refine gs (by decide) ?_
  walk_at "rd"
  refine gs (by decide) ?_
  walk_at "rd"
  refine kF rfl ?_
  walk_at "rd"
  refine cZ (SqT.of et) (i:=1) rfl ?_
  walk_at "rd"
  refine ⟨a,b,y,c,h,ws,s,rfl,D,hcw,hn,hy,hp.1,hok.1,hw'.1,fun p1 xs H1 hp1 s1 e1 l1=>?_⟩
  walk_at "rd"
  refine cZ (SqT.of (s1 _ _ et)) (i:=2) rfl ?_
  walk_at "rd"
  refine ⟨a,b,z,c,h,ws,u,rfl,D.same' s1,hcw,hn,hz.keep s1.keep,hp.2,hok.2,hw'.2,fun p2 ys H2 hp2 s2 e2 l2=>?_⟩
  walk_at "rd"
  refine ⟨p1,p2,xs,ys,rfl,s2 _ _ e1,e2,l1.trans l2.symm,by omega,fun p zs H3 hp3 s3 e3 l3=>?_⟩
  walk_at "rd"
  exact q _ zs _ ((s1.trans s2).free hp3) ((s1.trans s2).trans s3) e3 (l3.trans l1)
 | or s u=>
  obtain ⟨t,y,z,rfl,et,hy,hz⟩:=hS
  have hw':s.words<=m/\u.words<=m:=by simp only [Sy.words] at hw; omega
  walk_at "rd"
  refine cZ (SqT.of et) (i:=0) rfl ?_
  walk_at "rd"
  refine gs (by decide) ?_
  walk_at "rd"
  refine gs (by decide) ?_
  walk_at "rd"
  refine gs (by decide) ?_
  walk_at "rd"
  refine gs (by decide) ?_
  walk_at "rd"
  refine kF rfl ?_
  walk_at "rd"
  refine cZ (SqT.of et) (i:=1) rfl ?_
  walk_at "rd"
  refine ⟨a,b,y,c,h,ws,s,rfl,D,hcw,hn,hy,hp.1,hok.1,hw'.1,fun p1 xs H1 hp1 s1 e1 l1=>?_⟩
  walk_at "rd"
  refine cZ (SqT.of (s1 _ _ et)) (i:=2) rfl ?_
  walk_at "rd"
  refine ⟨a,b,z,c,h,ws,u,rfl,D.same' s1,hcw,hn,hz.keep s1.keep,hp.2,hok.2,hw'.2,fun p2 ys H2 hp2 s2 e2 l2=>?_⟩
  walk_at "rd"
  refine ⟨p1,p2,xs,ys,rfl,s2 _ _ e1,e2,l1.trans l2.symm,by omega,fun p zs H3 hp3 s3 e3 l3=>?_⟩
  walk_at "rd"
  exact q _ zs _ ((s1.trans s2).free hp3) ((s1.trans s2).trans s3) e3 (l3.trans l1)
noncomputable def cg (_:PySem.W.Frag) (G:GF):Sp:=fun vs H Q _=>∃ (x av:Addr) (v:V) (c k:Nat) (ws:List (List Nat)) (s:Sy),vs=[.ref x,v]/\gz G av H x c k ws/\(∀ w∈ws,w.length=c)/\ws.length<=2000/\cR H v s/\Pl s/\s.Ok c k/\s.words<=8/\
 ∀ p (zs:List Bool) H',H p=none->al H H'->H' p=some (.lst (zs.map V.bl))->zs.length=ws.length->Q (.ref p) H'
noncomputable def gi (K:PySem.W.Frag) (G:GF):TS:=(aq (bw (fe (tB (az (fm K) [] E0 (ab (la K (ac 0) "cards") (ab (la K (ac 0) "hands") (ab (ac 1) ai)))))) oN aX)
 (aL (az (bB K 8) [] E0 (ab (la K (ac 0) "dealt") (ab (la K (ac 0) "views") (ab (ac 1) ai))))))
noncomputable abbrev qF:List Str:=["self","S"]
theorem oC {K:PySem.W.Frag} {G:GF} {vs:List V} {H:Hp} {Q:VK} {E:XK} (h:cg K G vs H Q E):vs.length=2:=by
 obtain ⟨x,av,v,c,k,ws,s,rfl,_⟩:=h
 rfl
theorem pT {K:PySem.W.Frag} {G:GF} (ct:xw K G.Table) {vs:List V} {H:Hp} {Q:VK} {E:XK} (h:cg K G vs H Q E):gi K G { nx:=fun _ H'=>Q .non H',rt:=Q } (aN qF vs) H:=by
 obtain ⟨x,av,v,c,k,ws,s,rfl,T,hcw,hn,hS,hp,hok,hw,q⟩:=h
 show gi K G _ [some _,some _] _
 unfold gi
 obtain ⟨dx,pd,ps,pv,pe,us,h1,h2,h3,h4,h5,h6,h7⟩:=id T
 walk_at "rd"
 refine lp ?_
 walk_at "rd"
 refine ⟨x,G.Table,dx,_,_,rfl,h1,ct.cl,ct.n2,rfl,?_⟩
 walk_at "rd"
 refine lp ?_
 walk_at "rd"
 refine ⟨x,G.Table,dx,_,_,rfl,h1,ct.cl,ct.n4,rfl,?_⟩
 walk_at "rd"
 refine ⟨(c:Int),(k:Int),v,true,rfl,hS.known,.inl ⟨rfl,s.words,by omega,hS.sayw hok⟩,fun H1 s1=>?_⟩
 have x1:=s1 _ _ h1
 walk_at "rd"
 refine lp ?_
 walk_at "rd"
 refine ⟨x,G.Table,dx,_,_,rfl,x1,ct.cl,ct.n1,rfl,?_⟩
 walk_at "rd"
 refine lp ?_
 walk_at "rd"
 refine ⟨x,G.Table,dx,_,_,rfl,x1,ct.cl,ct.n5,rfl,?_⟩
 walk_at "rd"
 refine ⟨pd,pv,v,c,k,ws,s,rfl,h2.same' s1,hcw,hn,hS.keep s1.keep,hp,hok,hw,fun p zs H2 hp2 s2 e2 l2=>?_⟩
 walk_at "rd"
 exact q p zs H2 (s1.free hp2) (s1.trans s2) e2 l2
end L2
end
section
namespace L2
open PySem PyProof.Rows
section
variable {σ:St} {H:Hp} {Q:VK} {K:PySem.W.Frag}
end
end L2
end
section
namespace L2
open PySem PyProof.Rows
structure Dq (c:Nat) (ss:List Nat):Prop where
 pk:um c ss
 few:KM.fv c ss<=200
 c1:1<=c
noncomputable def PkW (H:Hp) (x:V):Prop:=∃ (t l:Addr) (c:Nat) (ss:List Nat),x=.ref t/\H t=some (.tup [.int (c:Int),.ref l])/\H l=some (.lst (aw ss))/\Dq c ss
theorem PkW.same {H H':Hp} (s:al H H') {x:V} (h:PkW H x):PkW H' x:=let ⟨t,l,c,ss,e,e1,e2,p⟩:=h; ⟨t,l,c,ss,e,s _ _ e1,s _ _ e2,p⟩
noncomputable def gr (H:Hp) (xs:List V):Prop:=∀ x∈xs,PkW H x
theorem gr.nil (H:Hp):gr H []:=fun x h=>by cases h
theorem gr.same {H H':Hp} (s:al H H') {xs:List V} (h:gr H xs):gr H' xs:=fun x hx=>(h x hx).same s
theorem gr.snoc {H:Hp} {xs:List V} {x:V} (h:gr H xs) (q:PkW H x):gr H (xs++[x]):=fun y hy=>by
 rcases List.mem_append.mp hy with z | z
 ·exact h y z
 ·rw [List.mem_singleton.mp z]; exact q
theorem gr.app {H:Hp} {xs ys:List V} (h:gr H xs) (q:gr H ys):gr H (xs++ys):=fun y hy=>(List.mem_append.mp hy).elim (h y) (q y)
noncomputable def dX (_:PySem.W.Frag):Sp:=fun vs H Q _=>∃ z:Int,vs=[.int z]/\∀ (t l:Addr) (c:Nat) (ss:List Nat) (H':Hp),al H H'->H' t=some (.tup [.int (c:Int),.ref l])->H' l=some (.lst (aw ss))->Dq c ss->Q (.ref t) H'
theorem pU {K:PySem.W.Frag} {vs:List V} {H:Hp} {Q:VK} {E:XK} (h:dX K vs H Q E):vs.length=1:=by
 obtain ⟨z,rfl,q⟩:=h
 rfl
noncomputable def gC (K:PySem.W.Frag):TS:=(aq (aU (cE (ab (dh (ab (tC (.int 2)) (ab (cE (ab (tC (.int 1)) (ab (tC (.int 1)) ai))) ai))) (ab (dh (ab (tC (.int 3)) (ab (cE (ab (tC (.int 1)) (ab (tC (.int 1)) (ab (tC (.int 1)) ai)))) ai))) (ab (dh (ab (tC (.int 4)) (ab (cE (ab (tC (.int 2)) (ab (tC (.int 1)) (ab (tC (.int 1)) ai)))) ai))) (ab (dh (ab (tC (.int 4)) (ab (cE (ab (tC (.int 1)) (ab (tC (.int 1)) (ab (tC (.int 1)) ai)))) ai))) (ab (dh (ab (tC (.int 4)) (ab (cE (ab (tC (.int 2)) (ab (tC (.int 2)) ai))) ai))) (ab (dh (ab (tC (.int 3)) (ab (cE (ab (tC (.int 1)) (ab (tC (.int 0)) (ab (tC (.int 1)) (ab (tC (.int 0)) ai))))) ai))) (ab (dh (ab (tC (.int 5)) (ab (cE (ab (tC (.int 2)) (ab (tC (.int 2)) (ab (tC (.int 1)) ai)))) ai))) ai)))))))) (am 1))
 (aq (aU (tOp qp (ac 1) (cE (ab (dh (ab (tC (.int 5)) (ab (cE (ab (tC (.int 2)) (ab (tC (.int 1)) (ab (tC (.int 1)) ai)))) ai))) (ab (dh (ab (tC (.int 4)) (ab (cE (ab (tC (.int 1)) (ab (tC (.int 1)) (ab (tC (.int 1)) (ab (tC (.int 1)) ai))))) ai))) (ab (dh (ab (tC (.int 5)) (ab (cE (ab (tC (.int 1)) (ab (tC (.int 1)) (ab (tC (.int 1)) (ab (tC (.int 1)) ai))))) ai))) (ab (dh (ab (tC (.int 3)) (ab (cE (ab (tC (.int 1)) (ab (tC (.int 1)) (ab (tC (.int 1)) (ab (tC (.int 0)) (ab (tC (.int 0)) ai)))))) ai))) (ab (dh (ab (tC (.int 5)) (ab (cE (ab (tC (.int 2)) (ab (tC (.int 3)) ai))) ai))) (ab (dh (ab (tC (.int 6)) (ab (cE (ab (tC (.int 3)) (ab (tC (.int 2)) ai))) ai))) ai)))))))) (am 1))
 (aq (aU (tOp qp (ac 1) (cE (ab (dh (ab (tC (.int 6)) (ab (cE (ab (tC (.int 2)) (ab (tC (.int 2)) (ab (tC (.int 2)) ai)))) ai))) (ab (dh (ab (tC (.int 4)) (ab (cE (ab (tC (.int 1)) (ab (tC (.int 1)) (ab (tC (.int 1)) (ab (tC (.int 1)) (ab (tC (.int 0)) ai)))))) ai))) (ab (dh (ab (tC (.int 6)) (ab (cE (ab (tC (.int 2)) (ab (tC (.int 2)) (ab (tC (.int 1)) ai)))) ai))) ai))))) (am 1))
 (aL (tOp (fh K) (ac 1) (tOp (rI (fun _ j=>0 < j) fun i j=>.int (i % j)) (ac 0) (tC (.int 16))))))))
noncomputable abbrev rT:List Str:=["_law_cell_here","_law_some"]
theorem qG {K:PySem.W.Frag} {vs:List V} {H:Hp} {Q:VK} {E:XK} (h:dX K vs H Q E):gC K { nx:=fun _ H'=>Q .non H',rt:=Q } (aN rT vs) H:=by
 obtain ⟨z,rfl,q⟩:=h
 show gC K _ [some _,none] _
 unfold gC
 have g0_0:=gr.nil H
 walk_at "rd"
 refine ⟨by simp [sizeLine_eq],fun la0 Ha0 _ sa0 ea0=>?_⟩
 walk_at "rd"
 refine ⟨by simp [sizeLine_eq],fun ta0 Hb0 _ sb0 eb0=>?_⟩
 have g0_1:=(g0_0.same (sa0.trans sb0)).snoc (x:=.ref ta0) ⟨ta0,la0,2,[1,1],rfl,eb0,sb0 _ _ ea0,⟨⟨by decide,by decide,by decide,by decide⟩,by decide +kernel,by decide⟩⟩
 walk_at "rd"
 refine ⟨by simp [sizeLine_eq],fun la1 Ha1 _ sa1 ea1=>?_⟩
 walk_at "rd"
 refine ⟨by simp [sizeLine_eq],fun ta1 Hb1 _ sb1 eb1=>?_⟩
 have g0_2:=(g0_1.same (sa1.trans sb1)).snoc (x:=.ref ta1) ⟨ta1,la1,3,[1,1,1],rfl,eb1,sb1 _ _ ea1,⟨⟨by decide,by decide,by decide,by decide⟩,by decide +kernel,by decide⟩⟩
 walk_at "rd"
 refine ⟨by simp [sizeLine_eq],fun la2 Ha2 _ sa2 ea2=>?_⟩
 walk_at "rd"
 refine ⟨by simp [sizeLine_eq],fun ta2 Hb2 _ sb2 eb2=>?_⟩
 have g0_3:=(g0_2.same (sa2.trans sb2)).snoc (x:=.ref ta2) ⟨ta2,la2,4,[2,1,1],rfl,eb2,sb2 _ _ ea2,⟨⟨by decide,by decide,by decide,by decide⟩,by decide +kernel,by decide⟩⟩
 walk_at "rd"
 refine ⟨by simp [sizeLine_eq],fun la3 Ha3 _ sa3 ea3=>?_⟩
 walk_at "rd"
 refine ⟨by simp [sizeLine_eq],fun ta3 Hb3 _ sb3 eb3=>?_⟩
 have g0_4:=(g0_3.same (sa3.trans sb3)).snoc (x:=.ref ta3) ⟨ta3,la3,4,[1,1,1],rfl,eb3,sb3 _ _ ea3,⟨⟨by decide,by decide,by decide,by decide⟩,by decide +kernel,by decide⟩⟩
 walk_at "rd"
 refine ⟨by simp [sizeLine_eq],fun la4 Ha4 _ sa4 ea4=>?_⟩
 walk_at "rd"
 refine ⟨by simp [sizeLine_eq],fun ta4 Hb4 _ sb4 eb4=>?_⟩
 have g0_5:=(g0_4.same (sa4.trans sb4)).snoc (x:=.ref ta4) ⟨ta4,la4,4,[2,2],rfl,eb4,sb4 _ _ ea4,⟨⟨by decide,by decide,by decide,by decide⟩,by decide +kernel,by decide⟩⟩
 walk_at "rd"
 refine ⟨by simp [sizeLine_eq],fun la5 Ha5 _ sa5 ea5=>?_⟩
 walk_at "rd"
 refine ⟨by simp [sizeLine_eq],fun ta5 Hb5 _ sb5 eb5=>?_⟩
 have g0_6:=(g0_5.same (sa5.trans sb5)).snoc (x:=.ref ta5) ⟨ta5,la5,3,[1,0,1,0],rfl,eb5,sb5 _ _ ea5,⟨⟨by decide,by decide,by decide,by decide⟩,by decide +kernel,by decide⟩⟩
 walk_at "rd"
 refine ⟨by simp [sizeLine_eq],fun la6 Ha6 _ sa6 ea6=>?_⟩
 walk_at "rd"
 refine ⟨by simp [sizeLine_eq],fun ta6 Hb6 _ sb6 eb6=>?_⟩
 have g0_7:=(g0_6.same (sa6.trans sb6)).snoc (x:=.ref ta6) ⟨ta6,la6,5,[2,2,1],rfl,eb6,sb6 _ _ ea6,⟨⟨by decide,by decide,by decide,by decide⟩,by decide +kernel,by decide⟩⟩
 walk_at "rd"
 refine ⟨by simp [sizeLine_eq],fun ll0 Hl0 _ sl0 el0=>?_⟩
 have gl0:=g0_7.same sl0
 have sg0:=((((((((al.refl H).trans (sa0.trans sb0)).trans (sa1.trans sb1)).trans (sa2.trans sb2)).trans (sa3.trans sb3)).trans (sa4.trans sb4)).trans (sa5.trans sb5)).trans (sa6.trans sb6)).trans sl0
 have S0:al H Hl0:=sg0
 have A0:=gl0
 have g1_0:=gr.nil Hl0
 walk_at "rd"
 refine ⟨by simp [sizeLine_eq],fun la7 Ha7 _ sa7 ea7=>?_⟩
 walk_at "rd"
 refine ⟨by simp [sizeLine_eq],fun ta7 Hb7 _ sb7 eb7=>?_⟩
 have g1_8:=(g1_0.same (sa7.trans sb7)).snoc (x:=.ref ta7) ⟨ta7,la7,5,[2,1,1],rfl,eb7,sb7 _ _ ea7,⟨⟨by decide,by decide,by decide,by decide⟩,by decide +kernel,by decide⟩⟩
 walk_at "rd"
 refine ⟨by simp [sizeLine_eq],fun la8 Ha8 _ sa8 ea8=>?_⟩
 walk_at "rd"
 refine ⟨by simp [sizeLine_eq],fun ta8 Hb8 _ sb8 eb8=>?_⟩
 have g1_9:=(g1_8.same (sa8.trans sb8)).snoc (x:=.ref ta8) ⟨ta8,la8,4,[1,1,1,1],rfl,eb8,sb8 _ _ ea8,⟨⟨by decide,by decide,by decide,by decide⟩,by decide +kernel,by decide⟩⟩
 walk_at "rd"
 refine ⟨by simp [sizeLine_eq],fun la9 Ha9 _ sa9 ea9=>?_⟩
 walk_at "rd"
 refine ⟨by simp [sizeLine_eq],fun ta9 Hb9 _ sb9 eb9=>?_⟩
 have g1_10:=(g1_9.same (sa9.trans sb9)).snoc (x:=.ref ta9) ⟨ta9,la9,5,[1,1,1,1],rfl,eb9,sb9 _ _ ea9,⟨⟨by decide,by decide,by decide,by decide⟩,by decide +kernel,by decide⟩⟩
 walk_at "rd"
 refine ⟨by simp [sizeLine_eq],fun la10 Ha10 _ sa10 ea10=>?_⟩
 walk_at "rd"
 refine ⟨by simp [sizeLine_eq],fun ta10 Hb10 _ sb10 eb10=>?_⟩
 have g1_11:=(g1_10.same (sa10.trans sb10)).snoc (x:=.ref ta10) ⟨ta10,la10,3,[1,1,1,0,0],rfl,eb10,sb10 _ _ ea10,⟨⟨by decide,by decide,by decide,by decide⟩,by decide +kernel,by decide⟩⟩
 walk_at "rd"
 refine ⟨by simp [sizeLine_eq],fun la11 Ha11 _ sa11 ea11=>?_⟩
 walk_at "rd"
 refine ⟨by simp [sizeLine_eq],fun ta11 Hb11 _ sb11 eb11=>?_⟩
 have g1_12:=(g1_11.same (sa11.trans sb11)).snoc (x:=.ref ta11) ⟨ta11,la11,5,[2,3],rfl,eb11,sb11 _ _ ea11,⟨⟨by decide,by decide,by decide,by decide⟩,by decide +kernel,by decide⟩⟩
 walk_at "rd"
 refine ⟨by simp [sizeLine_eq],fun la12 Ha12 _ sa12 ea12=>?_⟩
 walk_at "rd"
 refine ⟨by simp [sizeLine_eq],fun ta12 Hb12 _ sb12 eb12=>?_⟩
 have g1_13:=(g1_12.same (sa12.trans sb12)).snoc (x:=.ref ta12) ⟨ta12,la12,6,[3,2],rfl,eb12,sb12 _ _ ea12,⟨⟨by decide,by decide,by decide,by decide⟩,by decide +kernel,by decide⟩⟩
 walk_at "rd"
 refine ⟨by simp [sizeLine_eq],fun ll1 Hl1 _ sl1 el1=>?_⟩
 have gl1:=g1_13.same sl1
 have sg1:=(((((((al.refl Hl0).trans (sa7.trans sb7)).trans (sa8.trans sb8)).trans (sa9.trans sb9)).trans (sa10.trans sb10)).trans (sa11.trans sb11)).trans (sa12.trans sb12)).trans sl1
 walk_at "rd"
 refine sV (sg1 _ _ el0) el1 (by simp [sizeLine_eq]) fun lc1 Hc1 _ sc1 ec1=>?_
 have A1:=((A0.same sg1).app gl1).same sc1
 have S1:=S0.trans (sg1.trans sc1)
 have g2_0:=gr.nil Hc1
 walk_at "rd"
 refine ⟨by simp [sizeLine_eq],fun la13 Ha13 _ sa13 ea13=>?_⟩
 walk_at "rd"
 refine ⟨by simp [sizeLine_eq],fun ta13 Hb13 _ sb13 eb13=>?_⟩
 have g2_14:=(g2_0.same (sa13.trans sb13)).snoc (x:=.ref ta13) ⟨ta13,la13,6,[2,2,2],rfl,eb13,sb13 _ _ ea13,⟨⟨by decide,by decide,by decide,by decide⟩,by decide +kernel,by decide⟩⟩
 walk_at "rd"
 refine ⟨by simp [sizeLine_eq],fun la14 Ha14 _ sa14 ea14=>?_⟩
 walk_at "rd"
 refine ⟨by simp [sizeLine_eq],fun ta14 Hb14 _ sb14 eb14=>?_⟩
 have g2_15:=(g2_14.same (sa14.trans sb14)).snoc (x:=.ref ta14) ⟨ta14,la14,4,[1,1,1,1,0],rfl,eb14,sb14 _ _ ea14,⟨⟨by decide,by decide,by decide,by decide⟩,by decide +kernel,by decide⟩⟩
 walk_at "rd"
 refine ⟨by simp [sizeLine_eq],fun la15 Ha15 _ sa15 ea15=>?_⟩
 walk_at "rd"
 refine ⟨by simp [sizeLine_eq],fun ta15 Hb15 _ sb15 eb15=>?_⟩
 have g2_16:=(g2_15.same (sa15.trans sb15)).snoc (x:=.ref ta15) ⟨ta15,la15,6,[2,2,1],rfl,eb15,sb15 _ _ ea15,⟨⟨by decide,by decide,by decide,by decide⟩,by decide +kernel,by decide⟩⟩
 walk_at "rd"
 refine ⟨by simp [sizeLine_eq],fun ll2 Hl2 _ sl2 el2=>?_⟩
 have gl2:=g2_16.same sl2
 have sg2:=((((al.refl Hc1).trans (sa13.trans sb13)).trans (sa14.trans sb14)).trans (sa15.trans sb15)).trans sl2
 walk_at "rd"
 refine sV (sg2 _ _ ec1) el2 (by simp [sizeLine_eq]) fun lc2 Hc2 _ sc2 ec2=>?_
 have A2:=((A1.same sg2).app gl2).same sc2
 have S2:=S1.trans (sg2.trans sc2)
 walk_at "rd"
 obtain ⟨XS,eXS,lXS,pXS⟩:∃ XS:List V,Hc2 lc2=some (.lst XS)/\XS.length=16/\gr Hc2 XS:=⟨_,ec2,rfl,A2⟩
 obtain ⟨x,hx,hxm⟩:=yC XS z (m:=16) lXS (by decide)
 refine fu (SqL.of eXS) hx ?_
 obtain ⟨t,l,c,ss,rfl,e1,e2,pr⟩:=pXS x hxm
 walk_at "rd"
 exact q t l c ss Hc2 S2 e1 e2 pr
noncomputable def bC (_:PySem.W.Frag) (n:Nat):Sp:=fun vs H Q _=>∃ (z:Int) (k c h deep:Nat),vs=[.int z,.int (k:Int),.int (c:Int),.int (h:Int),.int (deep:Int)]/\1<=c/\c<=12/\h<=5/\deep + 1<=n/\deep<=2/\k * 4 ^ deep<=200/\
 ∀ (x:V) (s:Sy) H',al H H'->cR H' x s->Pl s->s.Ok c h->s.words + 1<=2 ^ (deep + 1)->Q x H'
noncomputable def gD (K:PySem.W.Frag) (n:Nat):TS:=(aq (aU (az (cf K) [] E0 (ab (ac 0) (ab (ac 1) ai))) (am 5))
 (aq (bw (tOr (aY (tOp rEq (ac 4) (tC (.int 0)))) (aY (tOp rEq (tOp (rI (fun _ j=>0 < j) fun i j=>.int (i % j)) (ac 5) (tC (.int 4))) (tC (.int 0))))) (aL (dh (ab (tC (.str "holds")) (ab (tOp (rI (fun _ j=>0 < j) fun i j=>.int (i % j)) (tOp (rI me fun i j=>.int (i / j)) (ac 5) (tC (.int 4))) (tOp (rI0 fun i j=>.int (i + j)) (ac 3) (tC (.int 1)))) (ab (tOp (rI (fun _ j=>0 < j) fun i j=>.int (i % j)) (tOp (rI me fun i j=>.int (i / j)) (ac 5) (tC (.int 64))) (ac 2)) ai))))) aX)
 (aq (aU (az (bC K n) [] E0 (ab (ac 0) (ab (tOp (rI0 fun i j=>.int (i + j)) (tOp (rI IntMulOk fun i j=>.int (i * j)) (tC (.int 2)) (ac 1)) (tC (.int 1))) (ab (ac 2) (ab (ac 3) (ab (tOp (rI0 fun i j=>.int (i - j)) (ac 4) (tC (.int 1))) ai)))))) (am 6))
 (aq (bw (aY (tOp rEq (tOp (rI (fun _ j=>0 < j) fun i j=>.int (i % j)) (ac 5) (tC (.int 4))) (tC (.int 1)))) (aL (dh (ab (tC (.str "not")) (ab (ac 6) ai)))) aX)
 (aL (dh (ab (tOp (fh K) (cE (ab (tC (.str "and")) (ab (tC (.str "or")) ai))) (tOp (rI (fun _ j=>0 < j) fun i j=>.int (i % j)) (ac 5) (tC (.int 2)))) (ab (ac 6) (ab (az (bC K n) [] E0 (ab (ac 0) (ab (tOp (rI0 fun i j=>.int (i + j)) (tOp (rI IntMulOk fun i j=>.int (i * j)) (tC (.int 2)) (ac 1)) (tC (.int 2))) (ab (ac 2) (ab (ac 3) (ab (tOp (rI0 fun i j=>.int (i - j)) (ac 4) (tC (.int 1))) ai)))))) ai)))))))))
noncomputable abbrev rV:List Str:=["_law_cell_here","_law_k","_law_cards","_law_hands","_law_deep","_law_number","_law_one"]
theorem pV {K:PySem.W.Frag} {n:Nat} {vs:List V} {H:Hp} {Q:VK} {E:XK} (h:bC K n vs H Q E):vs.length=5:=by
 obtain ⟨z,k,c,h,deep,rfl,_⟩:=h
 rfl
theorem kP {K:PySem.W.Frag} {vs:List V} {H:Hp} {Q:VK} {E:XK} (h:bC K 0 vs H Q E):False:=by
 obtain ⟨z,k,c,h,deep,rfl,_,_,_,h,_⟩:=h
 omega
theorem Dr {k deep:Nat} (hd:deep<=2) (h0:deep≠0) (h:k * 4 ^ deep<=200):(2 * k + 2) * 4 ^ (deep - 1)<=200/\2 ^ (deep - 1 + 1) * 2=2 ^ (deep + 1):=by
 match deep,hd,h0,h with
 | 1,_,_,h=>simp at h ⊢; omega
 | 2,_,_,h=>simp at h ⊢; omega
theorem qH {K:PySem.W.Frag} {n:Nat} {vs:List V} {H:Hp} {Q:VK} {E:XK} (h:bC K (n + 1) vs H Q E):gD K n { nx:=fun _ H'=>Q .non H',rt:=Q } (aN rV vs) H:=by
 obtain ⟨z,k,c,h,deep,rfl,c1,c12,h5,hn,hd,hk,q⟩:=h
 show gD K n _ [some _,some _,some _,some _,some _,none,none] _
 unfold gD
 have hk200:k<=200:=Nat.le_trans (Nat.le_mul_of_pos_right k (Nat.pow_pos (by decide))) hk
 walk_at "rs"
 refine cY ?_
 walk_at "rs"
 refine ⟨z,(k:Int),rfl,by omega,by omega,fun y y0 y1=>?_⟩
 walk_at "rs"
 refine jE fun NX hNX=>?_
 have leaf:aL (dh (ab (tC (.str "holds")) (ab (tOp (rI (fun _ j=>0 < j) fun i j=>.int (i % j)) (tOp (rI me fun i j=>.int (i / j)) (ac 5) (tC (.int 4))) (tOp (rI0 fun i j=>.int (i + j)) (ac 3) (tC (.int 1)))) (ab (tOp (rI (fun _ j=>0 < j) fun i j=>.int (i % j)) (tOp (rI me fun i j=>.int (i / j)) (ac 5) (tC (.int 64))) (ac 2)) ai)))) { nx:=NX,rt:=Q } [some (.int z),some (.int (k:Int)),some (.int (c:Int)),some (.int (h:Int)),some (.int (deep:Int)),some (.int y),none] H:=by
  walk_at "rd"
  obtain ⟨w,hw,hwl⟩:∃ w:Nat,y / 4 % ((h:Int) + 1)=(w:Int)/\w<=h:=by
   have a1:=Int.emod_nonneg (y / 4) (b:=(h:Int) + 1) (by omega)
   have a2:=Int.emod_lt_of_pos (y / 4) (b:=(h:Int) + 1) (by omega)
   exact ⟨(y / 4 % ((h:Int) + 1)).toNat,by omega,by omega⟩
  obtain ⟨d,hd',hdl⟩:∃ d:Nat,y / 64 % (c:Int)=(d:Int)/\d < c:=by
   have a1:=Int.emod_nonneg (y / 64) (b:=(c:Int)) (by omega)
   have a2:=Int.emod_lt_of_pos (y / 64) (b:=(c:Int)) (by omega)
   exact ⟨(y / 64 % (c:Int)).toNat,by omega,by omega⟩
  rw [hw,hd']
  refine ⟨by simp [sizeLine_eq],fun t H1 ht s1 e1=>?_⟩
  refine q (.ref t) (.holds w d) H1 s1 ⟨t,rfl,e1⟩ trivial ⟨hwl,hdl⟩ ?_
  show 1 + 1<=2 ^ (deep + 1)
  exact Nat.le_trans (by decide:2<=2 ^ 1) (Nat.pow_le_pow_right (by decide) (by omega))
 walk_at "rs"
 refine bN (fun h0=>leaf) (fun h0=>?_)
 walk_at "rs"
 refine bN (fun h1=>leaf) (fun h1=>?_)
 walk_at "rs"
 refine hNX _ _ ?_
 have hdn:deep≠0:=fun z=>h0 (by rw [z]; rfl)
 obtain ⟨dk,dp⟩:=Dr hd hdn hk
 walk_at "rd"
 refine ⟨z,2 * k + 1,c,h,deep - 1,?_,c1,c12,h5,by omega,by omega,Nat.le_trans (Nat.mul_le_mul_right _ (by omega)) dk,fun x1 a1 H1 s1 i1 p1 o1 w1=>?_⟩
 ·rw [show ((2 * k + 1:Nat):Int)=2 * (k:Int) + 1 by omega,show ((deep - 1:Nat):Int)=(deep:Int) - 1 by omega]
 walk_at "rd"
 refine bN (fun h2=>?_) (fun h2=>?_)
 ·walk_at "rd"
  refine ⟨by simp [sizeLine_eq],fun t H2 ht s2 e2=>?_⟩
  refine q (.ref t) (.not a1) H2 (s1.trans s2) ⟨t,_,rfl,e2,i1.keep s2.keep⟩ p1 o1 ?_
  show a1.words + 1 + 1<=2 ^ (deep + 1)
  omega
 ·walk_at "rd"
  refine ⟨by simp [sizeLine_eq],fun l2 H2 hl2 s2 e2=>?_⟩
  walk_at "rd"
  obtain ⟨x,hx,hxm⟩:=yC _ y (m:=2) (show [V.str "and",V.str "or"].length=2 from rfl) (by decide)
  refine fu (SqL.of e2) hx ?_
  walk_at "rd"
  refine ⟨z,2 * k + 2,c,h,deep - 1,?_,c1,c12,h5,by omega,by omega,dk,fun x3 a3 H3 s3 i3 p3 o3 w3=>?_⟩
  ·rw [show ((2 * k + 2:Nat):Int)=2 * (k:Int) + 2 by omega,show ((deep - 1:Nat):Int)=(deep:Int) - 1 by omega]
  walk_at "rd"
  refine ⟨by simp [sizeLine_eq],fun t H4 ht s4 e4=>?_⟩
  have s14:=s2.trans (s3.trans s4)
  simp only [List.mem_cons,List.not_mem_nil,or_false] at hxm
  rcases hxm with rfl | rfl
  ·refine q (.ref t) (.and a1 a3) H4 (s1.trans s14) ⟨t,_,_,rfl,e4,i1.keep s14.keep,i3.keep s4.keep⟩ ⟨p1,p3⟩ ⟨o1,o3⟩ ?_
   show a1.words + a3.words + 1 + 1<=2 ^ (deep + 1)
   omega
  ·refine q (.ref t) (.or a1 a3) H4 (s1.trans s14) ⟨t,_,_,rfl,e4,i1.keep s14.keep,i3.keep s4.keep⟩ ⟨p1,p3⟩ ⟨o1,o3⟩ ?_
   show a1.words + a3.words + 1 + 1<=2 ^ (deep + 1)
   omega
end L2
end
section
namespace L2
open PySem PyProof.Rows
theorem Bi (a b:Nat):Builtin.bitOr (a:Int) (b:Int)=((a ||| b:Nat):Int):=by
 have nn:∀ x:Int,Builtin.bitNot (Builtin.bitNot x)=x:=fun x=>by unfold Builtin.bitNot; omega
 have ng:∀ n:Nat,decide (0<=Builtin.bitNot (n:Int))=false:=fun n=>decide_eq_false (by unfold Builtin.bitNot; omega)
 unfold Builtin.bitOr Builtin.bitAnd
 rw [ng,ng]
 show Builtin.bitNot (Builtin.bitNot _)=_
 rw [nn,nn,nn,Int.toNat_natCast,Int.toNat_natCast]
theorem Ez (i c:Nat):Builtin.bitAnd ((i:Int) / 2 ^ c) 1=((i / 2 ^ c % 2:Nat):Int):=by
 have e:(i:Int) / 2 ^ c=((i / 2 ^ c:Nat):Int):=by rw [Int.natCast_ediv,Int.natCast_pow]; rfl
 rw [e]
 show ((((i / 2 ^ c:Nat):Int).toNat &&& (1:Int).toNat:Nat):Int)=_
 rw [Int.toNat_natCast,show (1:Int).toNat=1 from rfl,Nat.and_one_is_mod]
noncomputable def pc (h b:Nat):Nat:=((List.range h).map fun j=>b / 2 ^ j % 2).sum
theorem uN (b j:Nat):b / 2 ^ j % 2=if b.testBit j then 1 else 0:=by
 rw [Nat.testBit_eq_decide_div_mod_eq]
 by_cases h:b / 2 ^ j % 2=1
 ·rw [decide_eq_true h,if_pos rfl,h]
 ·rw [decide_eq_false h,if_neg Bool.false_ne_true]; omega
theorem zf (h b:Nat):pc h b=((List.range h).filter fun j=>b.testBit j).length:=by
 unfold pc
 induction (List.range h) with
 | nil=>rfl
 | cons j l ih=>
  rw [List.map_cons,List.sum_cons,ih,uN,List.filter_cons]
  cases b.testBit j
  ·simp
  ·simp; omega
theorem B0 {h a b:Nat} (e:a ||| b=b):pc h a<=pc h b:=by
 have im:∀ j,a.testBit j=true->b.testBit j=true:=fun j hj=>by rw [<-e,Nat.testBit_or,hj,Bool.true_or]
 unfold pc
 induction (List.range h) with
 | nil=>exact Nat.le_refl _
 | cons j l ih=>
  rw [List.map_cons,List.map_cons,List.sum_cons,List.sum_cons,uN,uN]
  have:=im j
  cases h1:a.testBit j with
  | false=>simp; omega
  | true=>rw [im j h1]; simp; omega
noncomputable def xK (b:Nat) (cs:List Cl) (d:Nat):Prop:=∀ j,b.testBit j=lyB cs d j
noncomputable def ek (_:PySem.W.Frag):Sp:=fun vs H Q _=>∃ (p:Addr) (cs:List Cl) (m d:Nat),vs=[.ref p,.int (d:Int)]/\ii H p cs/\ox cs m/\d < m/\∀ b:Nat,xK b cs d->Q (.int (b:Int)) H
noncomputable def ip (K:PySem.W.Frag):TS:=(aq (aU (tC (.int 0)) (am 2))
 (aq (gH (eB K (ac 0)) (g0 K 2 (b7 (am 3) (b7 (am 4) gZ))) (bw (fe (tB (tOp (fh K) (ac 4) (ac 1)))) (aU (tOp (rI0 fun i j=>.int (Builtin.bitOr i j)) (ac 2) (tOp (rI zI fun i j=>.int (i * 2 ^ j.toNat)) (tC (.int 1)) (ac 3))) (am 2)) aX))
 (aL (ac 2))))
theorem wE {cs:List Cl} {i d j:Nat} {c:Cl} (hc:cs[i]?=some c):lyB (cs.take (i + 1)) d j=(lyB (cs.take i) d j || (c.1 == j && !c.2.getD d false)):=by
 unfold lyB
 rw [List.take_add_one,hc,List.any_append]
 simp
theorem qI {K:PySem.W.Frag} {vs:List V} {H:Hp} {Q:VK} {E:XK} (h:ek K vs H Q E):vs.length=2:=by
 obtain ⟨p,cs,m,d,rfl,A,ok,hd,q⟩:=h
 rfl
theorem rW {K:PySem.W.Frag} {vs:List V} {H:Hp} {Q:VK} {E:XK} (h:ek K vs H Q E):ip K { nx:=fun _ H'=>Q .non H',rt:=Q } (aN ["_law_claims","_law_deal","_law_found","_law_hand","_law_truths"] vs) H:=by
 obtain ⟨p,cs,m,d,rfl,A,ok,hd,q⟩:=h
 show ip K _ [some _,some _,none,none,none] _
 unfold ip
 obtain ⟨as,ep,pr⟩:=id A
 have hal:=kK pr
 walk_at "rd"
 refine qq (as.map V.ref) (SqL.of ep) (fun i σ H2=>∃ (u3 u4:Option V) (b:Nat),σ=[some (.ref p),some (.int (d:Int)),some (.int (b:Int)),u3,u4]/\H2=H/\xK b (cs.take i) d) ⟨_,_,0,rfl,rfl,fun j=>by rw [Nat.zero_testBit]; rfl⟩ (fun i σ H2 _ ⟨_,_,_,_,e,_⟩=>by rw [e]; exact SqL.of ep) ?_ ?_
 ·rintro i x σ H2 hx ⟨u3,u4,b,rfl,rfl,hb⟩
  obtain ⟨a,ha,rfl⟩:=nv hx
  obtain ⟨c,hc,l,ea,el⟩:=uz pr ha
  have hcm:=List.mem_of_getElem? hc
  walk_at "rd"
  refine gu (SqT.of ea) ?_
  walk_at "rd"
  refine fu (SqL.of el) (kJ (pL (by rw [ok.row c hcm]; exact hd))) ?_
  walk_at "rd"
  have h5:=ok.hand c hcm
  refine hU (fun h=>?_) (fun h=>?_)
  ·walk_at "rd"
   rw [show (1:Int) * 2 ^ ((c.1:Int).toNat)=((2 ^ c.1:Nat):Int) by rw [Int.one_mul,Int.toNat_natCast,Int.natCast_pow]; rfl,Bi]
   refine ⟨_,_,b ||| 2 ^ c.1,rfl,rfl,fun j=>?_⟩
   rw [Nat.testBit_or,Nat.testBit_two_pow,hb j,wE hc,h]
   simp [Bool.beq_eq_decide_eq]
  ·walk_at "rd"
   refine ⟨_,_,b,rfl,rfl,fun j=>?_⟩
   rw [hb j,wE hc,h]
   simp
 ·rintro σ H2 ⟨u3,u4,b,rfl,rfl,hb⟩
  rw [List.length_map,hal,List.take_length] at hb
  walk_at "rd"
  exact q b hb
noncomputable def fT (h:Nat) (mo:Int) (n:Nat):List Nat:=(List.range n).filter fun b=>decide ((pc h b:Int)<=mo)
noncomputable def cS (_:PySem.W.Frag):Sp:=fun vs H Q _=>∃ (h:Nat) (mo:Int),vs=[.int (h:Int),.int mo]/\h<=5/\∀ f H',H f=none->al H H'->H' f=some (.lst (aw (fT h mo (2 ^ h))))->Q (.ref f) H'
noncomputable def i5 (K:PySem.W.Frag):TS:=(aq (aU (cE ai) (am 2))
 (aq (gH (fP (ab (tOp (rI zI fun i j=>.int (i * 2 ^ j.toNat)) (tC (.int 1)) (ac 0)) ai)) (am 3) (bw (aY (tOp (rI0 fun i j=>.bl (decide (i<=j))) (tCB (xg K) (ab (bT (fP (ab (ac 0) ai)) (fun _ _ _ _=>(am 0)) (fun _ _ _ _=>b8) (fun _ _ _ _=>(tOp (rI0 fun i j=>.int (Builtin.bitAnd i j)) (tOp (rI (fun _ j=>0<=j) fun i j=>.int (i / 2 ^ j.toNat)) (ac 1) (ac 0)) (tC (.int 1)))) [none,some 3]) ai)) (ac 1))) (kZ (tBM K "list" kD (ac 2) (ab (ac 3) ai))) aX))
 (aL (ac 2))))
theorem rH (h:Nat) (mo:Int) (n:Nat):fT h mo (n + 1)=fT h mo n++if (pc h n:Int)<=mo then [n] else []:=by
 unfold fT
 rw [List.range_succ,List.filter_append,List.filter_cons,List.filter_nil]
 congr 1
 by_cases z:(pc h n:Int)<=mo
 ·rw [if_pos z,decide_eq_true z]; rfl
 ·rw [if_neg z,decide_eq_false z]; rfl
theorem uO (h:Nat) (mo:Int) (n:Nat):(fT h mo n).length<=n:=Nat.le_trans (List.length_filter_le _ _) (Nat.le_of_eq List.length_range)
theorem rX {K:PySem.W.Frag} {vs:List V} {H:Hp} {Q:VK} {E:XK} (h:cS K vs H Q E):vs.length=2:=by
 obtain ⟨h,mo,rfl,h5,q⟩:=h
 rfl
theorem uP {K:PySem.W.Frag} {vs:List V} {H:Hp} {Q:VK} {E:XK} (h:cS K vs H Q E):i5 K { nx:=fun _ H'=>Q .non H',rt:=Q } (aN ["_law_hands","_law_most","_law_found","_law_bits"] vs) H:=by
 obtain ⟨h,mo,rfl,h5,q⟩:=h
 show i5 K _ [some _,some _,none,none] _
 unfold i5
 have h2:2 ^ h<=32:=Nat.pow_le_pow_right (n:=2) (by decide) h5
 walk_at "rd"
 refine ⟨by simp [sizeLine_eq],fun f H1 hf s1 e1=>?_⟩
 walk_at "rd"
 have hp:(1:Int) * 2 ^ ((h:Int).toNat)=((2 ^ h:Nat):Int):=by rw [Int.one_mul,Int.toNat_natCast,Int.natCast_pow]; rfl
 rw [hp]
 have hB:((2 ^ h:Nat):Int)<=((32:Nat):Int):=Int.ofNat_le.mpr h2
 refine oq (2 ^ h) (Int.toNat_natCast _) (Int.le_trans hB (by decide)) (Int.le_trans (by decide) (Int.natCast_nonneg _)) (fun i σ H2=>∃ (u3:Option V),σ=[some (.int (h:Int)),some (.int mo),some (.ref f),u3]/\al H H2/\H2 f=some (.lst (aw (fT h mo i)))) ⟨_,rfl,s1,e1⟩ ?_ ?_
 ·rintro i σ H2 hi ⟨u3,rfl,s2,e2⟩
  walk_at "rd"
  refine iM h (by omega) (by omega) (by omega) (fun j acc _=>acc=((List.range j).map fun k=>((i / 2 ^ k % 2:Nat):Int)).map V.int) (fun _ _=>rfl) ?_ ?_
  ·rintro w hw C s' H' fp j acc H3 hj ⟨s3,e3,l3,rfl⟩
   walk_at "rd"
   refine r_I (C:=fun _ j=>0<=j) (by omega) ?_
   walk_at "rd"
   rw [Int.toNat_natCast,Ez]
   refine aZ.put hw (fun _ _ _ _ r _=>r) s3 e3 l3 ?_
   rw [List.range_succ,List.map_append,List.map_append]
   rfl
  rintro w acc H3 hw s3 e3 rfl
  walk_at "rd"
  refine Ee (SqL.of e3) ?_
  walk_at "rd"
  have hs:(((List.range h).map fun k=>((i / 2 ^ k % 2:Nat):Int))).sum=((pc h i:Nat):Int):=by
   unfold pc
   rw [<-jU,List.map_map]
   rfl
  rw [hs]
  have e23:=s3 _ _ e2
  refine bN (fun z=>?_) (fun z=>?_)
  ·walk_at "rd"
   refine ⟨xc e23,?_⟩
   walk_at "rd"
   refine tS e23 (by rw [cF,sizeLine_eq]; have:=uO h mo i; omega) fun H4 o4 e4=>?_
   walk_at "rd"
   refine ⟨_,rfl,(s2.trans s3).off hf o4,?_⟩
   rw [e4,rH,if_pos z,<-eD]
  ·walk_at "rd"
   exact ⟨_,rfl,s2.trans s3,by rw [rH,if_neg z,List.append_nil]; exact e23⟩
 ·rintro σ H2 ⟨u3,rfl,s2,e2⟩
  walk_at "rd"
  exact q f H2 hf s2 e2
noncomputable def bG (_:PySem.W.Frag):Sp:=fun vs H Q _=>∃ (l:Addr) (mo:Int) (h:Nat) (ls:List Nat),vs=[.ref l,.int mo,.int (h:Int)]/\H l=some (.lst (aw ls))/\ls.length<=2000/\h<=5/\(∀ b∈ls,∀ j,h<=j->b.testBit j=false)/\
 ∀ f H',H f=none->al H H'->H' f=some (.lst (aw ((List.range ls.length).filter fun d=>decide ((pc h (ls.getD d 0):Int)<=mo))))->Q (.ref f) H'
noncomputable def fc (K:PySem.W.Frag):TS:=(aq (aU (az (cS K) [] E0 (ab (ac 2) (ab (ac 1) ai))) (am 3))
 (aL (bT (fP (ab (tCB (fO K) (ab (ac 0) ai)) ai)) (fun _ _ _ _=>(am 0)) (fun _ _ _ _=>(tB (tCB (AE K) (ab (bT (eB K (ac 1)) (fun _ _ _ _=>(am 0)) (fun _ _ _ _=>b8) (fun _ _ _ _=>(tOp rEq (tOp (rI0 fun i j=>.int (Builtin.bitOr i j)) (tOp (fh K) (ac 1) (ac 2)) (ac 0)) (ac 0))) [none,some 2,some 0]) ai)))) (fun _ _ _ _=>(ac 0)) [none,some 3,some 0])))
theorem AG {h b:Nat} {mo:Int} (hb:∀ j,h<=j->b.testBit j=false):((fT h mo (2 ^ h)).map fun s=>decide (b ||| s=s)).any id=decide ((pc h b:Int)<=mo):=by
 rw [Bool.eq_iff_iff,decide_eq_true_iff,List.any_eq_true]
 constructor
 ·rintro ⟨x,hx,e⟩
  obtain ⟨s,hs,rfl⟩:=List.mem_map.mp hx
  have h1:=of_decide_eq_true (List.mem_filter.mp hs).2
  have:=B0 (h:=h) (of_decide_eq_true e)
  omega
 ·intro hm
  refine ⟨true,List.mem_map.mpr ⟨b,List.mem_filter.mpr ⟨List.mem_range.mpr (Nat.lt_pow_two_of_testBit b hb),decide_eq_true hm⟩,decide_eq_true (Nat.or_self b)⟩,rfl⟩
theorem uQ {vw:List Nat} {i:Nat} {x:V} (h:(aw vw)[i]?=some x):∃ y:Nat,vw[i]?=some y/\x=.int (y:Int):=by
 unfold aw at h
 rw [List.getElem?_map] at h
 cases e:vw[i]? with
 | none=>rw [e] at h; cases h
 | some y=>rw [e] at h; exact ⟨y,rfl,(Option.some.inj h).symm⟩
theorem oE {ds:List Nat} {i:Nat} (h:i < ds.length):atI (aw ds) (i:Int)=some (.int (ds.getD i 0:Int)):=fH (by unfold aw; rw [List.getElem?_map,List.getD_eq_getElem?_getD,List.getElem?_eq_getElem h]; rfl)
theorem lS {K:PySem.W.Frag} {vs:List V} {H:Hp} {Q:VK} {E:XK} (h:bG K vs H Q E):vs.length=3:=by
 obtain ⟨l,mo,h,ls,rfl,el,hl,h5,hb,q⟩:=h
 rfl
theorem mO {K:PySem.W.Frag} {vs:List V} {H:Hp} {Q:VK} {E:XK} (h:bG K vs H Q E):fc K { nx:=fun _ H'=>Q .non H',rt:=Q } (aN ["_law_lying_here","_law_most","_law_hands","_law_some"] vs) H:=by
 obtain ⟨l,mo,h,ls,rfl,el,hl,h5,hb,q⟩:=h
 show fc K _ [some _,some _,some _,none] _
 unfold fc
 walk_at "rd"
 refine ⟨h,mo,rfl,h5,fun f H1 hf s1 e1=>?_⟩
 have el1:=s1 _ _ el
 have hsl:=uO h mo (2 ^ h)
 have h2:2 ^ h<=32:=Nat.pow_le_pow_right (n:=2) (by decide) h5
 walk_at "rd"
 rw [cF]
 refine iM ls.length (by omega) (by omega) (by omega) (fun i acc _=>acc=aw ((List.range i).filter fun d=>decide ((pc h (ls.getD d 0):Int)<=mo))) (fun _ _=>rfl) ?_ ?_
 ·rintro w hw C s' H' fp i acc H2 hi ⟨s2,e2,l2,rfl⟩
  have el2:=s2 _ _ el1
  have hbi:∀ j,h<=j->(ls.getD i 0).testBit j=false:=hb _ (by rw [List.getD_eq_getElem?_getD,List.getElem?_eq_getElem hi]; exact List.getElem_mem hi)
  walk_at "rd"
  refine gN (aw (fT h mo (2 ^ h))) (SqL.of (s2 _ _ e1)) (by rw [cF]; omega) (fun k acc _=>acc=(((fT h mo (2 ^ h)).take k).map fun s=>decide ((ls.getD i 0) ||| s=s)).map V.bl) (fun _ _=>rfl) ?_ ?_
  ·rintro w3 hw3 C3 s3' H3' fp3 k x acc H3 hx ⟨s3,e3,l3,rfl⟩
   obtain ⟨y,hy,rfl⟩:=uQ hx
   walk_at "rd"
   refine fu (SqL.of (s3 _ _ el2)) (oE hi) ?_
   walk_at "rd"
   rw [Bi]
   refine aZ.put hw3 (fun _ _ _ _ r _=>r) s3 e3 l3 ?_
   rw [List.take_add_one,hy,List.map_append,List.map_append]
   show _=_++[V.bl (decide ((ls.getD i 0) ||| y=y))]
   congr 3
   exact decide_eq_decide.mpr (by omega)
  rintro w3 acc H3 hw3 s3 e3 rfl
  rw [cF,List.take_length] at e3
  walk_at "rd"
  refine Ey (SqL.of e3) ?_
  rw [AG hbi]
  walk_at "rd"
  have e23:=s3 _ _ e2
  refine bN (fun z=>?_) (fun z=>?_)
  ·walk_at "rd"
   refine aZ.put hw (fun _ _ _ _ r _=>r) (s2.trans s3) e23 l2 ?_
   rw [List.range_succ,List.filter_append,show [i].filter (fun d=>decide ((pc h (ls.getD d 0):Int)<=mo))=[i] from List.filter_cons_of_pos (decide_eq_true z),<-eD]
  ·refine aZ.skip (s2.trans s3) e23 l2 ?_
   rw [List.range_succ,List.filter_append,show [i].filter (fun d=>decide ((pc h (ls.getD d 0):Int)<=mo))=[] from List.filter_cons_of_neg (by rw [decide_eq_false z]; exact Bool.false_ne_true),List.append_nil]
 ·rintro w acc H2 hw s2 e2 rfl
  exact q w H2 (s1.free hw) (s1.trans s2) e2
end L2
end
section
namespace L2
open PySem PyProof.Rows
noncomputable def Fnd (cs:List Cl) (bs:List Bool) (m:Nat) (H:Hp) (v:V):Prop:=(v=.non/\cm bs m=[])\/∃ (d:Nat) (t:Addr),v=.ref t/\H t=some (.tup [.int (((lyN cs d:Nat):Int) - 1),.int (d:Int)])/\d∈cm bs m/\∀ e∈cm bs m,lyN cs d<=lyN cs e/\(e < d->lyN cs d < lyN cs e)
theorem Fnd.sameT {cs:List Cl} {bs:List Bool} {m:Nat} {H H':Hp} (s:bM H H') {v:V} (h:Fnd cs bs m H v):Fnd cs bs m H' v:=h.imp id fun ⟨d,t,e,q,r⟩=>⟨d,t,e,s.tup q,r⟩
theorem oF {cs:List Cl} {bs:List Bool} {m:Nat} (h:mJ cs bs m=[]):cm bs m=[]:=List.map_eq_nil_iff.mp h
theorem qJ {cs:List Cl} {bs:List Bool} {m:Nat} {w:List Int} (h:Bh (mJ cs bs m) w):∃ d,w=lr cs d/\d∈cm bs m/\∀ e∈cm bs m,lyN cs d<=lyN cs e/\(e < d->lyN cs d < lyN cs e):=by
 obtain ⟨d,hd,rfl⟩:=List.mem_map.mp h.1
 refine ⟨d,rfl,hd,fun e he=>?_⟩
 have:=h.2 _ (List.mem_map.mpr ⟨e,he,rfl⟩)
 unfold lr at this
 rw [Dj] at this
 by_cases z:((lyN cs e:Nat):Int) - 1=((lyN cs d:Nat):Int) - 1
 ·rw [if_pos z] at this
  refine ⟨by omega,fun l=>?_⟩
  rw [if_neg (by omega)] at this
  have:=of_decide_eq_false this
  omega
 ·rw [if_neg z] at this
  have:=of_decide_eq_false this
  omega
theorem jB {bs:List Bool} {m d:Nat}:d∈cm bs m↔d < m/\bs.getD d false=false:=by
 unfold cm
 rw [List.mem_filter,List.mem_range]
 cases bs.getD d false <;> simp
theorem wF {p q:Nat->Bool} (h:∀ x,p x=true->q x=true):∀ l:List Nat,(l.filter p).length<=(l.filter q).length
 | []=>Nat.le_refl _
 | a :: l=>by
  have ih:=wF h l
  rw [List.filter_cons,List.filter_cons]
  cases hp:p a with
  | false=>cases q a <;> simp <;> omega
  | true=>rw [h a hp]; simp; exact ih
theorem B1 {cs:List Cl} {c:Cl} {d:Nat}:lyN cs d<=lyN (cs++[c]) d:=by
 unfold lyN
 refine wF (fun h hb=>?_) _
 unfold lyB at *
 rw [List.any_append,hb,Bool.true_or]
theorem B2 {cs:List Cl} {s:Nat} {bs:List Bool} {d:Nat} (h5:s < 5) (hs:lyB cs d s=false) (hd:bs.getD d false=false):lyN (cs++[(s,bs)]) d=lyN cs d + 1:=by
 have e:∀ j,lyB (cs++[(s,bs)]) d j=(lyB cs d j || decide (s=j)):=fun j=>by
  unfold lyB
  rw [List.any_append]
  congr 1
  show ((s == j && !(bs.getD d false)) || false)=_
  rw [hd]
  simp [Bool.beq_eq_decide_eq]
 unfold lyN
 rw [show lyB (cs++[(s,bs)]) d=fun j=>(lyB cs d j || decide (s=j)) from funext e]
 generalize lyB cs d=p at hs
 rw [show List.range 5=[0,1,2,3,4] from rfl]
 match s,h5,hs with
 | 0,_,hs=>simp only [List.filter_cons,List.filter_nil,hs]; cases p 1 <;> cases p 2 <;> cases p 3 <;> cases p 4 <;> rfl
 | 1,_,hs=>simp only [List.filter_cons,List.filter_nil,hs]; cases p 0 <;> cases p 2 <;> cases p 3 <;> cases p 4 <;> rfl
 | 2,_,hs=>simp only [List.filter_cons,List.filter_nil,hs]; cases p 0 <;> cases p 1 <;> cases p 3 <;> cases p 4 <;> rfl
 | 3,_,hs=>simp only [List.filter_cons,List.filter_nil,hs]; cases p 0 <;> cases p 1 <;> cases p 2 <;> cases p 4 <;> rfl
 | 4,_,hs=>simp only [List.filter_cons,List.filter_nil,hs]; cases p 0 <;> cases p 1 <;> cases p 2 <;> cases p 3 <;> rfl
theorem Bj {cs:List Cl} {b d h:Nat} (h5:h<=5) (hh:∀ c∈cs,c.1 < h) (hb:xK b cs d):pc h b=lyN cs d/\∀ j,h<=j->b.testBit j=false:=by
 have no:∀ j,h<=j->lyB cs d j=false:=fun j hj=>by
  unfold lyB
  rw [List.any_eq_false]
  intro c hc z
  rw [Bool.and_eq_true,beq_iff_eq] at z
  have:=hh c hc
  omega
 refine ⟨?_,fun j hj=>(hb j).trans (no j hj)⟩
 rw [zf,show (fun j=>b.testBit j)=lyB cs d from funext hb]
 unfold lyN
 generalize lyB cs d=p at no
 match h,h5,no with
 | 0,_,no=>rw [show List.range 5=[0,1,2,3,4] from rfl]; simp [List.filter_cons,no 0,no 1,no 2,no 3,no 4]
 | 1,_,no=>rw [show List.range 5=[0,1,2,3,4] from rfl,show List.range 1=[0] from rfl]; simp only [List.filter_cons,List.filter_nil,no 1 (by decide),no 2 (by decide),no 3 (by decide),no 4 (by decide)]; cases p 0 <;> rfl
 | 2,_,no=>rw [show List.range 5=[0,1,2,3,4] from rfl,show List.range 2=[0,1] from rfl]; simp only [List.filter_cons,List.filter_nil,no 2 (by decide),no 3 (by decide),no 4 (by decide)]; cases p 0 <;> cases p 1 <;> rfl
 | 3,_,no=>rw [show List.range 5=[0,1,2,3,4] from rfl,show List.range 3=[0,1,2] from rfl]; simp only [List.filter_cons,List.filter_nil,no 3 (by decide),no 4 (by decide)]; cases p 0 <;> cases p 1 <;> cases p 2 <;> rfl
 | 4,_,no=>rw [show List.range 5=[0,1,2,3,4] from rfl,show List.range 4=[0,1,2,3] from rfl]; simp only [List.filter_cons,List.filter_nil,no 4 (by decide)]; cases p 0 <;> cases p 1 <;> cases p 2 <;> cases p 3 <;> rfl
 | 5,_,no=>rfl
theorem Ds (h b:Nat):pc h b<=h:=by
 rw [zf]
 exact Nat.le_trans (List.length_filter_le _ _) (Nat.le_of_eq List.length_range)
theorem uR (z:Nat) (ns:List Nat):inV (.int (z:Int)) (aw ns)=decide (z∈ns):=by
 rw [gO,wB]
 refine decide_eq_decide.mpr ⟨fun h=>?_,fun h=>List.mem_map.mpr ⟨z,h,rfl⟩⟩
 obtain ⟨y,hy,e⟩:=List.mem_map.mp h
 have:y=z:=by omega
 exact this ▸ hy
theorem pW (ns:List Nat):(aw ns).all dq=true:=by rw [gO]; exact uD _
theorem uS {h b:Nat} {mo:Int} (hb:∀ j,h<=j->b.testBit j=false):b∈fT h mo (2 ^ h)↔(pc h b:Int)<=mo:=by
 unfold fT
 rw [List.mem_filter,List.mem_range,decide_eq_true_iff]
 exact ⟨fun z=>z.2,fun z=>⟨Nat.lt_pow_two_of_testBit b hb,z⟩⟩
structure Lyg (cs:List Cl) (ls:List Nat) (h m:Nat):Prop where
 len:ls.length=m
 pc:∀ d,d < m->pc h (ls.getD d 0)=lyN cs d
 bit:∀ d,d < m->∀ j,h<=j->(ls.getD d 0).testBit j=false
noncomputable def eo (_:PySem.W.Frag):Sp:=fun vs H Q _=>∃ (v:V) (l b:Addr) (h m:Nat) (cs:List Cl) (ls:List Nat) (bs:List Bool),vs=[v,.ref l,.ref b,.int (h:Int)]/\H l=some (.lst (aw ls))/\H b=some (.lst (bs.map V.bl))/\bs.length=m/\m<=2000/\h<=5/\Lyg cs ls h m/\Fnd cs bs m H v/\∀ H',al H H'->Q (.bl true) H'
noncomputable def iq (K:PySem.W.Frag):TS:=(aq (bw (aY (tOp gQ (ac 0) (tC .non))) (aL (tOp (rIn K true) (tC (.bl false)) (ac 2))) aX)
 (aq (aU (ac 0) (g0 K 2 (b7 (am 4) (b7 (am 5) gZ))))
 (aq (bw (tOr (tB (tOp (fh K) (ac 2) (ac 5))) (tOr (aY (tOp (rI0 fun i j=>.bl (decide (j<=i))) (ac 4) (ac 3))) (aY (tOp (rIn K true) (tOp (fh K) (ac 1) (ac 5)) (az (cS K) [] E0 (ab (ac 3) (ab (tOp (rI0 fun i j=>.int (i + j)) (ac 4) (tC (.int 1))) ai))))))) (aL (tC (.bl false))) aX)
 (aq (bw (wL (aY (tOp (rI0 fun i j=>.bl (decide (j<=i))) (ac 4) (tC (.int 0)))) (aY (tOp (rIn K false) (tOp (fh K) (ac 1) (ac 5)) (az (cS K) [] E0 (ab (ac 3) (ab (ac 4) ai)))))) (aL (tC (.bl false))) aX)
 (aq (gH (eB K (az (bG K) [] E0 (ab (ac 1) (ab (ac 4) (ab (ac 3) ai))))) (am 6) (bw (fe (tB (tOp (fh K) (ac 2) (ac 6)))) (aL (tC (.bl false))) aX))
 (aL (tC (.bl true))))))))
theorem qK {K:PySem.W.Frag} {vs:List V} {H:Hp} {Q:VK} {E:XK} (h:eo K vs H Q E):vs.length=4:=by
 obtain ⟨v,l,b,h,m,cs,ls,bs,rfl,el,eb,hbl,hm,h5,ly,F,q⟩:=h
 rfl
theorem rY {K:PySem.W.Frag} {vs:List V} {H:Hp} {Q:VK} {E:XK} (h:eo K vs H Q E):iq K { nx:=fun _ H'=>Q .non H',rt:=Q } (aN ["_law_found","_law_lying_here","_law_truths","_law_hands","_law_number","_law_deal","_law_at"] vs) H:=by
 obtain ⟨v,l,b,h,m,cs,ls,bs,rfl,el,eb,hbl,hm,h5,ly,F,q⟩:=h
 show iq K _ [some _,some _,some _,some _,none,none,none] _
 unfold iq
 have hll:=ly.len
 have hbit:∀ x∈ls,∀ j,h<=j->x.testBit j=false:=fun x hx=>by
  obtain ⟨d,hd,rfl⟩:=List.getElem_of_mem hx
  have:=ly.bit d (by omega)
  rwa [List.getD_eq_getElem?_getD,List.getElem?_eq_getElem hd] at this
 walk_at "rd"
 rcases F with ⟨rfl,hw⟩ | ⟨d,t,rfl,et,hd,hmin⟩
 ·refine fz ?_
  rw [show isN V.non=true from rfl]
  walk_at "rd"
  refine ut (c:=false) (SqL.of eb) rfl ?_ ?_ ?_
  ·rw [List.all_map]; exact List.all_eq_true.mpr fun _ _=>rfl
  ·unfold inV
   rw [List.any_map,List.any_eq_false]
   intro x hx z
   obtain ⟨d,hd,rfl⟩:=List.getElem_of_mem hx
   have hf:bs.getD d false=false:=by
    rw [List.getD_eq_getElem?_getD,List.getElem?_eq_getElem hd]
    show bs[d]=false
    revert z
    cases bs[d]
    ·exact fun _=>rfl
    ·exact fun z=>absurd z (by decide)
   have:d∈cm bs m:=jB.mpr ⟨by omega,hf⟩
   rw [hw] at this
   cases this
  exact q _ (al.refl _)
 ·obtain ⟨hdm,hdf⟩:=jB.mp hd
  have hpc:=ly.pc d hdm
  have hpl:=Ds h (ls.getD d 0)
  have hdb:=ly.bit d hdm
  refine fz ?_
  rw [show isN (V.ref t)=false from rfl]
  walk_at "rd"
  refine gu (SqT.of et) ?_
  walk_at "rd"
  refine fu (SqL.of eb) (kJ (pL (by omega))) ?_
  rw [hdf]
  walk_at "rd"
  refine bN (fun z=>by omega) (fun z=>?_)
  walk_at "rd"
  refine fu (SqL.of el) (oE (by omega)) ?_
  walk_at "rd"
  refine ⟨h,_,rfl,h5,fun f1 H1 hf1 s1 e1=>?_⟩
  refine ut (c:=true) (SqL.of e1) rfl (pW _) ?_ ?_
  ·rw [uR]; exact decide_eq_true ((uS hdb).mpr (by omega))
  walk_at "rs"
  refine jE fun NX hNX=>?_
  have cM:∀ H2,al H1 H2->NX [some (.ref t),some (.ref l),some (.ref b),some (.int (h:Int)),some (.int (((lyN cs d:Nat):Int) - 1)),some (.int (d:Int)),none] H2:=by
   intro H2 s2
   have s02:=s1.trans s2
   refine hNX _ _ ?_
   walk_at "rd"
   refine ⟨l,_,h,ls,rfl,s02 _ _ el,by omega,h5,hbit,fun f3 H3 hf3 s3 e3=>?_⟩
   have s03:=s02.trans s3
   have eb3:=s03 _ _ eb
   walk_at "rd"
   refine qq _ (SqL.of e3) (fun i σ H4=>∃ u6:Option V,σ=[some (.ref t),some (.ref l),some (.ref b),some (.int (h:Int)),some (.int (((lyN cs d:Nat):Int) - 1)),some (.int (d:Int)),u6]/\H4=H3) ⟨_,rfl,rfl⟩ (fun i σ H4 _ ⟨_,_,e⟩=>by rw [e]; exact SqL.of e3) ?_ ?_
   ·rintro i x σ H4 hx ⟨u6,rfl,rfl⟩
    obtain ⟨y,hy,rfl⟩:=uQ hx
    obtain ⟨hy1,hy2⟩:=List.mem_filter.mp (List.mem_of_getElem? hy)
    have hym:=List.mem_range.mp hy1
    have hy3:=of_decide_eq_true hy2
    rw [ly.pc y (by omega)] at hy3
    walk_at "rd"
    refine fu (SqL.of eb3) (kJ (pL (by omega))) ?_
    walk_at "rd"
    refine hU (fun z=>?_) (fun z=>?_)
    ·have:=(hmin y (jB.mpr ⟨by omega,z⟩)).1
     omega
    ·walk_at "rd"
     exact ⟨_,rfl,rfl⟩
   ·rintro σ H4 ⟨u6,rfl,rfl⟩
    walk_at "rd"
    exact q _ s03
  walk_at "rs"
  refine bN (fun z=>?_) (fun z=>?_)
  ·walk_at "rs"
   refine fu (SqL.of (s1 _ _ el)) (oE (by omega)) ?_
   walk_at "rs"
   refine ⟨h,_,rfl,h5,fun f2 H2 hf2 s2 e2=>?_⟩
   refine Ep (c:=false) (SqL.of e2) rfl (pW _) ?_ ?_
   ·rw [uR]; exact decide_eq_false fun w=>by have:=(uS hdb).mp w; omega
   walk_at "rs"
   exact cM H2 s2
  ·walk_at "rs"
   exact cM H1 (al.refl _)
noncomputable def dI (_:PySem.W.Frag):Sp:=fun vs H Q _=>∃ (u v:V),vs=[u,v]/\((u=.non/\v=.non)\/∃ (t1 t2:Addr) (a b:Int) (x y:V),u=.ref t1/\v=.ref t2/\H t1=some (.tup [.int a,x])/\H t2=some (.tup [.int b,y])/\a<=b)/\Q (.bl true) H
noncomputable def gj (K:PySem.W.Frag):TS:=(aq (bw (tOr (aY (tOp gQ (ac 0) (tC .non))) (aY (tOp gQ (ac 1) (tC .non)))) (aL (kY (tOp gQ (ac 0) (tC .non)) (tOp gQ (ac 1) (tC .non)))) aX)
 (aL (tOp (rI0 fun i j=>.bl (decide (j<=i))) (tOp (dJ K) (ac 1) (tC (.int 0))) (tOp (dJ K) (ac 0) (tC (.int 0))))))
theorem oG {K:PySem.W.Frag} {vs:List V} {H:Hp} {Q:VK} {E:XK} (h:dI K vs H Q E):vs.length=2:=by
 obtain ⟨u,v,rfl,hc,q⟩:=h
 rfl
theorem pX {K:PySem.W.Frag} {vs:List V} {H:Hp} {Q:VK} {E:XK} (h:dI K vs H Q E):gj K { nx:=fun _ H'=>Q .non H',rt:=Q } (aN ["_law_one","_law_other"] vs) H:=by
 obtain ⟨u,v,rfl,hc,q⟩:=h
 show gj K _ [some _,some _] _
 unfold gj
 walk_at "rd"
 rcases hc with ⟨rfl,rfl⟩ | ⟨t1,t2,a,b,x,y,rfl,rfl,e1,e2,hab⟩
 ·refine fz ?_
  rw [show isN V.non=true from rfl]
  walk_at "rd"
  refine fz ?_
  rw [show isN V.non=true from rfl]
  walk_at "rd"
  refine fz ?_
  exact q
 ·refine fz ?_
  rw [show isN (V.ref t1)=false from rfl]
  walk_at "rd"
  refine fz ?_
  rw [show isN (V.ref t2)=false from rfl]
  walk_at "rd"
  refine cZ (SqT.of e2) (i:=0) rfl ?_
  walk_at "rd"
  refine cZ (SqT.of e1) (i:=0) rfl ?_
  walk_at "rd"
  rw [decide_eq_true hab]
  exact q
end L2
end
section
namespace L2
open PySem PyProof.Rows
theorem gz.sameT {G:GF} {av:Addr} {H H':Hp} {x:Addr} {c k:Nat} {ws:List (List Nat)} (t:gz G av H x c k ws) (s:bM H H'):gz G av H' x c k ws:=by
 obtain ⟨dx,pd,ps,pv,pe,vs,h1,⟨rs,d1,d2⟩,h3,h4,h5,h6,h7⟩:=t
 exact ⟨dx,pd,ps,pv,pe,vs,s _ _ (fun _ z=>nomatch z) h1,⟨rs,s.lst d1,Paired.mapP d2 fun _ _ e=>s.tup e⟩,s.lst h3,h4,fun i hi=>by obtain ⟨q,e1,e2,e3⟩:=h5 i hi; exact ⟨q,e1,s.lst e2,e3⟩,s.lst h6,h7⟩
theorem ii.sameT {H H':Hp} (s:bM H H') {p:Addr} {cs:List Cl} (h:ii H p cs):ii H' p cs:=let ⟨as,e,q⟩:=h; ⟨as,s.lst e,Paired.mapP q fun _ _ ⟨l,e,q⟩=>⟨l,s.tup e,s.lst q⟩⟩
noncomputable def ClN (H:Hp) (p:Addr) (cs:List Cl):Prop:=∃ as:List Addr,H p=some (.lst (as.map V.ref))/\Paired (fun a c=>∃ l,l≠p/\H a=some (.tup [.int (c.1:Int),.ref l])/\H l=some (.lst (c.2.map V.bl))) as cs
theorem ClN.at {H:Hp} {p:Addr} {cs:List Cl} (h:ClN H p cs):ii H p cs:=let ⟨as,e,q⟩:=h; ⟨as,e,Paired.mapP q fun _ _ ⟨l,_,e,q⟩=>⟨l,e,q⟩⟩
theorem ClN.same {H H':Hp} (s:al H H') {p:Addr} {cs:List Cl} (h:ClN H p cs):ClN H' p cs:=let ⟨as,e,q⟩:=h; ⟨as,s _ _ e,Paired.mapP q fun _ _ ⟨l,n,e,q⟩=>⟨l,n,s _ _ e,s _ _ q⟩⟩
theorem Dt {α β:Type} {F:α->β->Prop} {l:List α} {m:List β} {a:α} {b:β} (h:Paired F l m) (q:F a b):Paired F (l++[a]) (m++[b]):=by
 induction h with
 | nil=>exact .cons q .nil
 | cons x _ ih=>exact .cons x ih
theorem wG {H H':Hp} {r t q:Addr} {cs:List Cl} {c:Cl} {as:List Addr} (hp:Paired (ClP H) as cs) (s:al H H') (e:H' r=some (.lst (as.map V.ref++[.ref t]))) (et:H' t=some (.tup [.int (c.1:Int),.ref q])) (eq:H' q=some (.lst (c.2.map V.bl))):ii H' r (cs++[c]):=
 ⟨as++[t],by rw [e,List.map_append]; rfl,Dt (Paired.mapP hp fun _ _ x=>ClP.same s x) ⟨q,et,eq⟩⟩
theorem pY (xs:List V) (e:Nat->Bool):xb xs [] e:=fun j x y _ hy=>by simp at hy
theorem nW (xs:List V):ft xs [] (fun _=>true)=xs.isEmpty:=by cases xs <;> rfl
theorem B3 {K:PySem.W.Frag} {H:Hp} {Q:VK} {a b:Addr} {xs:List V} (h1:SqL K H a xs) (h2:SqL K H b []) (h:Q (.bl xs.isEmpty) H):jQ (SqL K) false (.ref a) (.ref b) H Q:=⟨a,b,xs,[],fun _=>true,rfl,rfl,h1,h2,pY _ _,by rw [nW]; exact h⟩
theorem B4 {K:PySem.W.Frag} {H:Hp} {Q:VK} {a b:Addr} {xs:List V} (h1:SqL K H a xs) (h2:SqL K H b []) (h:Q (.bl (!xs.isEmpty)) H):jQ (SqL K) true (.ref a) (.ref b) H Q:=⟨a,b,xs,[],fun _=>true,rfl,rfl,h1,h2,pY _ _,by rw [nW]; exact h⟩
noncomputable abbrev zg (K:PySem.W.Frag) (L:Hp->Prop):Sp:=kL K L
noncomputable def sY (K:PySem.W.Frag) (G:GF) (L:Hp->Prop):TS:=(aq (aU (az (dX K) [] E0 (ab (az (bA K) [] E0 (ab (ac 0) (ab (tC (.int 0)) ai))) ai)) (g0 K 2 (b7 (am 1) (b7 (am 2) gZ))))
 (aq (aU (tCB (fO K) (ab (ac 2) ai)) (am 3))
 (aq (aU (sH G.Table (ei K G) [] E0 (ab (ac 1) (ab (ac 2) ai))) (am 4))
 (aq (aU (tCB (fO K) (ab (jq G.Table "deals" (dW K G) [] E0 (ac 4) ai) ai)) (am 5))
 (aq (aU (cE ai) (am 6))
 (aq (gH (fP (ab (tOp (rI (fun _ j=>0 < j) fun i j=>.int (i % j)) (az (bA K) [] E0 (ab (ac 0) (ab (tC (.int 1)) ai))) (tC (.int 7))) ai)) (am 7) (aq (aU (az (bA K) [] E0 (ab (ac 0) (ab (tOp (rI0 fun i j=>.int (i + j)) (tC (.int 4)) (ac 7)) ai))) (am 8))
 (kZ (tBM K "list" kD (ac 6) (ab (dh (ab (tOp (rI (fun _ j=>0 < j) fun i j=>.int (i % j)) (az (cf K) [] E0 (ab (ac 8) (ab (tC (.int 300)) ai))) (ac 3)) (ab (jq G.Table "truths" (cg K G) [] E0 (ac 4) (ab (az (bC K 3) [] E0 (ab (ac 8) (ab (tC (.int 0)) (ab (ac 1) (ab (ac 3) (ab (tC (.int 2)) ai)))))) ai)) ai))) ai)))))
 (aq (aU (jq G.Table "truths" (cg K G) [] E0 (ac 4) (ab (az (bC K 3) [] E0 (ab (az (bA K) [] E0 (ab (ac 0) (ab (tC (.int 2)) ai))) (ab (tC (.int 0)) (ab (ac 1) (ab (ac 3) (ab (tC (.int 2)) ai)))))) ai)) (am 9))
 (aq (bw (wL (aY (tOp rEq (tOp (rI (fun _ j=>0 < j) fun i j=>.int (i % j)) (az (bA K) [] E0 (ab (ac 0) (ab (tC (.int 3)) ai))) (tC (.int 3))) (tC (.int 1)))) (aY (tOp (jQ (SqL K) true) (ac 6) (cE ai)))) (aU (tCB (mz K) (ab (tOp (dJ K) (tOp (fh K) (ac 6) (tC (.int 0))) (tC (.int 1))) ai)) (am 9)) aX)
 (aq (aU (bT (fP (ab (ac 5) ai)) (fun _ _ _ _=>(am 0)) (fun _ _ _ _=>b8) (fun _ _ _ _=>(az (ek K) [] E0 (ab (ac 1) (ab (ac 0) ai)))) [none,some 6]) (am 10))
 (aq (aU (az (dS K L) [] E0 (ab (ac 5) (ab (ac 6) (ab (ac 9) ai)))) (am 11))
 (aq (bw (fe (tB (az (eo K) [] E0 (ab (ac 11) (ab (ac 10) (ab (ac 9) (ab (ac 3) ai))))))) (aL (tC (.bl false))) aX)
 (aq (gH (fP (ab (tOp (rI0 fun i j=>.int (i + j)) (ac 3) (tC (.int 1))) ai)) (am 12) (bw (aY (tOp (jQ (SqL K) true) (az (gR K) [] E0 (ab (ac 5) (ab (ac 6) (ab (ac 12) ai)))) (az (bG K) [] E0 (ab (ac 10) (ab (ac 12) (ab (ac 3) ai)))))) (aL (tC (.bl false))) aX))
 (aq (aU (tOp (rI me fun i j=>.int (i / j)) (az (bA K) [] E0 (ab (ac 0) (ab (tC (.int 3)) ai))) (tC (.int 3))) (am 8))
 (aq (aU (tOp qp (ac 6) (cE (ab (dh (ab (tOp (rI (fun _ j=>0 < j) fun i j=>.int (i % j)) (ac 8) (ac 3)) (ab (jq G.Table "truths" (cg K G) [] E0 (ac 4) (ab (az (bC K 3) [] E0 (ab (tOp (rI me fun i j=>.int (i / j)) (ac 8) (tC (.int 5))) (ab (tC (.int 0)) (ab (ac 1) (ab (ac 3) (ab (tC (.int 2)) ai)))))) ai)) ai))) ai))) (am 13))
 (aq (bw (fe (tB (az (dI K) [] E0 (ab (ac 11) (ab (az (dS K L) [] E0 (ab (ac 5) (ab (ac 13) (ab (ac 9) ai)))) ai))))) (aL (tC (.bl false))) aX)
 (aq (aU (bT (fP (ab (ac 3) ai)) (fun _ _ _ _=>(am 0)) (fun _ _ _ _=>(aY (tOp (rIn K true) (ac 0) (bT (eB K (ac 1)) (fun _ _ _ _=>(am 0)) (fun _ _ _ _=>b8) (fun _ _ _ _=>(tOp (dJ K) (ac 0) (tC (.int 0)))) [none])))) (fun _ _ _ _=>(ac 0)) [none,some 6]) (am 14))
 (aq (bw (tOr (aY (tOp gQ (ac 11) (tC .non))) (aY (tOp (jQ (SqL K) false) (ac 14) (cE ai)))) (aL (tC (.bl true))) aX)
 (aL (tOp (jQ (SqT K) false) (az (dS K L) [] E0 (ab (ac 5) (ab (tOp qp (ac 6) (cE (ab (dh (ab (tOp (fh K) (ac 14) (tC (.int 0))) (ab (ac 9) ai))) ai))) (ab (ac 9) ai)))) (dh (ab (tOp (rI0 fun i j=>.int (i + j)) (tOp (dJ K) (ac 11) (tC (.int 0))) (tC (.int 1))) (ab (tOp (dJ K) (ac 11) (tC (.int 1))) ai))))))))))))))))))))))
noncomputable abbrev EA:List Str:=["_law_script","_law_cards","_law_sizes","_law_hands","_law_table","_law_many","_law_claims","_law_k","_law_cell_here","_law_truths","_law_lying_here","_law_found","_law_most","_law_more","_law_silent"]
theorem B5 {K:PySem.W.Frag} {L:Hp->Prop} {vs:List V} {H:Hp} {Q:VK} {E:XK} (h:zg K L vs H Q E):vs.length=1:=by
 obtain ⟨a,ns,rfl,_⟩:=h
 rfl
theorem Du {K:PySem.W.Frag} {G:GF} {L:Hp->Prop} (hL:∀ H H',L H->al H H'->L H') {vs:List V} {H:Hp} {Q:VK} {E:XK} (h:zg K L vs H Q E):sY K G L { nx:=fun _ H'=>Q .non H',rt:=Q } (aN EA vs) H:=by
 obtain ⟨sc,ns,rfl,hSc,l0,gg⟩:=h
 show sY K G L _ [some _,none,none,none,none,none,none,none,none,none,none,none,none,none,none] _
 unfold sY
 refine cY ?_
 walk_at "rs"
 refine ⟨sc,ns,0,rfl,hSc,by decide,by decide,fun z0=>?_⟩
 walk_at "rs"
 refine ⟨z0,rfl,fun t0 zl c ss H1 s1 e1 ez1 pw=>?_⟩
 refine gu (SqT.of e1) ?_
 have pk:=pw.pk
 have hh5:=pk.l5
 have hh1:=pk.l1
 have hc12:=pk.c12
 have hc1:=pw.c1
 have hfew:=pw.few
 walk_at "rs"
 refine cY ?_
 walk_at "rs"
 rw [cF]
 refine cY ?_
 refine A4 (Dg ?_)
 walk_at "rs"
 intro x dx hx hdx hne
 have st:al H1 (upd (upd H1 dx (.own x)) x (.ins G.Table dx [])):=((al.refl H1).upd hdx _).upd hx _
 refine ⟨x,dx,zl,c,ss,rfl,ap,st _ _ ez1,pk,by omega,fun H2 k2 T2=>?_⟩
 have hwl:∀ w∈KM.cP (ss++[c - ss.sum]) c,w.length=c:=fun w hw=>(KM.gx _ c w hw).len
 have hlen:(KM.cP (ss++[c - ss.sum]) c).length<=200:=by rw [KM.kj pk.sum]; exact hfew
 generalize KM.cP (ss++[c - ss.sum]) c=ws at *
 have s2:al H1 H2:=fun b' o e=>k2 _ _ (aH e hx) (st _ _ e)
 refine ⟨rfl,?_⟩
 have hSc2:=(hSc.same s1).same s2
 have l2:=hL _ _ l0 (s1.trans s2)
 obtain ⟨dxx,pdx,psx,pvx,pex,usx,hx2,_⟩:=id T2
 walk_at "rs"
 refine cY ?_
 walk_at "rs"
 refine pJ ?_
 walk_at "rs"
 refine ⟨x,dxx,_,rfl,hx2,rfl,?_⟩
 walk_at "rs"
 refine ⟨x,zl,c,ss.length,ws,rfl,T2,fun d3 H3 hd3 s3 D3=>?_⟩
 obtain ⟨rs3,ed3,pd3⟩:=id D3
 have hr3:=kK pd3
 walk_at "rs"
 rw [List.length_map,hr3]
 refine cY ?_
 walk_at "rs"
 refine ⟨by simp [sizeLine_eq],fun p H4 hp s4 e4=>?_⟩
 have s34:=s3.trans s4
 have T4:=T2.same s34
 have hSc4:=hSc2.same s34
 have l4:=hL _ _ l2 s34
 have hx4:=s34 _ _ hx2
 generalize hm:ws.length=m at *
 walk_at "rs"
 refine cY ?_
 walk_at "rs"
 refine ⟨sc,ns,1,rfl,hSc4,by decide,by decide,fun z1=>?_⟩
 walk_at "rs"
 obtain ⟨n1,hn1,hn6⟩:∃ n:Nat,z1 % 7=(n:Int)/\n<=6:=⟨(z1 % 7).toNat,by omega,by omega⟩
 rw [hn1]
 refine oq n1 (by omega) (by omega) (by omega) (fun i σ H5=>∃ (u7 u8:Option V) (cs:List Cl),σ=[some (.ref sc),some (.int (c:Int)),some (.ref zl),some (.int (ss.length:Int)),some (.ref x),some (.int (m:Int)),some (.ref p),u7,u8,none,none,none,none,none,none]/\al H3 H5/\ClN H5 p cs/\cs.length<=i/\∀ y∈cs,y.1 < ss.length/\y.2.length=m) ⟨_,_,[],rfl,s4,⟨[],e4,.nil⟩,Nat.zero_le _,fun y hy=>by cases hy⟩ ?_ ?_
 ·rintro i σ H5 hi ⟨u7,u8,cs,rfl,s5,⟨as,ep,pr⟩,hcl,hcs⟩
  have hal:=kK pr
  have s25:=s3.trans s5
  walk_at "rd"
  refine ⟨sc,ns,4 + (i:Int),rfl,hSc2.same s25,by omega,by omega,fun z2=>?_⟩
  walk_at "rd"
  refine ⟨xc ep,?_⟩
  walk_at "rd"
  refine ⟨z2,300,rfl,by decide,by decide,fun y y0 y1=>?_⟩
  walk_at "rd"
  obtain ⟨hd,hhd,hhl⟩:∃ w:Nat,y % (ss.length:Int)=(w:Int)/\w < ss.length:=by
   have a1:=Int.emod_nonneg y (b:=(ss.length:Int)) (by omega)
   have a2:=Int.emod_lt_of_pos y (b:=(ss.length:Int)) (by omega)
   exact ⟨(y % (ss.length:Int)).toNat,by omega,by omega⟩
  rw [hhd]
  refine pJ ?_
  walk_at "rd"
  refine ⟨x,dxx,_,rfl,s25 _ _ hx2,rfl,?_⟩
  walk_at "rd"
  refine ⟨z2,0,c,ss.length,2,rfl,hc1,hc12,hh5,by decide,by decide,by decide,fun x6 sy H6 s6 i6 p6 o6 w6=>?_⟩
  have s26:=s25.trans s6
  walk_at "rd"
  refine ⟨x,zl,x6,c,ss.length,ws,sy,rfl,T2.same s26,hwl,by omega,i6,p6,o6,by simp at w6; omega,fun q7 zs H7 hq7 s7 e7 l7=>?_⟩
  walk_at "rd"
  refine ⟨by simp [sizeLine_eq],fun t8 H8 ht8 s8 e8=>?_⟩
  have s58:=s6.trans (s7.trans s8)
  have ep8:=s58 _ _ ep
  have nq:q7≠p:=(aH ((s6) _ _ ep) hq7).symm
  walk_at "rd"
  refine tS ep8 (by rw [List.length_map,sizeLine_eq]; omega) fun H9 o9 e9=>?_
  have k9:=o9.keep ep8
  walk_at "rd"
  refine ⟨_,_,cs++[(hd,zs)],rfl,(s5.trans s58).off hp o9,⟨as++[t8],by rw [e9,List.map_append]; rfl,?_⟩,by rw [List.length_append]; show cs.length + 1<=i + 1; omega,fun y hy=>?_⟩
  ·exact Dt (Paired.mapP pr fun _ _ ⟨l,n,e,q⟩=>⟨l,n,k9 _ _ (s58 _ _ e),(o9 _ n).trans (s58 _ _ q)⟩) ⟨q7,nq,k9 _ _ e8,(o9 _ nq).trans (s8 _ _ e7)⟩
  ·rcases List.mem_append.mp hy with hy | hy
   ·exact hcs y hy
   ·rw [List.mem_singleton.mp hy]; exact ⟨hhl,l7.trans hm⟩
 rintro σ H5 ⟨u7,u8,cs,rfl,s5,cn,hcl,hcs⟩
 have ok:ox cs m:=⟨by omega,fun y hy=>by have:=(hcs y hy).1; omega,fun y hy=>(hcs y hy).2⟩
 have A5:=cn.at
 have s25:=s3.trans s5
 have l5:=hL _ _ l2 s25
 walk_at "rs"
 refine cY ?_
 walk_at "rs"
 refine pJ ?_
 walk_at "rs"
 refine ⟨x,dxx,_,rfl,s25 _ _ hx2,rfl,?_⟩
 walk_at "rs"
 refine ⟨sc,ns,2,rfl,hSc2.same s25,by decide,by decide,fun z3=>?_⟩
 walk_at "rs"
 refine ⟨z3,0,c,ss.length,2,rfl,hc1,hc12,hh5,by decide,by decide,by decide,fun x6 sy H6 s6 i6 p6 o6 w6=>?_⟩
 have s26:=s25.trans s6
 walk_at "rs"
 refine ⟨x,zl,x6,c,ss.length,ws,sy,rfl,T2.same s26,hwl,by omega,i6,p6,o6,by simp at w6; omega,fun q7 zs H7 hq7 s7 e7 l7=>?_⟩
 rw [hm] at l7
 have s57:=s6.trans s7
 have s27:=s25.trans s57
 walk_at "rs"
 refine jE fun NX hNX=>?_
 have last:∀ (b:Addr) (bs:List Bool) (H8:Hp),al H5 H8->H8 b=some (.lst (bs.map V.bl))->bs.length=m->NX [some (.ref sc),some (.int (c:Int)),some (.ref zl),some (.int (ss.length:Int)),some (.ref x),some (.int (m:Int)),some (.ref p),u7,u8,some (.ref b),none,none,none,none,none] H8:=by
  intro b bs H8 s8 eb hbl
  refine hNX _ _ ?_
  have A8:=A5.same s8
  have s28:=s25.trans s8
  have l8:=hL _ _ l2 s28
  refine cY ?_
  walk_at "rs"
  refine iM m (by omega) (by omega) (by omega) (fun i acc _=>∃ ls:List Nat,acc=aw ls/\ls.length=i/\∀ d,d < i->xK (ls.getD d 0) cs d) (fun _ _=>⟨[],rfl,rfl,fun d h=>by omega⟩) ?_ ?_
  ·rintro w hw C s' H' fp i acc H9 hi ⟨s9,e9,l9,ls,rfl,hll,hly⟩
   walk_at "rd"
   refine ⟨p,cs,m,i,rfl,A8.same s9,ok,hi,fun y hy=>?_⟩
   walk_at "rd"
   refine aZ.put hw (fun _ _ _ _ r _=>r) s9 e9 l9 ⟨ls++[y],by rw [<-eD],by rw [List.length_append,hll]; rfl,fun d hd=>?_⟩
   rw [List.getD_eq_getElem?_getD]
   rcases Nat.lt_succ_iff_lt_or_eq.mp hd with h | h
   ·rw [List.getElem?_append_left (by omega),<-List.getD_eq_getElem?_getD]; exact hly d h
   ·subst h
    rw [List.getElem?_append_right (by omega),hll,Nat.sub_self]
    exact hy
  rintro ll acc H9 hll9 s9 e9 ⟨ls,rfl,hll,hly⟩
  have lyg:Lyg cs ls ss.length m:=⟨hll,fun d hd=>(Bj hh5 (fun y hy=>(hcs y hy).1) (hly d hd)).1,fun d hd=>(Bj hh5 (fun y hy=>(hcs y hy).1) (hly d hd)).2⟩
  have hlbit:∀ y∈ls,∀ j,ss.length<=j->y.testBit j=false:=fun y hy=>by
   obtain ⟨d,hd,rfl⟩:=List.getElem_of_mem hy
   have:=lyg.bit d (by omega)
   rwa [List.getD_eq_getElem?_getD,List.getElem?_eq_getElem hd] at this
  have A9:=A8.same s9
  have eb9:=s9 _ _ eb
  have l9:=hL _ _ l8 s9
  have s29:=s28.trans s9
  walk_at "rs"
  refine jE fun NY hNY=>?_
  have key:∀ (v:V) (HA:Hp),bM H9 HA->L HA->Fnd cs bs m HA v->NY [some (.ref sc),some (.int (c:Int)),some (.ref zl),some (.int (ss.length:Int)),some (.ref x),some (.int (m:Int)),some (.ref p),u7,u8,some (.ref b),some (.ref ll),some v,none,none,none] HA:=by
   intro v HA sA lA F
   refine hNY _ _ ?_
   have hScA:fR K HA sc ns:=sA.script (hSc2.same s29)
   have TA:=(T2.same s29).sameT sA
   have AA:=A9.sameT sA
   have ebA:=sA.lst eb9
   have elA:=sA.lst e9
   obtain ⟨dA,pdA,psA,pvA,peA,uA,hxA,_⟩:=id TA
   refine cY ?_
   walk_at "rs"
   refine ⟨v,ll,b,ss.length,m,cs,ls,bs,rfl,elA,ebA,hbl,by omega,hh5,lyg,F,fun HB sB=>?_⟩
   walk_at "rs"
   refine cY ?_
   walk_at "rs"
   refine oq (ss.length + 1) (by omega) (by omega) (by omega) (fun i σ HC=>∃ (u12:Option V),σ=[some (.ref sc),some (.int (c:Int)),some (.ref zl),some (.int (ss.length:Int)),some (.ref x),some (.int (m:Int)),some (.ref p),u7,u8,some (.ref b),some (.ref ll),some v,u12,none,none]/\al HA HC) ⟨_,rfl,sB⟩ ?_ ?_
   ·rintro i σ HC hi ⟨u12,rfl,sC⟩
    walk_at "rd"
    refine ⟨p,cs,m,(i:Int),rfl,AA.same sC,ok,by omega,fun f1 HD hf1 sD e1=>?_⟩
    walk_at "rd"
    refine ⟨ll,(i:Int),ss.length,ls,rfl,(sC.trans sD) _ _ elA,by omega,hh5,hlbit,fun f2 HE hf2 sE e2=>?_⟩
    have e1E:=sE _ _ e1
    rw [gO] at e1E e2
    refine Eh (SqL.of e1E) (SqL.of e2) ?_
    have same:((List.range m).filter fun d=>decide ((lyN cs d:Int)<=(i:Int)))=(List.range ls.length).filter fun d=>decide ((pc ss.length (ls.getD d 0):Int)<=(i:Int)):=by
     rw [hll]
     exact List.filter_congr fun d hd=>by rw [lyg.pc d (List.mem_range.mp hd)]
    rw [same,decide_eq_true rfl]
    walk_at "rd"
    exact ⟨_,rfl,sC.trans (sD.trans sE)⟩
   rintro σ HC ⟨u12,rfl,sC⟩
   have hScC:=hScA.same sC
   walk_at "rs"
   refine cY ?_
   walk_at "rs"
   refine ⟨sc,ns,3,rfl,hScC,by decide,by decide,fun z4=>?_⟩
   walk_at "rs"
   generalize z4 / 3=z5
   refine cY ?_
   walk_at "rs"
   obtain ⟨hd,hhd,hhl⟩:∃ w:Nat,z5 % (ss.length:Int)=(w:Int)/\w < ss.length:=by
    have a1:=Int.emod_nonneg z5 (b:=(ss.length:Int)) (by omega)
    have a2:=Int.emod_lt_of_pos z5 (b:=(ss.length:Int)) (by omega)
    exact ⟨(z5 % (ss.length:Int)).toNat,by omega,by omega⟩
   rw [hhd]
   refine pJ ?_
   walk_at "rs"
   refine ⟨x,dA,_,rfl,sC _ _ hxA,rfl,?_⟩
   walk_at "rs"
   refine ⟨z5 / 5,0,c,ss.length,2,rfl,hc1,hc12,hh5,by decide,by decide,by decide,fun xD syD HD sD iD pD oD wD=>?_⟩
   walk_at "rs"
   refine ⟨x,zl,xD,c,ss.length,ws,syD,rfl,TA.same (sC.trans sD),hwl,by omega,iD,pD,oD,by simp at wD; omega,fun qE zE HE hqE sE eE lE=>?_⟩
   rw [hm] at lE
   walk_at "rs"
   refine ⟨by simp [sizeLine_eq],fun tF HF htF sF eF=>?_⟩
   walk_at "rs"
   refine ⟨by simp [sizeLine_eq],fun lG HG hlG sG eG=>?_⟩
   have sAG:=(sC.trans (sD.trans sE)).trans (sF.trans sG)
   obtain ⟨as,epA,prA⟩:=id AA
   have hal:=kK prA
   refine sV (sAG _ _ epA) eG (by rw [List.length_map,sizeLine_eq]; show as.length + 1<=_; omega) fun mr HI hmr sI eI=>?_
   have sAI:=sAG.trans sI
   have AI:ii HI mr (cs++[(hd,zE)]):=wG prA sAI eI ((sG.trans sI) _ _ eF) (((sF.trans sG).trans sI) _ _ eE)
   have okI:ox (cs++[(hd,zE)]) m:=⟨by rw [List.length_append]; show cs.length + 1<=60; omega,fun y hy=>by
    rcases List.mem_append.mp hy with hy | hy
    ·exact ok.hand y hy
    ·rw [List.mem_singleton.mp hy]; show hd < 5; omega,fun y hy=>by
    rcases List.mem_append.mp hy with hy | hy
    ·exact ok.row y hy
    ·rw [List.mem_singleton.mp hy]; exact lE⟩
   have lI:=hL _ _ lA sAI
   have ebI:=sAI _ _ ebA
   have FI:=F.sameT sAI.toT
   walk_at "rs"
   refine jE fun NZ hNZ=>?_
   have cM:∀ HJ,bM HI HJ->L HJ->NZ [some (.ref sc),some (.int (c:Int)),some (.ref zl),some (.int (ss.length:Int)),some (.ref x),some (.int (m:Int)),some (.ref p),u7,some (.int z5),some (.ref b),some (.ref ll),some v,u12,some (.ref mr),none] HJ:=by
    intro HJ sJ lJ
    refine hNZ _ _ ?_
    have sAJ:bM HA HJ:=sAI.toT.trans sJ
    have AJ:=AA.sameT sAJ
    have ebJ:=sAJ.lst ebA
    have FJ:=F.sameT sAJ
    obtain ⟨as,epJ,prJ⟩:=id AJ
    have hal:=kK prJ
    refine cY ?_
    walk_at "rs"
    refine iM ss.length (by omega) (by omega) (by omega) (fun i acc _=>∃ sl:List Nat,acc=aw sl/\∀ y∈sl,y < i/\∀ w∈cs,w.1≠y) (fun _ _=>⟨[],rfl,fun y h=>by cases h⟩) ?_ ?_
    ·rintro w hw C s' H' fp i acc H9 hi ⟨s9,e9,l9,sl,rfl,hsl⟩
     walk_at "rd"
     refine gN (as.map V.ref) (SqL.of (s9 _ _ epJ)) (by rw [List.length_map]; omega) (fun k acc _=>acc=((cs.take k).map fun y=>(y.1:Int)).map V.int) (fun _ _=>rfl) ?_ ?_
     ·rintro w3 hw3 C3 s3' H3' fp3 k y acc H10 hx ⟨s10,e10,l10,rfl⟩
      obtain ⟨a,ha,rfl⟩:=nv hx
      obtain ⟨y,hy,l,ea,el⟩:=uz prJ ha
      walk_at "rd"
      refine cZ (SqT.of ((s9.trans s10) _ _ ea)) (i:=0) rfl ?_
      refine aZ.put hw3 (fun _ _ _ _ r _=>r) s10 e10 l10 ?_
      rw [List.take_add_one,hy,List.map_append,List.map_append]
      rfl
     rintro w3 acc H10 hw3 s10 e10 rfl
     rw [List.length_map,hal,List.take_length] at e10
     walk_at "rd"
     have e910:=s10 _ _ e9
     refine ut (c:=decide ((i:Int)∈cs.map fun y=>(y.1:Int))) (SqL.of e10) rfl (uD _) (wB _ _) ?_
     walk_at "rd"
     by_cases z:(i:Int)∈cs.map fun y=>(y.1:Int)
     ·rw [decide_eq_true z]
      refine mm ?_
      exact aZ.skip (s9.trans s10) e910 l9 ⟨sl,rfl,fun y hy=>⟨by have:=(hsl y hy).1; omega,(hsl y hy).2⟩⟩
     ·rw [decide_eq_false z]
      refine mn ?_
      walk_at "rd"
      refine aZ.put hw (fun _ _ _ _ r _=>r) (s9.trans s10) e910 l9 ⟨sl++[i],by rw [<-eD],fun y hy=>?_⟩
      rcases List.mem_append.mp hy with hy | hy
      ·exact ⟨by have:=(hsl y hy).1; omega,(hsl y hy).2⟩
      ·rw [List.mem_singleton.mp hy]
       exact ⟨by omega,fun w hw e=>z (List.mem_map.mpr ⟨w,hw,by rw [e]⟩)⟩
    rintro sp acc HK hsp sK eK ⟨sl,rfl,hsl⟩
    have lK:=hL _ _ lJ sK
    walk_at "rd"
    rcases FJ with ⟨rfl,_⟩ | ⟨d,t,rfl,et,hdw,hmin⟩
    ·refine fz ?_
     rw [show isN V.non=true from rfl]
     walk_at "rd"
     exact gg _
    refine fz ?_
    rw [show isN (V.ref t)=false from rfl]
    walk_at "rd"
    refine ⟨by simp [sizeLine_eq],fun l0 HM hl0 sM eM=>?_⟩
    have eKM:=sM _ _ eK
    refine B3 (SqL.of eKM) (SqL.of eM) ?_
    cases sl with
    | nil=>
     walk_at "rd"
     exact gg _
    | cons s0 sl=>
     obtain ⟨hs0,hno⟩:=hsl s0 List.mem_cons_self
     have sJM:=sK.trans sM
     have epM:=sJM _ _ epJ
     have ebM:=sJM _ _ ebJ
     have etM:=sJM _ _ et
     have lM:=hL _ _ lJ sJM
     rw [show (aw (s0 :: sl)).isEmpty=false from rfl]
     walk_at "rd"
     refine fu (SqL.of eKM) (show atI (aw (s0 :: sl)) 0=some (.int (s0:Int)) from fH (j:=0) rfl) ?_
     walk_at "rd"
     refine ⟨by simp [sizeLine_eq],fun tN HN htN sN eN=>?_⟩
     walk_at "rd"
     refine ⟨by simp [sizeLine_eq],fun lO HO hlO sO eO=>?_⟩
     have sMO:=sN.trans sO
     refine sV (sMO _ _ epM) eO (by rw [List.length_map,sizeLine_eq]; show as.length + 1<=_; omega) fun mq HP hmq sP eP=>?_
     have sMP:=sMO.trans sP
     have AP:ii HP mq (cs++[(s0,bs)]):=wG prJ (sJM.trans sMP) eP ((sO.trans sP) _ _ eN) (sMP _ _ ebM)
     have okP:ox (cs++[(s0,bs)]) m:=⟨by rw [List.length_append]; show cs.length + 1<=60; omega,fun y hy=>by
      rcases List.mem_append.mp hy with hy | hy
      ·exact ok.hand y hy
      ·rw [List.mem_singleton.mp hy]; show s0 < 5; omega,fun y hy=>by
      rcases List.mem_append.mp hy with hy | hy
      ·exact ok.row y hy
      ·rw [List.mem_singleton.mp hy]; exact hbl⟩
     have one:∀ e∈cm bs m,lyN (cs++[(s0,bs)]) e=lyN cs e + 1:=fun e he=>B2 (by omega) (by
      unfold lyB
      rw [List.any_eq_false]
      intro w hw z
      rw [Bool.and_eq_true,beq_iff_eq] at z
      exact hno w hw z.1) (jB.mp he).2
     walk_at "rd"
     refine ⟨mq,b,cs++[(s0,bs)],m,bs,rfl,AP,okP,by omega,sMP _ _ ebM,hbl,hL _ _ lM sMP,fun e=>?_,fun w tQ HQ imQ sQ lQ eQ=>?_⟩
     ·rw [oF e] at hdw; cases hdw
     obtain ⟨d',rfl,hd',hmin'⟩:=qJ imQ
     have hdd:d'=d:=by
      have h1:=hmin' d hdw
      have h2:=hmin d' hd'
      rw [one d hdw,one d' hd'] at h1
      rcases Nat.lt_trichotomy d d' with y | y | y
      ·have:=h1.2 y; omega
      ·exact y.symm
      ·have:=h2.2 y; omega
     subst hdd
     have etQ:=sQ.tup (sMP _ _ etM)
     walk_at "rd"
     refine cZ (SqT.of etQ) (i:=0) rfl ?_
     walk_at "rd"
     refine cZ (SqT.of etQ) (i:=1) rfl ?_
     walk_at "rd"
     refine ⟨by simp [sizeLine_eq],fun tR HR htR sR eR=>?_⟩
     refine Ei (ns:=lr (cs++[(s0,bs)]) d') (ms:=[((lyN cs d':Nat):Int) - 1 + 1,(d':Int)]) (SqT.of (sR _ _ eQ)) (SqT.of eR) ?_
     rw [decide_eq_true (by unfold lr; rw [one d' hd']; congr 1; omega)]
     exact gg _
   walk_at "rs"
   refine ⟨mr,b,cs++[(hd,zE)],m,bs,rfl,AI,okI,by omega,ebI,hbl,lI,fun e HJ sJ=>?_,fun w tJ HJ imJ sJ lJ eJ=>?_⟩
   ·walk_at "rs"
    refine ⟨v,.non,rfl,?_,?_⟩
    ·rcases F with ⟨rfl,_⟩ | ⟨d,t,rfl,et,hdw,hmin⟩
     ·exact .inl ⟨rfl,rfl⟩
     ·rw [oF e] at hdw; cases hdw
    walk_at "rs"
    exact cM HJ sJ.toT (hL _ _ lI sJ)
   ·obtain ⟨d',rfl,hd',hmin'⟩:=qJ imJ
    walk_at "rs"
    refine ⟨v,.ref tJ,rfl,?_,?_⟩
    ·rcases FI with ⟨rfl,hw⟩ | ⟨d,t,rfl,et,hdw,hmin⟩
     ·rw [hw] at hd'; cases hd'
     ·refine .inr ⟨t,tJ,_,_,_,_,rfl,rfl,sJ.tup et,eJ,?_⟩
      have h1:=(hmin d' hd').1
      have h2:=B1 (cs:=cs) (c:=(hd,zE)) (d:=d')
      omega
    walk_at "rs"
    exact cM HJ sJ lJ
  walk_at "rs"
  refine ⟨p,b,cs,m,bs,rfl,A9,ok,by omega,eb9,hbl,l9,fun e HA sA=>?_,fun w tA HA imA sA lA eA=>?_⟩
  ·walk_at "rs"
   exact key .non HA sA.toT (hL _ _ l9 sA) (.inl ⟨rfl,oF e⟩)
  ·obtain ⟨d',rfl,hd',hmin'⟩:=qJ imA
   walk_at "rs"
   exact key (.ref tA) HA sA lA (.inr ⟨d',tA,rfl,eA,hd',hmin'⟩)
 walk_at "rs"
 refine ⟨sc,ns,3,rfl,hSc2.same s27,by decide,by decide,fun z6=>?_⟩
 walk_at "rs"
 refine bN (fun h=>?_) (fun h=>?_)
 ·walk_at "rs"
  refine ⟨by simp [sizeLine_eq],fun l0 H8 hl0 s8 e8=>?_⟩
  obtain ⟨as,ep,pr⟩:=id A5
  have s58:=s57.trans s8
  refine B4 (SqL.of (s58 _ _ ep)) (SqL.of e8) ?_
  cases pr with
  | nil=>
   rw [show (List.map V.ref ([]:List Addr)).isEmpty=true from rfl]
   walk_at "rs"
   exact last q7 zs H8 s58 (s8 _ _ e7) l7
  | @cons a y as' cs' pa pt=>
   obtain ⟨l,ea,el⟩:=pa
   rw [show (List.map V.ref (a :: as')).isEmpty=false from rfl]
   walk_at "rs"
   refine fu (SqL.of (s58 _ _ ep)) (show atI (List.map V.ref (a :: as')) 0=some (.ref a) from fH (j:=0) rfl) ?_
   walk_at "rs"
   refine cZ (SqT.of (s58 _ _ ea)) (i:=1) rfl ?_
   walk_at "rs"
   refine tT (SqL.of (s58 _ _ el)) fun l9 H9 hl9 s9 e9=>?_
   walk_at "rs"
   exact last l9 y.2 H9 (s58.trans s9) e9 (hcs y List.mem_cons_self).2
 ·walk_at "rs"
  exact last q7 zs H7 s57 e7 l7
end L2
end
section
namespace L2
open PySem PySem.Spec PyProof.Rows PySem.W
noncomputable def jW (P:Addr) (pos:Pos) (qual:Str) (H:Hp):Prop:=
 H P=some (.tbl #[])\/∃ c':Addr,H P=some (.tbl #[rawInt pos.line,rawInt pos.col,.ref c'])/\H c'=some (.ext fun h=>h.CodeRec (.ref c') qual)
theorem jW.same {P:Addr} {pos:Pos} {qual:Str} {H H':Hp} (l:jW P pos qual H) (s:al H H'):jW P pos qual H':=by
 rcases l with l | ⟨c',l1,l2⟩
 ·exact .inl (s _ _ l)
 ·exact .inr ⟨c',s _ _ l1,s _ _ l2⟩
noncomputable def BM (base:Heap) (mg:Str->Option Value):Prop:=∃ bm ob,mg "__builtins__"=some (.ref bm)/\bm≠builtinsNs/\base.get? bm=some ob/\ob.cls=.type "module"/\ob.dict=some builtinsNs/\ob.data=.plain
section
variable {X:Cx}
theorem BM.at {pins:List (Addr×Obj)} {σ:St} {H:Hp} {s:Shared} {P:Addr} {ps:Array Value} (b:BM X.base X.mg) (I:Inv X pins σ H s) (hP:s.heap.get? P=some (tabObj ps)):s.heap.BuiltinsAt X.mg P:=by
 obtain ⟨bm,ob,b1,b2,b3,b4,b5,b6⟩:=b
 have e:=I.bk _ _ b3
 refine ⟨bm,ob,b1,b2,fun z=>?_,fun z=>?_,e,b4,b5,b6⟩
 ·obtain ⟨o,es,ep,e',hd,_⟩:=I.mod.glob
  rw [z,e'] at b3
  cases b3
  rw [hd] at b6
  cases b6
 ·rw [z,hP] at e
  cases e
  cases b4
theorem Dv {pins:List (Addr×Obj)} {σ:St} {H:Hp} {s:Shared} {P c':Addr} {qual:Str} {ps:Array Value} {h':Heap} {tk:Nat} (I:Inv X pins σ H s) (hP:H P=some (.tbl #[])) (hx:Heap.ExtBut P s.heap h') (hge:s.heap.objs.size<=c') (hlt:c' < h'.objs.size) (hrec:h'.CodeRec (.ref c') qual) (htb:h'.get? P=some (tabObj ps)):
  Inv X pins σ (upd (upd H P (.tbl ps)) c' (.ext fun h=>h.CodeRec (.ref c') qual)) { s with heap:=h',toks:=tk }:=by
 have hn:H c'=none:=I.hok.fresh hge
 have nP:∀ b,H b=none->b≠P:=fun b e z=>by rw [z,hP] at e; cases e
 have nc:∀ b ob,s.heap.get? b=some ob->b≠c':=fun b ob e=>Nat.ne_of_lt (Nat.lt_of_lt_of_le (Heap.lt_size e) hge)
 have kp:∀ b ob,b≠P->s.heap.get? b=some ob->h'.get? b=some ob:=fun b ob n e=>hx b ob n e
 have tr:∀ b u,b≠P->H b=some u->(upd (upd H P (.tbl ps)) c' (.ext fun h=>h.CodeRec (.ref c') qual)) b=some u:=fun b u n e=>by rw [aB (aH e hn),aB n]; exact e
 refine I.un ⟨fun b ob e n _ _=>kp b ob (nP b n) e,fun b ob e n _ _=>⟨ob.slots,kp b ob (nP b n) e⟩,fun b ob e n _=>by rw [aB (nc b ob e),aB (nP b n)]; exact n,fun b ob e _=>?_,fun b xs e=>tr b _ (fun z=>by rw [z,hP] at e; cases e) e,fun b ob u e=>tr b _ (fun z=>by rw [z,hP] at e; cases e) e,fun b qs e=>?_⟩ ?_
 ·by_cases z:b=P
  ·exact ⟨_,by rw [z]; exact htb⟩
  ·exact ⟨ob,kp b ob z e⟩
 ·by_cases z:b=P
  ·subst z
   rw [hP] at e
   cases e
   refine ⟨ps,?_⟩
   rw [aB (aH hP hn),ap]
   simp
  ·exact ⟨#[],by rw [tr b _ z e]; simp⟩
 ·intro b u e
  by_cases zc:b=c'
  ·subst zc
   rw [ap] at e
   cases e
   obtain ⟨c2,oc,vs,t,e2,hoc,hd,hv⟩:=id hrec
   cases e2
   refine ⟨⟨_,oc,vs,t,rfl,hoc,hd,hv⟩,⟨oc,hoc⟩,fun h1 h2 x k=>?_⟩
   obtain ⟨c3,o3,vs3,t3,e3,h3,r3⟩:=x
   cases e3
   exact ⟨_,o3,vs3,t3,rfl,k _ h3,r3⟩
  ·rw [aB zc] at e
   by_cases zp:b=P
   ·subst zp
    rw [ap] at e
    cases e
    exact htb
   ·rw [aB zp] at e
    refine (I.hok b u e).stay (fun c v hc q=>kp c v (fun z=>?_) q) (fun c q=>tr c _ (fun z=>by rw [z,hP] at q; cases q) q) fun c xs q=>tr c _ (fun z=>by rw [z,hP] at q; cases q) q
    rcases hc with hc | hc
    ·exact zp (hc ▸ z)
    ·rw [z,hP] at hc
     cases hc
theorem uT {pins:List (Addr×Obj)} {σ:St} {H:Hp} {s:Shared} {h':Heap} {m:Str->Option Value} {tk:Nat} (I:Inv X pins σ H s) (F0:Fr X.base X.env.locals s.heap m) (F:Fr X.base X.env.locals h' m) (N:News X.base X.env.locals h' (iG X.base s.heap X.env.locals)):Inv X pins σ H { s with heap:=h',toks:=tk }:=by
 have kp:∀ b o,b≠X.env.locals->s.heap.get? b=some o->h'.get? b=some o:=fun b o n e=>by
  cases q:X.base.get? b with
  | none=>exact (N _ (iV n q e)).1
  | some o'=>
   have:=I.bk _ _ q
   rw [e] at this
   cases this
   exact F.keep _ _ q
 have nL:∀ b u,H b=some u->b≠X.env.locals:=fun b u e z=>by rw [z,I.free] at e; cases e
 refine I.step (g':=s.gens) (d':=s.drawn) (ch:=[]) (fun _ z=>nomatch z) (fun b o n _ _ e _=>kp b o n e) (fun b o n _ _ e _=>⟨o.slots,kp b o n e⟩) (fun _ _ _ _ n=>n) (fun b o _ e=>?_) (fun _ _ e=>e) (fun _ _ _ e=>e) (fun b ps e=>⟨#[],by rw [e]; simp⟩) (fun m' hm=>?_) (fun b u e=>?_) I.bare
 ·by_cases z:b=X.env.locals
  ·obtain ⟨oL,_,_,hL,_⟩:=F.ns
   exact ⟨oL,by rw [z]; exact hL⟩
  ·exact ⟨o,kp b o z e⟩
 ·obtain ⟨o1,es1,ep1,g1,d1,r1⟩:=F0.ns
  obtain ⟨o2,es2,ep2,g2,d2,r2⟩:=hm
  rw [g1] at g2
  cases g2
  rw [d1] at d2
  cases d2
  obtain ⟨o3,es3,ep3,g3,d3,r3⟩:=F.ns
  have em:m'=m:=by
   funext x
   exact (r2.2 x).symm.trans (r1.2 x)
  rw [em]
  exact F.ns
 ·refine (I.hok b u e).stay (fun c v hc q=>kp c v ?_ q) (fun _ q=>q) fun _ _ q=>q
  rcases hc with rfl | hc
  ·exact nL c u e
  ·exact nL c _ hc
theorem zh {P:Program} {w:World} {K:Frag} {H:Hp} {h:Heap} {a:Addr} {xs:List V} (ok:HOk P w H h) (kin:K.In h) (hq:SqL K H a xs):∃ its:List Value,aD xs its/\h.IsList a its.toArray/\xs.length<=sizeLine:=by
 rcases hq with hq | ⟨o,its,n,hk,hc,hd,hs,hz,r⟩
 ·obtain ⟨z,its,n,r,e⟩:=hq.ok ok
  exact ⟨its,r,⟨_,e,rfl,n,rfl⟩,z⟩
 ·exact ⟨its.toList,r,⟨o,kin _ _ hk,hc,n,by rw [hs,Array.toArray_toList]⟩,Nat.le_trans (Nat.le_of_eq (r.length.trans (Array.length_toList ..))) hz⟩
noncomputable def xL (prog:Program) (w:World) (K:Frag) (scope:Scope) (x y:Str) (body:Expr) (bd:TK):Prop:=
 ∀ (A:Around) (s:Shared) (env:Env) (m:Str->Option Value) (c:Addr) (uy:Value) (vy:V) (H:Hp) (n k:Int) (t:Tok),env.scope=scope->s.heap.Ns env.locals m->m x=some (.int n t)->env.cells.lookup y=some c->s.heap.IsCell c (some uy)->aE vy uy->
  HOk prog w H s.heap->K.In s.heap->bd vy H n k->wpAny (model prog w) A (eval body env) (fun v s'=>∃ t' tk,v=.int k t'/\s'={ s with toks:=tk }) (fun _ _=>False) s
theorem B6 {prog:Program} {w:World} {K:Frag} {scope:Scope} {x y:Str} {p1 p2 p3:Pos} (hk:scope.kind=.function) (hx:scope.names.lookup x=some .local) (hy:scope.names.lookup y=some .free) (dx:(x == ("__debug__":Str))=false:=by decide) (dy:(y == ("__debug__":Str))=false:=by decide) (cy:(y == ("__classdict__":Str))=false:=by decide):
  xL prog w K scope x y (.Subscript (.Name y p1) (.Name x p2) p3) (kIx K):=by
 intro A s env m c uy vy H n k t hsc hns hm hc hcl rv ok kin h
 obtain ⟨z,ys,rfl,hq,hn,ha⟩:=h
 cases rv
 obtain ⟨its,r,il,hz⟩:=zh ok kin hq
 have h63:=oP
 have hkf:env.scope.kind=.function:=by rw [hsc]; exact hk
 have k1:env.kindOf y=some .free:=by show env.scope.names.lookup y=_; rw [hsc]; exact hy
 have k2:env.kindOf x=some .local:=by show env.scope.names.lookup x=_; rw [hsc]; exact hx
 refine Subscript_ (wpAny_Name (wpAny_loadName_free hkf k1 hc hcl (wpAny_Name (wpAny_loadName_local hkf k2 hns hm ?_) dx) cy) dy)
 obtain ⟨j,h1,h2,h3,h4,h5⟩:=qi ha
 obtain ⟨u,eu,ru⟩:=r.get h2
 obtain ⟨t',rfl⟩:=ru
 have hl:=r.length
 have hj:n.toNat=j:=by
  rw [seqIndex_of hn h5] at h1
  exact Option.some.inj h1
 exact item_listR il hn (by omega) (by rw [hj]; simpa using eu) ⟨t',s.toks,rfl,rfl⟩ rfl
section
variable {params:Arguments} {body:Expr} {scope:Scope} {x y:Str} {bd:TK} {lpos:Pos} {P c:Addr}
structure xM (X:Cx) (params:Arguments) (body:Expr) (scope:Scope) (x y:Str) (j:Nat):Prop where
 bind:∀ (nm q:Str) (cl:List (Str×Addr)) (pm cd ct u:Value),bindArgs (kla_fn nm q params body scope cl pm cd ct) ⟨[u],[]⟩=pure [(x,u)]
 dflt:defaultsOf params X.env=([],[])
 hx:scope.names.lookup x=some .local
 hy:scope.names.lookup y=some .free
 nocell:∀ z∈scope.names,z.2≠.cell
 kind:scope.kind=.function
 co:scope.isCoroutine=false
 gen:scope.isGenerator=false
 free:∀ z∈scope.names,z.2=.free->X.env.scope.names.lookup z.1=some .cell\/X.env.scope.names.lookup z.1=some .free
 slot:X.N[j]?=some y
theorem AH {pins:List (Addr×Obj)} {σ:St} {H:Hp} {s:Shared} {q c':Addr} {qual:Str} {pm ctv:Value} {m:Str->Option Value} {j:Nat} {vy:V} (Lk:xM X params body scope x y j) (B:xL X.prog X.w X.K scope x y body bd) (hd:X.A.depth < recursionLimit) (I:Inv X pins σ H s) (F0:Fr X.base X.env.locals s.heap m)
  (ho:s.heap.get? q=some (kla_obj "<lambda>" qual params body scope (cD X.env scope.names []) pm c' ctv)) (hq0:X.base.get? q=none) (hqL:q≠X.env.locals) (hcd:s.heap.CodeRec (.ref c') qual) (hc0:X.base.get? c'=none) (hcL:c'≠X.env.locals)
  (hvy:σ[j]?=some (some vy)) {n k:Int} {t:Tok} (hb:bd vy H n k) (h:Heap) (tk:Nat) (own:List (Addr×Obj)) (F:Fr X.base X.env.locals h m) (N:News X.base X.env.locals h (iG X.base s.heap X.env.locals++own)):
  wpAny (model X.prog X.w) X.A.in1 (call (.ref q) [.int n t]) (KskEnd X.base X.env.locals m (iG X.base s.heap X.env.locals++own) k { s with heap:=h,toks:=tk }) (fun _ _=>False) { s with heap:=h,toks:=tk }:=by
 have Ih:Inv X pins σ H { s with heap:=h,toks:=tk }:=uT I F0 F fun p hp=>N p (List.mem_append_left _ hp)
 have hoh:h.get? q=some _:=(N _ (List.mem_append_left _ (iV hqL hq0 ho))).1
 have hch:h.CodeRec (.ref c') qual:=by
  obtain ⟨c2,oc,vs,tq,e2,hoc,hd',hv⟩:=hcd
  cases e2
  exact ⟨_,oc,vs,tq,rfl,(N _ (List.mem_append_left _ (iV hcL hc0 hoc))).1,hd',hv⟩
 obtain ⟨cy,hcy⟩:∃ cy,X.env.cells.lookup y=some cy:=I.ok.has y (Lk.free _ (PySem.mem_of_lookup Lk.hy) rfl)
 obtain ⟨mh,hnh,hlh⟩:=Ih.loc
 obtain ⟨uy,ruy,look⟩:=hlh j y vy Lk.slot hvy (by
  rcases Lk.free _ (PySem.mem_of_lookup Lk.hy) rfl with z | z
  ·exact .inr (.inl z)
  ·exact .inr (.inr z))
 have hcell:h.IsCell cy (some uy):=by
  rcases look with ⟨z,_⟩ | ⟨_,c2,e2,z⟩
  ·have z':X.env.scope.names.lookup y=some .local:=z
   rcases Lk.free _ (PySem.mem_of_lookup Lk.hy) rfl with z2 | z2
   ·rw [z'] at z2
    cases z2
   ·rw [z'] at z2
    cases z2
  ·rw [hcy] at e2
   cases e2
   exact z
 refine wpAny_call (kla_callFunE (s:={ s with heap:=h,toks:=tk }) hd hoh rfl Lk.co Lk.gen rfl hch ?_)
 rw [Lk.bind]
 refine wpAny_pure (wpAny_newFunctionEnv Lk.nocell (fun z hz=>by rw [List.mem_singleton.mp hz]; exact Lk.hx) (fun h₁ hns hsb=>?_) Lk.kind)
 have hk₁:∀ b o,h.get? b=some o->h₁.get? b=some o:=fun b o e=>hsb.extBut b o (Nat.ne_of_lt (Heap.lt_size e)) (Heap.get?_push_of_some _ e)
 refine ⟨Ih.nolimit.keeps hk₁,kla_codeExpr (wpAny_mono (B _ { s with heap:=h₁,toks:=tk + 1 } _ _ cy uy vy H n k t rfl hns (by simp) ?_ ?_ ruy (Ih.hok.kept hk₁) (Ih.kIn.keeps hk₁) hb) (fun v s' hv=>?_) fun _ _ z=>z.elim)⟩
 ·exact jc (PySem.mem_of_lookup Lk.hy) hcy
 ·obtain ⟨o,e1,e2⟩:=hcell
  exact ⟨o,hk₁ _ _ e1,e2⟩
 ·obtain ⟨t',tk',rfl,rfl⟩:=hv
  exact ⟨h₁,tk',t',rfl,rfl,F.kept hk₁,N.grown hk₁⟩
noncomputable def Dw (X:Cx) (params:Arguments) (body:Expr) (scope:Scope) (qual:Str) (q:Addr) (H:Hp):Prop:=
 ∃ c':Addr,H q=some (.ext fun h=>∃ pm ctv,h.get? q=some (kla_obj "<lambda>" qual params body scope (cD X.env scope.names []) pm c' ctv))/\H c'=some (.ext fun h=>h.CodeRec (.ref c') qual)
noncomputable def EX (X:Cx) (params:Arguments) (body:Expr) (scope:Scope) (P:Addr) (lpos:Pos) (qual:Str):TE:=fun _ H Q=>jW P lpos qual H/\∀ (q:Addr) (H':Hp),bM H H'->jW P lpos qual H'->Dw X params body scope qual q H'->Q (.ref q) H'
theorem Dy {j:Nat} (Lk:xM X params body scope x y j) (hcode:X.env.code=.ref c) (hC:codeHdIn X.K c P=true) (bm:BM X.base X.mg):PE X (.Lambda params body scope lpos) (EX X params body scope P lpos (X.env.qual++"<lambda>")):=by
 intro pins s σ H Q I ⟨hL,h⟩
 refine kla_eval Lk.dflt ?_
 have hcl:closureFor scope X.env=pure (cD X.env scope.names []):=js fun z hz hk=>I.ok.has z.1 (Lk.free z hz hk)
 have hgs:=I.mod.glob.keeps I.bk
 have CH:CodeHd s.heap c P:=codeHd_of_K I.kIn hC
 have new:∀ (H2:Hp) (s2:Shared) (pm ctv:Value) (c':Addr),Inv X pins σ H2 s2->bM H H2->jW P lpos (X.env.qual++"<lambda>") H2->H2 c'=some (.ext fun h=>h.CodeRec (.ref c') (X.env.qual++"<lambda>"))->
   EP X pins σ Q (.ref s2.heap.objs.size) { s2 with heap:=s2.heap.push (kla_obj "<lambda>" (X.env.qual++"<lambda>") params body scope (cD X.env scope.names []) pm c' ctv) }:=by
  intro H2 s2 pm ctv c' I2 st L2 hc'
  have hf:H2 s2.heap.objs.size=none:=I2.hok.fresh (Nat.le_refl _)
  have sn:=aR hf (.ext fun h=>∃ pm ctv,h.get? s2.heap.objs.size=some (kla_obj "<lambda>" (X.env.qual++"<lambda>") params body scope (cD X.env scope.names []) pm c' ctv))
  refine ⟨.ref s2.heap.objs.size,_,I2.laid (t':=s2.toks) (fun b u e=>Heap.get?_push_of_some _ e) (Nat.le_refl _) ?_,rfl,h _ _ (st.trans sn.toT) (L2.same sn) ⟨c',ap,sn _ _ hc'⟩⟩
  exact ⟨⟨pm,ctv,Heap.get?_push_size _ rfl⟩,⟨_,Heap.get?_push_size _ rfl⟩,fun h1 h2 ⟨pm,ctv,e⟩ k=>⟨pm,ctv,k _ e⟩⟩
 rcases hL with hL | ⟨c0,hL,hc0⟩
 ·have hP:s.heap.get? P=some (tabObj #[]):=I.hok P _ hL
  have hgP:mainGlobals≠P:=fun z=>by
   obtain ⟨o,es,ep,e,hd,_⟩:=hgs
   rw [z,hP] at e
   cases e
   cases hd
  refine kla_makeFunction hcl I.ok.glob hgs hcode CH hP trivial rfl hgP (bm.at I hP) fun c' ctv h' tk hx hge hlt hrec htb=>?_
  have I2:=Dv (tk:=tk) I hL hx hge hlt hrec htb
  have hn:H c'=none:=I.hok.fresh hge
  refine new _ _ _ ctv c' I2 (fun b o n e=>?_) (.inr ⟨c',?_,ap⟩) ap
  ·rw [aB (aH e hn),aB (fun z=>by rw [z,hL] at e; cases e; exact n _ rfl)]
   exact e
  ·rw [aB (aH hL hn),ap]
   rfl
 ·have hP:s.heap.get? P=some (tabObj #[rawInt lpos.line,rawInt lpos.col,.ref c0]):=I.hok P _ hL
  refine kla_makeFunctionHit (cv:=.ref c0) hcl I.ok.glob hgs hcode CH hP trivial ?_ (bm.at I hP) fun ctv h' tk hk hsz=>?_
  ·show codeAmong lpos [rawInt lpos.line,rawInt lpos.col,.ref c0]=some (.ref c0)
   simp [codeAmong,rawInt]
  ·exact new H _ _ ctv c0 (I.kept (h':=h') (t':=tk) hk) (bM.refl H) (.inr ⟨c0,hL,hc0⟩) hc0
theorem B7 {j:Nat} {el:Expr} {p pos kp:Pos} {t:TA} (hc:X.calm=true) (hm:X.mg "min"=none) (hd:X.A.depth < recursionLimit) (hcode:X.env.code=.ref c) (hC:codeHdIn X.K c P=true) (bm:BM X.base X.mg) (Lk:xM X params body scope x y j) (B:xL X.prog X.w X.K scope x y body bd) (hbk:∀ vy H H' n k,bM H H'->bd vy H n k->bd vy H' n k) (ha:PA X [el] t) (hg:Gl X "min":=by rfl)
  (he:backTo pos (starEach [el] X.env)=(false,eval el X.env) :: backTo pos (starEach [] X.env):=by rfl) (hpl:(backTo pos (starEach [el] X.env)).any (·.1)=false:=by rfl):
  PE X (.Call (.Name "min" p) [el] [⟨some "key",.Lambda params body scope lpos,kp⟩] pos) (xB X.K (jW P lpos (X.env.qual++"<lambda>")) j bd t):=by
 intro pins s σ H Q I h
 refine wpAny_Call_Name_kw (jK I hg hm boot_min ?_ (by decide) (by decide))
 refine PyProof.Rows.callWith_kw (thn (ha pos pins s σ H _ I h) fun us s1 ⟨vs,H1,I1,r1,q1⟩=>?_) he hpl
 obtain ⟨l,ns,vy,kf,rfl,hq,hne,hvy,hb,hL,q⟩:=q1
 obtain ⟨u,rfl,rx⟩:=r1.one
 cases rx
 refine thn ((Br (Dy Lk hcode hC bm) Cy) pos pins s1 σ H1 (fun zs H2=>∃ f,zs=[.ref f]/\bM H1 H2/\jW P lpos (X.env.qual++"<lambda>") H2/\Dw X params body scope (X.env.qual++"<lambda>") f H2) I1 ⟨hL,fun f H' a b d=>⟨f,rfl,a,b,d⟩⟩) fun ws s2 ⟨zs,H2,I2,rz,f,ez,st,L2,c',hf,hc'⟩=>?_
 subst ez
 obtain ⟨wv,rfl,rw'⟩:=rz.one
 cases rw'
 obtain ⟨its,rv,il,hz⟩:=zh I2.hok I2.kIn (st.seq hq)
 obtain ⟨m,F0⟩:=I2.fr
 obtain ⟨⟨pm,ctv,ho⟩,_,_⟩:=I2.hok f _ hf
 obtain ⟨hcd,_,_⟩:=I2.hok c' _ hc'
 have nb:∀ b u,H2 b=some u->X.base.get? b=none/\b≠X.env.locals:=fun b u e=>by
  refine ⟨?_,fun z=>by rw [z,I2.free] at e; cases e⟩
  cases z:X.base.get? b with
  | none=>rfl
  | some o=>
   rw [(I2.bs b o z).2] at e
   cases e
 have lenV:=rv.length
 have lenV':ns.length=its.length:=by rw [<-lenV,List.length_map]
 have at_:∀ (i:Nat) (v:Value),its[i]?=some v->∃ n t,v=.int n t/\ns[i]?=some n:=fun i v e=>by
  have hi:=(List.getElem?_eq_some_iff.mp e).1
  have hn:(ns.map V.int)[i]?=some (.int (ns[i]'(by omega))):=by rw [List.getElem?_map,List.getElem?_eq_getElem (by omega)]; rfl
  obtain ⟨u,e2,r2⟩:=rv.get hn
  rw [e] at e2
  cases e2
  obtain ⟨t,rfl⟩:=r2
  exact ⟨_,t,rfl,List.getElem?_eq_getElem (by omega)⟩
 refine kmk_min (vs:=its) kf (I2.ok.hd hc) F0 zA (fun h F N=>?_) (by omega) (fun i v hv h tk own F N=>?_) fun i v h' tk' hv best F N=>?_
 ·obtain ⟨o,e1,e2,n,e3⟩:=il
  refine ⟨o,?_,e2,n,e3⟩
  have nL:l≠X.env.locals:=fun z=>by
   obtain ⟨o',es,ep,g1,g2,_⟩:=F0.ns
   rw [z,g1] at e1
   cases e1
   rw [g2] at e3
   cases e3
  cases z:X.base.get? l with
  | none=>exact (N _ (iV nL z e1)).1
  | some o'=>
   have:=I2.bk _ _ z
   rw [e1] at this
   cases this
   exact F.keep _ _ z
 ·obtain ⟨n,t,rfl,hn⟩:=at_ i v hv
  exact AH Lk B hd I2 F0 ho (nb f _ hf).1 (nb f _ hf).2 hcd (nb c' _ hc').1 (nb c' _ hc').2 hvy (hbk _ _ _ _ _ st (hb i n hn)) h tk own F N
 ·obtain ⟨n,t,rfl,hn⟩:=at_ i v hv
  exact ⟨.int n,H2,uT I2 F0 F N,⟨t,rfl⟩,q i n H2 st L2 hn fun k hk=>best k (by omega)⟩
end
end
theorem AK {K:PySem.W.Frag}:∀ (vy:V) (H H':Hp) (n k:Int),bM H H'->kIx K vy H n k->kIx K vy H' n k:=fun _ _ _ _ _ st ⟨z,ys,e,q,r⟩=>⟨z,ys,e,st.seq q,r⟩
theorem AL {X:Cx} {scope sc:Scope} (h:X.env.scope=sc) (k:∀ z∈scope.names,z.2=.free->sc.names.lookup z.1=some .cell\/sc.names.lookup z.1=some .free):∀ z∈scope.names,z.2=.free->X.env.scope.names.lookup z.1=some .cell\/X.env.scope.names.lookup z.1=some .free:=by
 rw [h]
 exact k
end L2
end
section
namespace L2
open PySem PySem.Spec PyProof.Rows PySem.W
theorem Fun.okC {P:Program} {w:World} {K:PySem.W.Frag} {mg:Str->Option Value} {base:Heap} {x qual:Str} {st:Stmt} {f:Addr} {fd:FuncData} {N ps:List Str} {k:Nat} {sp:Sp} (F:Fun K x qual st f fd) (S:aA N ps (aa st)) (len:∀ vs H Q E,sp vs H Q E->vs.length=ps.length)
  (hbody:∀ (cdv:Value) (A:Around) (outer:List Env) (s:Shared) (H:Hp) (vs:List V) (Q:VK) (E:XK),cdv=fd.code->bz k (A.deeper (envOfC qual (aa st) s.heap.objs.size f cdv))->sp vs H Q E->
   ∃ t,PSs (jO CX0 P w K mg base N qual (aa st) f cdv A outer s H E).nox (ay st) t/\t { nx:=fun _ H'=>Q .non H',rt:=Q } (aN N vs) H):cb P w K mg base CX0 (k + 1) f fd ps sp:=by
 obtain ⟨oc,od,kV,doc,pm,an,cdv,ct,osl,rfl,lk,hcd⟩:=F.ex
 refine AZ lk hcd S len fun A outer s H vs Q E hr hsp=>?_
 obtain ⟨t,h,q⟩:=hbody cdv A outer s H vs Q E rfl hr hsp
 exact ⟨t,h.nox,q⟩
theorem Def.okC {P:Program} {w:World} {K:PySem.W.Frag} {mg:Str->Option Value} {base:Heap} {x:Str} {st:Stmt} {N ps:List Str} {f:Addr} {fd:FuncData} {k:Nat} {sp:Sp} (D:Def K mg x st ps f fd) (S:aA N ps (aa st)) (len:∀ vs H Q E,sp vs H Q E->vs.length=ps.length)
  (hbody:∀ (cdv:Value) (A:Around) (outer:List Env) (s:Shared) (H:Hp) (vs:List V) (Q:VK) (E:XK),cdv=fd.code->bz k (A.deeper (envOfC x (aa st) s.heap.objs.size f cdv))->sp vs H Q E->
   ∃ t,PSs (jO CX0 P w K mg base N x (aa st) f cdv A outer s H E).nox (ay st) t/\t { nx:=fun _ H'=>Q .non H',rt:=Q } (aN N vs) H):FnB P w K mg base (k + 1) x ps sp:=
 ⟨f,fd,D.fn.okC S len hbody,D.m,D.fn.kp,D.b⟩
theorem zi {Pg:Program} {w:World} {K:PySem.W.Frag} {mg mb:Str->Option Value} {k:Nat} {fa a P c:Addr} {lpos:Pos} {qual:Str} {fd:FuncData} {x:Str} {s₁:Shared} {vs:List Value} {ns:List Int}
  (KX:K.In s₁.heap) (hns:s₁.heap.Ns mainGlobals mg) (hb:s₁.heap.Ns builtinsNs mb) (hbb:∀ x:Str,x≠"__name__"->mb x=bootBuiltins x) (hlim:s₁.heap.NoLimit) (hg:s₁.gens=#[])
  (ha:s₁.heap.get? a=some { cls:=.type "list",data:=.seq vs.toArray }) (hi:IntsAre vs ns) (hl:ns.length<=sizeLine) (hr:bz k callerA) (hPk:K.lookup P=none) (hP:s₁.heap.get? P=some (tabObj #[])) (hC:codeHdIn K c P=true) (hbm:BM s₁.heap mg)
  (F:∀ base:Heap,K.In base->base.Ns mainGlobals mg->BM base mg->cb Pg w K mg base CX0 k fa fd [x] (kL K (jW P lpos qual))) (hbind:∀ (s:Shared) (u:Value),BindsTo s fd ⟨[u],[]⟩ [(x,u)])
  (hsc:ns.length<=63/\∀ n∈ns,Builtin.Int.intBits n<=1048576):
  codeAny (model Pg w) callerA (.call (.ref fa) ⟨[.ref a],[]⟩) (fun r s'=>r=.ok (.ret (.bool true))/\OldK s₁.heap s'.heap/\s'.os=s₁.os/\AllBare s'.gens) s₁:=by
 have rv:=ml hi
 have lenV:=hi.length
 have naP:a≠P:=fun z=>by rw [z,hP] at ha; cases ha
 generalize hH:(fun b=>if b=P then some (HO.tbl #[]) else if b=a/\K.lookup a=none then some (HO.frz { cls:=.type "list",data:=.seq vs.toArray } (.lst (ns.map V.int))) else none:Hp)=H
 have HP:H P=some (.tbl #[]):=by rw [<-hH]; exact if_pos rfl
 have HA:K.lookup a=none->H a=some (.frz { cls:=.type "list",data:=.seq vs.toArray } (.lst (ns.map V.int))):=fun z=>by rw [<-hH]; show (if a=P then _ else _)=_; rw [if_neg naP,if_pos ⟨rfl,z⟩]
 have cs:∀ b,H b=none\/b=P\/(b=a/\K.lookup a=none):=fun b=>by
  by_cases z:b=P
  ·exact .inr (.inl z)
  ·by_cases z2:b=a/\K.lookup a=none
   ·exact .inr (.inr z2)
   ·refine .inl ?_
    rw [<-hH]
    show (if b=P then _ else _)=_
    rw [if_neg z,if_neg z2]
 have hok:HOk Pg w H s₁.heap:=fun b u e=>by
  rcases cs b with z | z | z
  ·rw [z] at e
   cases e
  ·subst z
   rw [HP] at e
   cases e
   exact hP
  ·obtain ⟨rfl,z⟩:=z
   rw [HA z] at e
   cases e
   exact ⟨ha,by rw [List.length_map]; exact hl,vs,_,rv,ha⟩
 have free:∀ {b:Addr} {o:Obj},s₁.heap.get? b=some o->(∀ ps,o.data≠.fields ps)->(∀ xs n,o.data≠.seq xs n)->H b=none:=fun {b o} e n1 n2=>by
  rcases cs b with z | z | z
  ·exact z
  ·rw [z,hP] at e
   cases e
   exact absurd rfl (n1 _)
  ·rw [z.1,ha] at e
   cases e
   exact absurd rfl (n2 _ _)
 have nsK:∀ {b:Addr} {m:Str->Option Value},s₁.heap.Ns b m->(gX s₁.heap H).Ns b m:=fun {b m} ⟨o,es,ep,e,d,r⟩=>⟨o,es,ep,kX e (free e (fun ps z=>by rw [d] at z; cases z) (fun xs n z=>by rw [d] at z; cases z)),d,r⟩
 have hKb:K.In (gX s₁.heap H):=fun b o e=>kX (KX b o e) (by
  rcases cs b with z | z | z
  ·exact z
  ·rw [z,hPk] at e
   cases e
  ·rw [z.1,z.2] at e
   cases e)
 have hBb:BM (gX s₁.heap H) mg:=by
  obtain ⟨bm,ob,b1,b2,b3,b4,b5,b6⟩:=hbm
  exact ⟨bm,ob,b1,b2,kX b3 (free b3 (fun ps z=>by rw [b6] at z; cases z) (fun xs n z=>by rw [b6] at z; cases z)),b4,b5,b6⟩
 have hM:Mod K mg (gX s₁.heap H):=⟨hKb,nsK hns,⟨mb,nsK hb,hbb⟩,let ⟨mc,h1,h2⟩:=hlim; ⟨mc,nsK h1,h2⟩⟩
 have e0:jM Pg w K mg (gX s₁.heap H) callerA [] s₁ H:=⟨rfl,hM,fun b o e=>wf e,Nat.le_of_eq (qW _ _),trivial,fun b hb=>absurd (show b∈([]:List Addr) from hb) (by simp),hok,.of_eq hg⟩
 have sq:SqL K H a (ns.map V.int):=by
  cases hk:K.lookup a with
  | some o=>
   have e:=KX a o hk
   rw [ha] at e
   cases e
   exact .inr ⟨_,vs.toArray,_,hk,rfl,rfl,rfl,by rw [List.size_toArray,lenV]; exact hl,by simpa using rv⟩
  | none=>exact .inl (.inr ⟨_,HA hk⟩)
 refine codeAny_mono ((F _ hKb (nsK hns) hBb).run callerA [] s₁ H ⟨[.ref a],[]⟩ [.ref a] [.ref a] (fun v _=>v=.bl true) (fun _ _ _=>False) hr e0 (hbind s₁ (.ref a)) (.cons rfl .nil) ⟨a,ns,rfl,⟨sq,hsc⟩,.inl HP,fun _=>rfl⟩) fun r s' h=>?_
 cases r with
 | error e=>exact False.elim h
 | ok fl=>
  cases fl with
  | next=>exact False.elim h
  | brk=>exact False.elim h
  | cont=>exact False.elim h
  | ret u=>
   obtain ⟨v,H',os,bare,un,hok',r',q⟩:=h
   have q':v=.bl true:=q
   subst q'
   obtain rfl:u=Value.bool true:=r'
   have tbl:∃ more,s'.heap.get? P=some (tabObj (#[]++more)):=by
    obtain ⟨more,e⟩:=un.tbls P #[] HP
    exact ⟨more,hok' P _ e⟩
   have kp:∀ b o,b≠P->s₁.heap.get? b=some o->s'.heap.get? b=some o:=fun b o n e=>by
    rcases cs b with z | z | z
    ·exact un.keep b o e z (by intro z; exact absurd (show b∈([]:List Addr) from z) (by simp)) (by simp)
    ·exact absurd z n
    ·have z2:=un.frzs b _ _ (by rw [z.1]; exact HA z.2)
     obtain ⟨e2,_⟩:=hok' b _ z2
     rw [z.1,ha] at e
     cases e
     exact e2
   refine ⟨rfl,⟨fun b o e=>?_,fun b o e=>?_⟩,os,bare⟩
   ·by_cases z:b=P
    ·subst z
     rw [hP] at e
     cases e
     obtain ⟨more,e2⟩:=tbl
     exact .inr (.inl ⟨((codeHd_of_K KX hC).tab hP).isCodeTable,rfl,#[],more,rfl,e2⟩)
    ·exact .inl (kp b o z e)
   ·by_cases z:b=P
    ·obtain ⟨more,e2⟩:=tbl
     exact ⟨_,by rw [z]; exact e2⟩
    ·exact ⟨o,kp b o z e⟩
theorem AM {l:PySem.W.OpenLaw} {k:Nat} {q:Program} {loose:List Str} {XP:(Str->Option Value)->Heap->Prop} {YP:World->Heap->Prop} {d:DefRec} {K:Params->PySem.W.Frag} {x:Str} {P c:Addr} {lpos:Pos} {qual:Str}
  (hn:l.most=some 63) (hdf:d.params.defaults=[]) (hr:bz k callerA) (hY:∀ (w:World) (h:Heap),YP w h->(K w.params).In h) (hT:∀ (w:World) (h:Heap),YP w h->h.get? P=some (tabObj #[])) (hPk:∀ w:World,(K w.params).lookup P=none) (hC:∀ w:World,codeHdIn (K w.params) c P=true)
  (F:∀ (w:World) (mg:Str->Option Value) (fa:Addr) (h:Heap),(K w.params).In h->h.Ns mainGlobals mg->mg d.name=some (.ref fa)->
   ∃ fd:FuncData,(∀ (s:Shared) (u:Value),BindsTo s fd ⟨[u],[]⟩ [(x,u)])/\
    ∀ base:Heap,(K w.params).In base->base.Ns mainGlobals mg->BM base mg->cb l.prog w (K w.params) mg base CX0 k fa fd [x] (kL (K w.params) (jW P lpos qual))):
  PySem.W.WalkO q loose XP YP l.row.toRowW d [] (fun f vs=>PySem.call f vs):=by
 intro w s₀ s₁ mg mb G Y fa o pm cd doc dV kV ho hd hcd hD hmg hg args vals as hpre hlay hrd hwl hlo
 obtain rfl:dV=.none:=PySem.W.Dflts.none hD hdf
 obtain rfl:kV=.none:=PySem.W.Dflts.noKw hD
 obtain ⟨a,vs,ns,rfl,rfl,hobj,hints,hlen⟩:=Att.re hn hpre hwl
 have hbits:=vC hlay
 have KX:=hY w _ Y
 obtain ⟨fd,hb,hF⟩:=F w mg fa _ KX G.T.g hmg
 have c:=zi KX G.T.g G.T.b G.T.builtins G.T.nolimit hg hobj hints (Nat.le_trans hlen (by decide)) hr (hPk w) (hT w _ Y) (hC w) G.T.bmain hF hb ⟨hlen,hbits⟩
 refine PySem.W.enter_call (codeAny_mono c fun r s' hq=>?_)
 obtain ⟨rfl,h2,h3,h4⟩:=hq
 exact ⟨.inl ⟨.bool true,.bool true,[],rfl,fun _=>rfl,.bool true,Att.rf l _,fun _=>⟨List.Pairwise.nil,fun _ hm=>(nomatch hm)⟩⟩,h2,h3,h4⟩
end L2
end
section
namespace L2
open PySem PySem.Spec PyProof.Rows
section
variable {X:Cx}
end
end L2
end
section
namespace L2
open PySem PySem.Spec PyProof.Rows
section
variable {X:Cx}
end
end L2
end
section
namespace L2
open PySem PySem.Spec PyProof.Rows
section
variable {X:Cx}
theorem gU:OpR X (compareOp .Is) gQ:=by
 intro pins s σ H x y v u Q I rx ry h
 obtain ⟨rfl,q⟩:=h
 cases ry
 refine wpAny_is_plain (by cases x <;> (first | (obtain ⟨t,rfl⟩:=rx; rfl) | (cases rx; rfl))) ⟨.bl (isN x),H,I,?_,q⟩
 cases x <;> (first | (obtain ⟨t,rfl⟩:=rx; rfl) | (cases rx; rfl))
end
end L2
end
section
namespace L2
open PySem PySem.Spec PyProof.Rows
section
variable {prog:Program} {w:World} {A:Around} {R:Result->Shared->Prop} {I:Addr} {fp wr:List Addr} {n:Nat} {P:Nat->Value->Prop} {St:Nat->Heap->Prop} {kw:List (Str×Value)}
end
end L2
end
section
namespace L2
open PySem PySem.Spec PyProof.Rows
section
variable {prog:Program} {w:World} {A:Around} {E:Value->Shared->Prop} {s:Shared}
end
end L2
end
section
namespace L2
open PySem PySem.Spec PyProof.Rows
theorem B8 (val:Nat->Int):∀ (n:Nat) {i:Nat},i < n->val i∈firstMet val n:=fun n i h=>by
 have e:=firstMet_any val n (val i)
 have t:((List.range n).map val).any (· == val i)=true:=List.any_eq_true.mpr ⟨val i,List.mem_map_of_mem (List.mem_range.mpr h),beq_self_eq_true _⟩
 rw [t] at e
 obtain ⟨x,hx,hb⟩:=List.any_eq_true.mp e
 rw [beq_iff_eq] at hb
 rw [<-hb]
 exact hx
theorem zj (val:Nat->Int):∀ n:Nat,(firstMet val n).Nodup/\∀ x,x∈firstMet val n->∃ i,i < n/\val i=x
 | 0=>⟨List.nodup_nil,fun x h=>by cases h⟩
 | n + 1=>by
  obtain ⟨nd,hm⟩:=zj val n
  rw [firstMet_succ]
  unfold step_dedup
  by_cases c:((firstMet val n).any fun x=>x == val n)=true
  ·rw [if_pos c]
   exact ⟨nd,fun x h=>let ⟨i,hi,e⟩:=hm x h; ⟨i,by omega,e⟩⟩
  ·rw [if_neg c]
   refine ⟨List.nodup_append.mpr ⟨nd,by simp,fun a ha b hb=>?_⟩,fun x h=>?_⟩
   ·rw [List.mem_singleton.mp hb]
    exact fun e=>c (List.any_eq_true.mpr ⟨a,ha,by rw [e]; exact beq_self_eq_true _⟩)
   ·rcases List.mem_append.mp h with h | h
    ·obtain ⟨i,hi,e⟩:=hm x h; exact ⟨i,by omega,e⟩
    ·exact ⟨n,by omega,(List.mem_singleton.mp h).symm⟩
theorem B9 (ns:List Int):∃ L:List Int,L.Nodup/\(∀ x,x∈L↔x∈ns)/\(firstMet (fun i=>ns.getD i 0) ns.length).length=L.length:=by
 obtain ⟨nd,hm⟩:=zj (fun i=>ns.getD i 0) ns.length
 refine ⟨_,nd,fun x=>⟨fun h=>?_,fun h=>?_⟩,rfl⟩
 ·obtain ⟨i,hi,rfl⟩:=hm x h
  show ns.getD i 0∈ns
  rw [List.getD_eq_getElem?_getD,List.getElem?_eq_getElem hi]
  exact List.getElem_mem hi
 ·obtain ⟨i,hi,rfl⟩:=List.getElem_of_mem h
  have:=B8 (fun i=>ns.getD i 0) ns.length hi
  have e:ns.getD i 0=ns[i]:=by rw [List.getD_eq_getElem?_getD,List.getElem?_eq_getElem hi]; rfl
  show ns[i]∈_
  rw [<-e]
  exact this
section
variable {X:Cx}
theorem zk (hc:X.calm=true):dF X (.type "set") (xy X.K):=by
 intro pins s σ H xs us Q I r h
 obtain ⟨p,ns,rfl,hq,hl,q⟩:=h
 obtain ⟨u,rfl,rx⟩:=r.one
 cases rx
 obtain ⟨its,rv,pl,hz⟩:=I.list hq
 have hi:=oS rv
 have hlen:its.length=ns.length:=by have:=rv.length; rw [List.length_map] at this; omega
 refine PySem.call_set_list (I.ok.hd hc) pl.isList hi (by rw [List.size_toArray,hlen]; exact Nat.lt_of_le_of_lt (Nat.succ_le_succ hl) (by decide)) fun h' tk hS hk=>?_
 have hsz:its.toArray.size=ns.length:=by rw [List.size_toArray,hlen]
 rw [hsz] at hS
 have hn:=firstMet_length_le (fun i=>ns.getD i 0) ns.length
 exact ⟨.ref s.heap.objs.size,_,I.laid (o:=.set _ _) (fun b ob e=>hk b ob (Heap.lt_size e) e) (Nat.le_refl _) hS,rfl,q _ _ _ _ (I.hok.fresh (Nat.le_refl _)) (aR (I.hok.fresh (Nat.le_refl _)) _) ap hn (B9 ns)⟩
theorem zm:dF X (.builtin "len") xz:=by
 intro pins s σ H xs us Q I r h
 obtain ⟨p,S,n,rfl,e,hn,q⟩:=h
 obtain ⟨u,rfl,rx⟩:=r.one
 cases rx
 obtain ⟨o,es,ep,t,ho,hex,hd,_,_,_,hf,rfl⟩:=I.hok p _ e
 exact PySem.call_len_set ho hex hd hf (by omega) ⟨.int _,H,I.tok _,⟨_,rfl⟩,q⟩
end
end L2
end
section
namespace L2
section
open PySem PySem.Spec PyProof.Rows
section
variable {prog:Program} {w:World} {A:Around} {R:Result->Shared->Prop} {I:Addr} {fp wr:List Addr} {n:Nat} {P:Nat->Value->Prop} {St:Nat->Heap->Prop} {kw:List (Str×Value)}
end
section
variable {prog:Program} {w:World} {A:Around} {E:Value->Shared->Prop} {s:Shared}
end
section
variable {prog:Program} {w:World} {A:Around} {E:Value->Shared->Prop} {s:Shared}
end
end
open PySem PySem.Spec PyProof.Rows
section
variable {X:Cx}
end
end L2
end
section
namespace L2
open PySem PySem.Spec PyProof.Rows
mutual
inductive Dat (K:PySem.W.Frag) (H:Hp):V->PyData->Prop where
 | non:Dat K H .non .none
 | bl (b:Bool):Dat K H (.bl b) (.bool b)
 | int (i:Int):Dat K H (.int i) (.int i)
 | str (x:Str):Dat K H (.str x) (.str x)
 | lst {a:Addr} {xs:List V} {ds:List PyData} (e:SqL K H a xs) (h:jj K H xs ds):Dat K H (.ref a) (.list ds)
 | tup {a:Addr} {xs:List V} {ds:List PyData} (e:SqT K H a xs) (h:jj K H xs ds):Dat K H (.ref a) (.tuple ds)
inductive jj (K:PySem.W.Frag) (H:Hp):List V->List PyData->Prop where
 | nil:jj K H [] []
 | cons {x:V} {xs:List V} {d:PyData} {ds:List PyData} (h:Dat K H x d) (t:jj K H xs ds):jj K H (x :: xs) (d :: ds)
end
section
variable {X:Cx} {pins:List (Addr×Obj)} {σ:St} {H:Hp} {s:Shared}
mutual
theorem Dat.reads (I:Inv X pins σ H s):∀ {x:V} {d:PyData} {u:Value},Dat X.K H x d->aE x u->∃ as,Reads s.heap u d as
 | _,_,_,.non,r=>by cases r; exact ⟨_,.none⟩
 | _,_,_,.bl b,r=>by cases r; exact ⟨_,.bool b⟩
 | _,_,_,.int i,r=>by obtain ⟨t,rfl⟩:=r; exact ⟨_,.int i t⟩
 | _,_,_,.str x,r=>by obtain ⟨t,rfl⟩:=r; exact ⟨_,.str x t⟩
 | _,_,_,.lst e h,r=>by
  cases r
  obtain ⟨its,rv,⟨o,n,h1,h2,h3,h4⟩,_⟩:=I.list e
  obtain ⟨as,ra⟩:=jj.reads I h rv
  exact ⟨_,.list h1 h2 h4 (by simpa using ra)⟩
 | _,_,_,.tup e h,r=>by
  cases r
  obtain ⟨its,rv,⟨o,h1,h2,n,h3⟩,_⟩:=I.tuple e
  obtain ⟨as,ra⟩:=jj.reads I h rv
  exact ⟨_,.tuple h1 h2 h3 (by simpa using ra)⟩
theorem jj.reads (I:Inv X pins σ H s):∀ {xs:List V} {ds:List PyData} {us:List Value},jj X.K H xs ds->aD xs us->∃ as,ReadsAll s.heap us ds as
 | _,_,_,.nil,.nil=>⟨_,.nil⟩
 | _,_,_,.cons h t,.cons r q=>by
  obtain ⟨as,ra⟩:=Dat.reads I h r
  obtain ⟨bs,rb⟩:=jj.reads I t q
  exact ⟨_,.cons ra rb⟩
end
end
section
variable {X:Cx}
end
end L2
end
section
namespace L2
open PySem PySem.Spec PyProof.Rows
mutual
theorem EY {K:PySem.W.Frag} {H:Hp}:∀ {n:Nat} {x y:V},iY K H n x y->∃ d,Dat K H x d/\Dat K H y d/\d.canLay0=true/\d.depth<=n
 | n,x,_,.flat h=>by
  cases x with
  | non=>exact ⟨_,.non,.non,rfl,Nat.zero_le _⟩
  | bl b=>exact ⟨_,.bl b,.bl b,rfl,Nat.zero_le _⟩
  | int i=>exact ⟨_,.int i,.int i,rfl,Nat.zero_le _⟩
  | _=>cases h
 | _,_,_,.lst (xs:=xs) (ys:=ys) e1 e2 hl h=>by
  obtain ⟨ds,h1,h2,h3,h4⟩:=xN xs ys hl h
  exact ⟨_,.lst e1 h1,.lst e2 h2,h3,Nat.succ_le_succ h4⟩
 | _,_,_,.tup (xs:=xs) (ys:=ys) e1 e2 hl h=>by
  obtain ⟨ds,h1,h2,h3,h4⟩:=xN xs ys hl h
  exact ⟨_,.tup e1 h1,.tup e2 h2,h3,Nat.succ_le_succ h4⟩
theorem xN {K:PySem.W.Frag} {H:Hp} {n:Nat}:∀ (xs ys:List V),xs.length=ys.length->(∀ (i:Nat) (x y:V),xs[i]?=some x->ys[i]?=some y->iY K H n x y)->∃ ds,jj K H xs ds/\jj K H ys ds/\PyData.canLayAll0 ds=true/\PyData.depthAll ds<=n
 | [],[],_,_=>⟨[],.nil,.nil,rfl,Nat.zero_le _⟩
 | x :: xs,y :: ys,hl,h=>by
  obtain ⟨d,a1,a2,a3,a4⟩:=EY (h 0 x y rfl rfl)
  obtain ⟨ds,b1,b2,b3,b4⟩:=xN xs ys (by simpa using hl) (fun i x y hx hy=>h (i + 1) x y hx hy)
  refine ⟨d :: ds,.cons a1 b1,.cons a2 b2,?_,?_⟩
  ·show (d.canLay0 && PyData.canLayAll0 ds)=true
   rw [a3,b3]; rfl
  ·show max d.depth (PyData.depthAll ds)<=n
   omega
 | [],_ :: _,hl,_=>by simp at hl
 | _ :: _,[],hl,_=>by simp at hl
end
section
variable {X:Cx}
end
end L2
end
section
namespace L2
open PySem PySem.Spec PyProof.Rows
theorem xO {M:Model} {A:Around} {E:Value->Shared->Prop} {s:Shared} {scope:Scope} {globals:Addr} {cl:List (Str×Addr)} {qual:Str} {func:Option Addr} {code:Value} {outer:Env} {builtins:Addr} {x:Str} {Q:Env->Shared->Prop}
  (hown:∀ n acc,cellsFrom n scope.names acc=(x,n) :: acc) (hpush:∀ h:Heap,pushCells h scope.names=h.push { cls:=.type "cell",data:=.cell none })
  (hQ:Q (newEnv scope s.heap.objs.size globals ((x,s.heap.objs.size + 1) :: cl) qual func code (some outer) builtins) { s with heap:=(s.heap.push { cls:=.type "dict",data:=.dict #[] }).push { cls:=.type "cell",data:=.cell none } }):
  wpAny M A (newFunctionEnv scope globals cl [] qual func code (some outer) builtins) Q E s:=by
 simp only [newFunctionEnv,Option.isSome_some,if_true]
 refine wpAny_bind (wpAny_alloc ?_)
 refine wpAny_bind (wpAny_layCells _ (fun name kind cells=>by cases hkc:kind == NameKind.cell <;> simp [hkc]) _ _ _ _ ?_)
 rw [hown,hpush]
 rw [show ({ s with heap:=s.heap.push { cls:=.type "dict",data:=.dict #[] } }:Shared).heap.objs.size=s.heap.objs.size + 1 from Heap.size_push ..]
 rw [List.forIn_nil]
 exact wpAny_bind (wpAny_pure (wpAny_pure hQ))
structure pZ (sc scope:Scope) (NX N:List Str) (ix:List (Option Nat)) (x:Str):Prop where
 kind:scope.kind=.function
 own:∀ y∈scope.names,y.2=.cell->y.1=x
 ownx:scope.names.lookup x=some .cell
 cells:∀ n acc,cellsFrom n scope.names acc=(x,n) :: acc
 push:∀ h:Heap,pushCells h scope.names=h.push { cls:=.type "cell",data:=.cell none }
 names:∀ y∈scope.names,y.2=.local->scope.names.lookup y.1=some .local
 free:∀ y∈scope.names,y.2=.free->y.1≠x/\(sc.names.lookup y.1=some .cell\/sc.names.lookup y.1=some .free)
 nd:N.Nodup
 len:ix.length=N.length
 at_:∀ p∈N.zip ix,∀ i∈p.2,NX[i]?=some p.1/\scope.names.lookup p.1=some .free
noncomputable def ck (X:Cx) (N:List Str) (scope:Scope) (x:Str) (C:Addr) (s:Shared) (H:Hp) (fp:List Addr):Cx where
 prog:=X.prog
 w:=X.w
 K:=X.K
 mg:=X.mg
 base:=X.base
 A:=X.A
 N:=N
 s₀:=s
 H₀:=H
 env:=compEnvC scope ((x,C + 1) :: cD X.env scope.names []) C X.env
 outer:=X.stack
 stack:=X.stack
 ex:=fp
 fn:=fun y=>decide (y=x)
 calm:=X.calm
 pn:=[]
 xe:=fun _ _=>False
theorem zn {X:Cx} {N:List Str} {scope:Scope} {x:Str} {C:Addr} {s:Shared} {H:Hp} {fp:List Addr}:(ck X N scope x C s H fp).fn x=true:=by
 show decide (x=x)=true
 simp
theorem iP {x y:Str} {c d:Addr} {l:List (Str×Addr)} (h:((x,d) :: l).lookup y=some c):(y=x/\c=d)\/(y≠x/\l.lookup y=some c):=by
 rw [List.lookup_cons] at h
 cases e:y == x with
 | true=>rw [e] at h; cases h; exact .inl ⟨eq_of_beq e,rfl⟩
 | false=>
  rw [e] at h
  refine .inr ⟨fun z=>?_,h⟩
  rw [z,beq_self_eq_true] at e
  cases e
theorem Ca {x:Str} {d:Addr} {l:List (Str×Addr)}:((x,d) :: l).lookup x=some d:=by rw [List.lookup_cons,beq_self_eq_true]
theorem rJ {x y:Str} {d c:Addr} {l:List (Str×Addr)} (n:y≠x) (h:l.lookup y=some c):((x,d) :: l).lookup y=some c:=by
 rw [List.lookup_cons,beq_eq_false_iff_ne.mpr n]
 exact h
section
variable {X:Cx} {elt tg iter:Expr} {ifs:List Expr} {scope sc:Scope} {pos:Pos} {NX N:List Str} {ix:List (Option Nat)} {own:Str} {wi:TI} {g:CF TG} {tt:CF TT} {te:CF TE}
theorem vX {pins:List (Addr×Obj)} {σ:St} {H:Hp} {s:Shared} {fp:List Addr} {it:Addr} {J:It} {tn:Nat->Heap->Prop} {Q:VK} {E:Value->Shared->Prop} {RR:Value->Addr->Result->Shared->Prop}
  (hc:X.calm=true) (hsc:X.env.scope=sc) (hNX:X.N=NX) (S:pZ sc scope NX N ix own)
  (hg:∀ C s H fp,PG (ck X N scope own C s H fp) tg (g C s H fp)) (ht:∀ C s H fp,PTL (ck X N scope own C s H fp) ifs (tt C s H fp)) (he:∀ C s H fp,PE (ck X N scope own C s H fp) elt (te C s H fp))
  (I:Inv X pins σ H s) (T:ma X.prog X.w X.K tg J fp it tn) (st:tn 0 s.heap) (hf:∀ b∈fp,g9 X pins H b)
  (hq:∀ p,H p=none->∃ W:Nat->Nat->List V->Hp->Prop,(∃ m,W 0 m [] (upd H p (.lst [])))/\∀ C s' H' fp,dg J (g C s' H' fp) (tt C s' H' fp) (te C s' H' fp) (sub ix σ) p Q W)
  (hR:∀ p C s' H' m,s.heap.objs.size<=p->s.heap.objs.size<=C->s'.heap.Ns C m->H' C=none->Q (.ref p) H'->Inv X pins σ H' s'->RR (.ref p) C (.ok .next) s'):
  wpAny (model X.prog X.w) X.A (newList []) (fun acc s₃=>wpAny (model X.prog X.w) X.A (newFunctionEnv scope X.env.globals (cD X.env scope.names []) [] X.env.qual none .none (some X.env)) (fun cenv s₄=>
   codeAny (model X.prog X.w) X.A (.compStart (.ListComp elt [⟨tg,iter,ifs,0⟩] scope pos) 0 (.ref it) acc { cenv with scope:=relabel scope X.env }) (RR acc cenv.locals) s₄) E s₃) E s:=by
 refine wpAny_newObj_type (xO S.cells S.push ?_)
 dsimp only
 have hsz:(s.heap.push { cls:=.type "list",dict:=none,data:=.seq ([]:List Value).toArray }).objs.size=s.heap.objs.size + 1:=Heap.size_push ..
 have hns₀:=Heap.Ns.new (s.heap.push { cls:=.type "list",dict:=none,data:=.seq ([]:List Value).toArray }) (.type "dict")
 have hsz₂:((s.heap.push { cls:=.type "list",dict:=none,data:=.seq ([]:List Value).toArray }).push { cls:=.type "dict",data:=.dict #[] }).objs.size=s.heap.objs.size + 2:=by rw [Heap.size_push,Heap.size_push]
 have keep₁:∀ b o,s.heap.get? b=some o->(((s.heap.push { cls:=.type "list",dict:=none,data:=.seq ([]:List Value).toArray }).push { cls:=.type "dict",data:=.dict #[] }).push { cls:=.type "cell",data:=.cell none }).get? b=some o:=fun b o e=>Heap.get?_push_of_some _ (Heap.get?_push_of_some _ (Heap.get?_push_of_some _ e))
 have lst₁:(((s.heap.push { cls:=.type "list",dict:=none,data:=.seq ([]:List Value).toArray }).push { cls:=.type "dict",data:=.dict #[] }).push { cls:=.type "cell",data:=.cell none }).get? s.heap.objs.size=some { cls:=.type "list",data:=.seq ([]:List Value).toArray }:=Heap.get?_push_of_some _ (Heap.get?_push_of_some _ (Heap.get?_push_size _ rfl))
 have cel₁:(((s.heap.push { cls:=.type "list",dict:=none,data:=.seq ([]:List Value).toArray }).push { cls:=.type "dict",data:=.dict #[] }).push { cls:=.type "cell",data:=.cell none }).IsCell (s.heap.objs.size + 2) none:=⟨_,by rw [<-hsz₂]; exact Heap.get?_push_size _ rfl,rfl⟩
 have hns₁:=hns₀.keeps (h':=((s.heap.push { cls:=.type "list",dict:=none,data:=.seq ([]:List Value).toArray }).push { cls:=.type "dict",data:=.dict #[] }).push { cls:=.type "cell",data:=.cell none }) (fun b o e=>Heap.get?_push_of_some _ e)
 generalize ((s.heap.push { cls:=.type "list",dict:=none,data:=.seq ([]:List Value).toArray }).push { cls:=.type "dict",data:=.dict #[] }).push { cls:=.type "cell",data:=.cell none }=h₁ at hns₁ keep₁ lst₁ cel₁ ⊢
 generalize hC:(s.heap.push { cls:=.type "list",dict:=none,data:=.seq ([]:List Value).toArray }).objs.size=C at hns₁ ⊢
 rw [hsz] at hC
 generalize hp:s.heap.objs.size=p at hC
 have pC:p≠C:=by omega
 have old:∀ b o,s.heap.get? b=some o->h₁.get? b=some o:=keep₁
 have hnew:h₁.get? p=some { cls:=.type "list",data:=.seq ([]:List Value).toArray }:=by rw [<-hp]; exact lst₁
 have cel:h₁.IsCell (C + 1) none:=by
  have e:C + 1=s.heap.objs.size + 2:=by omega
  rw [e]
  exact cel₁
 have hfO:H (C + 1)=none:=I.hok.fresh (by omega)
 have hfp:H p=none:=I.hok.fresh (by omega)
 have hfC:H C=none:=I.hok.fresh (by omega)
 have lt:∀ b∈fp,b < p:=fun b hb=>by
  obtain ⟨o,e,_⟩:=T.obj 0 _ st b hb
  rw [<-hp]
  exact Heap.lt_size e
 have hcells:∀ y∈scope.names,y.2=.free->∃ c,X.env.cells.lookup y.1=some c:=fun y hy hk=>by
  refine I.ok.has y.1 ?_
  show X.env.scope.names.lookup y.1=some .cell\/X.env.scope.names.lookup y.1=some .free
  rw [hsc]
  exact (S.free y hy hk).2
 have noown:∀ x,scope.names.lookup x=some .cell->x=own:=fun x e=>S.own _ (PySem.mem_of_lookup e) rfl
 have low:∀ {x:Str} {c:Addr},(cD X.env scope.names []).lookup x=some c->c < p:=fun {x c} e=>by
  obtain ⟨v,o,ho,_⟩:=I.cell x c (bX e)
  rw [<-hp]
  exact Heap.lt_size ho
 have hok:(ck X N scope own C s H fp).Ok:=by
  refine ⟨I.ok.mod,S.kind,I.ok.glob,I.ok.blt,by show s.heap.objs.size<=C; omega,fun x y c h1 h2=>?_,fun x hx=>?_,fun x c z hc'=>?_,I.ok.hd,I.ok.frames,.inl rfl,fun b hb=>?_,I.bs,Nat.le_trans I.ok.bsz I.sz,fun b o e hb=>?_,fun b hb z=>?_,I.stack,I.stkFree⟩
  ·rcases iP h1 with ⟨e1,z1⟩ | ⟨_,h1⟩ <;> rcases iP h2 with ⟨e2,z2⟩ | ⟨_,h2⟩
   ·rw [e1,e2]
   ·have a1:@LT.lt Nat _ c p:=low h2
    have a2:@Eq Nat c (C + 1):=z1
    omega
   ·have a1:@LT.lt Nat _ c p:=low h1
    have a2:@Eq Nat c (C + 1):=z2
    omega
   ·exact I.ok.inj x y c (bX h1) (bX h2)
  ·by_cases hxo:x=own
   ·exact ⟨C + 1,by subst hxo; exact Ca⟩
   have hx':scope.names.lookup x=some .free:=by
    rcases hx with hx | hx
    ·rcases hG hx with q | q
     ·exact absurd (noown x q) hxo
     ·exact q.2
    ·rcases hG hx with q | q
     ·exact q
     ·exact q.2
   obtain ⟨c,hc'⟩:=hcells _ (PySem.mem_of_lookup hx') rfl
   exact ⟨c,rJ hxo (jc (PySem.mem_of_lookup hx') hc')⟩
  ·have z':x=own:=of_decide_eq_true z
   rcases iP hc' with ⟨_,e⟩ | ⟨n,_⟩
   ·have a2:@Eq Nat c (C + 1):=e
    have a3:@LE.le Nat _ s.heap.objs.size c:=by omega
    exact a3
   ·exact absurd z' n
  ·refine ⟨?_,fun x c e=>?_⟩
   ·show b≠C
    exact jh (lt b hb) (by omega)
   ·rcases iP e with ⟨_,e⟩ | ⟨_,e⟩
    ·have a1:@LT.lt Nat _ b p:=lt b hb
     have a2:@Eq Nat c (C + 1):=e
     intro z
     have a3:@Eq Nat c b:=z
     omega
    ·exact (hf b hb).2.2.2.2.1 x c (bX e)
  ·rcases (hf b hb).2.2.2.1 with z | z
   ·exact I.ok.noex b o e z
   ·exact absurd (Nat.lt_of_lt_of_le (Heap.lt_size e) (Nat.le_trans I.ok.bsz z)) (Nat.lt_irrefl _)
  ·rcases List.mem_cons.mp (I.stkSub b z) with q | q
   ·exact (hf b hb).2.1 q
   ·exact (hf b hb).2.2.1 q
 have locs:∀ h':Heap,(∀ x c o,X.env.cells.lookup x=some c->s.heap.get? c=some o->∃ sl,h'.get? c=some { o with slots:=sl })->
   ∀ (i:Nat) (x:Str) (v:V),N[i]?=some x->(sub ix σ)[i]?=some (some v)->∃ u,aE v u/\∀ m,zB (compEnvC scope ((own,C + 1) :: cD X.env scope.names []) C X.env) h' m x u:=by
  intro h' hk i x v h1 h2
  obtain ⟨k,hk',hv⟩:∃ k,ix[i]?=some (some k)/\σ[k]?=some (some v):=by
   unfold sub at h2
   rw [List.getElem?_map] at h2
   cases e:ix[i]? with
   | none=>rw [e] at h2; cases h2
   | some o=>
    rw [e] at h2
    cases o with
    | none=>cases h2
    | some k=>
     refine ⟨k,rfl,?_⟩
     have h2':(match σ[k]? with | some v=>v | none=>none)=some v:=Option.some.inj h2
     cases e2:σ[k]? with
     | none=>rw [e2] at h2'; cases h2'
     | some z=>
      rw [e2] at h2'
      rw [show z=some v from h2']
  have hm:(x,some k)∈N.zip ix:=by
   refine List.mem_of_getElem? (i:=i) ?_
   rw [List.getElem?_zip_eq_some]
   exact ⟨h1,hk'⟩
  obtain ⟨a1,a2⟩:=S.at_ _ hm k (by simp)
  obtain ⟨hno,hX⟩:=S.free _ (PySem.mem_of_lookup a2) rfl
  have hvis:Vis X.env.scope x:=by
   show _\/_\/_
   rw [hsc]
   exact .inr hX
  obtain ⟨m,hn,hl⟩:=I.loc
  obtain ⟨u,r,l⟩:=hl k x v (by rw [hNX]; exact a1) hv hvis
  refine ⟨u,r,fun m'=>.inr ⟨mw a2,?_⟩⟩
  rcases l with ⟨l,_⟩ | ⟨_,c,e,z⟩
  ·have l':X.env.scope.names.lookup x=some .local:=l
   rw [hsc] at l'
   rcases hX with q | q <;> (rw [q] at l'; cases l')
  ·obtain ⟨o,ho,hd⟩:=z
   obtain ⟨sl,e'⟩:=hk x c o e ho
   exact ⟨c,rJ hno (jc (PySem.mem_of_lookup a2) e),_,e',hd⟩
 have hlen:(sub ix σ).length=N.length:=by
  unfold sub
  rw [List.length_map]
  exact S.len
 have I1:Inv (ck X N scope own C s H fp) [] (sub ix σ) (upd H p (.lst [])) { s with heap:=h₁ }:=by
  refine ⟨hok,rfl,I.bare,Un.laid old (Nat.le_of_eq hp) hfp,⟨_,hns₁,fun i x v h1 h2 h3=>?_⟩,fun x c e=>?_,?_,fun x c e=>?_,fun q hq=>(nomatch hq),I.hok.laid old (Nat.le_of_eq hp) ⟨Nat.zero_le _,[],0,.nil,hnew⟩,hlen⟩
  ·obtain ⟨u,r,l⟩:=locs h₁ (fun y c o _ ho=>⟨o.slots,old c o ho⟩) i x v h1 h2
   exact ⟨u,r,l _⟩
  ·rcases iP e with ⟨_,e⟩ | ⟨_,e⟩
   ·rw [e]
    exact ⟨none,cel⟩
   ·obtain ⟨v,o,ho,hd⟩:=I.cell x c (bX e)
    exact ⟨v,o,old c o ho,hd⟩
  ·show upd H p _ C=none
   rw [aB (Ne.symm pC)]
   exact hfC
  ·rcases iP e with ⟨_,e⟩ | ⟨_,e⟩
   ·rw [e,aB (show C + 1≠p by omega)]
    exact hfO
   have e':=bX e
   obtain ⟨v,o,ho,hd⟩:=I.cell x c e'
   rw [aB (jh (Heap.lt_size ho) (Nat.le_of_eq hp))]
   exact I.freeC x c e'
 have back:∀ {pl:List (Addr×Obj)} {σ':St} {H':Hp} {s':Shared},Inv (ck X N scope own C s H fp) pl σ' H' s'->Inv (ck X N scope own C s H fp) pl (sub ix σ) H' s':=fun {pl σ' H' s'} J=>by
  obtain ⟨m,hn,_⟩:=J.loc
  refine ⟨J.ok,J.os,J.bare,J.base,⟨m,hn,fun i x v h1 h2 h3=>?_⟩,J.cell,J.free,J.freeC,J.pin,J.hok,hlen⟩
  obtain ⟨u,r,l⟩:=locs s'.heap (fun y c o hc' ho=>J.base.any ho (I.freeC y c hc') fun hb=>(hf c hb).2.2.2.2.1 y c hc' rfl) i x v h1 h2
  exact ⟨u,r,l _⟩
 obtain ⟨W,⟨m0,w0⟩,turn⟩:=hq p hfp
 have st1:tn 0 h₁:=T.keep 0 _ _ st fun b _ o e=>old b o e
 have fp1:∀ {H':Hp},(∀ b∈fp,H' b=none)->∀ b∈fp,g9 (ck X N scope own C s H fp) [] H' b:=fun {H'} hn b hb=>
  ⟨hn b hb,(hok.exf b hb).1,hok.exfs b hb,.inl hb,(hok.exf b hb).2,fun q hq=>(nomatch hq)⟩
 have loop:codeAny (model X.prog X.w) X.A (.compLoop (.ListComp elt [⟨tg,iter,ifs,0⟩] scope pos) 0 (.ref it) (.ref p) (compEnvC scope ((own,C + 1) :: cD X.env scope.names []) C X.env)) (RR (.ref p) C) { s with heap:=h₁ }:=by
  refine rg (fun n s'=>∃ i acc H',Inv (ck X N scope own C s H fp) [] (sub ix σ) H' s'/\tn i s'.heap/\(∀ b∈fp,H' b=none)/\W i n acc H') ?_ m0
   ⟨0,[],_,I1,st1,fun b hb=>by rw [aB (jh (lt b hb) (Nat.le_refl _))]; exact (hf b hb).1,w0⟩
  rintro n s3 ⟨i,acc,H3,I3,st3,fr3,w3⟩
  obtain ⟨hacc,w4⟩:=turn C s H fp i n acc H3 w3
  rcases w4 with ⟨stop,qn⟩ | ⟨go,hln,N',hN',step⟩
  ·refine thn (T.done (ck X N scope own C s H fp) rfl rfl rfl hc i [] s3 _ H3 (fun _ _=>False) I3 (fp1 fr3) st3 stop) fun r s4 ⟨hr,I4⟩=>?_
   subst hr
   obtain ⟨m,hn,_⟩:=I4.loc
   refine hR p C s4 H3 m (by omega) (by omega) hn I4.free qn ?_
   exact I.call' I4.os I4.base I4.hok I4.bare fun b hb=>⟨(hf b hb).2.2.2.1,(hf b hb).2.1,(hf b hb).2.2.2.2.1,(hf b hb).2.2.2.2.2⟩
  ·refine thn (T.item (ck X N scope own C s H fp) rfl rfl rfl hc i [] s3 _ H3 (fun _ _=>False) I3 (fp1 fr3) st3 go) fun r s4 ⟨u,hr,h4⟩=>?_
   subst hr
   refine thn h4 fun _ s5 ⟨x,H5,I5,r5,y5,st5,fr5⟩=>?_
   have I5':=I5.pinned (fp1 fr5) (T.obj _ _ st5)
   refine thn (hg C s H fp _ s5 _ H5 x u _ I5' r5 (step x H5 y5)) fun _ s6 ⟨σ6,H6,I6,q6⟩=>?_
   have later:∀ {s7:Shared} {H7:Hp} {acc':List V} {σ7:St},Inv (ck X N scope own C s H fp) ([]++ku fp s5.heap) σ7 H7 s7->(∃ m',m' < n/\W (i + 1) m' acc' H7)->
     ∃ m,m < n/\∃ i acc H',Inv (ck X N scope own C s H fp) [] (sub ix σ) H' s7/\tn i s7.heap/\(∀ b∈fp,H' b=none)/\W i m acc H':=fun {s7 H7 acc' σ7} I7 ⟨m',hm,w7⟩=>by
    refine ⟨m',hm,i + 1,acc',H7,back (I7.unpinned (pins:=[])),T.keep _ _ _ st5 fun b hb o e=>(I7.pin (b,o) (List.mem_append_right _ (List.mem_append_right _ (fY hb e)))).1,fun b hb=>?_,w7⟩
    obtain ⟨o,e,d⟩:=T.obj _ _ st5 b hb
    exact (I7.pin (b,o) (List.mem_append_right _ (List.mem_append_right _ (fY hb e)))).2.1
   refine thn (ht C s H fp _ s6 σ6 H6 _ I6 q6) fun ok s7 ⟨H7,I7,q7⟩=>?_
   cases ok with
   | false=>exact later I7 (hN' _ _ q7)
   | true=>
    refine thn (he C s H fp _ s7 σ6 H7 _ I7 q7) fun y s8 ⟨v8,H8,I8,r8,hacc8,w8⟩=>?_
    refine thn (jb (X:=ck X N scope own C s H fp) _ s8 σ6 H8 (.ref p) [v8] (.ref p) [y] (fun _ H9=>H9=upd H8 p (.lst (acc++[v8]))) I8 rfl (.cons r8 .nil) ⟨p,acc,v8,rfl,rfl,hacc8,hln,rfl⟩) fun _ s9 ⟨_,H9,I9,_,e9⟩=>?_
    subst e9
    exact later I9 (hN' _ _ w8)
 exact codeAny_compStart_list loop (T.self _ 0 _ _ _ st1 loop)
theorem uU (hc:X.calm=true) (S:pZ sc scope NX N ix own) (hi:PI X tg iter wi)
  (hg:∀ C s H fp,PG (ck X N scope own C s H fp) tg (g C s H fp)) (ht:∀ C s H fp,PTL (ck X N scope own C s H fp) ifs (tt C s H fp)) (he:∀ C s H fp,PE (ck X N scope own C s H fp) elt (te C s H fp))
  (hsc:X.env.scope=sc:=by rfl) (hNX:X.N=NX:=by rfl) (hs:∀ x,foldedSetIterable iter X.env x=pure x:=by intro _; rfl):
  PE X (.ListComp elt [⟨tg,iter,ifs,0⟩] scope pos) (bT wi g tt te ix):=by
 intro pins s σ H Q I h
 rw [eval_ListComp]
 have hcells:closureFor scope X.env=pure (cD X.env scope.names []):=js fun y hy hk=>by
  refine I.ok.has y.1 ?_
  show X.env.scope.names.lookup y.1=some .cell\/X.env.scope.names.lookup y.1=some .free
  rw [hsc]
  exact (S.free y hy hk).2
 refine wpAny_comprehension_free (use:=none) rfl hs hcells S.kind S.names (thn (hi pins s σ H _ I h) fun v s1 h1=>thn h1 fun itv s2 h2=>?_)
 obtain ⟨it,fp,tn,J,H2,e,I2,T,st2,f2,hq⟩:=h2
 subst e
 refine vX (Q:=Q) (RR:=fun acc C=>compPost (model X.prog X.w) X.A X.xe none (EP X pins σ Q) acc C) hc hsc hNX S hg ht he I2 T st2 f2 hq ?_
 intro p C s' H' m hp hC hn hfree q I'
 exact ⟨m,hn,fun h'' hs''=>⟨.ref p,H',I'.gone I2 hC hfree hs'',rfl,q⟩⟩
end
end L2
end
section
namespace L2
open PySem PySem.Spec PyProof.Rows
theorem uV {scope:Scope} {env:Env} {x:Str} (h:scope.names.lookup x=some .cell\/scope.names.lookup x=some .free):(relabel scope env).names.lookup x=some .cell\/(relabel scope env).names.lookup x=some .free:=by
 have go:∀ ns:List (Str×NameKind),(ns.lookup x=some .cell\/ns.lookup x=some .free)->
   (ns.map fun (n,k)=>if (k == NameKind.free && env.scope.kind == .function && env.kindOf n == some .cell) then (n,NameKind.cell) else (n,k)).lookup x=some .cell\/
   (ns.map fun (n,k)=>if (k == NameKind.free && env.scope.kind == .function && env.kindOf n == some .cell) then (n,NameKind.cell) else (n,k)).lookup x=some .free:=by
  intro ns
  induction ns with
  | nil=>intro q; rcases q with q | q <;> simp at q
  | cons y r ih=>
   obtain ⟨n,k'⟩:=y
   intro q
   rw [List.map_cons]
   rw [List.lookup_cons] at q
   by_cases hc:(k' == NameKind.free && env.scope.kind == .function && env.kindOf n == some .cell)=true
   ·simp only [hc,if_true]
    rw [List.lookup_cons]
    cases e:x == n with
    | true=>exact .inl rfl
    | false=>rw [e] at q; exact ih q
   ·simp only [hc]
    rw [if_neg (by simp),List.lookup_cons]
    cases e:x == n with
    | true=>rw [e] at q; exact q
    | false=>rw [e] at q; exact ih q
 exact go scope.names h
theorem mP {inner outer:Scope} {cl:List (Str×Addr)} {C:Addr} {env:Env} (h:∀ y∈inner.names,y.2=.free->outer.names.lookup y.1=some .cell\/outer.names.lookup y.1=some .free):
  ∀ y∈inner.names,y.2=.free->(compEnvC outer cl C env).scope.names.lookup y.1=some .cell\/(compEnvC outer cl C env).scope.names.lookup y.1=some .free:=fun y hy hk=>uV (h y hy hk)
end L2
end
section
namespace L2
open PySem PySem.Spec PyProof.Rows
theorem DA.stay {a:Addr} {kvs:List (IA×V)} {h1 h2:Heap} (d:DA a kvs h1) (k:∀ o,h1.get? a=some o->h2.get? a=some o):DA a kvs h2:=by
 obtain ⟨z,y,P,w,vs,r,o,es,ep,e,c⟩:=d
 exact ⟨z,y,P,w,vs,r,o,es,ep,k _ e,c⟩
theorem DB.stay {a:Addr} {zs:List (List IK×Addr×V)} {h1 h2:Heap} (d:DB a zs h1) (k:∀ o,h1.get? a=some o->h2.get? a=some o):DB a zs h2:=by
 obtain ⟨z,y,xs,r,o,es,ep,e,c⟩:=d
 exact ⟨z,y,xs,r,o,es,ep,k _ e,c⟩
theorem DA.ok {P:Program} {w:World} {H:Hp} {h:Heap} {a:Addr} {kvs:List (IA×V)} (d:DA a kvs h):bR P w H h a (dA a kvs):=by
 obtain ⟨_,_,_,_,_,_,o,_,_,e,_⟩:=id d
 exact ⟨d,⟨o,e⟩,fun _ _ d k=>d.stay k⟩
theorem DB.ok {P:Program} {w:World} {H:Hp} {h:Heap} {a:Addr} {zs:List (List IK×Addr×V)} (d:DB a zs h):bR P w H h a (dB a zs):=by
 obtain ⟨_,_,_,_,o,_,_,e,_⟩:=id d
 exact ⟨d,⟨o,e⟩,fun _ _ d k=>d.stay k⟩
theorem ZX.length {zs:List (List IK×Addr×V)} {xs:List (List IK×Addr×Value)} (r:ZX zs xs):zs.length=xs.length:=Paired.length r
theorem ZX.val {zs:List (List IK×Addr×V)} {xs:List (List IK×Addr×Value)} (r:ZX zs xs) (k:List IK):fq (atZ zs k) ((atKey xs k).map (·.2)):=by
 unfold ZX at r
 induction r with
 | nil=>exact True.intro
 | @cons p q ps qs h t ih=>
  obtain ⟨h1,_,h2⟩:=h
  by_cases e:p.1=k
  ·have e':q.1=k:=h1.symm.trans e
   have b:atKey (q :: qs) k=some q.2:=by simp [atKey,List.find?_cons,e']
   have c:atZ (p :: ps) k=some p.2.2:=by simp [atZ,List.find?_cons,e]
   rw [c,b]; exact h2
  ·have e':¬ q.1=k:=fun z=>e (h1.trans z)
   have b:atKey (q :: qs) k=atKey qs k:=by simp [atKey,List.find?_cons,e']
   have c:atZ (p :: ps) k=atZ ps k:=by simp [atZ,List.find?_cons,e]
   rw [c,b]; exact ih
noncomputable def jX (zs:List (List IK×Addr×V)) (k:List IK) (b:Addr) (v:V):List (List IK×Addr×V):=
 if (atZ zs k).isSome then zs.map (fun x=>if x.1=k then (x.1,x.2.1,v) else x) else zs++[(k,b,v)]
theorem ZX.repl {zs:List (List IK×Addr×V)} {xs:List (List IK×Addr×Value)} (r:ZX zs xs) (k:List IK) {v:V} {u:Value} (rv:aE v u):ZX (zs.map fun x=>if x.1=k then (x.1,x.2.1,v) else x) (xs.map (putAt k u)):=by
 unfold ZX at r ⊢
 induction r with
 | nil=>exact .nil
 | @cons p q ps qs h t ih=>
  rw [List.map_cons,List.map_cons]
  refine .cons ?_ ih
  obtain ⟨h1,h2,h3⟩:=h
  unfold putAt
  by_cases e:p.1=k
  ·rw [if_pos e,if_pos (h1.symm.trans e)]; exact ⟨h1,h2,rv⟩
  ·rw [if_neg e,if_neg (fun z=>e (h1.trans z))]; exact ⟨h1,h2,h3⟩
theorem ZX.put {zs:List (List IK×Addr×V)} {xs:List (List IK×Addr×Value)} (r:ZX zs xs) (k:List IK) {b:Addr} {v:V} {u:Value} (rv:aE v u):ZX (jX zs k b v) (storedH xs k b u):=by
 have e:(atZ zs k).isSome=(atKey xs k).isSome:=by
  rw [(r.val k).isSome_eq,Option.isSome_map]
 unfold jX storedH
 rw [e]
 by_cases q:(atKey xs k).isSome=true
 ·rw [if_pos q,if_pos q]; exact r.repl k rv
 ·rw [if_neg q,if_neg q]; exact Paired.snoc r ⟨rfl,rfl,rv⟩
theorem Cb (zs:List (List IK×Addr×V)) (k j:List IK) (b:Addr) (v:V):atZ (jX zs k b v) j=if j=k then some v else atZ zs j:=by
 have hm:∀ ys:List (List IK×Addr×V),atZ (ys.map fun x=>if x.1=k then (x.1,x.2.1,v) else x) j=(atZ ys j).map fun y=>if j=k then v else y:=by
  intro ys
  induction ys with
  | nil=>rfl
  | cons p r ih=>
   rw [List.map_cons]
   unfold atZ at ih ⊢
   by_cases h:p.1=k
   ·rw [if_pos h]
    by_cases e:p.1=j
    ·simp [List.find?_cons,e,e.symm.trans h]
    ·simp [List.find?_cons,e]; simpa using ih
   ·rw [if_neg h]
    by_cases e:p.1=j
    ·have:¬ j=k:=fun z=>h (e.trans z)
     simp [List.find?_cons,e,this]
    ·simp [List.find?_cons,e]; simpa using ih
 have ha:∀ ys:List (List IK×Addr×V),atZ ys k=none->atZ (ys++[(k,b,v)]) j=if j=k then some v else atZ ys j:=by
  intro ys
  induction ys with
  | nil=>
   intro _
   by_cases e:k=j
   ·simp [atZ,List.find?_cons,e]
   ·have:¬ j=k:=fun z=>e z.symm
    simp [atZ,List.find?_cons,e,this]
  | cons p r ih=>
   intro hn
   have hk:¬ p.1=k:=fun z=>by simp [atZ,List.find?_cons,z] at hn
   have hn':atZ r k=none:=by simpa [atZ,List.find?_cons,hk] using hn
   have ih':=ih hn'
   by_cases e:p.1=j
   ·have:¬ j=k:=fun z=>hk (e.trans z)
    simp [atZ,List.find?_cons,e,this]
   ·have c:atZ (p :: (r++[(k,b,v)])) j=atZ (r++[(k,b,v)]) j:=by simp [atZ,List.find?_cons,e]
    have c':atZ (p :: r) j=atZ r j:=by simp [atZ,List.find?_cons,e]
    rw [List.cons_append,c,c',ih']
 unfold jX
 cases q:atZ zs k with
 | some y=>
  rw [if_pos (show (some y).isSome=true from rfl),hm]
  by_cases e:j=k
  ·subst e; rw [q,if_pos rfl]; simp
  ·rw [if_neg e]; cases atZ zs j <;> simp [e]
 | none=>rw [if_neg (show ¬ (none:Option V).isSome=true by decide)]; exact ha zs q
theorem nX (zs:List (List IK×Addr×V)) (k:List IK) (b:Addr) (v:V):(jX zs k b v).length<=zs.length + 1:=by
 unfold jX
 split
 ·rw [List.length_map]; omega
 ·rw [List.length_append,List.length_cons,List.length_nil]; omega
theorem AN {zs:List (List IK×Addr×V)} {k:List IK} {b:Addr} {v:V} {z:List IK×Addr×V} (h:z∈jX zs k b v):(∃ z0∈zs,z.1=z0.1/\z.2.1=z0.2.1)\/(z.1=k/\z.2.1=b):=by
 unfold jX at h
 split at h
 ·obtain ⟨z0,h0,rfl⟩:=List.mem_map.mp h
  refine .inl ⟨z0,h0,?_⟩
  split <;> exact ⟨rfl,rfl⟩
 ·rcases List.mem_append.mp h with h | h
  ·exact .inl ⟨z,h,rfl,rfl⟩
  ·rw [List.mem_singleton.mp h]; exact .inr ⟨rfl,rfl⟩
section
variable {X:Cx} {pins:List (Addr×Obj)} {σ:St} {H:Hp} {s:Shared} {a:Addr} {y v:V} {u r:Value} {A:Around} {E:Value->Shared->Prop} {srt:Bool} {f:MK->Option V} {n:Nat} {k:MK}
theorem sZ {k:IA} (h:iaV y=some k) (ry:aE y u):lh k u=true:=by
 cases y with
 | non=>cases h; cases ry; rfl
 | bl b=>cases h; cases ry; simp [lh]
 | int i=>cases h; obtain ⟨t,rfl⟩:=ry; simp [lh]
 | _=>cases h
theorem wH {P:Program} {w:World}:∀ {ks:List IA} {ys:List V} {us:List Value},ys.map iaV=ks.map some->aD ys us->ItemsAre (dz P w) ks us
 | [],[],_,_,.nil=>.nil
 | k :: ks,y :: ys,_,e,.cons h t=>by
  rw [List.map_cons,List.map_cons] at e
  injection e with e1 e2
  exact .cons (sZ e1 h) (wH e2 t)
 | [],_ :: _,_,e,_=>by simp at e
 | _ :: _,[],_,e,_=>by simp at e
theorem zo (ok:HOk X.prog X.w H s.heap) {c:Addr} {xs:List V} (e:H c=some (.tup xs)):∃ its,aD xs its/\∃ o n,s.heap.get? c=some o/\o.cls=.type "tuple"/\o.data=.seq its.toArray n:=by
 obtain ⟨_,its,r,o,h1,h2,⟨n,h3⟩,_⟩:=(show bR X.prog X.w H s.heap c (.tup xs) from ok c _ e)
 exact ⟨its,r,o,n,h1,h2,h3⟩
theorem Cc (ok:HOk X.prog X.w H s.heap) {k:IK} (h:j6 H y k) (ry:aE y u):dc X.prog X.w s.heap k u:=by
 cases k with
 | inl a=>exact sZ h ry
 | inr as=>
  obtain ⟨c,ys,rfl,e,q⟩:=h
  cases ry
  obtain ⟨its,rv,o,n,h1,h2,h3⟩:=zo ok e
  exact ⟨c,rfl,o,its.toArray,n,h1,h2,h3,by simpa using wH q rv⟩
theorem AO (ok:HOk X.prog X.w H s.heap) {xs:List V} {ks:List IK} {us:List Value} (p:Paired (j6 H) xs ks):aD xs us->Paired (dc X.prog X.w s.heap) ks us:=by
 induction p generalizing us with
 | nil=>intro q; cases q; exact .nil
 | cons h t ih=>intro q; cases q with
  | cons r q=>exact .cons (Cc ok h r) (ih q)
theorem xP (ok:HOk X.prog X.w H s.heap) {c:Addr} {ks:List IK} (h:dL H (.ref c) (.inr ks)):gp X.prog X.w s.heap ks c:=by
 obtain ⟨c',xs,e,ec,q⟩:=h
 cases e
 obtain ⟨its,rv,o,n,h1,h2,h3⟩:=zo ok ec
 exact ⟨o,its.toArray,n,h1,h2,h3,by simpa using AO ok q rv⟩
theorem wI (h:dL H y k) (hs:j7 k=true):∃ c ks,y=.ref c/\k=.inr ks:=by
 cases k with
 | inl _=>cases hs
 | inr ks=>obtain ⟨c,xs,e,_⟩:=h; exact ⟨c,ks,e,rfl⟩
theorem zq {P P':Program} {w w':World} {es:List DictEntry} {vs:List (IA×Value)} (h:Pairs (dz P w) es vs):Pairs (dz P' w') es vs:=by
 induction h with
 | nil=>exact .nil
 | cons a b _ ih=>exact .cons a b ih
theorem xQ {kvs:List (IA×V)} (ok:HOk X.prog X.w H s.heap) (e:H a=some (dA a kvs)):kvs.length<=sizeLine/\(a == sysModules)=false/\∃ vs,KV kvs vs/\s.heap.DictOf (dz X.prog X.w) a vs:=by
 obtain ⟨⟨z,y,P,w,vs,r,o,es,ep,h1,h2,h3,h4,h5,h6⟩,_⟩:=(show bR X.prog X.w H s.heap a (dA a kvs) from ok a _ e)
 exact ⟨z,y,vs,r,o,es,ep,h1,h2,h3,h4,zq h5,h6⟩
theorem xR {zs:List (List IK×Addr×V)} (ok:HOk X.prog X.w H s.heap) (e:H a=some (dB a zs)) (hk:∀ z∈zs,dL H (.ref z.2.1) (.inr z.1)):zs.length<=sizeLine/\(a == sysModules)=false/\∃ xs,ZX zs xs/\s.heap.DictOfH (mB X.prog X.w) a xs:=by
 obtain ⟨⟨z,y,xs,r,o,es,ep,h1,h2,h3,h4,h5⟩,_⟩:=(show bR X.prog X.w H s.heap a (dB a zs) from ok a _ e)
 refine ⟨z,y,xs,r,o,es,ep,h1,h2,h3,h4,?_,h5⟩
 have all:∀ {l:List (List IK×Addr×V)} {m:List (List IK×Addr×Value)},ZX l m->(∀ z∈l,dL H (.ref z.2.1) (.inr z.1))->∀ x∈m,(mB X.prog X.w).is s.heap x.1 x.2.1:=by
  intro l m q
  unfold ZX at q
  induction q with
  | nil=>intro _ x hx; exact nomatch hx
  | @cons p q ps qs hq t ih=>
   intro hk x hx
   rcases List.mem_cons.mp hx with e | hx
   ·subst e
    have:=hk p (List.mem_cons_self ..)
    rw [hq.1,hq.2.1] at this
    exact xP ok this
   ·exact ih (fun z hz=>hk z (List.mem_cons_of_mem _ hz)) x hx
 exact all r hk
theorem EB {Q:Value->Shared->Prop} (hu:A.units + 2 < cLine) (I:Inv X pins σ H s) (d:Dx H a srt f n) (hk:dL H y k) (hs:j7 k=srt) (ry:aE y u) (ev:f k=some v) (h:∀ w' s',Inv X pins σ H s'->aE v w'->Q w' s'):
  wpAny (model X.prog X.w) A (getItem (.ref a) u) Q E s:=by
 rcases d with ⟨rfl,kvs,e,hf,_⟩ | ⟨rfl,zs,e,hz,hf,_⟩
 ·cases k with
  | inr _=>cases hs
  | inl k=>
   obtain ⟨z,hd,vs,rel,dd⟩:=xQ I.hok e
   obtain ⟨w',hw,rw'⟩:=fq.some_of (v:=v) (o:=valueAt vs k) (by rw [<-ev,<-hf k]; exact rel.val k)
   exact wpAny_getItem_of (knd:=dz X.prog X.w) (sZ hk ry) dd.mapOf hw (h w' _ (I.tok _) rw')
 ·obtain ⟨c,ks,rfl,rfl⟩:=wI hk hs
  cases ry
  obtain ⟨z,hd,xs,rel,dd⟩:=xR I.hok e hz
  obtain ⟨w',hw,rw'⟩:=fq.some_of (v:=v) (o:=(atKey xs ks).map (·.2)) (by rw [<-ev,<-hf ks]; exact rel.val ks)
  obtain ⟨p,hp,hp2⟩:=Option.map_eq_some_iff.mp hw
  refine wpAny_getItem_heap (knd:=mB X.prog X.w) hu (xP I.hok hk) dd hp ?_
  rw [hp2]
  exact h w' _ (I.tok _) rw'
theorem oH {o:HO}:Off a H (upd H a o):=fun b hb=>aB hb
theorem Dz {h':Heap} {t':Nat} {kvs kvs':List (IA×V)} {vs':List (IA×Value)} (I:Inv X pins σ H s) (e:H a=some (dA a kvs)) (hs:Heap.SameBut a s.heap h') (z:kvs'.length<=sizeLine) (hd:(a == sysModules)=false) (rel:KV kvs' vs') (dd:h'.DictOf (dz X.prog X.w) a vs'):
  Inv X pins σ (upd H a (dA a kvs')) { s with heap:=h',toks:=t' }:=by
 have he:∃ q,h'.get? a=some q:=let ⟨q,_,_,hq,_⟩:=dd; ⟨q,hq⟩
 exact wu I (by rw [e]; exact True.intro) hs he (DA.ok ⟨z,hd,X.prog,X.w,vs',rel,dd⟩)
theorem DC {h':Heap} {t':Nat} {zs zs':List (List IK×Addr×V)} {xs':List (List IK×Addr×Value)} (I:Inv X pins σ H s) (e:H a=some (dB a zs)) (hs:Heap.SameBut a s.heap h') (z:zs'.length<=sizeLine) (hd:(a == sysModules)=false) (rel:ZX zs' xs') (dd:h'.DictOfH (mB X.prog X.w) a xs'):
  Inv X pins σ (upd H a (dB a zs')) { s with heap:=h',toks:=t' }:=by
 obtain ⟨o,es,ep,h1,h2,h3,h4,_,h5⟩:=dd
 exact wu I (by rw [e]; exact True.intro) hs ⟨o,h1⟩ (DB.ok ⟨z,hd,xs',rel,o,es,ep,h1,h2,h3,h4,h5⟩)
theorem Cd {kvs:List (IA×V)} {k:IA} (e:H a=some (dA a kvs)) (hf:∀ k,dY kvs k=f (.inl k)) (hn:kvs.length<=n):Dx (upd H a (dA a (hZ kvs k v))) a false (li f (.inl k) v) (n + 1):=by
 refine .inl ⟨rfl,_,ap,fun j=>?_,?_⟩
 ·rw [Aa]
  unfold li
  by_cases q:j=k
  ·rw [if_pos q,if_pos (by rw [q])]
  ·rw [if_neg q,if_neg (fun z=>q (Sum.inl.inj z)),hf j]
 ·have:=nN kvs k v; omega
theorem Ce {zs:List (List IK×Addr×V)} {k:List IK} {c:Addr} (e:H a=some (dB a zs)) (hz:∀ z∈zs,dL H (.ref z.2.1) (.inr z.1)) (hk:dL H (.ref c) (.inr k)) (hf:∀ k,atZ zs k=f (.inr k)) (hn:zs.length<=n):
  Dx (upd H a (dB a (jX zs k c v))) a true (li f (.inr k) v) (n + 1):=by
 have kp:fN H (upd H a (dB a (jX zs k c v))):=oH.keepD fun xs q=>by rw [e] at q; cases q
 refine .inr ⟨rfl,_,ap,fun z h=>?_,fun j=>?_,?_⟩
 ·rcases AN h with ⟨z0,h0,e1,e2⟩ | ⟨e1,e2⟩
  ·rw [e1,e2]; exact (hz z0 h0).keep kp
  ·rw [e1,e2]; exact hk.keep kp
 ·rw [Cb]
  unfold li
  by_cases q:j=k
  ·rw [if_pos q,if_pos (by rw [q])]
  ·rw [if_neg q,if_neg (fun z=>q (Sum.inr.inj z)),hf j]
 ·have:=nX zs k c v; omega
theorem p5 {d a:Addr} {knd:HeapKind X.prog X.w (List IK)} {xs:List (List IK×Addr×Value)} {k:List IK} {v:Value} {Q:Value->Shared->Prop} (hu:knd.room A) (hkey:knd.is s.heap k a) (hm:s.heap.DictOfH knd d xs)
  (h1:∀ p,atKey xs k=some p->Q p.2 { s with toks:=s.toks + knd.draws k })
  (h2:atKey xs k=none->∀ h',h'.DictOfH knd d (storedH xs k a v)->Heap.SameBut d s.heap h'->Q v { s with heap:=h',toks:=s.toks + knd.draws k })
  (hsz:xs.length<=sizeLine):wpAny (model X.prog X.w) A (dictSetDefault d (.ref a) v) Q E s:=by
 obtain ⟨o,es,ep,ho,hc,hd,he,his,hn⟩:=hm
 unfold dictSetDefault
 try with_reducible refine wpAny_holding ?_
 refine wpAny_bind (knd.pyHash hu hkey ?_)
 refine wpAny_bind (wpAny_dictFind_heap (s:={ s with toks:=s.toks + knd.draws k }) hu hkey ho hd he his hn ?_ ?_)
 ·intro hno
  have hnot:k∉xs.map (·.1):=not_mem_keys_of_get hno
  refine wpAny_bind (wpAny_rule (wpAny_bind (wpAny_updateDictKeys (hz:=by have e:=size_of_entries he; omega) (s:={ s with toks:=s.toks + knd.draws k }) ho hd (wpAny_pure (h2 (atKey_none_of_get hno) _ ⟨_,_,ep + 1,Heap.get?_update_self _ ho (Obj.isFreed_of_dict (Obj.data_mapDictKeys hd _)),
   hc.mapDictKeys _,Obj.data_mapDictKeys hd _,?_,?_,?_⟩ (Heap.SameBut.update ..))))))
  ·rw [storedH_new (atKey_none_of_get hno)]
   simp [he,entryOfKey]
  ·rw [storedH_new (atKey_none_of_get hno)]
   intro x hx
   rcases List.mem_append.mp hx with hx | hx
   ·exact knd.keeps (his x hx) ho hd (Heap.SameBut.update ..)
   ·simp only [List.mem_singleton] at hx
    subst hx
    exact knd.keeps hkey ho hd (Heap.SameBut.update ..)
  ·rw [storedH_new (atKey_none_of_get hno)]
   rw [List.map_append,List.nodup_append]
   refine ⟨hn,by simp,?_⟩
   intro x hx y hy
   simp only [List.map_cons,List.map_nil,List.mem_singleton] at hy
   subst hy
   exact fun e=>hnot (e ▸ hx)
 ·intro j p hj
  refine wpAny_bind (wpAny_dictEntries (s:={ s with toks:=s.toks + knd.draws k }) ho hd ?_)
  rw [entry_at he j,hj]
  exact wpAny_bind (wpAny_rule (wpAny_pure (h1 p (atKey_of_get hn hj))))
theorem kd {d:Addr} {key dflt:Value} {Q:Fin->Shared->Prop} (hT:s.TypeIs (.ref d) "dict") (hd:(d == sysModules)=false) (h:wpAny (model X.prog X.w) A (dictSetDefault d key dflt) (fun v s'=>Q (.done (.ret v)) s') E s):
  wpAny (model X.prog X.w) A (Builtin.«dict.setdefault» ⟨[.ref d,key,dflt],[]⟩) Q E s:=by
 unfold Builtin.«dict.setdefault»
 refine wpAny_bind ?_
 unfold Builtin.Dict.keyAndDefault
 refine wpAny_bind (wpAny_notOrdered_dict hT ?_)
 show wpAny _ _ (pure (d,key,some dflt)) _ _ s
 refine wpAny_pure ?_
 show wpAny _ _ (if (d == sysModules)=true then _ else (dictSetDefault d key dflt >>= _)) _ _ s
 rw [if_neg (by rw [hd]; exact Bool.false_ne_true)]
 exact wpAny_bind (wpAny_mono h (fun v s' q=>wpAny_pure q) fun _ _ x=>x)
theorem uW (I:Inv X pins σ H s) (d:Dx H a srt f n):s.TypeIs (.ref a) "dict"/\∀ b,Value.ref a=.ref b->∃ ob,s.heap.get? b=some ob/\ob.dict=none:=by
 rcases d with ⟨_,kvs,e,_,_⟩ | ⟨_,zs,e,hz,_,_⟩
 ·obtain ⟨_,_,vs,_,dd⟩:=xQ I.hok e
  refine ⟨dd.typeIs,fun b q=>?_⟩
  cases q
  obtain ⟨ob,_,_,h1,h2,_⟩:=dd
  exact ⟨ob,h1,h2.2.1⟩
 ·obtain ⟨_,_,xs,_,dd⟩:=xR I.hok e hz
  refine ⟨dd.typeIs,fun b q=>?_⟩
  cases q
  obtain ⟨ob,_,_,h1,h2,_⟩:=dd
  exact ⟨ob,h1,h2.2.1⟩
theorem DD {Q:Value->Shared->Prop} (hu:A.units + 2 < cLine) (I:Inv X pins σ H s) (d:Dx H a srt f n) (hk:dL H y k) (hs:j7 k=srt) (hn:n < sizeLine) (ry:aE y u) (rv:aE v r)
  (h1:∀ x w' s',f k=some x->aE x w'->Inv X pins σ H s'->Q w' s')
  (h2:f k=none->∀ H' s',Off a H H'->Dx H' a srt (li f k v) (n + 1)->Inv X pins σ H' s'->Q r s'):wpAny (model X.prog X.w) A (call (.builtin "dict.setdefault") [.ref a,u,r]) Q E s:=by
 have hT:=(uW I d).1
 refine wpAny_call_entry PySem.F.slot_dict_setdefault hT PySem.F.entry_dict_setdefault ?_ (PySem.F.args_dict_setdefault_3 _ _ _)
 rcases d with ⟨rfl,kvs,e,hf,hl⟩ | ⟨rfl,zs,e,hz,hf,hl⟩
 ·cases k with
  | inr _=>cases hs
  | inl k=>
   obtain ⟨z,hd,vs,rel,dd⟩:=xQ I.hok e
   have hvz:vs.length<=sizeLine:=by rw [<-rel.length]; exact z
   have hl':(hZ kvs k v).length<=sizeLine:=by have:=nN kvs k v; omega
   refine kd hT hd (kt_dictSetDefault_pairs (knd:=dz X.prog X.w) (hsz:=hvz) (sZ hk ry) dd (fun w' hw=>?_) fun hno h' dd' hs'=>?_)
   ·have q:=rel.val k
    rw [hf k,hw] at q
    cases ef:f (.inl k) with
    | none=>rw [ef] at q; exact (show False from q).elim
    | some x=>rw [ef] at q; exact ⟨w',rfl,h1 x w' _ ef q (I.tok _)⟩
   ·have q:=rel.val k
    rw [hf k,hno] at q
    have ef:f (.inl k)=none:=by
     cases ef:f (.inl k) with
     | none=>rfl
     | some x=>rw [ef] at q; exact (show False from q).elim
    exact ⟨r,rfl,h2 ef _ _ oH (Cd e hf hl) (Dz I e hs' hl' hd (rel.put k rv) dd')⟩
 ·obtain ⟨c,ks,rfl,rfl⟩:=wI hk hs
  cases ry
  obtain ⟨z,hd,xs,rel,dd⟩:=xR I.hok e hz
  have hvz:xs.length<=sizeLine:=by rw [<-rel.length]; exact z
  have hl':(jX zs ks c v).length<=sizeLine:=by have:=nX zs ks c v; omega
  refine kd hT hd (p5 (X:=X) (knd:=mB X.prog X.w) hu (xP I.hok hk) dd (fun p hp=>?_) (fun hno h' dd' hs'=>?_) hvz)
  ·have q:=rel.val ks
   rw [hf ks,hp] at q
   cases ef:f (.inr ks) with
   | none=>rw [ef] at q; exact (show False from q).elim
   | some x=>rw [ef] at q; exact ⟨p.2,rfl,h1 x p.2 _ ef q (I.tok _)⟩
  ·have q:=rel.val ks
   rw [hf ks,hno] at q
   have ef:f (.inr ks)=none:=by
    cases ef:f (.inr ks) with
    | none=>rfl
    | some x=>rw [ef] at q; exact (show False from q).elim
   exact ⟨r,rfl,h2 ef _ _ oH (Ce (c:=c) e hz hk hf hl) (DC I e hs' hl' hd (rel.put ks rv) dd')⟩
end
section
variable {X:Cx}
theorem Cf {o i:Expr} {pos:Pos} {td ty:TE} (hu:X.A.units + 64 < cLine) (ho:PE X o td) (hi:PE X i ty) (hs:Ab i):PE X (.Subscript o i pos) (tOp xm td ty):=by
 intro pins s σ H Q I h
 refine ww PySem.F.slot_dict_getitem.lookup hs (thn (ho pins s σ H _ I h) fun u s1 ⟨x,H1,I1,rx,q1⟩=>thn (hi pins s1 σ H1 _ I1 q1) fun iv s2 ⟨y,H2,I2,ry,a,srt,f,n,k,v,ex,d,hk,hs',ev,q2⟩=>?_)
 subst ex
 obtain rfl:u=Value.ref a:=rx
 exact ⟨(uW I2 d).1,EB (by omega) I2 d hk hs' ry ev fun w' s3 I3 rw'=>⟨v,H2,I3,rw',q2⟩⟩
theorem AQ {pos:Pos}:PE X (.Dict [] [] pos) tY:=fun pins s σ H Q I h=>by
 obtain ⟨srt,h⟩:=h
 have hd:(s.heap.objs.size == sysModules)=false:=beq_eq_false_iff_ne.mpr (Ne.symm (Nat.ne_of_lt I.big))
 have hp:=I.hok.fresh (Nat.le_refl s.heap.objs.size)
 cases srt with
 | false=>
  refine wpAny_Dict_empty ⟨.ref s.heap.objs.size,_,I.laid (a:=s.heap.objs.size) (o:=dA s.heap.objs.size []) (t':=s.toks) (fun _ _ q=>Heap.get?_push_of_some _ q) (Nat.le_refl _) (DA.ok ⟨Nat.zero_le _,hd,X.prog,X.w,[],.nil,Heap.DictOf.new s.heap⟩),rfl,?_⟩
  exact h _ _ hp (aR hp _) (.inl ⟨rfl,[],ap,fun _=>rfl,Nat.le_refl _⟩)
 | true=>
  refine wpAny_Dict_empty ⟨.ref s.heap.objs.size,_,I.laid (a:=s.heap.objs.size) (o:=dB s.heap.objs.size []) (t':=s.toks) (fun _ _ q=>Heap.get?_push_of_some _ q) (Nat.le_refl _) (DB.ok ⟨Nat.zero_le _,hd,[],.nil,_,#[],0,Heap.get?_push_size _ rfl,⟨rfl,rfl,rfl⟩,rfl,rfl,List.nodup_nil⟩),rfl,?_⟩
  exact h _ _ hp (aR hp _) (.inr ⟨rfl,[],ap,fun z hz=>(nomatch hz),fun _=>rfl,Nat.le_refl _⟩)
noncomputable def MtX (X:Cx) (id:String) (r:V->List V->Hp->VK->Prop):Prop:=
 ∀ (pins:List (Addr×Obj)) (s:Shared) (σ:St) (H:Hp) (x:V) (ys:List V) (u:Value) (us:List Value) (Q:VK),Inv X pins σ H s->aE x u->aD ys us->r x ys H Q->
  wpAny (model X.prog X.w) X.A (call (.builtin id) (u :: us)) (EP X pins σ Q) X.xe s
theorem qL (hu:X.A.units + 64 < cLine):MtX X "dict.setdefault" tZ:=by
 intro pins s σ H x ys u us Q I rx rys h
 obtain ⟨a,srt,f,n,k,y,v,rfl,rfl,d,hk,hs,hn,q1,q2⟩:=h
 cases rx
 cases rys with
 | cons r1 t1=>cases t1 with
  | cons r2 t2=>
   cases t2
   exact DD (by omega) I d hk hs hn r1 r2 (fun x w' s' ef rw' I'=>⟨x,H,I',rw',q1 x ef⟩) fun ef H' s' o' d' I'=>⟨v,H',I',r2,q2 ef H' o' d'⟩
theorem EC {o e:Expr} {es:List Expr} {name:Str} {id:String} {r:V->List V->Hp->VK->Prop} {to:TE} {t:TA} {apos cpos:Pos} (slot:Slot "dict" name id) (hty:typeOf (.builtin id)=pure (.type "method_descriptor")) (hm:MtX X id r) (ho:PE X o to) (ha:PA X (e :: es) t)
  (hbase:attributeBase o name X.env (eval o X.env)=eval o X.env:=by rfl)
  (hfew:((backTo cpos (starEach (e :: es) X.env)).all (fun x=>!x.1) && (backToKw cpos (keywordEach [] X.env)).all (fun x=>x.1.isSome)
   && decide ((e :: es).length + ([]:List Keyword).length + (if ([]:List Keyword).isEmpty then 0 else 1) < 30))=true:=by rfl)
  (hline:(apos.endLine == cpos.line)=true:=by rfl) (hs:starEach (e :: es) X.env=(false,eval e X.env) :: starEach es X.env:=by rfl) (hplain:(backTo cpos (starEach es X.env)).any (·.1)=false:=by rfl):
  PE X (.Call (.Attribute o name apos) (e :: es) [] cpos) (tXM r to t):=by
 intro pins s σ H Q I h
 refine wpAny_Call_method_late hbase hfew hline rfl (thn (ho pins s σ H _ I h) fun v s1 ⟨x,H1,I1,r1,⟨a,srt,f,n,ex,d⟩,q1⟩=>?_)
 subst ex
 obtain rfl:v=Value.ref a:=r1
 obtain ⟨h1,h2⟩:=uW I1 d
 refine ⟨"dict",id,PySem.F.plainAttrs_dict,slot,hty,h1,h2,?_⟩
 have hA:=ha cpos pins s1 σ H1 _ I1 q1
 rw [hs] at hA ⊢
 refine Calls.callWith_builtin (by show (false || (backTo cpos (starEach es X.env)).any (·.1))=false; rw [hplain] <;> rfl) (Calls.evalArgs_plain ?_)
 exact thn hA fun us s2 ⟨vs,H2,I2,r2,q2⟩=>hm pins s2 σ H2 (.ref a) vs (.ref a) us Q I2 rfl r2 q2
end
end L2
end
section
namespace L2
open PySem PySem.Spec PyProof.Rows PySem.Calls
section
variable {X:Cx}
theorem zr (bs:List Bool):(List.range bs.length).any (fun i=>bs.getD i false)=bs.any id:=by
 rw [Bool.eq_iff_iff,List.any_eq_true,List.any_eq_true]
 constructor
 ·rintro ⟨i,hi,h⟩
  have hl:=List.mem_range.mp hi
  rw [List.getD_eq_getElem?_getD,List.getElem?_eq_getElem hl] at h
  exact ⟨_,List.getElem_mem hl,h⟩
 ·rintro ⟨b,hb,h⟩
  obtain ⟨i,hi,rfl⟩:=List.getElem_of_mem hb
  refine ⟨i,List.mem_range.mpr hi,?_⟩
  rw [List.getD_eq_getElem?_getD,List.getElem?_eq_getElem hi]
  exact h
theorem zt (hc:X.calm=true):dF X (.builtin "any") (AE X.K):=by
 intro pins s σ H xs us Q I r h
 obtain ⟨p,bs,rfl,hq,q⟩:=h
 obtain ⟨u,rfl,rx⟩:=r.one
 cases rx
 obtain ⟨its,rv,pl,hz⟩:=I.list hq
 have e:=wp rv
 subst e
 refine call_any_walk (wpAny_pyIter_list pl.isList ⟨s.heap.objs.size,_,_,_,_,_,fun i=>bs.getD i false,rfl,Walks.list (show X.A.in1.handled=none from I.ok.hd hc) _ p (by obtain ⟨o,ho,_⟩:=pl.isList; exact Nat.ne_of_lt (Heap.lt_size ho)) (bs.map Value.bool).toArray,
  ⟨⟨_,Heap.get?_push_size _ rfl,rfl,rfl⟩,pl.isList.push _⟩,?_,fun h' tk hk=>?_⟩)
 ·intro i v s' Q' E' hP hQ
  have hP':(bs.map Value.bool)[i]?=some v:=by simpa using hP
  rw [List.getElem?_map] at hP'
  cases e:bs[i]? with
  | none=>rw [e] at hP'; cases hP'
  | some b=>
   rw [e] at hP'
   cases hP'
   have:bs.getD i false=b:=by rw [List.getD_eq_getElem?_getD,e]; rfl
   have hQ':Q' (bs.getD i false) s':=hQ
   rw [this] at hQ'
   exact wpAny_truthy_bool hQ'
 ·refine ⟨.bl (bs.any id),H,I.walked hk,?_,q⟩
  show Value.bool _=Value.bool _
  rw [<-zr]
  simp
end
end L2
end
section
namespace L2
open PySem PySem.Spec PyProof.Rows
section
variable {X:Cx}
end
end L2
end
namespace Kc_k61
open PySem L2 PyProof.Rows
noncomputable abbrev LL (Pt:Addr):Hp->Prop:=jW Pt ⟨14,27,14,51⟩ ((("how_sure":Str)++(".<locals>.":Str))++("<lambda>":Str))
seal L2.PE L2.PA L2.PS L2.PSs L2.PT L2.PW L2.PI L2.PG L2.PGs L2.PO L2.PTL L2.OpR L2.UnR L2.dF L2.SlR L2.IxR L2.EG
noncomputable def top (i:Nat):Stmt:=PySem.Challenge.pw_knowcards_k61_whole_sure_whoever_lies.main.body.getD i (.Pass ⟨0,0,0,0⟩)
noncomputable abbrev du:Stmt:=top 2
theorem vY:aA ["many","claims"] ["many","claims"] (aa du):=⟨rfl,rfl,rfl,by decide +kernel,rfl,by decide +kernel,by decide +kernel⟩
theorem uX:aj ["many","claims"] (aa du) 0 "many":=⟨rfl,by first | exact Or.inl rfl | exact Or.inr (Or.inl rfl) | exact Or.inr (Or.inr rfl),by decide,by decide⟩
noncomputable abbrev d7:Stmt:=top 3
theorem zu:aA ["many","claims","most"] ["many","claims","most"] (aa d7):=⟨rfl,rfl,rfl,by decide +kernel,rfl,by decide +kernel,by decide +kernel⟩
theorem xS:aj ["many","claims","most"] (aa d7) 0 "many":=⟨rfl,by first | exact Or.inl rfl | exact Or.inr (Or.inl rfl) | exact Or.inr (Or.inr rfl),by decide,by decide⟩
theorem xT:aj ["many","claims","most"] (aa d7) 1 "claims":=⟨rfl,by first | exact Or.inl rfl | exact Or.inr (Or.inl rfl) | exact Or.inr (Or.inr rfl),by decide,by decide⟩
noncomputable abbrev bI:Stmt:=top 4
theorem i7:aA ["many","claims","truths","liars","wrong","first"] ["many","claims","truths"] (aa bI):=⟨rfl,rfl,rfl,by decide +kernel,rfl,by decide +kernel,by decide +kernel⟩
theorem mQ:aj ["many","claims","truths","liars","wrong","first"] (aa bI) 0 "many":=⟨rfl,by first | exact Or.inl rfl | exact Or.inr (Or.inl rfl) | exact Or.inr (Or.inr rfl),by decide,by decide⟩
theorem uY:aj ["many","claims","truths","liars","wrong","first"] (aa bI) 1 "claims":=⟨rfl,by first | exact Or.inl rfl | exact Or.inr (Or.inl rfl) | exact Or.inr (Or.inr rfl),by decide,by decide⟩
theorem uZ:aj ["many","claims","truths","liars","wrong","first"] (aa bI) 3 "liars":=⟨rfl,by first | exact Or.inl rfl | exact Or.inr (Or.inl rfl) | exact Or.inr (Or.inr rfl),by decide,by decide⟩
theorem mR:aj ["many","claims","truths","liars","wrong","first"] (aa bI) 4 "wrong":=⟨rfl,by first | exact Or.inl rfl | exact Or.inr (Or.inl rfl) | exact Or.inr (Or.inr rfl),by decide,by decide⟩
theorem mS:aj ["many","claims","truths","liars","wrong","first"] (aa bI) 5 "first":=⟨rfl,by first | exact Or.inl rfl | exact Or.inr (Or.inl rfl) | exact Or.inr (Or.inr rfl),by decide,by decide⟩
noncomputable abbrev dP:Stmt:=top 12
theorem vZ:aA ["thing"] ["thing"] (aa dP):=⟨rfl,rfl,rfl,by decide +kernel,rfl,by decide +kernel,by decide +kernel⟩
theorem mT:aj ["thing"] (aa dP) 0 "thing":=⟨rfl,by first | exact Or.inl rfl | exact Or.inr (Or.inl rfl) | exact Or.inr (Or.inr rfl),by decide,by decide⟩
noncomputable abbrev cr:Stmt:=top 13
theorem va:aA ["thing","least","most"] ["thing","least","most"] (aa cr):=⟨rfl,rfl,rfl,by decide +kernel,rfl,by decide +kernel,by decide +kernel⟩
theorem lB:aj ["thing","least","most"] (aa cr) 0 "thing":=⟨rfl,by first | exact Or.inl rfl | exact Or.inr (Or.inl rfl) | exact Or.inr (Or.inr rfl),by decide,by decide⟩
theorem rZ:aj ["thing","least","most"] (aa cr) 1 "least":=⟨rfl,by first | exact Or.inl rfl | exact Or.inr (Or.inl rfl) | exact Or.inr (Or.inr rfl),by decide,by decide⟩
theorem r0:aj ["thing","least","most"] (aa cr) 2 "most":=⟨rfl,by first | exact Or.inl rfl | exact Or.inr (Or.inl rfl) | exact Or.inr (Or.inr rfl),by decide,by decide⟩
noncomputable abbrev dv:Stmt:=top 14
theorem v2:aA ["thing","bound"] ["thing","bound"] (aa dv):=⟨rfl,rfl,rfl,by decide +kernel,rfl,by decide +kernel,by decide +kernel⟩
theorem vb:aj ["thing","bound"] (aa dv) 0 "thing":=⟨rfl,by first | exact Or.inl rfl | exact Or.inr (Or.inl rfl) | exact Or.inr (Or.inr rfl),by decide,by decide⟩
theorem vc:aj ["thing","bound"] (aa dv) 1 "bound":=⟨rfl,by first | exact Or.inl rfl | exact Or.inr (Or.inl rfl) | exact Or.inr (Or.inr rfl),by decide,by decide⟩
noncomputable abbrev bY:Stmt:=top 15
theorem ir:aA ["thing","hands","least","hand"] ["thing","hands"] (aa bY):=⟨rfl,rfl,rfl,by decide +kernel,rfl,by decide +kernel,by decide +kernel⟩
theorem lC:aj ["thing","hands","least","hand"] (aa bY) 0 "thing":=⟨rfl,by first | exact Or.inl rfl | exact Or.inr (Or.inl rfl) | exact Or.inr (Or.inr rfl),by decide,by decide⟩
theorem r6:aj ["thing","hands","least","hand"] (aa bY) 1 "hands":=⟨rfl,by first | exact Or.inl rfl | exact Or.inr (Or.inl rfl) | exact Or.inr (Or.inr rfl),by decide,by decide⟩
theorem r9:aj ["thing","hands","least","hand"] (aa bY) 2 "least":=⟨rfl,by first | exact Or.inl rfl | exact Or.inr (Or.inl rfl) | exact Or.inr (Or.inr rfl),by decide,by decide⟩
theorem lD:aj ["thing","hands","least","hand"] (aa bY) 3 "hand":=⟨rfl,by first | exact Or.inl rfl | exact Or.inr (Or.inl rfl) | exact Or.inr (Or.inr rfl),by decide,by decide⟩
noncomputable abbrev dC:Stmt:=top 20
theorem xU:aA ["cards","sizes"] ["cards","sizes"] (aa dC):=⟨rfl,rfl,rfl,by decide +kernel,rfl,by decide +kernel,by decide +kernel⟩
theorem nY:aj ["cards","sizes"] (aa dC) 0 "cards":=⟨rfl,by first | exact Or.inl rfl | exact Or.inr (Or.inl rfl) | exact Or.inr (Or.inr rfl),by decide,by decide⟩
theorem i8:aj ["cards","sizes"] (aa dC) 1 "sizes":=⟨rfl,by first | exact Or.inl rfl | exact Or.inr (Or.inl rfl) | exact Or.inr (Or.inr rfl),by decide,by decide⟩
noncomputable abbrev ca:Stmt:=top 21
theorem fM:aA ["cards","sizes","many","left","size"] ["cards","sizes"] (aa ca):=⟨rfl,rfl,rfl,by decide +kernel,rfl,by decide +kernel,by decide +kernel⟩
theorem mU:aj ["cards","sizes","many","left","size"] (aa ca) 0 "cards":=⟨rfl,by first | exact Or.inl rfl | exact Or.inr (Or.inl rfl) | exact Or.inr (Or.inr rfl),by decide,by decide⟩
theorem mV:aj ["cards","sizes","many","left","size"] (aa ca) 1 "sizes":=⟨rfl,by first | exact Or.inl rfl | exact Or.inr (Or.inl rfl) | exact Or.inr (Or.inr rfl),by decide,by decide⟩
theorem mW:aj ["cards","sizes","many","left","size"] (aa ca) 2 "many":=⟨rfl,by first | exact Or.inl rfl | exact Or.inr (Or.inl rfl) | exact Or.inr (Or.inr rfl),by decide,by decide⟩
theorem mX:aj ["cards","sizes","many","left","size"] (aa ca) 3 "left":=⟨rfl,by first | exact Or.inl rfl | exact Or.inr (Or.inl rfl) | exact Or.inr (Or.inr rfl),by decide,by decide⟩
theorem mY:aj ["cards","sizes","many","left","size"] (aa ca) 4 "size":=⟨rfl,by first | exact Or.inl rfl | exact Or.inr (Or.inl rfl) | exact Or.inr (Or.inr rfl),by decide,by decide⟩
noncomputable abbrev cW:Stmt:=top 22
theorem jC:aA ["many","taken","ways","step"] ["many","taken"] (aa cW):=⟨rfl,rfl,rfl,by decide +kernel,rfl,by decide +kernel,by decide +kernel⟩
theorem v3:aj ["many","taken","ways","step"] (aa cW) 0 "many":=⟨rfl,by first | exact Or.inl rfl | exact Or.inr (Or.inl rfl) | exact Or.inr (Or.inr rfl),by decide,by decide⟩
theorem v4:aj ["many","taken","ways","step"] (aa cW) 1 "taken":=⟨rfl,by first | exact Or.inl rfl | exact Or.inr (Or.inl rfl) | exact Or.inr (Or.inr rfl),by decide,by decide⟩
theorem nZ:aj ["many","taken","ways","step"] (aa cW) 2 "ways":=⟨rfl,by first | exact Or.inl rfl | exact Or.inr (Or.inl rfl) | exact Or.inr (Or.inr rfl),by decide,by decide⟩
theorem n9:aj ["many","taken","ways","step"] (aa cW) 3 "step":=⟨rfl,by first | exact Or.inl rfl | exact Or.inr (Or.inl rfl) | exact Or.inr (Or.inr rfl),by decide,by decide⟩
noncomputable abbrev cA:Stmt:=top 23
theorem gy:aA ["cards","sizes","room","begun","card"] ["cards","sizes"] (aa cA):=⟨rfl,rfl,rfl,by decide +kernel,rfl,by decide +kernel,by decide +kernel⟩
theorem jY:aj ["cards","sizes","room","begun","card"] (aa cA) 0 "cards":=⟨rfl,by first | exact Or.inl rfl | exact Or.inr (Or.inl rfl) | exact Or.inr (Or.inr rfl),by decide,by decide⟩
theorem jZ:aj ["cards","sizes","room","begun","card"] (aa cA) 1 "sizes":=⟨rfl,by first | exact Or.inl rfl | exact Or.inr (Or.inl rfl) | exact Or.inr (Or.inr rfl),by decide,by decide⟩
theorem vd:aj ["cards","sizes","room","begun","card"] (aa cA) 2 "room":=⟨rfl,by first | exact Or.inl rfl | exact Or.inr (Or.inl rfl) | exact Or.inr (Or.inr rfl),by decide,by decide⟩
theorem mZ:aj ["cards","sizes","room","begun","card"] (aa cA) 3 "begun":=⟨rfl,by first | exact Or.inl rfl | exact Or.inr (Or.inl rfl) | exact Or.inr (Or.inr rfl),by decide,by decide⟩
noncomputable abbrev aV:Stmt:=top 24
theorem d8:aA ["begun","room","longer","deal","who","most"] ["begun","room"] (aa aV):=⟨rfl,rfl,rfl,by decide +kernel,rfl,by decide +kernel,by decide +kernel⟩
theorem nG:aj ["begun","room","longer","deal","who","most"] (aa aV) 0 "begun":=⟨rfl,by first | exact Or.inl rfl | exact Or.inr (Or.inl rfl) | exact Or.inr (Or.inr rfl),by decide,by decide⟩
theorem nH:aj ["begun","room","longer","deal","who","most"] (aa aV) 1 "room":=⟨rfl,by first | exact Or.inl rfl | exact Or.inr (Or.inl rfl) | exact Or.inr (Or.inr rfl),by decide,by decide⟩
theorem jn:aj ["begun","room","longer","deal","who","most"] (aa aV) 2 "longer":=⟨rfl,by first | exact Or.inl rfl | exact Or.inr (Or.inl rfl) | exact Or.inr (Or.inr rfl),by decide,by decide⟩
theorem jo:aj ["begun","room","longer","deal","who","most"] (aa aV) 3 "deal":=⟨rfl,by first | exact Or.inl rfl | exact Or.inr (Or.inl rfl) | exact Or.inr (Or.inr rfl),by decide,by decide⟩
theorem jp:aj ["begun","room","longer","deal","who","most"] (aa aV) 4 "who":=⟨rfl,by first | exact Or.inl rfl | exact Or.inr (Or.inl rfl) | exact Or.inr (Or.inr rfl),by decide,by decide⟩
theorem nI:aj ["begun","room","longer","deal","who","most"] (aa aV) 5 "most":=⟨rfl,by first | exact Or.inl rfl | exact Or.inr (Or.inl rfl) | exact Or.inr (Or.inr rfl),by decide,by decide⟩
noncomputable abbrev dw:Stmt:=top 25
theorem v5:aA ["deal","who"] ["deal","who"] (aa dw):=⟨rfl,rfl,rfl,by decide +kernel,rfl,by decide +kernel,by decide +kernel⟩
theorem ve:aj ["deal","who"] (aa dw) 0 "deal":=⟨rfl,by first | exact Or.inl rfl | exact Or.inr (Or.inl rfl) | exact Or.inr (Or.inr rfl),by decide,by decide⟩
noncomputable abbrev bF:Stmt:=top 29
theorem fU:aA ["cards","hands","thing","words","level"] ["cards","hands","thing"] (aa bF):=⟨rfl,rfl,rfl,by decide +kernel,rfl,by decide +kernel,by decide +kernel⟩
theorem sd:aj ["cards","hands","thing","words","level"] (aa bF) 0 "cards":=⟨rfl,by first | exact Or.inl rfl | exact Or.inr (Or.inl rfl) | exact Or.inr (Or.inr rfl),by decide,by decide⟩
theorem se:aj ["cards","hands","thing","words","level"] (aa bF) 1 "hands":=⟨rfl,by first | exact Or.inl rfl | exact Or.inr (Or.inl rfl) | exact Or.inr (Or.inr rfl),by decide,by decide⟩
theorem sf:aj ["cards","hands","thing","words","level"] (aa bF) 2 "thing":=⟨rfl,by first | exact Or.inl rfl | exact Or.inr (Or.inl rfl) | exact Or.inr (Or.inr rfl),by decide,by decide⟩
theorem lH:aj ["cards","hands","thing","words","level"] (aa bF) 3 "words":=⟨rfl,by first | exact Or.inl rfl | exact Or.inr (Or.inl rfl) | exact Or.inr (Or.inr rfl),by decide,by decide⟩
theorem gE:aj ["cards","hands","thing","words","level"] (aa bF) 4 "level":=⟨rfl,by first | exact Or.inl rfl | exact Or.inr (Or.inl rfl) | exact Or.inr (Or.inr rfl),by decide,by decide⟩
noncomputable abbrev dD:Stmt:=top 30
theorem p7:aA ["cards","hands","thing","form"] ["cards","hands","thing"] (aa dD):=⟨rfl,rfl,rfl,by decide +kernel,rfl,by decide +kernel,by decide +kernel⟩
theorem eY:aj ["cards","hands","thing","form"] (aa dD) 2 "thing":=⟨rfl,by first | exact Or.inl rfl | exact Or.inr (Or.inl rfl) | exact Or.inr (Or.inr rfl),by decide,by decide⟩
theorem og:aj ["cards","hands","thing","form"] (aa dD) 3 "form":=⟨rfl,by first | exact Or.inl rfl | exact Or.inr (Or.inl rfl) | exact Or.inr (Or.inr rfl),by decide,by decide⟩
noncomputable abbrev fD:Stmt:=top 31
theorem Cg:aA ["cards","hands","place","part"] ["cards","hands","place","part"] (aa fD):=⟨rfl,rfl,rfl,by decide +kernel,rfl,by decide +kernel,by decide +kernel⟩
theorem AR:aj ["cards","hands","place","part"] (aa fD) 0 "cards":=⟨rfl,by first | exact Or.inl rfl | exact Or.inr (Or.inl rfl) | exact Or.inr (Or.inr rfl),by decide,by decide⟩
theorem oI:aj ["cards","hands","place","part"] (aa fD) 1 "hands":=⟨rfl,by first | exact Or.inl rfl | exact Or.inr (Or.inl rfl) | exact Or.inr (Or.inr rfl),by decide,by decide⟩
theorem lw:aj ["cards","hands","place","part"] (aa fD) 2 "place":=⟨rfl,by first | exact Or.inl rfl | exact Or.inr (Or.inl rfl) | exact Or.inr (Or.inr rfl),by decide,by decide⟩
theorem lx:aj ["cards","hands","place","part"] (aa fD) 3 "part":=⟨rfl,by first | exact Or.inl rfl | exact Or.inr (Or.inl rfl) | exact Or.inr (Or.inr rfl),by decide,by decide⟩
noncomputable abbrev cT:Stmt:=top 32
theorem oh:aA ["saying","form"] ["saying"] (aa cT):=⟨rfl,rfl,rfl,by decide +kernel,rfl,by decide +kernel,by decide +kernel⟩
theorem m3:aj ["saying","form"] (aa cT) 0 "saying":=⟨rfl,by first | exact Or.inl rfl | exact Or.inr (Or.inl rfl) | exact Or.inr (Or.inr rfl),by decide,by decide⟩
theorem vf:aj ["saying","form"] (aa cT) 1 "form":=⟨rfl,by first | exact Or.inl rfl | exact Or.inr (Or.inl rfl) | exact Or.inr (Or.inr rfl),by decide,by decide⟩
noncomputable abbrev bD:Stmt:=top 33
theorem iu:aA ["sayings","parts","saying"] ["sayings"] (aa bD):=⟨rfl,rfl,rfl,by decide +kernel,rfl,by decide +kernel,by decide +kernel⟩
theorem oJ:aj ["sayings","parts","saying"] (aa bD) 0 "sayings":=⟨rfl,by first | exact Or.inl rfl | exact Or.inr (Or.inl rfl) | exact Or.inr (Or.inr rfl),by decide,by decide⟩
theorem j0:aj ["sayings","parts","saying"] (aa bD) 1 "parts":=⟨rfl,by first | exact Or.inl rfl | exact Or.inr (Or.inl rfl) | exact Or.inr (Or.inr rfl),by decide,by decide⟩
theorem oK:aj ["sayings","parts","saying"] (aa bD) 2 "saying":=⟨rfl,by first | exact Or.inl rfl | exact Or.inr (Or.inl rfl) | exact Or.inr (Or.inr rfl),by decide,by decide⟩
noncomputable abbrev cu:Stmt:=top 35
theorem sg:aA ["deals","hand"] ["deals","hand"] (aa cu):=⟨rfl,rfl,rfl,by decide +kernel,rfl,by decide +kernel,by decide +kernel⟩
theorem qM:aj ["deals","hand"] (aa cu) 0 "deals":=⟨rfl,by first | exact Or.inl rfl | exact Or.inr (Or.inl rfl) | exact Or.inr (Or.inr rfl),by decide,by decide⟩
noncomputable abbrev aS:Stmt:=top 37
theorem eU:aA ["marks","firsts","thing","mark"] ["marks"] (aa aS):=⟨rfl,rfl,rfl,by decide +kernel,rfl,by decide +kernel,by decide +kernel⟩
theorem iF:aj ["marks","firsts","thing","mark"] (aa aS) 0 "marks":=⟨rfl,by first | exact Or.inl rfl | exact Or.inr (Or.inl rfl) | exact Or.inr (Or.inr rfl),by decide,by decide⟩
theorem lT:aj ["marks","firsts","thing","mark"] (aa aS) 1 "firsts":=⟨rfl,by first | exact Or.inl rfl | exact Or.inr (Or.inl rfl) | exact Or.inr (Or.inr rfl),by decide,by decide⟩
theorem lU:aj ["marks","firsts","thing","mark"] (aa aS) 2 "thing":=⟨rfl,by first | exact Or.inl rfl | exact Or.inr (Or.inl rfl) | exact Or.inr (Or.inr rfl),by decide,by decide⟩
theorem lV:aj ["marks","firsts","thing","mark"] (aa aS) 3 "mark":=⟨rfl,by first | exact Or.inl rfl | exact Or.inr (Or.inl rfl) | exact Or.inr (Or.inr rfl),by decide,by decide⟩
noncomputable abbrev fV:Stmt:=top 38
theorem zv:aA ["many","views","points","view","thing","least"] ["many","views"] (aa fV):=⟨rfl,rfl,rfl,by decide +kernel,rfl,by decide +kernel,by decide +kernel⟩
noncomputable abbrev bf:Stmt:=top 42
theorem fW:aA ["deals","views","S","word","inner","some"] ["deals","views","S"] (aa bf):=⟨rfl,rfl,rfl,by decide +kernel,rfl,by decide +kernel,by decide +kernel⟩
theorem cB:aj ["deals","views","S","word","inner","some"] (aa bf) 0 "deals":=⟨rfl,by first | exact Or.inl rfl | exact Or.inr (Or.inl rfl) | exact Or.inr (Or.inr rfl),by decide,by decide⟩
theorem cX:aj ["deals","views","S","word","inner","some"] (aa bf) 1 "views":=⟨rfl,by first | exact Or.inl rfl | exact Or.inr (Or.inl rfl) | exact Or.inr (Or.inr rfl),by decide,by decide⟩
theorem bZ:aj ["deals","views","S","word","inner","some"] (aa bf) 2 "S":=⟨rfl,by first | exact Or.inl rfl | exact Or.inr (Or.inl rfl) | exact Or.inr (Or.inr rfl),by decide,by decide⟩
theorem dN:aj ["deals","views","S","word","inner","some"] (aa bf) 3 "word":=⟨rfl,by first | exact Or.inl rfl | exact Or.inr (Or.inl rfl) | exact Or.inr (Or.inr rfl),by decide,by decide⟩
theorem jk:aj ["deals","views","S","word","inner","some"] (aa bf) 4 "inner":=⟨rfl,by first | exact Or.inl rfl | exact Or.inr (Or.inl rfl) | exact Or.inr (Or.inr rfl),by decide,by decide⟩
theorem lL:aj ["deals","views","S","word","inner","some"] (aa bf) 5 "some":=⟨rfl,by first | exact Or.inl rfl | exact Or.inr (Or.inl rfl) | exact Or.inr (Or.inr rfl),by decide,by decide⟩
noncomputable abbrev fX:Stmt:=top 43
theorem Ch:aA ["ones","others"] ["ones","others"] (aa fX):=⟨rfl,rfl,rfl,by decide +kernel,rfl,by decide +kernel,by decide +kernel⟩
theorem AS:aj ["ones","others"] (aa fX) 0 "ones":=⟨rfl,by first | exact Or.inl rfl | exact Or.inr (Or.inl rfl) | exact Or.inr (Or.inr rfl),by decide,by decide⟩
theorem AT:aj ["ones","others"] (aa fX) 1 "others":=⟨rfl,by first | exact Or.inl rfl | exact Or.inr (Or.inl rfl) | exact Or.inr (Or.inr rfl),by decide,by decide⟩
noncomputable abbrev d9:Stmt:=top 44
theorem zw:aA ["ones","others"] ["ones","others"] (aa d9):=⟨rfl,rfl,rfl,by decide +kernel,rfl,by decide +kernel,by decide +kernel⟩
theorem xV:aj ["ones","others"] (aa d9) 0 "ones":=⟨rfl,by first | exact Or.inl rfl | exact Or.inr (Or.inl rfl) | exact Or.inr (Or.inr rfl),by decide,by decide⟩
theorem xW:aj ["ones","others"] (aa d9) 1 "others":=⟨rfl,by first | exact Or.inl rfl | exact Or.inr (Or.inl rfl) | exact Or.inr (Or.inr rfl),by decide,by decide⟩
noncomputable abbrev gW:Stmt:=top 45
theorem AU:aA ["view","truths","sure","least","truth"] ["view","truths"] (aa gW):=⟨rfl,rfl,rfl,by decide +kernel,rfl,by decide +kernel,by decide +kernel⟩
noncomputable abbrev cL:Stmt:=top 46
theorem p8:aA ["views","truths","answers","view"] ["views","truths"] (aa cL):=⟨rfl,rfl,rfl,by decide +kernel,rfl,by decide +kernel,by decide +kernel⟩
noncomputable abbrev jf:Stmt:=top 47
theorem Ci:aA ["piles","view"] ["piles","view"] (aa jf):=⟨rfl,rfl,rfl,by decide +kernel,rfl,by decide +kernel,by decide +kernel⟩
noncomputable abbrev cx:Stmt:=top 52
theorem iw:aA ["_law_script","_law_k","_law_number"] ["_law_script","_law_k"] (aa cx):=⟨rfl,rfl,rfl,by decide +kernel,rfl,by decide +kernel,by decide +kernel⟩
theorem fE:aj ["_law_script","_law_k","_law_number"] (aa cx) 0 "_law_script":=⟨rfl,by first | exact Or.inl rfl | exact Or.inr (Or.inl rfl) | exact Or.inr (Or.inr rfl),by decide,by decide⟩
theorem fF:aj ["_law_script","_law_k","_law_number"] (aa cx) 1 "_law_k":=⟨rfl,by first | exact Or.inl rfl | exact Or.inr (Or.inl rfl) | exact Or.inr (Or.inr rfl),by decide,by decide⟩
theorem gF:aj ["_law_script","_law_k","_law_number"] (aa cx) 2 "_law_number":=⟨rfl,by first | exact Or.inl rfl | exact Or.inr (Or.inl rfl) | exact Or.inr (Or.inr rfl),by decide,by decide⟩
noncomputable abbrev bW:Stmt:=top 53
theorem jl:aA ["_law_cell_here","_law_k","_law_number"] ["_law_cell_here","_law_k"] (aa bW):=⟨rfl,rfl,rfl,by decide +kernel,rfl,by decide +kernel,by decide +kernel⟩
theorem qN:aj ["_law_cell_here","_law_k","_law_number"] (aa bW) 0 "_law_cell_here":=⟨rfl,by first | exact Or.inl rfl | exact Or.inr (Or.inl rfl) | exact Or.inr (Or.inr rfl),by decide,by decide⟩
theorem qO:aj ["_law_cell_here","_law_k","_law_number"] (aa bW) 1 "_law_k":=⟨rfl,by first | exact Or.inl rfl | exact Or.inr (Or.inl rfl) | exact Or.inr (Or.inr rfl),by decide,by decide⟩
theorem gk:aj ["_law_cell_here","_law_k","_law_number"] (aa bW) 2 "_law_number":=⟨rfl,by first | exact Or.inl rfl | exact Or.inr (Or.inl rfl) | exact Or.inr (Or.inr rfl),by decide,by decide⟩
noncomputable abbrev cN:Stmt:=top 54
theorem iy:aA ["_law_cell_here","_law_some"] ["_law_cell_here"] (aa cN):=⟨rfl,rfl,rfl,by decide +kernel,rfl,by decide +kernel,by decide +kernel⟩
theorem sh:aj ["_law_cell_here","_law_some"] (aa cN) 0 "_law_cell_here":=⟨rfl,by first | exact Or.inl rfl | exact Or.inr (Or.inl rfl) | exact Or.inr (Or.inr rfl),by decide,by decide⟩
theorem jm:aj ["_law_cell_here","_law_some"] (aa cN) 1 "_law_some":=⟨rfl,by first | exact Or.inl rfl | exact Or.inr (Or.inl rfl) | exact Or.inr (Or.inr rfl),by decide,by decide⟩
noncomputable abbrev bh:Stmt:=top 55
theorem gl:aA ["_law_cell_here","_law_k","_law_cards","_law_hands","_law_deep","_law_number","_law_one"] ["_law_cell_here","_law_k","_law_cards","_law_hands","_law_deep"] (aa bh):=⟨rfl,rfl,rfl,by decide +kernel,rfl,by decide +kernel,by decide +kernel⟩
theorem iz:aj ["_law_cell_here","_law_k","_law_cards","_law_hands","_law_deep","_law_number","_law_one"] (aa bh) 0 "_law_cell_here":=⟨rfl,by first | exact Or.inl rfl | exact Or.inr (Or.inl rfl) | exact Or.inr (Or.inr rfl),by decide,by decide⟩
theorem iA:aj ["_law_cell_here","_law_k","_law_cards","_law_hands","_law_deep","_law_number","_law_one"] (aa bh) 1 "_law_k":=⟨rfl,by first | exact Or.inl rfl | exact Or.inr (Or.inl rfl) | exact Or.inr (Or.inr rfl),by decide,by decide⟩
theorem iB:aj ["_law_cell_here","_law_k","_law_cards","_law_hands","_law_deep","_law_number","_law_one"] (aa bh) 2 "_law_cards":=⟨rfl,by first | exact Or.inl rfl | exact Or.inr (Or.inl rfl) | exact Or.inr (Or.inr rfl),by decide,by decide⟩
theorem iC:aj ["_law_cell_here","_law_k","_law_cards","_law_hands","_law_deep","_law_number","_law_one"] (aa bh) 3 "_law_hands":=⟨rfl,by first | exact Or.inl rfl | exact Or.inr (Or.inl rfl) | exact Or.inr (Or.inr rfl),by decide,by decide⟩
theorem iE:aj ["_law_cell_here","_law_k","_law_cards","_law_hands","_law_deep","_law_number","_law_one"] (aa bh) 4 "_law_deep":=⟨rfl,by first | exact Or.inl rfl | exact Or.inr (Or.inl rfl) | exact Or.inr (Or.inr rfl),by decide,by decide⟩
theorem eV:aj ["_law_cell_here","_law_k","_law_cards","_law_hands","_law_deep","_law_number","_law_one"] (aa bh) 5 "_law_number":=⟨rfl,by first | exact Or.inl rfl | exact Or.inr (Or.inl rfl) | exact Or.inr (Or.inr rfl),by decide,by decide⟩
theorem ke:aj ["_law_cell_here","_law_k","_law_cards","_law_hands","_law_deep","_law_number","_law_one"] (aa bh) 6 "_law_one":=⟨rfl,by first | exact Or.inl rfl | exact Or.inr (Or.inl rfl) | exact Or.inr (Or.inr rfl),by decide,by decide⟩
noncomputable abbrev bE:Stmt:=top 56
theorem fG:aA ["_law_claims","_law_deal","_law_found","_law_hand","_law_truths"] ["_law_claims","_law_deal"] (aa bE):=⟨rfl,rfl,rfl,by decide +kernel,rfl,by decide +kernel,by decide +kernel⟩
theorem qP:aj ["_law_claims","_law_deal","_law_found","_law_hand","_law_truths"] (aa bE) 0 "_law_claims":=⟨rfl,by first | exact Or.inl rfl | exact Or.inr (Or.inl rfl) | exact Or.inr (Or.inr rfl),by decide,by decide⟩
theorem qQ:aj ["_law_claims","_law_deal","_law_found","_law_hand","_law_truths"] (aa bE) 1 "_law_deal":=⟨rfl,by first | exact Or.inl rfl | exact Or.inr (Or.inl rfl) | exact Or.inr (Or.inr rfl),by decide,by decide⟩
theorem kQ:aj ["_law_claims","_law_deal","_law_found","_law_hand","_law_truths"] (aa bE) 2 "_law_found":=⟨rfl,by first | exact Or.inl rfl | exact Or.inr (Or.inl rfl) | exact Or.inr (Or.inr rfl),by decide,by decide⟩
theorem qR:aj ["_law_claims","_law_deal","_law_found","_law_hand","_law_truths"] (aa bE) 3 "_law_hand":=⟨rfl,by first | exact Or.inl rfl | exact Or.inr (Or.inl rfl) | exact Or.inr (Or.inr rfl),by decide,by decide⟩
theorem qS:aj ["_law_claims","_law_deal","_law_found","_law_hand","_law_truths"] (aa bE) 4 "_law_truths":=⟨rfl,by first | exact Or.inl rfl | exact Or.inr (Or.inl rfl) | exact Or.inr (Or.inr rfl),by decide,by decide⟩
noncomputable abbrev bO:Stmt:=top 57
theorem j3:aA ["_law_hands","_law_most","_law_found","_law_bits"] ["_law_hands","_law_most"] (aa bO):=⟨rfl,rfl,rfl,by decide +kernel,rfl,by decide +kernel,by decide +kernel⟩
theorem lN:aj ["_law_hands","_law_most","_law_found","_law_bits"] (aa bO) 0 "_law_hands":=⟨rfl,by first | exact Or.inl rfl | exact Or.inr (Or.inl rfl) | exact Or.inr (Or.inr rfl),by decide,by decide⟩
theorem si:aj ["_law_hands","_law_most","_law_found","_law_bits"] (aa bO) 1 "_law_most":=⟨rfl,by first | exact Or.inl rfl | exact Or.inr (Or.inl rfl) | exact Or.inr (Or.inr rfl),by decide,by decide⟩
theorem lP:aj ["_law_hands","_law_most","_law_found","_law_bits"] (aa bO) 2 "_law_found":=⟨rfl,by first | exact Or.inl rfl | exact Or.inr (Or.inl rfl) | exact Or.inr (Or.inr rfl),by decide,by decide⟩
theorem sj:aj ["_law_hands","_law_most","_law_found","_law_bits"] (aa bO) 3 "_law_bits":=⟨rfl,by first | exact Or.inl rfl | exact Or.inr (Or.inl rfl) | exact Or.inr (Or.inr rfl),by decide,by decide⟩
noncomputable abbrev aW:Stmt:=top 58
theorem jg:aA ["_law_lying_here","_law_most","_law_hands","_law_some"] ["_law_lying_here","_law_most","_law_hands"] (aa aW):=⟨rfl,rfl,rfl,by decide +kernel,rfl,by decide +kernel,by decide +kernel⟩
theorem lW:aj ["_law_lying_here","_law_most","_law_hands","_law_some"] (aa aW) 0 "_law_lying_here":=⟨rfl,by first | exact Or.inl rfl | exact Or.inr (Or.inl rfl) | exact Or.inr (Or.inr rfl),by decide,by decide⟩
theorem lX:aj ["_law_lying_here","_law_most","_law_hands","_law_some"] (aa aW) 1 "_law_most":=⟨rfl,by first | exact Or.inl rfl | exact Or.inr (Or.inl rfl) | exact Or.inr (Or.inr rfl),by decide,by decide⟩
theorem lY:aj ["_law_lying_here","_law_most","_law_hands","_law_some"] (aa aW) 2 "_law_hands":=⟨rfl,by first | exact Or.inl rfl | exact Or.inr (Or.inl rfl) | exact Or.inr (Or.inr rfl),by decide,by decide⟩
noncomputable abbrev bp:Stmt:=top 59
theorem gG:aA ["_law_found","_law_lying_here","_law_truths","_law_hands","_law_number","_law_deal","_law_at"] ["_law_found","_law_lying_here","_law_truths","_law_hands"] (aa bp):=⟨rfl,rfl,rfl,by decide +kernel,rfl,by decide +kernel,by decide +kernel⟩
theorem kR:aj ["_law_found","_law_lying_here","_law_truths","_law_hands","_law_number","_law_deal","_law_at"] (aa bp) 0 "_law_found":=⟨rfl,by first | exact Or.inl rfl | exact Or.inr (Or.inl rfl) | exact Or.inr (Or.inr rfl),by decide,by decide⟩
theorem iQ:aj ["_law_found","_law_lying_here","_law_truths","_law_hands","_law_number","_law_deal","_law_at"] (aa bp) 1 "_law_lying_here":=⟨rfl,by first | exact Or.inl rfl | exact Or.inr (Or.inl rfl) | exact Or.inr (Or.inr rfl),by decide,by decide⟩
theorem iR:aj ["_law_found","_law_lying_here","_law_truths","_law_hands","_law_number","_law_deal","_law_at"] (aa bp) 2 "_law_truths":=⟨rfl,by first | exact Or.inl rfl | exact Or.inr (Or.inl rfl) | exact Or.inr (Or.inr rfl),by decide,by decide⟩
theorem gm:aj ["_law_found","_law_lying_here","_law_truths","_law_hands","_law_number","_law_deal","_law_at"] (aa bp) 3 "_law_hands":=⟨rfl,by first | exact Or.inl rfl | exact Or.inr (Or.inl rfl) | exact Or.inr (Or.inr rfl),by decide,by decide⟩
theorem fo:aj ["_law_found","_law_lying_here","_law_truths","_law_hands","_law_number","_law_deal","_law_at"] (aa bp) 4 "_law_number":=⟨rfl,by first | exact Or.inl rfl | exact Or.inr (Or.inl rfl) | exact Or.inr (Or.inr rfl),by decide,by decide⟩
theorem iS:aj ["_law_found","_law_lying_here","_law_truths","_law_hands","_law_number","_law_deal","_law_at"] (aa bp) 5 "_law_deal":=⟨rfl,by first | exact Or.inl rfl | exact Or.inr (Or.inl rfl) | exact Or.inr (Or.inr rfl),by decide,by decide⟩
theorem qT:aj ["_law_found","_law_lying_here","_law_truths","_law_hands","_law_number","_law_deal","_law_at"] (aa bp) 6 "_law_at":=⟨rfl,by first | exact Or.inl rfl | exact Or.inr (Or.inl rfl) | exact Or.inr (Or.inr rfl),by decide,by decide⟩
noncomputable abbrev bP:Stmt:=top 60
theorem p9:aA ["_law_one","_law_other"] ["_law_one","_law_other"] (aa bP):=⟨rfl,rfl,rfl,by decide +kernel,rfl,by decide +kernel,by decide +kernel⟩
theorem gJ:aj ["_law_one","_law_other"] (aa bP) 0 "_law_one":=⟨rfl,by first | exact Or.inl rfl | exact Or.inr (Or.inl rfl) | exact Or.inr (Or.inr rfl),by decide,by decide⟩
theorem gK:aj ["_law_one","_law_other"] (aa bP) 1 "_law_other":=⟨rfl,by first | exact Or.inl rfl | exact Or.inr (Or.inl rfl) | exact Or.inr (Or.inr rfl),by decide,by decide⟩
noncomputable abbrev bU:Stmt:=top 61
theorem dE:aA ["_law_script","_law_cards","_law_sizes","_law_hands","_law_table","_law_many","_law_claims","_law_k","_law_cell_here","_law_truths","_law_lying_here","_law_found","_law_most","_law_more","_law_silent"] ["_law_script"] (aa bU):=⟨rfl,rfl,rfl,by decide +kernel,rfl,by decide +kernel,by decide +kernel⟩
theorem jI:aj ["_law_script","_law_cards","_law_sizes","_law_hands","_law_table","_law_many","_law_claims","_law_k","_law_cell_here","_law_truths","_law_lying_here","_law_found","_law_most","_law_more","_law_silent"] (aa bU) 0 "_law_script":=⟨rfl,by first | exact Or.inl rfl | exact Or.inr (Or.inl rfl) | exact Or.inr (Or.inr rfl),by decide,by decide⟩
theorem nw:aj ["_law_script","_law_cards","_law_sizes","_law_hands","_law_table","_law_many","_law_claims","_law_k","_law_cell_here","_law_truths","_law_lying_here","_law_found","_law_most","_law_more","_law_silent"] (aa bU) 1 "_law_cards":=⟨rfl,by first | exact Or.inl rfl | exact Or.inr (Or.inl rfl) | exact Or.inr (Or.inr rfl),by decide,by decide⟩
theorem wJ:aj ["_law_script","_law_cards","_law_sizes","_law_hands","_law_table","_law_many","_law_claims","_law_k","_law_cell_here","_law_truths","_law_lying_here","_law_found","_law_most","_law_more","_law_silent"] (aa bU) 2 "_law_sizes":=⟨rfl,by first | exact Or.inl rfl | exact Or.inr (Or.inl rfl) | exact Or.inr (Or.inr rfl),by decide,by decide⟩
theorem gn:aj ["_law_script","_law_cards","_law_sizes","_law_hands","_law_table","_law_many","_law_claims","_law_k","_law_cell_here","_law_truths","_law_lying_here","_law_found","_law_most","_law_more","_law_silent"] (aa bU) 3 "_law_hands":=⟨rfl,by first | exact Or.inl rfl | exact Or.inr (Or.inl rfl) | exact Or.inr (Or.inr rfl),by decide,by decide⟩
theorem ny:aj ["_law_script","_law_cards","_law_sizes","_law_hands","_law_table","_law_many","_law_claims","_law_k","_law_cell_here","_law_truths","_law_lying_here","_law_found","_law_most","_law_more","_law_silent"] (aa bU) 4 "_law_table":=⟨rfl,by first | exact Or.inl rfl | exact Or.inr (Or.inl rfl) | exact Or.inr (Or.inr rfl),by decide,by decide⟩
theorem kS:aj ["_law_script","_law_cards","_law_sizes","_law_hands","_law_table","_law_many","_law_claims","_law_k","_law_cell_here","_law_truths","_law_lying_here","_law_found","_law_most","_law_more","_law_silent"] (aa bU) 5 "_law_many":=⟨rfl,by first | exact Or.inl rfl | exact Or.inr (Or.inl rfl) | exact Or.inr (Or.inr rfl),by decide,by decide⟩
theorem iT:aj ["_law_script","_law_cards","_law_sizes","_law_hands","_law_table","_law_many","_law_claims","_law_k","_law_cell_here","_law_truths","_law_lying_here","_law_found","_law_most","_law_more","_law_silent"] (aa bU) 6 "_law_claims":=⟨rfl,by first | exact Or.inl rfl | exact Or.inr (Or.inl rfl) | exact Or.inr (Or.inr rfl),by decide,by decide⟩
theorem Cj:aj ["_law_script","_law_cards","_law_sizes","_law_hands","_law_table","_law_many","_law_claims","_law_k","_law_cell_here","_law_truths","_law_lying_here","_law_found","_law_most","_law_more","_law_silent"] (aa bU) 7 "_law_k":=⟨rfl,by first | exact Or.inl rfl | exact Or.inr (Or.inl rfl) | exact Or.inr (Or.inr rfl),by decide,by decide⟩
theorem nA:aj ["_law_script","_law_cards","_law_sizes","_law_hands","_law_table","_law_many","_law_claims","_law_k","_law_cell_here","_law_truths","_law_lying_here","_law_found","_law_most","_law_more","_law_silent"] (aa bU) 8 "_law_cell_here":=⟨rfl,by first | exact Or.inl rfl | exact Or.inr (Or.inl rfl) | exact Or.inr (Or.inr rfl),by decide,by decide⟩
theorem kT:aj ["_law_script","_law_cards","_law_sizes","_law_hands","_law_table","_law_many","_law_claims","_law_k","_law_cell_here","_law_truths","_law_lying_here","_law_found","_law_most","_law_more","_law_silent"] (aa bU) 9 "_law_truths":=⟨rfl,by first | exact Or.inl rfl | exact Or.inr (Or.inl rfl) | exact Or.inr (Or.inr rfl),by decide,by decide⟩
theorem vg:aj ["_law_script","_law_cards","_law_sizes","_law_hands","_law_table","_law_many","_law_claims","_law_k","_law_cell_here","_law_truths","_law_lying_here","_law_found","_law_most","_law_more","_law_silent"] (aa bU) 10 "_law_lying_here":=⟨rfl,by first | exact Or.inl rfl | exact Or.inr (Or.inl rfl) | exact Or.inr (Or.inr rfl),by decide,by decide⟩
theorem j4:aj ["_law_script","_law_cards","_law_sizes","_law_hands","_law_table","_law_many","_law_claims","_law_k","_law_cell_here","_law_truths","_law_lying_here","_law_found","_law_most","_law_more","_law_silent"] (aa bU) 11 "_law_found":=⟨rfl,by first | exact Or.inl rfl | exact Or.inr (Or.inl rfl) | exact Or.inr (Or.inr rfl),by decide,by decide⟩
theorem vh:aj ["_law_script","_law_cards","_law_sizes","_law_hands","_law_table","_law_many","_law_claims","_law_k","_law_cell_here","_law_truths","_law_lying_here","_law_found","_law_most","_law_more","_law_silent"] (aa bU) 12 "_law_most":=⟨rfl,by first | exact Or.inl rfl | exact Or.inr (Or.inl rfl) | exact Or.inr (Or.inr rfl),by decide,by decide⟩
theorem AV:aj ["_law_script","_law_cards","_law_sizes","_law_hands","_law_table","_law_many","_law_claims","_law_k","_law_cell_here","_law_truths","_law_lying_here","_law_found","_law_most","_law_more","_law_silent"] (aa bU) 13 "_law_more":=⟨rfl,by first | exact Or.inl rfl | exact Or.inr (Or.inl rfl) | exact Or.inr (Or.inr rfl),by decide,by decide⟩
theorem vi:aj ["_law_script","_law_cards","_law_sizes","_law_hands","_law_table","_law_many","_law_claims","_law_k","_law_cell_here","_law_truths","_law_lying_here","_law_found","_law_most","_law_more","_law_silent"] (aa bU) 14 "_law_silent":=⟨rfl,by first | exact Or.inl rfl | exact Or.inr (Or.inl rfl) | exact Or.inr (Or.inr rfl),by decide,by decide⟩
noncomputable abbrev bL:Stmt:=qk (top 49) 0
theorem sk:aA ["self","cards","sizes"] ["self","cards","sizes"] (aa bL):=⟨rfl,rfl,rfl,by decide +kernel,rfl,by decide +kernel,by decide +kernel⟩
theorem dj:aj ["self","cards","sizes"] (aa bL) 0 "self":=⟨rfl,by first | exact Or.inl rfl | exact Or.inr (Or.inl rfl) | exact Or.inr (Or.inr rfl),by decide,by decide⟩
theorem kU:aj ["self","cards","sizes"] (aa bL) 1 "cards":=⟨rfl,by first | exact Or.inl rfl | exact Or.inr (Or.inl rfl) | exact Or.inr (Or.inr rfl),by decide,by decide⟩
theorem iU:aj ["self","cards","sizes"] (aa bL) 2 "sizes":=⟨rfl,by first | exact Or.inl rfl | exact Or.inr (Or.inl rfl) | exact Or.inr (Or.inr rfl),by decide,by decide⟩
noncomputable abbrev cC:Stmt:=qk (top 49) 1
theorem qU:aA ["self"] ["self"] (aa cC):=⟨rfl,rfl,rfl,by decide +kernel,rfl,by decide +kernel,by decide +kernel⟩
theorem qa:aj ["self"] (aa cC) 0 "self":=⟨rfl,by first | exact Or.inl rfl | exact Or.inr (Or.inl rfl) | exact Or.inr (Or.inr rfl),by decide,by decide⟩
noncomputable abbrev bQ:Stmt:=qk (top 49) 5
theorem qb:aA ["self","S"] ["self","S"] (aa bQ):=⟨rfl,rfl,rfl,by decide +kernel,rfl,by decide +kernel,by decide +kernel⟩
theorem fA:aj ["self","S"] (aa bQ) 0 "self":=⟨rfl,by first | exact Or.inl rfl | exact Or.inr (Or.inl rfl) | exact Or.inr (Or.inr rfl),by decide,by decide⟩
theorem j5:aj ["self","S"] (aa bQ) 1 "S":=⟨rfl,by first | exact Or.inl rfl | exact Or.inr (Or.inl rfl) | exact Or.inr (Or.inr rfl),by decide,by decide⟩
section
variable {P:Program} {w:World} {K:PySem.W.Frag} {mg:Str->Option Value} {base:Heap}
theorem v6 {f:Addr} {fd:FuncData} (D:Def K mg "liars_of" du ["many","claims"] f fd) (B:Blt mg) (m_set:mg "set"=none):FnB P w K mg base 1 "liars_of" ["many","claims"] (dR K):=by
 refine D.ok vY (fun vs H Q E h=>uB h) (fun cdv A outer s H vs Q E hr h=>?_)
 have hu:=hr.units0
 have hux:=hr.units64
 exact ⟨jw K,(ak (ar (uU (sc:=(aa du)) (NX:=["many","claims"]) (N:=["deal","claims"]) (ix:=[none,some 1]) (own:="deal") rfl (by refine ⟨rfl,?_,rfl,fun _ _=>rfl,fun _=>rfl,?_,?_,?_,rfl,?_⟩ <;> decide +kernel) (cU rfl B.range (ad (pvQ uX rfl rfl) ae)) (by intros; exact (ax (i:=0) (show (["deal","claims"]:List Str).Nodup by decide +kernel) rfl (Or.inr rfl) (hf:=.inl zn))) (by intros; exact cI) (by intros; exact (aO zm rfl B.len boot_len (bu (ja (zk rfl) rfl m_set boot_set (cQ (cj (sc:=_) (hsc:=rfl) (NX:=["deal","claims"]) (N:=["hand","truths","deal"]) (ix:=[none,none,some 0]) rfl (by refine ⟨rfl,?_,?_,?_,?_,rfl,?_⟩ <;> first | decide +kernel | exact mP (by decide +kernel)) (de (pv 1)) (by intros; exact (fC rfl (bn (ax (i:=0) (show (["hand","truths","deal"]:List Str).Nodup by decide +kernel) rfl (Or.inl rfl)) (bn (ax (i:=1) (show (["hand","truths","deal"]:List Str).Nodup by decide +kernel) rfl (Or.inl rfl)) eg)))) (by intros; exact (iK (da (cG (be ci (pv 1) (pv 2) (fun _ _=>rfl)))))) (by intros; exact (pv 0))) ae)) ae)))))),vQ h⟩
theorem zx {f:Addr} {fd:FuncData} (D:Def K mg "may_be" d7 ["many","claims","most"] f fd) (B:Blt mg) (F_liars_of:FnB P w K mg base 1 "liars_of" ["many","claims"] (dR K)):FnB P w K mg base 2 "may_be" ["many","claims","most"] (gR K):=by
 refine D.ok zu (fun vs H Q E h=>xA h) (fun cdv A outer s H vs Q E hr h=>?_)
 have hu:=hr.units0
 have hux:=hr.units64
 exact ⟨lq K,(ak (ar (cj (sc:=(aa d7)) (NX:=["many","claims","most"]) (N:=["deal","liars","most"]) (ix:=[none,none,some 2]) rfl (by refine ⟨rfl,?_,?_,?_,?_,rfl,?_⟩ <;> decide +kernel) (nj eW rfl B.enumerate (by decide) (bu (ao F_liars_of (hr.mono (by decide)) (ad (pvQ xS rfl rfl) (ad (pvQ xT rfl rfl) ae))) ae)) (by intros; exact (fC rfl (bn (ax (i:=0) (show (["deal","liars","most"]:List Str).Nodup by decide +kernel) rfl (Or.inl rfl)) (bn (ax (i:=1) (show (["deal","liars","most"]:List Str).Nodup by decide +kernel) rfl (Or.inl rfl)) eg)))) (by intros; exact (iK (aK oO (pv 1) (pv 2) (aM _)))) (by intros; exact (pv 0))))),yZ h⟩
theorem v7 {f:Addr} {fd:FuncData} (D:Def K mg "how_sure" bI ["many","claims","truths"] f fd) (B:Blt mg) {Pt:Addr} {ct0:Addr} (hfc:fd.code=.ref ct0) (hC:PySem.W.codeHdIn K ct0 Pt=true) (bm:BM base mg) (F_liars_of:FnB P w K mg base 1 "liars_of" ["many","claims"] (dR K)):FnB P w K mg base 2 "how_sure" ["many","claims","truths"] (dS K (LL Pt)):=by
 refine D.okC i7 (fun vs H Q E h=>uE h) (fun cdv A outer s H vs Q E hcd hr h=>?_)
 have hu:=hr.units0
 have hux:=hr.units64
 exact ⟨jx K (LL Pt),(ah (aJ (i:=3) i7.nd rfl (Or.inr rfl) (ao F_liars_of (hr.mono (by decide)) (ad (pvQ mQ rfl rfl) (ad (pvQ uY rfl rfl) ae))))
  (ah (ju (i:=4) i7.nd rfl rfl (sc:=(aa bI)) (NX:=["many","claims","truths","liars","wrong","first"]) (N:=["deal","truths"]) (ix:=[none,some 2]) rfl (by refine ⟨rfl,?_,?_,?_,?_,rfl,?_⟩ <;> decide +kernel) (cU rfl B.range (ad (pvQ mQ rfl rfl) ae)) (by intros; exact (ax (i:=0) (show (["deal","truths"]:List Str).Nodup by decide +kernel) rfl (Or.inl rfl))) (by intros; exact (iK (da (cG (be ci (pv 1) (pv 0) (fun _ _=>rfl)))))) (by intros; exact (pv 0)))
  (ah (bc (aK dn (aO bj rfl B.len boot_len (ad (pvQ mR rfl rfl) ae)) ag (aM _)) (ak (ar jJ)) aI)
  (ah (aJ (i:=5) i7.nd rfl (Or.inl rfl) (B7 (j:=3) (x:="deal") (y:="liars") rfl B.min hr.depth (hcd.trans hfc) hC bm ⟨fun _ _ _ _ _ _ _=>rfl,rfl,rfl,rfl,by decide +kernel,rfl,rfl,rfl,AL (sc:=(aa bI)) rfl (by decide +kernel),rfl⟩ (B6 rfl rfl rfl) AK (ad (pvQ mR rfl rfl) ae)))
  (ak (ar (bS (bi (au i9 (be ci (pvQ uZ rfl rfl) (pvQ mS rfl rfl) (fun _ _=>rfl)) ag) (ad (pvQ mS rfl rfl) ae))))))))),vR (fun _ _ l s=>l.same s) h⟩
theorem v9 {f:Addr} {fd:FuncData} (D:Def K mg "is_whole" dP ["thing"] f fd) (B:Blt mg):FnB P w K mg base 1 "is_whole" ["thing"] (dr K):=by
 refine D.ok vZ (fun vs H Q E h=>uk h) (fun cdv A outer s H vs Q E hr h=>?_)
 have hu:=hr.units0
 have hux:=hr.units64
 exact ⟨pz K,(ak (ar (lZ (aO iL rfl B.isinstance boot_isinstance (ad (pvQ mT rfl rfl) (ad (jD (v:=.ty "int") rfl B.int boot_int rfl) ae))) (kr (yd (aO iL rfl B.isinstance boot_isinstance (ad (pvQ mT rfl rfl) (ad (jD (v:=.ty "bool") rfl B.bool boot_bool rfl) ae)))))))),vJ h⟩
theorem vj {f:Addr} {fd:FuncData} (D:Def K mg "is_within" cr ["thing","least","most"] f fd) (B:Blt mg) (F_is_whole:FnB P w K mg base 1 "is_whole" ["thing"] (dr K)):FnB P w K mg base 2 "is_within" ["thing","least","most"] (bJ K):=by
 refine D.ok va (fun vs H Q E h=>rL h) (fun cdv A outer s H vs Q E hr h=>?_)
 have hu:=hr.units0
 have hux:=hr.units64
 exact ⟨nR K,(ak (ar (lZ (ao F_is_whole (hr.mono (by decide)) (ad (pvQ lB rfl rfl) ae)) (kr (zJ oO oO (pvQ rZ rfl rfl) (pvQ lB rfl rfl) (pvQ r0 rfl rfl)))))),ul h⟩
theorem wa {f:Addr} {fd:FuncData} (D:Def K mg "is_below" dv ["thing","bound"] f fd) (B:Blt mg) (F_is_within:FnB P w K mg base 2 "is_within" ["thing","least","most"] (bJ K)):FnB P w K mg base 3 "is_below" ["thing","bound"] (dU K):=by
 refine D.ok v2 (fun vs H Q E h=>uH h) (fun cdv A outer s H vs Q E hr h=>?_)
 have hu:=hr.units0
 have hux:=hr.units64
 exact ⟨jy K,(ak (ar (ao F_is_within (hr.mono (by decide)) (ad (pvQ vb rfl rfl) (af ag (bi (au i9 (pvQ vc rfl rfl) ag) ae)))))),vT h⟩
theorem vk {f:Addr} {fd:FuncData} (D:Def K mg "are_hands" bY ["thing","hands"] f fd) (B:Blt mg) (F_is_within:FnB P w K mg base 2 "is_within" ["thing","least","most"] (bJ K)):FnB P w K mg base 3 "are_hands" ["thing","hands"] (fk K):=by
 refine D.ok ir (fun vs H Q E h=>rQ h) (fun cdv A outer s H vs Q E hr h=>?_)
 have hu:=hr.units0
 have hux:=hr.units64
 exact ⟨iZ K,(ah (bc (da (cG (aO iL rfl B.isinstance boot_isinstance (ad (pvQ lC rfl rfl) (ad (jD (v:=.ty "tuple") rfl B.tuple boot_tuple rfl) ae))))) (ak (ar dm)) aI)
  (ah (aJ (i:=2) ir.nd rfl (Or.inl rfl) ag)
  (ah (ff PassesOwn.never rfl (yg (pvQ lC rfl rfl)) (ax (i:=3) ir.nd rfl (Or.inl rfl)) (ah (bc (da (cG (ao F_is_within (hr.mono (by decide)) (ad (pvQ lD rfl rfl) (ad (pvQ r9 rfl rfl) (bi (au i9 (pvQ r6 rfl rfl) ag) ae)))))) (ak (ar dm)) aI)
  (ak (aJ (i:=2) ir.nd rfl (Or.inl rfl) (au cO (pvQ lD rfl rfl) ag)))))
  (ak (ar dm))))),uI h⟩
theorem xX {f:Addr} {fd:FuncData} (D:Def K mg "is_pack" dC ["cards","sizes"] f fd) (B:Blt mg) {t_MOST_CARDS:Tok} (m_MOST_CARDS:mg "MOST_CARDS"=some (.int 12 t_MOST_CARDS)) {t_MOST_HANDS:Tok} (m_MOST_HANDS:mg "MOST_HANDS"=some (.int 5 t_MOST_HANDS)) (F_is_within:FnB P w K mg base 2 "is_within" ["thing","least","most"] (bJ K)):FnB P w K mg base 3 "is_pack" ["cards","sizes"] (gb K):=by
 refine D.ok xU (fun vs H Q E h=>vK h) (fun cdv A outer s H vs Q E hr h=>?_)
 have hu:=hr.units0
 have hux:=hr.units64
 exact ⟨rA K,(ah (bc (da (cG (ao F_is_within (hr.mono (by decide)) (ad (pvQ nY rfl rfl) (af ag (ad (iI (v:=(.int 12)) rfl m_MOST_CARDS ⟨_,rfl⟩) ae)))))) (ak (ar dm)) aI)
  (ah (bc (PW.pt (iW (da (cG (aO iL rfl B.isinstance boot_isinstance (ad (pvQ i8 rfl rfl) (ad (jD (v:=.ty "list") rfl B.list boot_list rfl) ae))))) (gY (da (cG (ao F_is_within (hr.mono (by decide)) (bu (aO bj rfl B.len boot_len (ad (pvQ i8 rfl rfl) ae)) (af ag (ad (iI (v:=(.int 5)) rfl m_MOST_HANDS ⟨_,rfl⟩) ae))))))))) (ak (ar dm)) aI)
  (ak (ar (lZ (aO (mx rfl) rfl B.all boot_all (cQ (cj (sc:=(aa dC)) (NX:=["cards","sizes"]) (N:=["size","cards"]) (ix:=[none,some 0]) rfl (by refine ⟨rfl,?_,?_,?_,?_,rfl,?_⟩ <;> decide +kernel) (de (pvQ i8 rfl rfl)) (by intros; exact (ax (i:=0) (show (["size","cards"]:List Str).Nodup by decide +kernel) rfl (Or.inl rfl))) (by intros; exact cI) (by intros; exact (ao F_is_within (hr.mono (by decide)) (ad (pv 0) (af ag (ad (pv 1) ae)))))) ae)) (kr (gM oO (aO (my rfl) rfl B.sum boot_sum (ad (pvQ i8 rfl rfl) ae)) (pvQ nY rfl rfl) (aM _)))))))),xr h⟩
theorem wb {f:Addr} {fd:FuncData} (D:Def K mg "how_many" ca ["cards","sizes"] f fd) (B:Blt mg) (F_choices:FnB P w K mg base 1 "choices" ["many","taken"] (gc K)) (F_is_pack:FnB P w K mg base 3 "is_pack" ["cards","sizes"] (gb K)):FnB P w K mg base 4 "how_many" ["cards","sizes"] (fI K):=by
 refine D.ok fM (fun vs H Q E h=>uo h) (fun cdv A outer s H vs Q E hr h=>?_)
 have hu:=hr.units0
 have hux:=hr.units64
 exact ⟨pE K,(ah (bc (da (cG (ao F_is_pack (hr.mono (by decide)) (ad (pvQ mU rfl rfl) (ad (pvQ mV rfl rfl) ae))))) (ak oj) aI)
  (ah (aJ (i:=2) fM.nd rfl (Or.inl rfl) ag)
  (ah (aJ (i:=3) fM.nd rfl (Or.inl rfl) (pvQ mU rfl rfl))
  (ah (ff PassesOwn.never rfl (de (pvQ mV rfl rfl)) (ax (i:=4) fM.nd rfl (Or.inl rfl)) (ah (aJ (i:=2) fM.nd rfl (Or.inl rfl) (au dG (pvQ mW rfl rfl) (ao F_choices (hr.mono (by decide)) (ad (pvQ mX rfl rfl) (ad (pvQ mY rfl rfl) ae)))))
  (ak (aJ (i:=3) fM.nd rfl (Or.inl rfl) (au i9 (pvQ mX rfl rfl) (pvQ mY rfl rfl))))))
  (ak (ar (pvQ mW rfl rfl))))))),vM h⟩
theorem xY {f:Addr} {fd:FuncData} (D:Def K mg "choices" cW ["many","taken"] f fd) (B:Blt mg):FnB P w K mg base 1 "choices" ["many","taken"] (gc K):=by
 refine D.ok jC (fun vs H Q E h=>vL h) (fun cdv A outer s H vs Q E hr h=>?_)
 have hu:=hr.units0
 have hux:=hr.units64
 exact ⟨rB K,(ah (aJ (i:=2) jC.nd rfl (Or.inl rfl) ag)
  (ah (ff PassesOwn.never rfl (cU rfl B.range (ad (pvQ v4 rfl rfl) ae)) (ax (i:=3) jC.nd rfl (Or.inl rfl)) (ak (aJ (i:=2) jC.nd rfl (Or.inl rfl) (au kA (au dG (pvQ nZ rfl rfl) (au i9 (pvQ v3 rfl rfl) (pvQ n9 rfl rfl))) (au cO (pvQ n9 rfl rfl) ag)))))
  (ak (ar (pvQ nZ rfl rfl))))),xt h⟩
theorem wc {f:Addr} {fd:FuncData} (D:Def K mg "deals_of" cA ["cards","sizes"] f fd) (B:Blt mg) {t_MOST_DEALS:Tok} (m_MOST_DEALS:mg "MOST_DEALS"=some (.int 2000 t_MOST_DEALS)) (F_how_many:FnB P w K mg base 4 "how_many" ["cards","sizes"] (fI K)) (F_with_one_more:FnB P w K mg base 1 "with_one_more" ["begun","room"] (di K)):FnB P w K mg base 5 "deals_of" ["cards","sizes"] (fJ K):=by
 refine D.ok gy (fun vs H Q E h=>uq h) (fun cdv A outer s H vs Q E hr h=>?_)
 have hu:=hr.units0
 have hux:=hr.units64
 exact ⟨pF K,(ah (bc (aK sx (ao F_how_many (hr.mono (by decide)) (ad (pvQ jY rfl rfl) (ad (pvQ jZ rfl rfl) ae))) (iI (v:=(.int 2000)) rfl m_MOST_DEALS ⟨_,rfl⟩) (aM _)) (ak oj) aI)
  (ah (aJ (i:=2) gy.nd rfl (Or.inl rfl) (au yt (pvQ jZ rfl rfl) (tD (bi (au i9 (pvQ jY rfl rfl) (aO (my rfl) rfl B.sum boot_sum (ad (pvQ jZ rfl rfl) ae))) ae))))
  (ah (aJ (i:=3) gy.nd rfl (Or.inl rfl) (tD (bq (yn ae) ae)))
  (ah (ff PassesOwn.never rfl (cU rfl B.range (ad (pvQ jY rfl rfl) ae)) (ax (i:=4) gy.nd rfl (Or.inl rfl)) (ak (aJ (i:=3) gy.nd rfl (Or.inl rfl) (ao F_with_one_more (hr.mono (by decide)) (ad (pvQ mZ rfl rfl) (ad (pvQ vd rfl rfl) ae))))))
  (ak (ar (pvQ mZ rfl rfl))))))),vN h⟩
theorem oM {f:Addr} {fd:FuncData} (D:Def K mg "with_one_more" aV ["begun","room"] f fd) (B:Blt mg):FnB P w K mg base 1 "with_one_more" ["begun","room"] (di K):=by
 refine D.ok d8 (fun vs H Q E h=>nE h) (fun cdv A outer s H vs Q E hr h=>?_)
 have hu:=hr.units0
 have hux:=hr.units64
 exact ⟨kb K,(ah (aJ (i:=2) d8.nd rfl (Or.inl rfl) (tD ae))
  (ah (ff PassesOwn.never rfl (de (pvQ nG rfl rfl)) (ax (i:=3) d8.nd rfl (Or.inl rfl)) (ak (ff PassesOwn.never rfl (nj eW rfl B.enumerate (by decide) (ad (pvQ nH rfl rfl) ae)) (fC rfl (bn (ax (i:=4) d8.nd rfl (Or.inl rfl)) (bn (ax (i:=5) d8.nd rfl (Or.inl rfl)) eg))) (ak (bc (aK AY (DL PySem.F.plainAttrs_tuple PySem.F.slot_tuple_count PySem.F.type_tuple_count yz (pvQ jo rfl rfl) (ad (pvQ jp rfl rfl) ae)) (pvQ nI rfl rfl) (aM _)) (ak (kt (sS PySem.F.plainAttrs_list PySem.F.slot_list_append PySem.F.type_list_append jb (pvQ jn rfl rfl) (bi (au By (pvQ jo rfl rfl) (yn (ad (pvQ jp rfl rfl) ae))) ae)))) aI)))))
  (ak (ar (pvQ jn rfl rfl))))),ou h⟩
theorem wd {f:Addr} {fd:FuncData} (D:Def K mg "cards_of" dw ["deal","who"] f fd) (B:Blt mg):FnB P w K mg base 1 "cards_of" ["deal","who"] (dQ K):=by
 refine D.ok v5 (fun vs H Q E h=>ur h) (fun cdv A outer s H vs Q E hr h=>?_)
 have hu:=hr.units0
 have hux:=hr.units64
 exact ⟨pG K,(ak (ar (ja rK rfl B.tuple boot_tuple (cQ (cj (sc:=(aa dw)) (NX:=["deal","who"]) (N:=["card","holder","who"]) (ix:=[none,none,some 1]) rfl (by refine ⟨rfl,?_,?_,?_,?_,rfl,?_⟩ <;> decide +kernel) (nj gI rfl B.enumerate (by decide) (ad (pvQ ve rfl rfl) ae)) (by intros; exact (fC rfl (bn (ax (i:=0) (show (["card","holder","who"]:List Str).Nodup by decide +kernel) rfl (Or.inl rfl)) (bn (ax (i:=1) (show (["card","holder","who"]:List Str).Nodup by decide +kernel) rfl (Or.inl rfl)) eg)))) (by intros; exact (iK (aK dn (pv 1) (pv 2) (aM _)))) (by intros; exact (pv 0))) ae)))),vO h⟩
theorem vm {f:Addr} {fd:FuncData} (D:Def K mg "is_saying" bF ["cards","hands","thing"] f fd) (B:Blt mg) {t_MOST_WORDS:Tok} (m_MOST_WORDS:mg "MOST_WORDS"=some (.int 30 t_MOST_WORDS)) (F_is_whole:FnB P w K mg base 1 "is_whole" ["thing"] (dr K)) (F_is_word:FnB P w K mg base 5 "is_word" ["cards","hands","thing"] (ge K)) (F_parts_of_all:FnB P w K mg base 2 "parts_of_all" ["sayings"] (dH K)):FnB P w K mg base 6 "is_saying" ["cards","hands","thing"] (fm K):=by
 refine D.ok fU (fun vs H Q E h=>rR h) (fun cdv A outer s H vs Q E hr h=>?_)
 have hu:=hr.units0
 have hux:=hr.units64
 exact ⟨i0 K,(ah (bc (PW.pt (iW (da (cG (ao F_is_whole (hr.mono (by decide)) (ad (pvQ sd rfl rfl) ae)))) (gY (da (cG (ao F_is_whole (hr.mono (by decide)) (ad (pvQ se rfl rfl) ae))))))) (ak (ar dm)) aI)
  (ah (aJ (i:=3) fU.nd rfl (Or.inl rfl) ag)
  (ah (aJ (i:=4) fU.nd rfl (Or.inl rfl) (bv (ad (pvQ sf rfl rfl) ae)))
  (ah (zF PassesOwn.never (aK sx (aO bj rfl B.len boot_len (ad (pvQ gE rfl rfl) ae)) ag (aM _)) (ah (aJ (i:=3) fU.nd rfl (Or.inl rfl) (au cO (pvQ lH rfl rfl) (aO bj rfl B.len boot_len (ad (pvQ gE rfl rfl) ae))))
  (ah (bc (PW.pt (iW (aK sx (pvQ lH rfl rfl) (iI (v:=(.int 30)) rfl m_MOST_WORDS ⟨_,rfl⟩) (aM _)) (gY (da (cG (aO (mx rfl) rfl B.all boot_all (cQ (cj (sc:=(aa bF)) (NX:=["cards","hands","thing","words","level"]) (N:=["one","cards","hands"]) (ix:=[none,some 0,some 1]) rfl (by refine ⟨rfl,?_,?_,?_,?_,rfl,?_⟩ <;> decide +kernel) (de (pvQ gE rfl rfl)) (by intros; exact (ax (i:=0) (show (["one","cards","hands"]:List Str).Nodup by decide +kernel) rfl (Or.inl rfl))) (by intros; exact cI) (by intros; exact (ao F_is_word (hr.mono (by decide)) (ad (pv 1) (ad (pv 2) (ad (pv 0) ae)))))) ae))))))) (ak (ar dm)) aI)
  (ak (aJ (i:=4) fU.nd rfl (Or.inl rfl) (ao F_parts_of_all (hr.mono (by decide)) (ad (pvQ gE rfl rfl) ae)))))))
  (ak (ar dm)))))),uK h⟩
theorem xZ {f:Addr} {fd:FuncData} (D:Def K mg "is_word" dD ["cards","hands","thing"] f fd) (B:Blt mg) {G:GF} (T:ic P w K mg G) (F_fits:FnB P w K mg base 4 "fits" ["cards","hands","place","part"] (jG K)):FnB P w K mg base 5 "is_word" ["cards","hands","thing"] (ge K):=by
 refine D.ok p7 (fun vs H Q E h=>vU h) (fun cdv A outer s H vs Q E hr h=>?_)
 have hu:=hr.units0
 have hux:=hr.units64
 have m_FORMS:=T.tb.mf
 have d_FORMS:=T.tb.df
 exact ⟨kc K G.toGlo,(ah (bc (PW.pt (iW (da (cG (aO iL rfl B.isinstance boot_isinstance (ad (pvQ eY rfl rfl) (ad (jD (v:=.ty "tuple") rfl B.tuple boot_tuple rfl) ae))))) (gY (aK dn (aO bj rfl B.len boot_len (ad (pvQ eY rfl rfl) ae)) ag (aM _))))) (ak (ar dm)) aI)
  (ah (bc (PW.pt (iW (da (cG (aO iL rfl B.isinstance boot_isinstance (bg (be bV (pvQ eY rfl rfl) ag (fun _ _=>rfl)) (ad (jD (v:=.ty "str") rfl B.str boot_str rfl) ae))))) (gY (aK (uv d_FORMS) (be bV (pvQ eY rfl rfl) ag (fun _ _=>rfl)) (iI (v:=(.ref G.forms)) rfl m_FORMS rfl) rfl)))) (ak (ar dm)) aI)
  (ah (aJ (i:=3) p7.nd rfl (Or.inl rfl) (yU d_FORMS (iI (v:=(.ref G.forms)) rfl m_FORMS rfl) (be bV (pvQ eY rfl rfl) ag (fun _ _=>rfl)) (fun _ _=>rfl)))
  (ah (bc (aK DJ (aO bj rfl B.len boot_len (ad (pvQ eY rfl rfl) ae)) (au cO ag (aO bj rfl B.len boot_len (ad (pvQ og rfl rfl) ae))) (aM _)) (ak (ar dm)) aI)
  (ak (ar (aO (mx rfl) rfl B.all boot_all (cQ (cj (sc:=(aa dD)) (NX:=["cards","hands","thing","form"]) (N:=["place","part","cards","hands"]) (ix:=[none,none,some 0,some 1]) rfl (by refine ⟨rfl,?_,?_,?_,?_,rfl,?_⟩ <;> decide +kernel) (oZ gI gI rfl B.zip (ad (pvQ og rfl rfl) (bg (tH yT (pvQ eY rfl rfl) (wo ag) wn) ae))) (by intros; exact (fC rfl (bn (ax (i:=0) (show (["place","part","cards","hands"]:List Str).Nodup by decide +kernel) rfl (Or.inl rfl)) (bn (ax (i:=1) (show (["place","part","cards","hands"]:List Str).Nodup by decide +kernel) rfl (Or.inl rfl)) eg)))) (by intros; exact cI) (by intros; exact (ao F_fits (hr.mono (by decide)) (ad (pv 2) (ad (pv 3) (ad (pv 0) (ad (pv 1) ae))))))) ae)))))))),xG T.tb.ok h⟩
theorem Ck {f:Addr} {fd:FuncData} (D:Def K mg "fits" fD ["cards","hands","place","part"] f fd) (B:Blt mg) (F_are_hands:FnB P w K mg base 3 "are_hands" ["thing","hands"] (fk K)) (F_is_below:FnB P w K mg base 3 "is_below" ["thing","bound"] (dU K)):FnB P w K mg base 4 "fits" ["cards","hands","place","part"] (jG K):=by
 refine D.ok Cg (fun vs H Q E h=>Au h) (fun cdv A outer s H vs Q E hr h=>?_)
 have hu:=hr.units0
 have hux:=hr.units64
 exact ⟨pP K,(ah (bc (aK dn (pvQ lw rfl rfl) dO (aM _)) (ak (ar (ao F_is_below (hr.mono (by decide)) (ad (pvQ lx rfl rfl) (bi (au cO (pvQ oI rfl rfl) ag) ae))))) aI)
  (ah (bc (aK dn (pvQ lw rfl rfl) dO (aM _)) (ak (ar (ao F_is_below (hr.mono (by decide)) (ad (pvQ lx rfl rfl) (ad (pvQ AR rfl rfl) ae))))) aI)
  (ah (bc (aK dn (pvQ lw rfl rfl) dO (aM _)) (ak (ar (ao F_is_below (hr.mono (by decide)) (ad (pvQ lx rfl rfl) (ad (pvQ oI rfl rfl) ae))))) aI)
  (ah (bc (aK dn (pvQ lw rfl rfl) dO (aM _)) (ak (ar (ao F_are_hands (hr.mono (by decide)) (ad (pvQ lx rfl rfl) (ad (pvQ oI rfl rfl) ae))))) aI)
  (ak (ar dm)))))),BQ h⟩
theorem we {f:Addr} {fd:FuncData} (D:Def K mg "parts_of" cT ["saying"] f fd) (B:Blt mg) {G:GF} (T:ic P w K mg G):FnB P w K mg base 1 "parts_of" ["saying"] (fL K):=by
 refine D.ok oh (fun vs H Q E h=>uJ h) (fun cdv A outer s H vs Q E hr h=>?_)
 have hu:=hr.units0
 have hux:=hr.units64
 have m_FORMS:=T.tb.mf
 have d_FORMS:=T.tb.df
 exact ⟨jz K G.toGlo,(ah (aJ (i:=1) oh.nd rfl (Or.inl rfl) (yU d_FORMS (iI (v:=(.ref G.forms)) rfl m_FORMS rfl) (be bV (pvQ m3 rfl rfl) ag (fun _ _=>rfl)) (fun _ _=>rfl)))
  (ak (ar (cj (sc:=(aa cT)) (NX:=["saying","form"]) (N:=["place","part"]) (ix:=[none,none]) rfl (by refine ⟨rfl,?_,?_,?_,?_,rfl,?_⟩ <;> decide +kernel) (oZ gI gI rfl B.zip (ad (pvQ vf rfl rfl) (bg (tH yT (pvQ m3 rfl rfl) (wo ag) wn) ae))) (by intros; exact (fC rfl (bn (ax (i:=0) (show (["place","part"]:List Str).Nodup by decide +kernel) rfl (Or.inl rfl)) (bn (ax (i:=1) (show (["place","part"]:List Str).Nodup by decide +kernel) rfl (Or.inl rfl)) eg)))) (by intros; exact (iK (aK dn (pv 0) dO (aM _)))) (by intros; exact (pv 1)))))),vV T.tb.ok h⟩
theorem qc {f:Addr} {fd:FuncData} (D:Def K mg "parts_of_all" bD ["sayings"] f fd) (B:Blt mg) (F_parts_of:FnB P w K mg base 1 "parts_of" ["saying"] (fL K)):FnB P w K mg base 2 "parts_of_all" ["sayings"] (dH K):=by
 refine D.ok iu (fun vs H Q E h=>oB h) (fun cdv A outer s H vs Q E hr h=>?_)
 have hu:=hr.units0
 have hux:=hr.units64
 exact ⟨gf K,(ah (aJ (i:=1) iu.nd rfl (Or.inl rfl) (bv ae))
  (ah (ff PassesOwn.never rfl (de (pvQ oJ rfl rfl)) (ax (i:=2) iu.nd rfl (Or.inl rfl)) (ak (kt (sS PySem.F.plainAttrs_list PySem.F.slot_list_extend PySem.F.type_list_extend yr (pvQ j0 rfl rfl) (bu (ao F_parts_of (hr.mono (by decide)) (ad (pvQ oK rfl rfl) ae)) ae)))))
  (ak (ar (pvQ j0 rfl rfl))))),pR h⟩
theorem sm {f:Addr} {fd:FuncData} (D:Def K mg "first_view" cu ["deals","hand"] f fd) (B:Blt mg) (F_cards_of:FnB P w K mg base 1 "cards_of" ["deal","who"] (dQ K)) (F_least_with_same:FnB P w K mg base 1 "least_with_same" ["marks"] (cJ K)):FnB P w K mg base 2 "first_view" ["deals","hand"] (eh K):=by
 refine D.ok sg (fun vs H Q E h=>qv h) (fun cdv A outer s H vs Q E hr h=>?_)
 have hu:=hr.units0
 have hux:=hr.units64
 exact ⟨ib K,(ak (ar (ao F_least_with_same (hr.mono (by decide)) (cQ (cj (sc:=(aa cu)) (NX:=["deals","hand"]) (N:=["deal","hand"]) (ix:=[none,some 1]) rfl (by refine ⟨rfl,?_,?_,?_,?_,rfl,?_⟩ <;> decide +kernel) (de (pvQ qM rfl rfl)) (by intros; exact (ax (i:=0) (show (["deal","hand"]:List Str).Nodup by decide +kernel) rfl (Or.inl rfl))) (by intros; exact cI) (by intros; exact (ao F_cards_of (hr.mono (by decide)) (ad (pv 0) (ad (pv 1) ae))))) ae)))),rM h⟩
theorem m4 {f:Addr} {fd:FuncData} (D:Def K mg "least_with_same" aS ["marks"] f fd) (B:Blt mg):FnB P w K mg base 1 "least_with_same" ["marks"] (cJ K):=by
 refine D.ok eU (fun vs H Q E h=>lR h) (fun cdv A outer s H vs Q E hr h=>?_)
 have hu:=hr.units0
 have hux:=hr.units64
 exact ⟨fb K,(ah (aJ (i:=1) eU.nd rfl (Or.inr rfl) AQ)
  (ah (ff PassesOwn.never rfl (nj eW rfl B.enumerate (by decide) (ad (pvQ iF rfl rfl) ae)) (fC rfl (bn (ax (i:=2) eU.nd rfl (Or.inl rfl)) (bn (ax (i:=3) eU.nd rfl (Or.inl rfl)) eg))) (ak (kt (EC PySem.F.slot_dict_setdefault PySem.F.type_dict_setdefault (qL hux) (pvQ lT rfl rfl) (ad (pvQ lV rfl rfl) (ad (pvQ lU rfl rfl) ae))))))
  (ak (ar (cj (sc:=(aa aS)) (NX:=["marks","firsts","thing","mark"]) (N:=["mark","firsts"]) (ix:=[none,some 1]) rfl (by refine ⟨rfl,?_,?_,?_,?_,rfl,?_⟩ <;> decide +kernel) (de (pvQ iF rfl rfl)) (by intros; exact (ax (i:=0) (show (["mark","firsts"]:List Str).Nodup by decide +kernel) rfl (Or.inl rfl))) (by intros; exact cI) (by intros; exact (Cf hux (pv 1) (pv 0) (fun _ _=>rfl)))))))),mE h⟩
theorem zy {f:Addr} {fd:FuncData} (D:Def K mg "joined" fV ["many","views"] f fd) (B:Blt mg):FnB P w K mg base 1 "joined" ["many","views"] cK:=
 D.ok (k:=0) zv (fun vs H Q E h=>h.elim) (fun cdv A outer s H vs Q E hr h=>h.elim)
theorem m5 {f:Addr} {fd:FuncData} (D:Def K mg "truths_of" bf ["deals","views","S"] f fd) (B:Blt mg) (F_both:FnB P w K mg base 1 "both" ["ones","others"] (jH K)) (F_cards_of:FnB P w K mg base 1 "cards_of" ["deal","who"] (dQ K)) (F_either:FnB P w K mg base 1 "either" ["ones","others"] (gT K)) (F_joined:FnB P w K mg base 1 "joined" ["many","views"] cK) (F_known:FnB P w K mg base 1 "known" ["view","truths"] cK) (F_known_to_all:FnB P w K mg base 1 "known_to_all" ["views","truths"] cK) (F_seen:FnB P w K mg base 1 "seen" ["piles","view"] cK):∀ n,FnB P w K mg base (2 + n) "truths_of" ["deals","views","S"] (bB K n)
 | 0=>D.ok (k:=1) fW (fun vs H Q E h=>(mN h).elim) (fun cdv A outer s H vs Q E hr h=>(mN h).elim)
 | n + 1=>by
  have F_truths_of:=m5 D B F_both F_cards_of F_either F_joined F_known F_known_to_all F_seen n
  refine D.ok (k:=2 + n) fW (fun vs H Q E h=>rS h) (fun cdv A outer s H vs Q E hr h=>?_)
  have hu:=hr.units0
  have hux:=hr.units64
  exact ⟨i4 K n,(ah (aJ (i:=3) fW.nd rfl (Or.inl rfl) (be bV (pvQ bZ rfl rfl) ag (fun _ _=>rfl)))
  (ah (bc (aK dn (pvQ dN rfl rfl) dO (aM _)) (ak (ar (cj (sc:=(aa bf)) (NX:=["deals","views","S","word","inner","some"]) (N:=["deal","S"]) (ix:=[none,some 2]) rfl (by refine ⟨rfl,?_,?_,?_,?_,rfl,?_⟩ <;> decide +kernel) (de (pvQ cB rfl rfl)) (by intros; exact (ax (i:=0) (show (["deal","S"]:List Str).Nodup by decide +kernel) rfl (Or.inl rfl))) (by intros; exact cI) (by intros; exact (gM dn (be bV (pv 0) (be bV (pv 1) ag (fun _ _=>rfl)) (fun _ _=>rfl)) (be bV (pv 1) ag (fun _ _=>rfl)) (aM _)))))) aI)
  (ah (bc (aK dn (pvQ dN rfl rfl) dO (aM _)) (ak (ar (ao F_seen (hr.mono (by omega)) (cQ (cj (sc:=(aa bf)) (NX:=["deals","views","S","word","inner","some"]) (N:=["deal","views"]) (ix:=[none,some 1]) rfl (by refine ⟨rfl,?_,?_,?_,?_,rfl,?_⟩ <;> decide +kernel) (de (pvQ cB rfl rfl)) (by intros; exact (ax (i:=0) (show (["deal","views"]:List Str).Nodup by decide +kernel) rfl (Or.inl rfl))) (by intros; exact cI) (by intros; exact (ao F_cards_of (hr.mono (by omega)) (ad (pv 0) (bu (aO bj rfl B.len boot_len (ad (pv 1) ae)) ae))))) (bg (be ci (pvQ cX rfl rfl) (be bV (pvQ bZ rfl rfl) ag (fun _ _=>rfl)) (fun _ _=>rfl)) ae))))) aI)
  (ah (bc (aK dn (pvQ dN rfl rfl) dO (aM _)) (ak (ar (cj (sc:=(aa bf)) (NX:=["deals","views","S","word","inner","some"]) (N:=["truth"]) (ix:=[none]) rfl (by refine ⟨rfl,?_,?_,?_,?_,rfl,?_⟩ <;> decide +kernel) (de (ao F_truths_of (hr.mono (by omega)) (ad (pvQ cB rfl rfl) (ad (pvQ cX rfl rfl) (bg (be bV (pvQ bZ rfl rfl) ag (fun _ _=>rfl)) ae))))) (by intros; exact (ax (i:=0) (show (["truth"]:List Str).Nodup by decide +kernel) rfl (Or.inl rfl))) (by intros; exact cI) (by intros; exact (yd (pv 0)))))) aI)
  (ah (bc (aK dn (pvQ dN rfl rfl) dO (aM _)) (ak (ar (ao F_both (hr.mono (by omega)) (bu (ao F_truths_of (hr.mono (by omega)) (ad (pvQ cB rfl rfl) (ad (pvQ cX rfl rfl) (bg (be bV (pvQ bZ rfl rfl) ag (fun _ _=>rfl)) ae)))) (bu (ao F_truths_of (hr.mono (by omega)) (ad (pvQ cB rfl rfl) (ad (pvQ cX rfl rfl) (bg (be bV (pvQ bZ rfl rfl) ag (fun _ _=>rfl)) ae)))) ae))))) aI)
  (ah (bc (aK dn (pvQ dN rfl rfl) dO (aM _)) (ak (ar (ao F_either (hr.mono (by omega)) (bu (ao F_truths_of (hr.mono (by omega)) (ad (pvQ cB rfl rfl) (ad (pvQ cX rfl rfl) (bg (be bV (pvQ bZ rfl rfl) ag (fun _ _=>rfl)) ae)))) (bu (ao F_truths_of (hr.mono (by omega)) (ad (pvQ cB rfl rfl) (ad (pvQ cX rfl rfl) (bg (be bV (pvQ bZ rfl rfl) ag (fun _ _=>rfl)) ae)))) ae))))) aI)
  (ah (aJ (i:=4) fW.nd rfl (Or.inl rfl) (ao F_truths_of (hr.mono (by omega)) (ad (pvQ cB rfl rfl) (ad (pvQ cX rfl rfl) (bg (be bV (pvQ bZ rfl rfl) ag (fun _ _=>rfl)) ae)))))
  (ah (bc (aK dn (pvQ dN rfl rfl) dO (aM _)) (ak (ar (ao F_known (hr.mono (by omega)) (bg (be ci (pvQ cX rfl rfl) (be bV (pvQ bZ rfl rfl) ag (fun _ _=>rfl)) (fun _ _=>rfl)) (ad (pvQ jk rfl rfl) ae))))) aI)
  (ah (ju (i:=5) fW.nd rfl rfl (sc:=(aa bf)) (NX:=["deals","views","S","word","inner","some"]) (N:=["hand","views"]) (ix:=[none,some 1]) rfl (by refine ⟨rfl,?_,?_,?_,?_,rfl,?_⟩ <;> decide +kernel) (yg (be bV (pvQ bZ rfl rfl) ag (fun _ _=>rfl))) (by intros; exact (ax (i:=0) (show (["hand","views"]:List Str).Nodup by decide +kernel) rfl (Or.inl rfl))) (by intros; exact cI) (by intros; exact (be ci (pv 1) (pv 0) (fun _ _=>rfl))))
  (ah (bc (aK dn (pvQ dN rfl rfl) dO (aM _)) (ak (ar (ao F_known_to_all (hr.mono (by omega)) (ad (pvQ lL rfl rfl) (ad (pvQ jk rfl rfl) ae))))) aI)
  (ak (ar (ao F_known (hr.mono (by omega)) (bu (ao F_joined (hr.mono (by omega)) (bu (aO bj rfl B.len boot_len (ad (pvQ cB rfl rfl) ae)) (ad (pvQ lL rfl rfl) ae))) (ad (pvQ jk rfl rfl) ae))))))))))))))),uM h⟩
theorem Cm {f:Addr} {fd:FuncData} (D:Def K mg "both" fX ["ones","others"] f fd) (B:Blt mg):FnB P w K mg base 1 "both" ["ones","others"] (jH K):=by
 refine D.ok Ch (fun vs H Q E h=>AF h) (fun cdv A outer s H vs Q E hr h=>?_)
 have hu:=hr.units0
 have hux:=hr.units64
 exact ⟨pS K,(ak (ar (cj (sc:=(aa fX)) (NX:=["ones","others"]) (N:=["one","other"]) (ix:=[none,none]) rfl (by refine ⟨rfl,?_,?_,?_,?_,rfl,?_⟩ <;> decide +kernel) (oZ eW eW rfl B.zip (ad (pvQ AS rfl rfl) (ad (pvQ AT rfl rfl) ae))) (by intros; exact (fC rfl (bn (ax (i:=0) (show (["one","other"]:List Str).Nodup by decide +kernel) rfl (Or.inl rfl)) (bn (ax (i:=1) (show (["one","other"]:List Str).Nodup by decide +kernel) rfl (Or.inl rfl)) eg)))) (by intros; exact cI) (by intros; exact (lZ (pv 0) (kr (pv 1))))))),BZ h⟩
theorem zz {f:Addr} {fd:FuncData} (D:Def K mg "either" d9 ["ones","others"] f fd) (B:Blt mg):FnB P w K mg base 1 "either" ["ones","others"] (gT K):=by
 refine D.ok zw (fun vs H Q E h=>xJ h) (fun cdv A outer s H vs Q E hr h=>?_)
 have hu:=hr.units0
 have hux:=hr.units64
 exact ⟨lu K,(ak (ar (cj (sc:=(aa d9)) (NX:=["ones","others"]) (N:=["one","other"]) (ix:=[none,none]) rfl (by refine ⟨rfl,?_,?_,?_,?_,rfl,?_⟩ <;> decide +kernel) (oZ eW eW rfl B.zip (ad (pvQ xV rfl rfl) (ad (pvQ xW rfl rfl) ae))) (by intros; exact (fC rfl (bn (ax (i:=0) (show (["one","other"]:List Str).Nodup by decide +kernel) rfl (Or.inl rfl)) (bn (ax (i:=1) (show (["one","other"]:List Str).Nodup by decide +kernel) rfl (Or.inl rfl)) eg)))) (by intros; exact cI) (by intros; exact (DF (pv 0) (kr (pv 1))))))),ze h⟩
theorem AW {f:Addr} {fd:FuncData} (D:Def K mg "known" gW ["view","truths"] f fd) (B:Blt mg):FnB P w K mg base 1 "known" ["view","truths"] cK:=
 D.ok (k:=0) AU (fun vs H Q E h=>h.elim) (fun cdv A outer s H vs Q E hr h=>h.elim)
theorem qd {f:Addr} {fd:FuncData} (D:Def K mg "known_to_all" cL ["views","truths"] f fd) (B:Blt mg):FnB P w K mg base 1 "known_to_all" ["views","truths"] cK:=
 D.ok (k:=0) p8 (fun vs H Q E h=>h.elim) (fun cdv A outer s H vs Q E hr h=>h.elim)
theorem Cn {f:Addr} {fd:FuncData} (D:Def K mg "seen" jf ["piles","view"] f fd) (B:Blt mg):FnB P w K mg base 1 "seen" ["piles","view"] cK:=
 D.ok (k:=0) Ci (fun vs H Q E h=>h.elim) (fun cdv A outer s H vs Q E hr h=>h.elim)
theorem vn {f:Addr} {fd:FuncData} (D:Def K mg "_law_cell" cx ["_law_script","_law_k"] f fd) (B:Blt mg):FnB P w K mg base 1 "_law_cell" ["_law_script","_law_k"] (bA K):=by
 refine D.ok iw (fun vs H Q E h=>pM h) (fun cdv A outer s H vs Q E hr h=>?_)
 have hu:=hr.units0
 have hux:=hr.units64
 exact ⟨gB K,(ah (bc (aK AY (pvQ fF rfl rfl) (aO bj rfl B.len boot_len (ad (pvQ fE rfl rfl) ae)) (aM _)) (ak (ar (be ci (pvQ fE rfl rfl) (pvQ fF rfl rfl) (fun _ _=>rfl)))) aI)
  (ah (aJ (i:=2) iw.nd rfl (Or.inl rfl) (au cO (au dG (pvQ fF rfl rfl) ag) ag))
  (ah (bc (aK sx (aO bj rfl B.len boot_len (ad (pvQ fE rfl rfl) ae)) ag (aM _)) (ak (aJ (i:=2) iw.nd rfl (Or.inl rfl) (au cO (au dG (au db (be ci (pvQ fE rfl rfl) (au db (au dG (pvQ fF rfl rfl) ag) (aO bj rfl B.len boot_len (ad (pvQ fE rfl rfl) ae))) (fun _ _=>rfl)) ag) ag) (au dG (pvQ fF rfl rfl) ag)))) aI)
  (ah (aJ (i:=2) iw.nd rfl (Or.inl rfl) (au db (au dG (pvQ gF rfl rfl) (pvQ gF rfl rfl)) ag))
  (ak (ar (au db (au dG (pvQ gF rfl rfl) (au cO (pvQ gF rfl rfl) ag)) ag))))))),qz h⟩
theorem so {f:Addr} {fd:FuncData} (D:Def K mg "_law_mixed" bW ["_law_cell_here","_law_k"] f fd) (B:Blt mg):FnB P w K mg base 1 "_law_mixed" ["_law_cell_here","_law_k"] (cf K):=by
 refine D.ok jl (fun vs H Q E h=>oy h) (fun cdv A outer s H vs Q E hr h=>?_)
 have hu:=hr.units0
 have hux:=hr.units64
 exact ⟨gd K,(ah (aJ (i:=2) jl.nd rfl (Or.inl rfl) (au db (au cO (au cO (au dG (au db (pvQ qN rfl rfl) ag) ag) (au dG (pvQ qO rfl rfl) ag)) ag) ag))
  (ah (aJ (i:=2) jl.nd rfl (Or.inl rfl) (au db (au dG (pvQ gk rfl rfl) (au cO (pvQ gk rfl rfl) ag)) ag))
  (ak (ar (au db (au dG (pvQ gk rfl rfl) (au cO (pvQ gk rfl rfl) ag)) ag))))),pN h⟩
theorem vo {f:Addr} {fd:FuncData} (D:Def K mg "_law_pack" cN ["_law_cell_here"] f fd) (B:Blt mg):FnB P w K mg base 1 "_law_pack" ["_law_cell_here"] (dX K):=by
 refine D.ok iy (fun vs H Q E h=>pU h) (fun cdv A outer s H vs Q E hr h=>?_)
 have hu:=hr.units0
 have hux:=hr.units64
 exact ⟨gC K,(ah (aJ (i:=1) iy.nd rfl (Or.inl rfl) (bv (bq (bS (af ag (cc (bv (af ag (af ag ae))) ae))) (bq (bS (af ag (cc (bv (af ag (af ag (af ag ae)))) ae))) (bq (bS (af ag (cc (bv (af ag (af ag (af ag ae)))) ae))) (bq (bS (af ag (cc (bv (af ag (af ag (af ag ae)))) ae))) (bq (bS (af ag (cc (bv (af ag (af ag ae))) ae))) (bq (bS (af ag (cc (bv (af ag (af ag (af ag (af ag ae))))) ae))) (bq (bS (af ag (cc (bv (af ag (af ag (af ag ae)))) ae))) ae)))))))))
  (ah (aJ (i:=1) iy.nd rfl (Or.inl rfl) (au pH (pvQ jm rfl rfl) (bv (bq (bS (af ag (cc (bv (af ag (af ag (af ag ae)))) ae))) (bq (bS (af ag (cc (bv (af ag (af ag (af ag (af ag ae))))) ae))) (bq (bS (af ag (cc (bv (af ag (af ag (af ag (af ag ae))))) ae))) (bq (bS (af ag (cc (bv (af ag (af ag (af ag (af ag (af ag ae)))))) ae))) (bq (bS (af ag (cc (bv (af ag (af ag ae))) ae))) (bq (bS (af ag (cc (bv (af ag (af ag ae))) ae))) ae)))))))))
  (ah (aJ (i:=1) iy.nd rfl (Or.inl rfl) (au pH (pvQ jm rfl rfl) (bv (bq (bS (af ag (cc (bv (af ag (af ag (af ag ae)))) ae))) (bq (bS (af ag (cc (bv (af ag (af ag (af ag (af ag (af ag ae)))))) ae))) (bq (bS (af ag (cc (bv (af ag (af ag (af ag ae)))) ae))) ae))))))
  (ak (ar (be ci (pvQ jm rfl rfl) (au db (pvQ sh rfl rfl) ag) (fun _ _=>rfl))))))),qG h⟩
theorem kW {f:Addr} {fd:FuncData} (D:Def K mg "_law_saying" bh ["_law_cell_here","_law_k","_law_cards","_law_hands","_law_deep"] f fd) (B:Blt mg) (F__law_mixed:FnB P w K mg base 1 "_law_mixed" ["_law_cell_here","_law_k"] (cf K)):∀ n,FnB P w K mg base (2 + n) "_law_saying" ["_law_cell_here","_law_k","_law_cards","_law_hands","_law_deep"] (bC K n)
 | 0=>D.ok (k:=1) gl (fun vs H Q E h=>(kP h).elim) (fun cdv A outer s H vs Q E hr h=>(kP h).elim)
 | n + 1=>by
  have F__law_saying:=kW D B F__law_mixed n
  refine D.ok (k:=2 + n) gl (fun vs H Q E h=>pV h) (fun cdv A outer s H vs Q E hr h=>?_)
  have hu:=hr.units0
  have hux:=hr.units64
  exact ⟨gD K n,(ah (aJ (i:=5) gl.nd rfl (Or.inl rfl) (ao F__law_mixed (hr.mono (by omega)) (ad (pvQ iz rfl rfl) (ad (pvQ iA rfl rfl) ae))))
  (ah (bc (PW.pt (iW (aK dn (pvQ iE rfl rfl) ag (aM _)) (gY (aK dn (au db (pvQ eV rfl rfl) ag) ag (aM _))))) (ak (ar (bS (af dO (bi (au db (au kA (pvQ eV rfl rfl) ag) (au cO (pvQ iC rfl rfl) ag)) (bi (au db (au kA (pvQ eV rfl rfl) ag) (pvQ iB rfl rfl)) ae)))))) aI)
  (ah (aJ (i:=6) gl.nd rfl (Or.inl rfl) (ao F__law_saying (hr.mono (by omega)) (ad (pvQ iz rfl rfl) (bi (au cO (au dG ag (pvQ iA rfl rfl)) ag) (ad (pvQ iB rfl rfl) (ad (pvQ iC rfl rfl) (bi (au i9 (pvQ iE rfl rfl) ag) ae)))))))
  (ah (bc (aK dn (au db (pvQ eV rfl rfl) ag) ag (aM _)) (ak (ar (bS (af dO (ad (pvQ ke rfl rfl) ae))))) aI)
  (ak (ar (bS (bg (be ci (bv (af dO (af dO ae))) (au db (pvQ eV rfl rfl) ag) (fun _ _=>rfl)) (ad (pvQ ke rfl rfl) (bu (ao F__law_saying (hr.mono (by omega)) (ad (pvQ iz rfl rfl) (bi (au cO (au dG ag (pvQ iA rfl rfl)) ag) (ad (pvQ iB rfl rfl) (ad (pvQ iC rfl rfl) (bi (au i9 (pvQ iE rfl rfl) ag) ae)))))) ae)))))))))),qH h⟩
theorem sr {f:Addr} {fd:FuncData} (D:Def K mg "_law_lying" bE ["_law_claims","_law_deal"] f fd) (B:Blt mg):FnB P w K mg base 1 "_law_lying" ["_law_claims","_law_deal"] (ek K):=by
 refine D.ok fG (fun vs H Q E h=>qI h) (fun cdv A outer s H vs Q E hr h=>?_)
 have hu:=hr.units0
 have hux:=hr.units64
 exact ⟨ip K,(ah (aJ (i:=2) fG.nd rfl (Or.inl rfl) ag)
  (ah (ff PassesOwn.never rfl (de (pvQ qP rfl rfl)) (fC rfl (bn (ax (i:=3) fG.nd rfl (Or.inl rfl)) (bn (ax (i:=4) fG.nd rfl (Or.inl rfl)) eg))) (ak (bc (da (cG (be ci (pvQ qS rfl rfl) (pvQ qQ rfl rfl) (fun _ _=>rfl)))) (ak (aJ (i:=2) fG.nd rfl (Or.inl rfl) (au AX (pvQ kQ rfl rfl) (au yi ag (pvQ qR rfl rfl))))) aI)))
  (ak (ar (pvQ kQ rfl rfl))))),rW h⟩
theorem vp {f:Addr} {fd:FuncData} (D:Def K mg "_law_sets" bO ["_law_hands","_law_most"] f fd) (B:Blt mg):FnB P w K mg base 1 "_law_sets" ["_law_hands","_law_most"] (cS K):=by
 refine D.ok j3 (fun vs H Q E h=>rX h) (fun cdv A outer s H vs Q E hr h=>?_)
 have hu:=hr.units0
 have hux:=hr.units64
 exact ⟨i5 K,(ah (aJ (i:=2) j3.nd rfl (Or.inl rfl) (bv ae))
  (ah (ff PassesOwn.never rfl (cU rfl B.range (bi (au yi ag (pvQ lN rfl rfl)) ae)) (ax (i:=3) j3.nd rfl (Or.inr rfl)) (ak (bc (aK oO (aO (my rfl) rfl B.sum boot_sum (cQ (cj (sc:=(aa bO)) (NX:=["_law_hands","_law_most","_law_found","_law_bits"]) (N:=["_law_hand","_law_bits"]) (ix:=[none,some 3]) rfl (by refine ⟨rfl,?_,?_,?_,?_,rfl,?_⟩ <;> decide +kernel) (cU rfl B.range (ad (pvQ lN rfl rfl) ae)) (by intros; exact (ax (i:=0) (show (["_law_hand","_law_bits"]:List Str).Nodup by decide +kernel) rfl (Or.inl rfl))) (by intros; exact cI) (by intros; exact (au Cv (au Cu (pv 1) (pv 0)) ag))) ae)) (pvQ si rfl rfl) (aM _)) (ak (kt (sS PySem.F.plainAttrs_list PySem.F.slot_list_append PySem.F.type_list_append jb (pvQ lP rfl rfl) (ad (pvQ sj rfl rfl) ae)))) aI)))
  (ak (ar (pvQ lP rfl rfl))))),uP h⟩
theorem m6 {f:Addr} {fd:FuncData} (D:Def K mg "_law_lie_within" aW ["_law_lying_here","_law_most","_law_hands"] f fd) (B:Blt mg) (m_any:mg "any"=none) (F__law_sets:FnB P w K mg base 1 "_law_sets" ["_law_hands","_law_most"] (cS K)):FnB P w K mg base 2 "_law_lie_within" ["_law_lying_here","_law_most","_law_hands"] (bG K):=by
 refine D.ok jg (fun vs H Q E h=>lS h) (fun cdv A outer s H vs Q E hr h=>?_)
 have hu:=hr.units0
 have hux:=hr.units64
 exact ⟨fc K,(ah (aJ (i:=3) jg.nd rfl (Or.inr rfl) (ao F__law_sets (hr.mono (by decide)) (ad (pvQ lY rfl rfl) (ad (pvQ lX rfl rfl) ae))))
  (ak (ar (uU (sc:=(aa aW)) (NX:=["_law_lying_here","_law_most","_law_hands","_law_some"]) (N:=["_law_deal","_law_some","_law_lying_here"]) (ix:=[none,some 3,some 0]) (own:="_law_deal") rfl (by refine ⟨rfl,?_,rfl,fun _ _=>rfl,fun _=>rfl,?_,?_,?_,rfl,?_⟩ <;> decide +kernel) (cU rfl B.range (bu (aO bj rfl B.len boot_len (ad (pvQ lW rfl rfl) ae)) ae)) (by intros; exact (ax (i:=0) (show (["_law_deal","_law_some","_law_lying_here"]:List Str).Nodup by decide +kernel) rfl (Or.inr rfl) (hf:=.inl zn))) (by intros; exact (iK (cG (aO (zt rfl) rfl m_any boot_any (cQ (cj (sc:=_) (hsc:=rfl) (NX:=["_law_deal","_law_some","_law_lying_here"]) (N:=["_law_bits","_law_lying_here","_law_deal"]) (ix:=[none,some 2,some 0]) rfl (by refine ⟨rfl,?_,?_,?_,?_,rfl,?_⟩ <;> first | decide +kernel | exact mP (by decide +kernel)) (de (pv 1)) (by intros; exact (ax (i:=0) (show (["_law_bits","_law_lying_here","_law_deal"]:List Str).Nodup by decide +kernel) rfl (Or.inl rfl))) (by intros; exact cI) (by intros; exact (gM dn (au AX (be ci (pv 1) (pv 2) (fun _ _=>rfl)) (pv 0)) (pv 0) (aM _)))) ae))))) (by intros; exact (pv 0)))))),mO h⟩
theorem su {f:Addr} {fd:FuncData} (D:Def K mg "_law_holds" bp ["_law_found","_law_lying_here","_law_truths","_law_hands"] f fd) (B:Blt mg) (F__law_lie_within:FnB P w K mg base 2 "_law_lie_within" ["_law_lying_here","_law_most","_law_hands"] (bG K)) (F__law_sets:FnB P w K mg base 1 "_law_sets" ["_law_hands","_law_most"] (cS K)):FnB P w K mg base 3 "_law_holds" ["_law_found","_law_lying_here","_law_truths","_law_hands"] (eo K):=by
 refine D.ok gG (fun vs H Q E h=>qK h) (fun cdv A outer s H vs Q E hr h=>?_)
 have hu:=hr.units0
 have hux:=hr.units64
 exact ⟨iq K,(ah (bc (aK gU (pvQ kR rfl rfl) jJ (aM _)) (ak (ar (gM jP dm (pvQ iR rfl rfl) rfl))) aI)
  (ah (ye (pvQ kR rfl rfl) (fC rfl (bn (ax (i:=4) gG.nd rfl (Or.inl rfl)) (bn (ax (i:=5) gG.nd rfl (Or.inl rfl)) eg))))
  (ah (bc (PW.pt (iW (cG (be ci (pvQ iR rfl rfl) (pvQ iS rfl rfl) (fun _ _=>rfl))) (iW (aK wT (pvQ fo rfl rfl) (pvQ gm rfl rfl) (aM _)) (gY (aK jP (be ci (pvQ iQ rfl rfl) (pvQ iS rfl rfl) (fun _ _=>rfl)) (ao F__law_sets (hr.mono (by decide)) (ad (pvQ gm rfl rfl) (bi (au cO (pvQ fo rfl rfl) ag) ae))) rfl))))) (ak (ar dm)) aI)
  (ah (bc (PW.pt (yc (aK wT (pvQ fo rfl rfl) ag (aM _)) (wg (aK yq (be ci (pvQ iQ rfl rfl) (pvQ iS rfl rfl) (fun _ _=>rfl)) (ao F__law_sets (hr.mono (by decide)) (ad (pvQ gm rfl rfl) (ad (pvQ fo rfl rfl) ae))) rfl)))) (ak (ar dm)) aI)
  (ah (ff PassesOwn.never rfl (de (ao F__law_lie_within (hr.mono (by decide)) (ad (pvQ iQ rfl rfl) (ad (pvQ fo rfl rfl) (ad (pvQ gm rfl rfl) ae))))) (ax (i:=6) gG.nd rfl (Or.inl rfl)) (ak (bc (da (cG (be ci (pvQ iR rfl rfl) (pvQ qT rfl rfl) (fun _ _=>rfl)))) (ak (ar dm)) aI)))
  (ak (ar dm))))))),rY h⟩
theorem qe {f:Addr} {fd:FuncData} (D:Def K mg "_law_no_less" bP ["_law_one","_law_other"] f fd) (B:Blt mg):FnB P w K mg base 1 "_law_no_less" ["_law_one","_law_other"] (dI K):=by
 refine D.ok p9 (fun vs H Q E h=>oG h) (fun cdv A outer s H vs Q E hr h=>?_)
 have hu:=hr.units0
 have hux:=hr.units64
 exact ⟨gj K,(ah (bc (PW.pt (iW (aK gU (pvQ gJ rfl rfl) jJ (aM _)) (gY (aK gU (pvQ gK rfl rfl) jJ (aM _))))) (ak (ar (lZ (gM gU (pvQ gJ rfl rfl) jJ (aM _)) (kr (gM gU (pvQ gK rfl rfl) jJ (aM _)))))) aI)
  (ak (ar (gM wT (be bV (pvQ gK rfl rfl) ag (fun _ _=>rfl)) (be bV (pvQ gJ rfl rfl) ag (fun _ _=>rfl)) (aM _))))),pX h⟩
theorem DE {f:Addr} {fd:FuncData} (D:Def K mg "law" bU ["_law_script"] f fd) (B:Blt mg) {Pt:Addr} {G:GF} (T:ic P w K mg G) (F_Table_deals:FnM P w K mg base 1 G.Table "deals" ["self"] (dW K G)) (F_Table_init:FnI P w K mg base 6 G.Table ["self","cards","sizes"] (ei K G)) (F_Table_truths:FnM P w K mg base 11 G.Table "truths" ["self","S"] (cg K G)) (F__law_cell:FnB P w K mg base 1 "_law_cell" ["_law_script","_law_k"] (bA K)) (F__law_holds:FnB P w K mg base 3 "_law_holds" ["_law_found","_law_lying_here","_law_truths","_law_hands"] (eo K)) (F__law_lie_within:FnB P w K mg base 2 "_law_lie_within" ["_law_lying_here","_law_most","_law_hands"] (bG K)) (F__law_lying:FnB P w K mg base 1 "_law_lying" ["_law_claims","_law_deal"] (ek K)) (F__law_mixed:FnB P w K mg base 1 "_law_mixed" ["_law_cell_here","_law_k"] (cf K)) (F__law_no_less:FnB P w K mg base 1 "_law_no_less" ["_law_one","_law_other"] (dI K)) (F__law_pack:FnB P w K mg base 1 "_law_pack" ["_law_cell_here"] (dX K)) (F__law_saying:FnB P w K mg base 5 "_law_saying" ["_law_cell_here","_law_k","_law_cards","_law_hands","_law_deep"] (bC K 3)) (F_how_sure:FnB P w K mg base 2 "how_sure" ["many","claims","truths"] (dS K (LL Pt))) (F_may_be:FnB P w K mg base 2 "may_be" ["many","claims","most"] (gR K)):cb P w K mg base CX0 12 f fd ["_law_script"] (kL K (LL Pt)):=by
 refine D.fn.ok dE (fun vs H Q E h=>B5 h) (fun cdv A outer s H vs Q E hr h=>?_)
 have hu:=hr.units0
 have hux:=hr.units64
 have m_FORMS:=T.tb.mf
 have d_FORMS:=T.tb.df
 exact ⟨sY K G (LL Pt),(ah (ye (ao F__law_pack (hr.mono (by decide)) (bu (ao F__law_cell (hr.mono (by decide)) (ad (pvQ jI rfl rfl) (af ag ae))) ae)) (fC rfl (bn (ax (i:=1) dE.nd rfl (Or.inl rfl)) (bn (ax (i:=2) dE.nd rfl (Or.inl rfl)) eg))))
  (ah (aJ (i:=3) dE.nd rfl (Or.inl rfl) (aO bj rfl B.len boot_len (ad (pvQ wJ rfl rfl) ae)))
  (ah (aJ (i:=4) dE.nd rfl (Or.inl rfl) (Ao F_Table_init (hr.mono (by decide)) T.m_Table (ad (pvQ nw rfl rfl) (ad (pvQ wJ rfl rfl) ae))))
  (ah (aJ (i:=5) dE.nd rfl (Or.inl rfl) (aO bj rfl B.len boot_len (bu (yW F_Table_deals (hr.mono (by decide)) T.cl_Table (pvQ ny rfl rfl)) ae)))
  (ah (aJ (i:=6) dE.nd rfl (Or.inr rfl) (bv ae))
  (ah (ff PassesOwn.never rfl (cU rfl B.range (bi (au db (ao F__law_cell (hr.mono (by decide)) (ad (pvQ jI rfl rfl) (af ag ae))) ag) ae)) (ax (i:=7) dE.nd rfl (Or.inl rfl)) (ah (aJ (i:=8) dE.nd rfl (Or.inl rfl) (ao F__law_cell (hr.mono (by decide)) (ad (pvQ jI rfl rfl) (bi (au cO ag (pvQ Cj rfl rfl)) ae))))
  (ak (kt (sS PySem.F.plainAttrs_list PySem.F.slot_list_append PySem.F.type_list_append jb (pvQ iT rfl rfl) (bq (bS (bi (au db (ao F__law_mixed (hr.mono (by decide)) (ad (pvQ nA rfl rfl) (af ag ae))) (pvQ gn rfl rfl)) (bu (ow F_Table_truths (hr.mono (by decide)) T.cl_Table (pvQ ny rfl rfl) (bu (ao F__law_saying (hr.mono (by decide)) (ad (pvQ nA rfl rfl) (af ag (ad (pvQ nw rfl rfl) (ad (pvQ gn rfl rfl) (af ag ae)))))) ae)) ae))) ae))))))
  (ah (aJ (i:=9) dE.nd rfl (Or.inl rfl) (ow F_Table_truths (hr.mono (by decide)) T.cl_Table (pvQ ny rfl rfl) (bu (ao F__law_saying (hr.mono (by decide)) (bu (ao F__law_cell (hr.mono (by decide)) (ad (pvQ jI rfl rfl) (af ag ae))) (af ag (ad (pvQ nw rfl rfl) (ad (pvQ gn rfl rfl) (af ag ae)))))) ae)))
  (ah (bc (PW.pt (yc (aK dn (au db (ao F__law_cell (hr.mono (by decide)) (ad (pvQ jI rfl rfl) (af ag ae))) ag) ag (aM _)) (wg (aK (yx hu) (pvQ iT rfl rfl) (bv ae) (aM _))))) (ak (aJ (i:=9) dE.nd rfl (Or.inl rfl) (ja qw rfl B.list boot_list (bg (be bV (be ci (pvQ iT rfl rfl) ag (fun _ _=>rfl)) ag (fun _ _=>rfl)) ae)))) aI)
  (ah (ju (i:=10) dE.nd rfl rfl (sc:=(aa bU)) (NX:=["_law_script","_law_cards","_law_sizes","_law_hands","_law_table","_law_many","_law_claims","_law_k","_law_cell_here","_law_truths","_law_lying_here","_law_found","_law_most","_law_more","_law_silent"]) (N:=["_law_deal","_law_claims"]) (ix:=[none,some 6]) rfl (by refine ⟨rfl,?_,?_,?_,?_,rfl,?_⟩ <;> decide +kernel) (cU rfl B.range (ad (pvQ kS rfl rfl) ae)) (by intros; exact (ax (i:=0) (show (["_law_deal","_law_claims"]:List Str).Nodup by decide +kernel) rfl (Or.inl rfl))) (by intros; exact cI) (by intros; exact (ao F__law_lying (hr.mono (by decide)) (ad (pv 1) (ad (pv 0) ae)))))
  (ah (aJ (i:=11) dE.nd rfl (Or.inl rfl) (ao F_how_sure (hr.mono (by decide)) (ad (pvQ kS rfl rfl) (ad (pvQ iT rfl rfl) (ad (pvQ kT rfl rfl) ae)))))
  (ah (bc (da (cG (ao F__law_holds (hr.mono (by decide)) (ad (pvQ j4 rfl rfl) (ad (pvQ vg rfl rfl) (ad (pvQ kT rfl rfl) (ad (pvQ gn rfl rfl) ae))))))) (ak (ar dm)) aI)
  (ah (ff PassesOwn.never rfl (cU rfl B.range (bi (au cO (pvQ gn rfl rfl) ag) ae)) (ax (i:=12) dE.nd rfl (Or.inl rfl)) (ak (bc (aK (yx hu) (ao F_may_be (hr.mono (by decide)) (ad (pvQ kS rfl rfl) (ad (pvQ iT rfl rfl) (ad (pvQ vh rfl rfl) ae)))) (ao F__law_lie_within (hr.mono (by decide)) (ad (pvQ vg rfl rfl) (ad (pvQ vh rfl rfl) (ad (pvQ gn rfl rfl) ae)))) (aM _)) (ak (ar dm)) aI)))
  (ah (aJ (i:=8) dE.nd rfl (Or.inl rfl) (au kA (ao F__law_cell (hr.mono (by decide)) (ad (pvQ jI rfl rfl) (af ag ae))) ag))
  (ah (aJ (i:=13) dE.nd rfl (Or.inl rfl) (au pH (pvQ iT rfl rfl) (bv (bq (bS (bi (au db (pvQ nA rfl rfl) (pvQ gn rfl rfl)) (bu (ow F_Table_truths (hr.mono (by decide)) T.cl_Table (pvQ ny rfl rfl) (bu (ao F__law_saying (hr.mono (by decide)) (bi (au kA (pvQ nA rfl rfl) ag) (af ag (ad (pvQ nw rfl rfl) (ad (pvQ gn rfl rfl) (af ag ae)))))) ae)) ae))) ae))))
  (ah (bc (da (cG (ao F__law_no_less (hr.mono (by decide)) (ad (pvQ j4 rfl rfl) (bu (ao F_how_sure (hr.mono (by decide)) (ad (pvQ kS rfl rfl) (ad (pvQ AV rfl rfl) (ad (pvQ kT rfl rfl) ae)))) ae))))) (ak (ar dm)) aI)
  (ah (ju (i:=14) dE.nd rfl rfl (sc:=(aa bU)) (NX:=["_law_script","_law_cards","_law_sizes","_law_hands","_law_table","_law_many","_law_claims","_law_k","_law_cell_here","_law_truths","_law_lying_here","_law_found","_law_most","_law_more","_law_silent"]) (N:=["_law_hand","_law_claims"]) (ix:=[none,some 6]) rfl (by refine ⟨rfl,?_,?_,?_,?_,rfl,?_⟩ <;> decide +kernel) (cU rfl B.range (ad (pvQ gn rfl rfl) ae)) (by intros; exact (ax (i:=0) (show (["_law_hand","_law_claims"]:List Str).Nodup by decide +kernel) rfl (Or.inl rfl))) (by intros; exact (iK (aK jP (pv 0) (cj (sc:=_) (hsc:=rfl) (NX:=["_law_hand","_law_claims"]) (N:=["_law_claim"]) (ix:=[none]) rfl (by refine ⟨rfl,?_,?_,?_,?_,rfl,?_⟩ <;> first | decide +kernel | exact mP (by decide +kernel)) (de (pv 1)) (by intros; exact (ax (i:=0) (show (["_law_claim"]:List Str).Nodup by decide +kernel) rfl (Or.inl rfl))) (by intros; exact cI) (by intros; exact (be bV (pv 0) ag (fun _ _=>rfl)))) rfl))) (by intros; exact (pv 0)))
  (ah (bc (PW.pt (iW (aK gU (pvQ j4 rfl rfl) jJ (aM _)) (gY (aK (CI hu) (pvQ vi rfl rfl) (bv ae) (aM _))))) (ak (ar dm)) aI)
  (ak (ar (gM (CG hu) (ao F_how_sure (hr.mono (by decide)) (ad (pvQ kS rfl rfl) (bi (au pH (pvQ iT rfl rfl) (bv (bq (bS (bg (be ci (pvQ vi rfl rfl) ag (fun _ _=>rfl)) (ad (pvQ kT rfl rfl) ae))) ae))) (ad (pvQ kT rfl rfl) ae)))) (bS (bi (au cO (be bV (pvQ j4 rfl rfl) ag (fun _ _=>rfl)) ag) (bg (be bV (pvQ j4 rfl rfl) ag (fun _ _=>rfl)) ae))) (aM _))))))))))))))))))))),Du (fun _ _ l s=>l.same s) h⟩
theorem sv {G:GF} {f:Addr} {fd:FuncData} (D:uw K G.Table "Table.__init__" bL ["self","cards","sizes"] f fd) (B:Blt mg) (T:ic P w K mg G) (F_deals_of:FnB P w K mg base 5 "deals_of" ["cards","sizes"] (fJ K)) (F_first_view:FnB P w K mg base 2 "first_view" ["deals","hand"] (eh K)):FnI P w K mg base 6 G.Table ["self","cards","sizes"] (ei K G):=by
 refine D.ok sk (fun vs H Q E h=>qx h) (fun cdv A outer s H vs Q E hr h=>?_)
 have hu:=hr.units0
 have hux:=hr.units64
 have m_FORMS:=T.tb.mf
 have d_FORMS:=T.tb.df
 exact ⟨ie K G,(ah (kB (pvQ dj rfl rfl) (ao F_deals_of (hr.mono (by decide)) (ad (pvQ kU rfl rfl) (ad (pvQ iU rfl rfl) ae))) rfl)
  (ah (kB (pvQ dj rfl rfl) (pvQ kU rfl rfl) rfl)
  (ah (kB (pvQ dj rfl rfl) (ja qw rfl B.list boot_list (ad (pvQ iU rfl rfl) ae)) rfl)
  (ah (kB (pvQ dj rfl rfl) (aO bj rfl B.len boot_len (ad (pvQ iU rfl rfl) ae)) rfl)
  (ah (kB (pvQ dj rfl rfl) (cj (sc:=(aa bL)) (NX:=["self","cards","sizes"]) (N:=["hand","self"]) (ix:=[none,some 0]) rfl (by refine ⟨rfl,?_,?_,?_,?_,rfl,?_⟩ <;> decide +kernel) (cU rfl B.range (dM (jL (pvQ dj rfl rfl) rfl) ae)) (by intros; exact (ax (i:=0) (show (["hand","self"]:List Str).Nodup by decide +kernel) rfl (Or.inl rfl))) (by intros; exact cI) (by intros; exact (ao F_first_view (hr.mono (by decide)) (dM (jL (pv 1) rfl) (ad (pv 0) ae))))) rfl)
  (ak (kB (pvQ dj rfl rfl) (bv ae) rfl))))))),rN T.ct h⟩
theorem qV {G:GF} {f:Addr} {fd:FuncData} (D:mG K G.Table "deals" "Table.deals" cC ["self"] f fd) (B:Blt mg) (T:ic P w K mg G):FnM P w K mg base 1 G.Table "deals" ["self"] (dW K G):=by
 refine D.ok qU (fun vs H Q E h=>pK h) (fun cdv A outer s H vs Q E hr h=>?_)
 have hu:=hr.units0
 have hux:=hr.units64
 have m_FORMS:=T.tb.mf
 have d_FORMS:=T.tb.df
 exact ⟨gA K G,(ak (ar (ja qw rfl B.list boot_list (dM (jL (pvQ qa rfl rfl) rfl) ae)))),qy T.ct h⟩
theorem qf {G:GF} {f:Addr} {fd:FuncData} (D:mG K G.Table "truths" "Table.truths" bQ ["self","S"] f fd) (B:Blt mg) (T:ic P w K mg G) (F_is_saying:FnB P w K mg base 6 "is_saying" ["cards","hands","thing"] (fm K)) (F_truths_of:FnB P w K mg base 10 "truths_of" ["deals","views","S"] (bB K 8)):FnM P w K mg base 11 G.Table "truths" ["self","S"] (cg K G):=by
 refine D.ok qb (fun vs H Q E h=>oC h) (fun cdv A outer s H vs Q E hr h=>?_)
 have hu:=hr.units0
 have hux:=hr.units64
 have m_FORMS:=T.tb.mf
 have d_FORMS:=T.tb.df
 exact ⟨gi K G,(ah (bc (da (cG (ao F_is_saying (hr.mono (by decide)) (dM (jL (pvQ fA rfl rfl) rfl) (dM (jL (pvQ fA rfl rfl) rfl) (ad (pvQ j5 rfl rfl) ae)))))) (ak oj) aI)
  (ak (ar (ao F_truths_of (hr.mono (by decide)) (dM (jL (pvQ fA rfl rfl) rfl) (dM (jL (pvQ fA rfl rfl) rfl) (ad (pvQ j5 rfl rfl) ae))))))),pT T.ct h⟩
theorem ED (B:Blt mg) {G:GF} {f1:Addr} {fd1:FuncData} (D_liars_of:Def K mg "liars_of" du ["many","claims"] f1 fd1) {f2:Addr} {fd2:FuncData} (D_may_be:Def K mg "may_be" d7 ["many","claims","most"] f2 fd2) {f3:Addr} {fd3:FuncData} (D_how_sure:Def K mg "how_sure" bI ["many","claims","truths"] f3 fd3) {f4:Addr} {fd4:FuncData} (D_is_whole:Def K mg "is_whole" dP ["thing"] f4 fd4) {f5:Addr} {fd5:FuncData} (D_is_within:Def K mg "is_within" cr ["thing","least","most"] f5 fd5) {f6:Addr} {fd6:FuncData} (D_is_below:Def K mg "is_below" dv ["thing","bound"] f6 fd6) {f7:Addr} {fd7:FuncData} (D_are_hands:Def K mg "are_hands" bY ["thing","hands"] f7 fd7) {f8:Addr} {fd8:FuncData} (D_is_pack:Def K mg "is_pack" dC ["cards","sizes"] f8 fd8) {f9:Addr} {fd9:FuncData} (D_how_many:Def K mg "how_many" ca ["cards","sizes"] f9 fd9) {f10:Addr} {fd10:FuncData} (D_choices:Def K mg "choices" cW ["many","taken"] f10 fd10) {f11:Addr} {fd11:FuncData} (D_deals_of:Def K mg "deals_of" cA ["cards","sizes"] f11 fd11) {f12:Addr} {fd12:FuncData} (D_with_one_more:Def K mg "with_one_more" aV ["begun","room"] f12 fd12) {f13:Addr} {fd13:FuncData} (D_cards_of:Def K mg "cards_of" dw ["deal","who"] f13 fd13) {f14:Addr} {fd14:FuncData} (D_is_saying:Def K mg "is_saying" bF ["cards","hands","thing"] f14 fd14) {f15:Addr} {fd15:FuncData} (D_is_word:Def K mg "is_word" dD ["cards","hands","thing"] f15 fd15) {f16:Addr} {fd16:FuncData} (D_fits:Def K mg "fits" fD ["cards","hands","place","part"] f16 fd16) {f17:Addr} {fd17:FuncData} (D_parts_of:Def K mg "parts_of" cT ["saying"] f17 fd17) {f18:Addr} {fd18:FuncData} (D_parts_of_all:Def K mg "parts_of_all" bD ["sayings"] f18 fd18) {f19:Addr} {fd19:FuncData} (D_first_view:Def K mg "first_view" cu ["deals","hand"] f19 fd19) {f20:Addr} {fd20:FuncData} (D_least_with_same:Def K mg "least_with_same" aS ["marks"] f20 fd20) {f21:Addr} {fd21:FuncData} (D_joined:Def K mg "joined" fV ["many","views"] f21 fd21) {f22:Addr} {fd22:FuncData} (D_truths_of:Def K mg "truths_of" bf ["deals","views","S"] f22 fd22) {f23:Addr} {fd23:FuncData} (D_both:Def K mg "both" fX ["ones","others"] f23 fd23) {f24:Addr} {fd24:FuncData} (D_either:Def K mg "either" d9 ["ones","others"] f24 fd24) {f25:Addr} {fd25:FuncData} (D_known:Def K mg "known" gW ["view","truths"] f25 fd25) {f26:Addr} {fd26:FuncData} (D_known_to_all:Def K mg "known_to_all" cL ["views","truths"] f26 fd26) {f27:Addr} {fd27:FuncData} (D_seen:Def K mg "seen" jf ["piles","view"] f27 fd27) {f28:Addr} {fd28:FuncData} (D__law_cell:Def K mg "_law_cell" cx ["_law_script","_law_k"] f28 fd28) {f29:Addr} {fd29:FuncData} (D__law_mixed:Def K mg "_law_mixed" bW ["_law_cell_here","_law_k"] f29 fd29) {f30:Addr} {fd30:FuncData} (D__law_pack:Def K mg "_law_pack" cN ["_law_cell_here"] f30 fd30) {f31:Addr} {fd31:FuncData} (D__law_saying:Def K mg "_law_saying" bh ["_law_cell_here","_law_k","_law_cards","_law_hands","_law_deep"] f31 fd31) {f32:Addr} {fd32:FuncData} (D__law_lying:Def K mg "_law_lying" bE ["_law_claims","_law_deal"] f32 fd32) {f33:Addr} {fd33:FuncData} (D__law_sets:Def K mg "_law_sets" bO ["_law_hands","_law_most"] f33 fd33) {f34:Addr} {fd34:FuncData} (D__law_lie_within:Def K mg "_law_lie_within" aW ["_law_lying_here","_law_most","_law_hands"] f34 fd34) {f35:Addr} {fd35:FuncData} (D__law_holds:Def K mg "_law_holds" bp ["_law_found","_law_lying_here","_law_truths","_law_hands"] f35 fd35) {f36:Addr} {fd36:FuncData} (D__law_no_less:Def K mg "_law_no_less" bP ["_law_one","_law_other"] f36 fd36) {f37:Addr} {fd37:FuncData} (D_law:Def K mg "law" bU ["_law_script"] f37 fd37) {f38:Addr} {fd38:FuncData} (D_Table_init:uw K G.Table "Table.__init__" bL ["self","cards","sizes"] f38 fd38) {f39:Addr} {fd39:FuncData} (D_Table_deals:mG K G.Table "deals" "Table.deals" cC ["self"] f39 fd39) {f40:Addr} {fd40:FuncData} (D_Table_truths:mG K G.Table "truths" "Table.truths" bQ ["self","S"] f40 fd40) (T:ic P w K mg G) {Pt ct0:Addr} (hfc:fd3.code=.ref ct0) (hC:PySem.W.codeHdIn K ct0 Pt=true) (bm:BM base mg) {t_MOST_CARDS:Tok} (m_MOST_CARDS:mg "MOST_CARDS"=some (.int 12 t_MOST_CARDS)) {t_MOST_HANDS:Tok} (m_MOST_HANDS:mg "MOST_HANDS"=some (.int 5 t_MOST_HANDS)) {t_MOST_DEALS:Tok} (m_MOST_DEALS:mg "MOST_DEALS"=some (.int 2000 t_MOST_DEALS)) (m_set:mg "set"=none) {t_MOST_WORDS:Tok} (m_MOST_WORDS:mg "MOST_WORDS"=some (.int 30 t_MOST_WORDS)) (m_any:mg "any"=none):cb P w K mg base CX0 12 f37 fd37 ["_law_script"] (kL K (LL Pt)):=by
 have F_Table_deals:FnM P w K mg base 1 G.Table "deals" ["self"] (dW K G):=qV D_Table_deals B T
 have F_choices:FnB P w K mg base 1 "choices" ["many","taken"] (gc K):=xY D_choices B
 have F_is_whole:FnB P w K mg base 1 "is_whole" ["thing"] (dr K):=v9 D_is_whole B
 have F_is_within:FnB P w K mg base 2 "is_within" ["thing","least","most"] (bJ K):=vj D_is_within B F_is_whole
 have F_is_pack:FnB P w K mg base 3 "is_pack" ["cards","sizes"] (gb K):=xX D_is_pack B m_MOST_CARDS m_MOST_HANDS F_is_within
 have F_how_many:FnB P w K mg base 4 "how_many" ["cards","sizes"] (fI K):=wb D_how_many B F_choices F_is_pack
 have F_with_one_more:FnB P w K mg base 1 "with_one_more" ["begun","room"] (di K):=oM D_with_one_more B
 have F_deals_of:FnB P w K mg base 5 "deals_of" ["cards","sizes"] (fJ K):=wc D_deals_of B m_MOST_DEALS F_how_many F_with_one_more
 have F_cards_of:FnB P w K mg base 1 "cards_of" ["deal","who"] (dQ K):=wd D_cards_of B
 have F_least_with_same:FnB P w K mg base 1 "least_with_same" ["marks"] (cJ K):=m4 D_least_with_same B
 have F_first_view:FnB P w K mg base 2 "first_view" ["deals","hand"] (eh K):=sm D_first_view B F_cards_of F_least_with_same
 have F_Table_init:FnI P w K mg base 6 G.Table ["self","cards","sizes"] (ei K G):=sv D_Table_init B T F_deals_of F_first_view
 have F_are_hands:FnB P w K mg base 3 "are_hands" ["thing","hands"] (fk K):=vk D_are_hands B F_is_within
 have F_is_below:FnB P w K mg base 3 "is_below" ["thing","bound"] (dU K):=wa D_is_below B F_is_within
 have F_fits:FnB P w K mg base 4 "fits" ["cards","hands","place","part"] (jG K):=Ck D_fits B F_are_hands F_is_below
 have F_is_word:FnB P w K mg base 5 "is_word" ["cards","hands","thing"] (ge K):=xZ D_is_word B T F_fits
 have F_parts_of:FnB P w K mg base 1 "parts_of" ["saying"] (fL K):=we D_parts_of B T
 have F_parts_of_all:FnB P w K mg base 2 "parts_of_all" ["sayings"] (dH K):=qc D_parts_of_all B F_parts_of
 have F_is_saying:FnB P w K mg base 6 "is_saying" ["cards","hands","thing"] (fm K):=vm D_is_saying B m_MOST_WORDS F_is_whole F_is_word F_parts_of_all
 have F_both:FnB P w K mg base 1 "both" ["ones","others"] (jH K):=Cm D_both B
 have F_either:FnB P w K mg base 1 "either" ["ones","others"] (gT K):=zz D_either B
 have F_joined:FnB P w K mg base 1 "joined" ["many","views"] cK:=zy D_joined B
 have F_known:FnB P w K mg base 1 "known" ["view","truths"] cK:=AW D_known B
 have F_known_to_all:FnB P w K mg base 1 "known_to_all" ["views","truths"] cK:=qd D_known_to_all B
 have F_seen:FnB P w K mg base 1 "seen" ["piles","view"] cK:=Cn D_seen B
 have F_truths_of:FnB P w K mg base 10 "truths_of" ["deals","views","S"] (bB K 8):=m5 D_truths_of B F_both F_cards_of F_either F_joined F_known F_known_to_all F_seen 8
 have F_Table_truths:FnM P w K mg base 11 G.Table "truths" ["self","S"] (cg K G):=qf D_Table_truths B T F_is_saying F_truths_of
 have F__law_cell:FnB P w K mg base 1 "_law_cell" ["_law_script","_law_k"] (bA K):=vn D__law_cell B
 have F__law_sets:FnB P w K mg base 1 "_law_sets" ["_law_hands","_law_most"] (cS K):=vp D__law_sets B
 have F__law_lie_within:FnB P w K mg base 2 "_law_lie_within" ["_law_lying_here","_law_most","_law_hands"] (bG K):=m6 D__law_lie_within B m_any F__law_sets
 have F__law_holds:FnB P w K mg base 3 "_law_holds" ["_law_found","_law_lying_here","_law_truths","_law_hands"] (eo K):=su D__law_holds B F__law_lie_within F__law_sets
 have F__law_lying:FnB P w K mg base 1 "_law_lying" ["_law_claims","_law_deal"] (ek K):=sr D__law_lying B
 have F__law_mixed:FnB P w K mg base 1 "_law_mixed" ["_law_cell_here","_law_k"] (cf K):=so D__law_mixed B
 have F__law_no_less:FnB P w K mg base 1 "_law_no_less" ["_law_one","_law_other"] (dI K):=qe D__law_no_less B
 have F__law_pack:FnB P w K mg base 1 "_law_pack" ["_law_cell_here"] (dX K):=vo D__law_pack B
 have F__law_saying:FnB P w K mg base 5 "_law_saying" ["_law_cell_here","_law_k","_law_cards","_law_hands","_law_deep"] (bC K 3):=kW D__law_saying B F__law_mixed 3
 have F_liars_of:FnB P w K mg base 1 "liars_of" ["many","claims"] (dR K):=v6 D_liars_of B m_set
 have F_how_sure:FnB P w K mg base 2 "how_sure" ["many","claims","truths"] (dS K (LL Pt)):=v7 D_how_sure B hfc hC bm F_liars_of
 have F_may_be:FnB P w K mg base 2 "may_be" ["many","claims","most"] (gR K):=zx D_may_be B F_liars_of
 exact DE D_law B T F_Table_deals F_Table_init F_Table_truths F__law_cell F__law_holds F__law_lie_within F__law_lying F__law_mixed F__law_no_less F__law_pack F__law_saying F_how_sure F_may_be
end
@[elab_as_elim] theorem ofLen1 {α:Type} {P:List α->Prop} (us:List α) (hl:us.length=1) (h:∀ a0:α,P [a0]):P us:=match us,hl with | [a0],_=>h a0
@[elab_as_elim] theorem ofLen2 {α:Type} {P:List α->Prop} (us:List α) (hl:us.length=2) (h:∀ a0 a1:α,P [a0,a1]):P us:=match us,hl with | [a0,a1],_=>h a0 a1
@[elab_as_elim] theorem ofLen3 {α:Type} {P:List α->Prop} (us:List α) (hl:us.length=3) (h:∀ a0 a1 a2:α,P [a0,a1,a2]):P us:=match us,hl with | [a0,a1,a2],_=>h a0 a1 a2
@[elab_as_elim] theorem ofLen4 {α:Type} {P:List α->Prop} (us:List α) (hl:us.length=4) (h:∀ a0 a1 a2 a3:α,P [a0,a1,a2,a3]):P us:=match us,hl with | [a0,a1,a2,a3],_=>h a0 a1 a2 a3
@[elab_as_elim] theorem ofLen5 {α:Type} {P:List α->Prop} (us:List α) (hl:us.length=5) (h:∀ a0 a1 a2 a3 a4:α,P [a0,a1,a2,a3,a4]):P us:=match us,hl with | [a0,a1,a2,a3,a4],_=>h a0 a1 a2 a3 a4
theorem all_mk {l:PySem.W.OpenLaw} {w:World} {K:PySem.W.Frag} {h:Heap} {mg:Str->Option Value} {fa f1 f2 f3 f4 f5 f6 f7 f8 f9 f10 f11 f12 f13 f14 f15 f16 f17 f18 f19 f20 f21 f22 f23 f24 f25 f26 f27 f28 f29 f30 f31 f32 f33 f34 f35 f36 f37 f38 f39 f40:Addr} (X:K.In h) (G:h.Ns mainGlobals mg) (hfa:mg "law"=some (.ref fa))
  {od1 an1 od2 an2 od3 an3 od4 an4 od5 an5 od6 an6 od7 an7 od8 an8 od9 an9 od10 an10 od11 an11 od12 an12 od13 an13 od14 an14 od15 an15 od16 an16 od17 an17 od18 an18 od19 an19 od20 an20 od21 an21 od22 an22 od23 an23 od24 an24 od25 an25 od26 an26 od27 an27 od28 an28 od29 an29 od30 an30 od31 an31 od32 an32 od33 an33 od34 an34 od35 an35 od36 an36 od37 an37 od38 an38 od39 an39 od40 an40:Option Addr} {sl1 sl2 sl3 sl4 sl5 sl6 sl7 sl8 sl9 sl10 sl11 sl12 sl13 sl14 sl15 sl16 sl17 sl18 sl19 sl20 sl21 sl22 sl23 sl24 sl25 sl26 sl27 sl28 sl29 sl30 sl31 sl32 sl33 sl34 sl35 sl36 sl37 sl38 sl39 sl40:Array (Option Value)} {oc1 kV1 dc1 pm1 cd1 ct1 oc2 kV2 dc2 pm2 cd2 ct2 oc3 kV3 dc3 pm3 cd3 ct3 oc4 kV4 dc4 pm4 cd4 ct4 oc5 kV5 dc5 pm5 cd5 ct5 oc6 kV6 dc6 pm6 cd6 ct6 oc7 kV7 dc7 pm7 cd7 ct7 oc8 kV8 dc8 pm8 cd8 ct8 oc9 kV9 dc9 pm9 cd9 ct9 oc10 kV10 dc10 pm10 cd10 ct10 oc11 kV11 dc11 pm11 cd11 ct11 oc12 kV12 dc12 pm12 cd12 ct12 oc13 kV13 dc13 pm13 cd13 ct13 oc14 kV14 dc14 pm14 cd14 ct14 oc15 kV15 dc15 pm15 cd15 ct15 oc16 kV16 dc16 pm16 cd16 ct16 oc17 kV17 dc17 pm17 cd17 ct17 oc18 kV18 dc18 pm18 cd18 ct18 oc19 kV19 dc19 pm19 cd19 ct19 oc20 kV20 dc20 pm20 cd20 ct20 oc21 kV21 dc21 pm21 cd21 ct21 oc22 kV22 dc22 pm22 cd22 ct22 oc23 kV23 dc23 pm23 cd23 ct23 oc24 kV24 dc24 pm24 cd24 ct24 oc25 kV25 dc25 pm25 cd25 ct25 oc26 kV26 dc26 pm26 cd26 ct26 oc27 kV27 dc27 pm27 cd27 ct27 oc28 kV28 dc28 pm28 cd28 ct28 oc29 kV29 dc29 pm29 cd29 ct29 oc30 kV30 dc30 pm30 cd30 ct30 oc31 kV31 dc31 pm31 cd31 ct31 oc32 kV32 dc32 pm32 cd32 ct32 oc33 kV33 dc33 pm33 cd33 ct33 oc34 kV34 dc34 pm34 cd34 ct34 oc35 kV35 dc35 pm35 cd35 ct35 oc36 kV36 dc36 pm36 cd36 ct36 oc37 kV37 dc37 pm37 cd37 ct37 oc38 kV38 dc38 pm38 cd38 ct38 oc39 kV39 dc39 pm39 cd39 ct39 oc40 kV40 dc40 pm40 cd40 ct40:Value} {t_MOST_CARDS:Tok}  {t_MOST_HANDS:Tok}  {t_MOST_DEALS:Tok}   {t_MOST_WORDS:Tok}   {aF fm1 fm2 fm3 fm4 fm5 fm6 fm7 fm8:Addr} {tk1 tk2 tk3 tk4 tk5 tk6 tk7 tk8 tu1 tu2 tu3 tu4 tu5 tu6 tu7 tu8 tu9 tu10 tu11 tu12 tu13 tu14:Tok} {epF tn1 tn2 tn3 tn4 tn5 tn6 tn7 tn8:Nat} {to1 to2 to3 to4 to5 to6 to7 to8:Option Addr} {ts1 ts2 ts3 ts4 ts5 ts6 ts7 ts8:Array (Option Value)} {aT:Addr}
  (a1:PySem.W.nsIn K mainGlobals "liars_of"=some (some (.ref f1))) (l1:K.lookup f1=some ⟨oc1,od1,.func (PySem.W.fnOf "liars_of" "liars_of" (aG du) (ay du) (aa du) .none kV1 dc1 pm1 an1 cd1 ct1),sl1⟩) (c1:PySem.W.codeIn K cd1 "liars_of"=true) (k1:PySem.W.keepIn K (.ref f1)=true)
  (a2:PySem.W.nsIn K mainGlobals "may_be"=some (some (.ref f2))) (l2:K.lookup f2=some ⟨oc2,od2,.func (PySem.W.fnOf "may_be" "may_be" (aG d7) (ay d7) (aa d7) .none kV2 dc2 pm2 an2 cd2 ct2),sl2⟩) (c2:PySem.W.codeIn K cd2 "may_be"=true) (k2:PySem.W.keepIn K (.ref f2)=true)
  (a3:PySem.W.nsIn K mainGlobals "how_sure"=some (some (.ref f3))) (l3:K.lookup f3=some ⟨oc3,od3,.func (PySem.W.fnOf "how_sure" "how_sure" (aG bI) (ay bI) (aa bI) .none kV3 dc3 pm3 an3 cd3 ct3),sl3⟩) (c3:PySem.W.codeIn K cd3 "how_sure"=true) (k3:PySem.W.keepIn K (.ref f3)=true)
  (a4:PySem.W.nsIn K mainGlobals "is_whole"=some (some (.ref f4))) (l4:K.lookup f4=some ⟨oc4,od4,.func (PySem.W.fnOf "is_whole" "is_whole" (aG dP) (ay dP) (aa dP) .none kV4 dc4 pm4 an4 cd4 ct4),sl4⟩) (c4:PySem.W.codeIn K cd4 "is_whole"=true) (k4:PySem.W.keepIn K (.ref f4)=true)
  (a5:PySem.W.nsIn K mainGlobals "is_within"=some (some (.ref f5))) (l5:K.lookup f5=some ⟨oc5,od5,.func (PySem.W.fnOf "is_within" "is_within" (aG cr) (ay cr) (aa cr) .none kV5 dc5 pm5 an5 cd5 ct5),sl5⟩) (c5:PySem.W.codeIn K cd5 "is_within"=true) (k5:PySem.W.keepIn K (.ref f5)=true)
  (a6:PySem.W.nsIn K mainGlobals "is_below"=some (some (.ref f6))) (l6:K.lookup f6=some ⟨oc6,od6,.func (PySem.W.fnOf "is_below" "is_below" (aG dv) (ay dv) (aa dv) .none kV6 dc6 pm6 an6 cd6 ct6),sl6⟩) (c6:PySem.W.codeIn K cd6 "is_below"=true) (k6:PySem.W.keepIn K (.ref f6)=true)
  (a7:PySem.W.nsIn K mainGlobals "are_hands"=some (some (.ref f7))) (l7:K.lookup f7=some ⟨oc7,od7,.func (PySem.W.fnOf "are_hands" "are_hands" (aG bY) (ay bY) (aa bY) .none kV7 dc7 pm7 an7 cd7 ct7),sl7⟩) (c7:PySem.W.codeIn K cd7 "are_hands"=true) (k7:PySem.W.keepIn K (.ref f7)=true)
  (a8:PySem.W.nsIn K mainGlobals "is_pack"=some (some (.ref f8))) (l8:K.lookup f8=some ⟨oc8,od8,.func (PySem.W.fnOf "is_pack" "is_pack" (aG dC) (ay dC) (aa dC) .none kV8 dc8 pm8 an8 cd8 ct8),sl8⟩) (c8:PySem.W.codeIn K cd8 "is_pack"=true) (k8:PySem.W.keepIn K (.ref f8)=true)
  (a9:PySem.W.nsIn K mainGlobals "how_many"=some (some (.ref f9))) (l9:K.lookup f9=some ⟨oc9,od9,.func (PySem.W.fnOf "how_many" "how_many" (aG ca) (ay ca) (aa ca) .none kV9 dc9 pm9 an9 cd9 ct9),sl9⟩) (c9:PySem.W.codeIn K cd9 "how_many"=true) (k9:PySem.W.keepIn K (.ref f9)=true)
  (a10:PySem.W.nsIn K mainGlobals "choices"=some (some (.ref f10))) (l10:K.lookup f10=some ⟨oc10,od10,.func (PySem.W.fnOf "choices" "choices" (aG cW) (ay cW) (aa cW) .none kV10 dc10 pm10 an10 cd10 ct10),sl10⟩) (c10:PySem.W.codeIn K cd10 "choices"=true) (k10:PySem.W.keepIn K (.ref f10)=true)
  (a11:PySem.W.nsIn K mainGlobals "deals_of"=some (some (.ref f11))) (l11:K.lookup f11=some ⟨oc11,od11,.func (PySem.W.fnOf "deals_of" "deals_of" (aG cA) (ay cA) (aa cA) .none kV11 dc11 pm11 an11 cd11 ct11),sl11⟩) (c11:PySem.W.codeIn K cd11 "deals_of"=true) (k11:PySem.W.keepIn K (.ref f11)=true)
  (a12:PySem.W.nsIn K mainGlobals "with_one_more"=some (some (.ref f12))) (l12:K.lookup f12=some ⟨oc12,od12,.func (PySem.W.fnOf "with_one_more" "with_one_more" (aG aV) (ay aV) (aa aV) .none kV12 dc12 pm12 an12 cd12 ct12),sl12⟩) (c12:PySem.W.codeIn K cd12 "with_one_more"=true) (k12:PySem.W.keepIn K (.ref f12)=true)
  (a13:PySem.W.nsIn K mainGlobals "cards_of"=some (some (.ref f13))) (l13:K.lookup f13=some ⟨oc13,od13,.func (PySem.W.fnOf "cards_of" "cards_of" (aG dw) (ay dw) (aa dw) .none kV13 dc13 pm13 an13 cd13 ct13),sl13⟩) (c13:PySem.W.codeIn K cd13 "cards_of"=true) (k13:PySem.W.keepIn K (.ref f13)=true)
  (a14:PySem.W.nsIn K mainGlobals "is_saying"=some (some (.ref f14))) (l14:K.lookup f14=some ⟨oc14,od14,.func (PySem.W.fnOf "is_saying" "is_saying" (aG bF) (ay bF) (aa bF) .none kV14 dc14 pm14 an14 cd14 ct14),sl14⟩) (c14:PySem.W.codeIn K cd14 "is_saying"=true) (k14:PySem.W.keepIn K (.ref f14)=true)
  (a15:PySem.W.nsIn K mainGlobals "is_word"=some (some (.ref f15))) (l15:K.lookup f15=some ⟨oc15,od15,.func (PySem.W.fnOf "is_word" "is_word" (aG dD) (ay dD) (aa dD) .none kV15 dc15 pm15 an15 cd15 ct15),sl15⟩) (c15:PySem.W.codeIn K cd15 "is_word"=true) (k15:PySem.W.keepIn K (.ref f15)=true)
  (a16:PySem.W.nsIn K mainGlobals "fits"=some (some (.ref f16))) (l16:K.lookup f16=some ⟨oc16,od16,.func (PySem.W.fnOf "fits" "fits" (aG fD) (ay fD) (aa fD) .none kV16 dc16 pm16 an16 cd16 ct16),sl16⟩) (c16:PySem.W.codeIn K cd16 "fits"=true) (k16:PySem.W.keepIn K (.ref f16)=true)
  (a17:PySem.W.nsIn K mainGlobals "parts_of"=some (some (.ref f17))) (l17:K.lookup f17=some ⟨oc17,od17,.func (PySem.W.fnOf "parts_of" "parts_of" (aG cT) (ay cT) (aa cT) .none kV17 dc17 pm17 an17 cd17 ct17),sl17⟩) (c17:PySem.W.codeIn K cd17 "parts_of"=true) (k17:PySem.W.keepIn K (.ref f17)=true)
  (a18:PySem.W.nsIn K mainGlobals "parts_of_all"=some (some (.ref f18))) (l18:K.lookup f18=some ⟨oc18,od18,.func (PySem.W.fnOf "parts_of_all" "parts_of_all" (aG bD) (ay bD) (aa bD) .none kV18 dc18 pm18 an18 cd18 ct18),sl18⟩) (c18:PySem.W.codeIn K cd18 "parts_of_all"=true) (k18:PySem.W.keepIn K (.ref f18)=true)
  (a19:PySem.W.nsIn K mainGlobals "first_view"=some (some (.ref f19))) (l19:K.lookup f19=some ⟨oc19,od19,.func (PySem.W.fnOf "first_view" "first_view" (aG cu) (ay cu) (aa cu) .none kV19 dc19 pm19 an19 cd19 ct19),sl19⟩) (c19:PySem.W.codeIn K cd19 "first_view"=true) (k19:PySem.W.keepIn K (.ref f19)=true)
  (a20:PySem.W.nsIn K mainGlobals "least_with_same"=some (some (.ref f20))) (l20:K.lookup f20=some ⟨oc20,od20,.func (PySem.W.fnOf "least_with_same" "least_with_same" (aG aS) (ay aS) (aa aS) .none kV20 dc20 pm20 an20 cd20 ct20),sl20⟩) (c20:PySem.W.codeIn K cd20 "least_with_same"=true) (k20:PySem.W.keepIn K (.ref f20)=true)
  (a21:PySem.W.nsIn K mainGlobals "joined"=some (some (.ref f21))) (l21:K.lookup f21=some ⟨oc21,od21,.func (PySem.W.fnOf "joined" "joined" (aG fV) (ay fV) (aa fV) .none kV21 dc21 pm21 an21 cd21 ct21),sl21⟩) (c21:PySem.W.codeIn K cd21 "joined"=true) (k21:PySem.W.keepIn K (.ref f21)=true)
  (a22:PySem.W.nsIn K mainGlobals "truths_of"=some (some (.ref f22))) (l22:K.lookup f22=some ⟨oc22,od22,.func (PySem.W.fnOf "truths_of" "truths_of" (aG bf) (ay bf) (aa bf) .none kV22 dc22 pm22 an22 cd22 ct22),sl22⟩) (c22:PySem.W.codeIn K cd22 "truths_of"=true) (k22:PySem.W.keepIn K (.ref f22)=true)
  (a23:PySem.W.nsIn K mainGlobals "both"=some (some (.ref f23))) (l23:K.lookup f23=some ⟨oc23,od23,.func (PySem.W.fnOf "both" "both" (aG fX) (ay fX) (aa fX) .none kV23 dc23 pm23 an23 cd23 ct23),sl23⟩) (c23:PySem.W.codeIn K cd23 "both"=true) (k23:PySem.W.keepIn K (.ref f23)=true)
  (a24:PySem.W.nsIn K mainGlobals "either"=some (some (.ref f24))) (l24:K.lookup f24=some ⟨oc24,od24,.func (PySem.W.fnOf "either" "either" (aG d9) (ay d9) (aa d9) .none kV24 dc24 pm24 an24 cd24 ct24),sl24⟩) (c24:PySem.W.codeIn K cd24 "either"=true) (k24:PySem.W.keepIn K (.ref f24)=true)
  (a25:PySem.W.nsIn K mainGlobals "known"=some (some (.ref f25))) (l25:K.lookup f25=some ⟨oc25,od25,.func (PySem.W.fnOf "known" "known" (aG gW) (ay gW) (aa gW) .none kV25 dc25 pm25 an25 cd25 ct25),sl25⟩) (c25:PySem.W.codeIn K cd25 "known"=true) (k25:PySem.W.keepIn K (.ref f25)=true)
  (a26:PySem.W.nsIn K mainGlobals "known_to_all"=some (some (.ref f26))) (l26:K.lookup f26=some ⟨oc26,od26,.func (PySem.W.fnOf "known_to_all" "known_to_all" (aG cL) (ay cL) (aa cL) .none kV26 dc26 pm26 an26 cd26 ct26),sl26⟩) (c26:PySem.W.codeIn K cd26 "known_to_all"=true) (k26:PySem.W.keepIn K (.ref f26)=true)
  (a27:PySem.W.nsIn K mainGlobals "seen"=some (some (.ref f27))) (l27:K.lookup f27=some ⟨oc27,od27,.func (PySem.W.fnOf "seen" "seen" (aG jf) (ay jf) (aa jf) .none kV27 dc27 pm27 an27 cd27 ct27),sl27⟩) (c27:PySem.W.codeIn K cd27 "seen"=true) (k27:PySem.W.keepIn K (.ref f27)=true)
  (a28:PySem.W.nsIn K mainGlobals "_law_cell"=some (some (.ref f28))) (l28:K.lookup f28=some ⟨oc28,od28,.func (PySem.W.fnOf "_law_cell" "_law_cell" (aG cx) (ay cx) (aa cx) .none kV28 dc28 pm28 an28 cd28 ct28),sl28⟩) (c28:PySem.W.codeIn K cd28 "_law_cell"=true) (k28:PySem.W.keepIn K (.ref f28)=true)
  (a29:PySem.W.nsIn K mainGlobals "_law_mixed"=some (some (.ref f29))) (l29:K.lookup f29=some ⟨oc29,od29,.func (PySem.W.fnOf "_law_mixed" "_law_mixed" (aG bW) (ay bW) (aa bW) .none kV29 dc29 pm29 an29 cd29 ct29),sl29⟩) (c29:PySem.W.codeIn K cd29 "_law_mixed"=true) (k29:PySem.W.keepIn K (.ref f29)=true)
  (a30:PySem.W.nsIn K mainGlobals "_law_pack"=some (some (.ref f30))) (l30:K.lookup f30=some ⟨oc30,od30,.func (PySem.W.fnOf "_law_pack" "_law_pack" (aG cN) (ay cN) (aa cN) .none kV30 dc30 pm30 an30 cd30 ct30),sl30⟩) (c30:PySem.W.codeIn K cd30 "_law_pack"=true) (k30:PySem.W.keepIn K (.ref f30)=true)
  (a31:PySem.W.nsIn K mainGlobals "_law_saying"=some (some (.ref f31))) (l31:K.lookup f31=some ⟨oc31,od31,.func (PySem.W.fnOf "_law_saying" "_law_saying" (aG bh) (ay bh) (aa bh) .none kV31 dc31 pm31 an31 cd31 ct31),sl31⟩) (c31:PySem.W.codeIn K cd31 "_law_saying"=true) (k31:PySem.W.keepIn K (.ref f31)=true)
  (a32:PySem.W.nsIn K mainGlobals "_law_lying"=some (some (.ref f32))) (l32:K.lookup f32=some ⟨oc32,od32,.func (PySem.W.fnOf "_law_lying" "_law_lying" (aG bE) (ay bE) (aa bE) .none kV32 dc32 pm32 an32 cd32 ct32),sl32⟩) (c32:PySem.W.codeIn K cd32 "_law_lying"=true) (k32:PySem.W.keepIn K (.ref f32)=true)
  (a33:PySem.W.nsIn K mainGlobals "_law_sets"=some (some (.ref f33))) (l33:K.lookup f33=some ⟨oc33,od33,.func (PySem.W.fnOf "_law_sets" "_law_sets" (aG bO) (ay bO) (aa bO) .none kV33 dc33 pm33 an33 cd33 ct33),sl33⟩) (c33:PySem.W.codeIn K cd33 "_law_sets"=true) (k33:PySem.W.keepIn K (.ref f33)=true)
  (a34:PySem.W.nsIn K mainGlobals "_law_lie_within"=some (some (.ref f34))) (l34:K.lookup f34=some ⟨oc34,od34,.func (PySem.W.fnOf "_law_lie_within" "_law_lie_within" (aG aW) (ay aW) (aa aW) .none kV34 dc34 pm34 an34 cd34 ct34),sl34⟩) (c34:PySem.W.codeIn K cd34 "_law_lie_within"=true) (k34:PySem.W.keepIn K (.ref f34)=true)
  (a35:PySem.W.nsIn K mainGlobals "_law_holds"=some (some (.ref f35))) (l35:K.lookup f35=some ⟨oc35,od35,.func (PySem.W.fnOf "_law_holds" "_law_holds" (aG bp) (ay bp) (aa bp) .none kV35 dc35 pm35 an35 cd35 ct35),sl35⟩) (c35:PySem.W.codeIn K cd35 "_law_holds"=true) (k35:PySem.W.keepIn K (.ref f35)=true)
  (a36:PySem.W.nsIn K mainGlobals "_law_no_less"=some (some (.ref f36))) (l36:K.lookup f36=some ⟨oc36,od36,.func (PySem.W.fnOf "_law_no_less" "_law_no_less" (aG bP) (ay bP) (aa bP) .none kV36 dc36 pm36 an36 cd36 ct36),sl36⟩) (c36:PySem.W.codeIn K cd36 "_law_no_less"=true) (k36:PySem.W.keepIn K (.ref f36)=true)
  (a37:PySem.W.nsIn K mainGlobals "law"=some (some (.ref f37))) (l37:K.lookup f37=some ⟨oc37,od37,.func (PySem.W.fnOf "law" "law" (aG bU) (ay bU) (aa bU) .none kV37 dc37 pm37 an37 cd37 ct37),sl37⟩) (c37:PySem.W.codeIn K cd37 "law"=true) (k37:PySem.W.keepIn K (.ref f37)=true)
  (a38:PySem.W.findIn K (.ref aT) "__init__"=some (some (.ref f38))) (i38:PySem.W.isFn K (.ref f38)=true) (l38:K.lookup f38=some ⟨oc38,od38,.func (PySem.W.fnOf "__init__" "Table.__init__" (aG bL) (ay bL) (aa bL) .none kV38 dc38 pm38 an38 cd38 ct38),sl38⟩) (c38:PySem.W.codeIn K cd38 "Table.__init__"=true) (k38:PySem.W.keepIn K (.ref f38)=true)
  (a39:PySem.W.findIn K (.ref aT) "deals"=some (some (.ref f39))) (i39:PySem.W.isFn K (.ref f39)=true) (l39:K.lookup f39=some ⟨oc39,od39,.func (PySem.W.fnOf "deals" "Table.deals" (aG cC) (ay cC) (aa cC) .none kV39 dc39 pm39 an39 cd39 ct39),sl39⟩) (c39:PySem.W.codeIn K cd39 "Table.deals"=true) (k39:PySem.W.keepIn K (.ref f39)=true)
  (a40:PySem.W.findIn K (.ref aT) "truths"=some (some (.ref f40))) (i40:PySem.W.isFn K (.ref f40)=true) (l40:K.lookup f40=some ⟨oc40,od40,.func (PySem.W.fnOf "truths" "Table.truths" (aG bQ) (ay bQ) (aa bQ) .none kV40 dc40 pm40 an40 cd40 ct40),sl40⟩) (c40:PySem.W.codeIn K cd40 "Table.truths"=true) (k40:PySem.W.keepIn K (.ref f40)=true)
  (y1:PySem.W.nsIn K mainGlobals "MOST_CARDS"=some (some (.int 12 t_MOST_CARDS)))
  (y2:PySem.W.nsIn K mainGlobals "MOST_HANDS"=some (some (.int 5 t_MOST_HANDS)))
  (y3:PySem.W.nsIn K mainGlobals "MOST_DEALS"=some (some (.int 2000 t_MOST_DEALS)))
  (y4:PySem.W.nsIn K mainGlobals "set"=some none)
  (y5:PySem.W.nsIn K mainGlobals "MOST_WORDS"=some (some (.int 30 t_MOST_WORDS)))
  (y6:PySem.W.nsIn K mainGlobals "any"=some none)
  (x1:PySem.W.nsIn K mainGlobals "FORMS"=some (some (.ref aF)))
  (x2:K.lookup aF=some ⟨.type "dict",none,.dict #[⟨PyData.keyHash w.params "holds",.str "holds" tk1,.ref fm1⟩,⟨PyData.keyHash w.params "not",.str "not" tk2,.ref fm2⟩,⟨PyData.keyHash w.params "and",.str "and" tk3,.ref fm3⟩,⟨PyData.keyHash w.params "or",.str "or" tk4,.ref fm4⟩,⟨PyData.keyHash w.params "knows",.str "knows" tk5,.ref fm5⟩,⟨PyData.keyHash w.params "all",.str "all" tk6,.ref fm6⟩,⟨PyData.keyHash w.params "common",.str "common" tk7,.ref fm7⟩,⟨PyData.keyHash w.params "sees",.str "sees" tk8,.ref fm8⟩] epF,#[]⟩)
  (x3:K.lookup fm1=some ⟨.type "tuple",to1,.seq #[.str "holder" tu1,.str "card" tu2] tn1,ts1⟩)
  (x4:K.lookup fm2=some ⟨.type "tuple",to2,.seq #[.str "saying" tu3] tn2,ts2⟩)
  (x5:K.lookup fm3=some ⟨.type "tuple",to3,.seq #[.str "saying" tu4,.str "saying" tu5] tn3,ts3⟩)
  (x6:K.lookup fm4=some ⟨.type "tuple",to4,.seq #[.str "saying" tu6,.str "saying" tu7] tn4,ts4⟩)
  (x7:K.lookup fm5=some ⟨.type "tuple",to5,.seq #[.str "hand" tu8,.str "saying" tu9] tn5,ts5⟩)
  (x8:K.lookup fm6=some ⟨.type "tuple",to6,.seq #[.str "hands" tu10,.str "saying" tu11] tn6,ts6⟩)
  (x9:K.lookup fm7=some ⟨.type "tuple",to7,.seq #[.str "hands" tu12,.str "saying" tu13] tn7,ts7⟩)
  (x10:K.lookup fm8=some ⟨.type "tuple",to8,.seq #[.str "hand" tu14] tn8,ts8⟩)
  (x11:(aF == sysModules)=false)
  (x12:PySem.W.nsIn K mainGlobals "Table"=some (some (.ref aT)))
  (x13:PySem.W.plainGet K aT Str.empty=true)
  (x14:PySem.W.hasDictIn K aT=true)
  (x15:PySem.W.plainOver K aT=true)
  (x16:PySem.W.findIn K (.ref aT) "__setattr__"=some (some (.builtin "object.__setattr__")))
  (x17:PySem.W.makesIn K aT=true)
  (x18:PySem.W.keepIn K (.ref aT)=true)
  (x19:PySem.W.findIn K (.ref aT) "dealt"=some none)
  (x20:PySem.W.findIn K (.ref aT) "cards"=some none)
  (x21:PySem.W.findIn K (.ref aT) "sizes"=some none)
  (x22:PySem.W.findIn K (.ref aT) "hands"=some none)
  (x23:PySem.W.findIn K (.ref aT) "views"=some none)
  (x24:PySem.W.findIn K (.ref aT) "deeds"=some none)
  {Pt ct0:Addr} (hfc:cd3=.ref ct0) (hC:PySem.W.codeHdIn K ct0 Pt=true)
  (z1:PySem.W.nsIn K mainGlobals "len"=some none) (z2:PySem.W.nsIn K mainGlobals "range"=some none) (z3:PySem.W.nsIn K mainGlobals "tuple"=some none) (z4:PySem.W.nsIn K mainGlobals "list"=some none) (z5:PySem.W.nsIn K mainGlobals "int"=some none) (z6:PySem.W.nsIn K mainGlobals "bool"=some none) (z7:PySem.W.nsIn K mainGlobals "str"=some none) (z8:PySem.W.nsIn K mainGlobals "dict"=some none) (z9:PySem.W.nsIn K mainGlobals "sum"=some none) (z10:PySem.W.nsIn K mainGlobals "all"=some none) (z11:PySem.W.nsIn K mainGlobals "min"=some none) (z12:PySem.W.nsIn K mainGlobals "max"=some none) (z13:PySem.W.nsIn K mainGlobals "sorted"=some none) (z14:PySem.W.nsIn K mainGlobals "enumerate"=some none) (z15:PySem.W.nsIn K mainGlobals "zip"=some none) (z16:PySem.W.nsIn K mainGlobals "isinstance"=some none):
  ∃ fd:FuncData,(∀ (s:Shared) (v:Value),BindsTo s fd ⟨[v],[]⟩ [("_law_script",v)])/\∀ base:Heap,K.In base->base.Ns mainGlobals mg->BM base mg->cb l.prog w K mg base CX0 12 fa fd ["_law_script"] (kL K (LL Pt)):=by
 have e:=hfa.symm.trans (PySem.W.mg_of X G a37)
 cases e
 have B:Blt mg:=⟨PySem.W.mg_none_of X G z1,PySem.W.mg_none_of X G z2,PySem.W.mg_none_of X G z3,PySem.W.mg_none_of X G z4,PySem.W.mg_none_of X G z5,PySem.W.mg_none_of X G z6,PySem.W.mg_none_of X G z7,PySem.W.mg_none_of X G z8,PySem.W.mg_none_of X G z9,PySem.W.mg_none_of X G z10,PySem.W.mg_none_of X G z11,PySem.W.mg_none_of X G z12,PySem.W.mg_none_of X G z13,PySem.W.mg_none_of X G z14,PySem.W.mg_none_of X G z15,PySem.W.mg_none_of X G z16⟩
 have F1:=aP (st:=du) l1 c1 k1
 have D1:Def K mg "liars_of" du ["many","claims"] _ _:=⟨F1,PySem.W.mg_of X G a1,F1.binds (ps:=["many","claims"]) fun _ _ _ _ _ _ us hl=>ofLen2 us hl fun _ _=>rfl⟩
 have F2:=aP (st:=d7) l2 c2 k2
 have D2:Def K mg "may_be" d7 ["many","claims","most"] _ _:=⟨F2,PySem.W.mg_of X G a2,F2.binds (ps:=["many","claims","most"]) fun _ _ _ _ _ _ us hl=>ofLen3 us hl fun _ _ _=>rfl⟩
 have F3:=aP (st:=bI) l3 c3 k3
 have D3:Def K mg "how_sure" bI ["many","claims","truths"] _ _:=⟨F3,PySem.W.mg_of X G a3,F3.binds (ps:=["many","claims","truths"]) fun _ _ _ _ _ _ us hl=>ofLen3 us hl fun _ _ _=>rfl⟩
 have F4:=aP (st:=dP) l4 c4 k4
 have D4:Def K mg "is_whole" dP ["thing"] _ _:=⟨F4,PySem.W.mg_of X G a4,F4.binds (ps:=["thing"]) fun _ _ _ _ _ _ us hl=>ofLen1 us hl fun _=>rfl⟩
 have F5:=aP (st:=cr) l5 c5 k5
 have D5:Def K mg "is_within" cr ["thing","least","most"] _ _:=⟨F5,PySem.W.mg_of X G a5,F5.binds (ps:=["thing","least","most"]) fun _ _ _ _ _ _ us hl=>ofLen3 us hl fun _ _ _=>rfl⟩
 have F6:=aP (st:=dv) l6 c6 k6
 have D6:Def K mg "is_below" dv ["thing","bound"] _ _:=⟨F6,PySem.W.mg_of X G a6,F6.binds (ps:=["thing","bound"]) fun _ _ _ _ _ _ us hl=>ofLen2 us hl fun _ _=>rfl⟩
 have F7:=aP (st:=bY) l7 c7 k7
 have D7:Def K mg "are_hands" bY ["thing","hands"] _ _:=⟨F7,PySem.W.mg_of X G a7,F7.binds (ps:=["thing","hands"]) fun _ _ _ _ _ _ us hl=>ofLen2 us hl fun _ _=>rfl⟩
 have F8:=aP (st:=dC) l8 c8 k8
 have D8:Def K mg "is_pack" dC ["cards","sizes"] _ _:=⟨F8,PySem.W.mg_of X G a8,F8.binds (ps:=["cards","sizes"]) fun _ _ _ _ _ _ us hl=>ofLen2 us hl fun _ _=>rfl⟩
 have F9:=aP (st:=ca) l9 c9 k9
 have D9:Def K mg "how_many" ca ["cards","sizes"] _ _:=⟨F9,PySem.W.mg_of X G a9,F9.binds (ps:=["cards","sizes"]) fun _ _ _ _ _ _ us hl=>ofLen2 us hl fun _ _=>rfl⟩
 have F10:=aP (st:=cW) l10 c10 k10
 have D10:Def K mg "choices" cW ["many","taken"] _ _:=⟨F10,PySem.W.mg_of X G a10,F10.binds (ps:=["many","taken"]) fun _ _ _ _ _ _ us hl=>ofLen2 us hl fun _ _=>rfl⟩
 have F11:=aP (st:=cA) l11 c11 k11
 have D11:Def K mg "deals_of" cA ["cards","sizes"] _ _:=⟨F11,PySem.W.mg_of X G a11,F11.binds (ps:=["cards","sizes"]) fun _ _ _ _ _ _ us hl=>ofLen2 us hl fun _ _=>rfl⟩
 have F12:=aP (st:=aV) l12 c12 k12
 have D12:Def K mg "with_one_more" aV ["begun","room"] _ _:=⟨F12,PySem.W.mg_of X G a12,F12.binds (ps:=["begun","room"]) fun _ _ _ _ _ _ us hl=>ofLen2 us hl fun _ _=>rfl⟩
 have F13:=aP (st:=dw) l13 c13 k13
 have D13:Def K mg "cards_of" dw ["deal","who"] _ _:=⟨F13,PySem.W.mg_of X G a13,F13.binds (ps:=["deal","who"]) fun _ _ _ _ _ _ us hl=>ofLen2 us hl fun _ _=>rfl⟩
 have F14:=aP (st:=bF) l14 c14 k14
 have D14:Def K mg "is_saying" bF ["cards","hands","thing"] _ _:=⟨F14,PySem.W.mg_of X G a14,F14.binds (ps:=["cards","hands","thing"]) fun _ _ _ _ _ _ us hl=>ofLen3 us hl fun _ _ _=>rfl⟩
 have F15:=aP (st:=dD) l15 c15 k15
 have D15:Def K mg "is_word" dD ["cards","hands","thing"] _ _:=⟨F15,PySem.W.mg_of X G a15,F15.binds (ps:=["cards","hands","thing"]) fun _ _ _ _ _ _ us hl=>ofLen3 us hl fun _ _ _=>rfl⟩
 have F16:=aP (st:=fD) l16 c16 k16
 have D16:Def K mg "fits" fD ["cards","hands","place","part"] _ _:=⟨F16,PySem.W.mg_of X G a16,F16.binds (ps:=["cards","hands","place","part"]) fun _ _ _ _ _ _ us hl=>ofLen4 us hl fun _ _ _ _=>rfl⟩
 have F17:=aP (st:=cT) l17 c17 k17
 have D17:Def K mg "parts_of" cT ["saying"] _ _:=⟨F17,PySem.W.mg_of X G a17,F17.binds (ps:=["saying"]) fun _ _ _ _ _ _ us hl=>ofLen1 us hl fun _=>rfl⟩
 have F18:=aP (st:=bD) l18 c18 k18
 have D18:Def K mg "parts_of_all" bD ["sayings"] _ _:=⟨F18,PySem.W.mg_of X G a18,F18.binds (ps:=["sayings"]) fun _ _ _ _ _ _ us hl=>ofLen1 us hl fun _=>rfl⟩
 have F19:=aP (st:=cu) l19 c19 k19
 have D19:Def K mg "first_view" cu ["deals","hand"] _ _:=⟨F19,PySem.W.mg_of X G a19,F19.binds (ps:=["deals","hand"]) fun _ _ _ _ _ _ us hl=>ofLen2 us hl fun _ _=>rfl⟩
 have F20:=aP (st:=aS) l20 c20 k20
 have D20:Def K mg "least_with_same" aS ["marks"] _ _:=⟨F20,PySem.W.mg_of X G a20,F20.binds (ps:=["marks"]) fun _ _ _ _ _ _ us hl=>ofLen1 us hl fun _=>rfl⟩
 have F21:=aP (st:=fV) l21 c21 k21
 have D21:Def K mg "joined" fV ["many","views"] _ _:=⟨F21,PySem.W.mg_of X G a21,F21.binds (ps:=["many","views"]) fun _ _ _ _ _ _ us hl=>ofLen2 us hl fun _ _=>rfl⟩
 have F22:=aP (st:=bf) l22 c22 k22
 have D22:Def K mg "truths_of" bf ["deals","views","S"] _ _:=⟨F22,PySem.W.mg_of X G a22,F22.binds (ps:=["deals","views","S"]) fun _ _ _ _ _ _ us hl=>ofLen3 us hl fun _ _ _=>rfl⟩
 have F23:=aP (st:=fX) l23 c23 k23
 have D23:Def K mg "both" fX ["ones","others"] _ _:=⟨F23,PySem.W.mg_of X G a23,F23.binds (ps:=["ones","others"]) fun _ _ _ _ _ _ us hl=>ofLen2 us hl fun _ _=>rfl⟩
 have F24:=aP (st:=d9) l24 c24 k24
 have D24:Def K mg "either" d9 ["ones","others"] _ _:=⟨F24,PySem.W.mg_of X G a24,F24.binds (ps:=["ones","others"]) fun _ _ _ _ _ _ us hl=>ofLen2 us hl fun _ _=>rfl⟩
 have F25:=aP (st:=gW) l25 c25 k25
 have D25:Def K mg "known" gW ["view","truths"] _ _:=⟨F25,PySem.W.mg_of X G a25,F25.binds (ps:=["view","truths"]) fun _ _ _ _ _ _ us hl=>ofLen2 us hl fun _ _=>rfl⟩
 have F26:=aP (st:=cL) l26 c26 k26
 have D26:Def K mg "known_to_all" cL ["views","truths"] _ _:=⟨F26,PySem.W.mg_of X G a26,F26.binds (ps:=["views","truths"]) fun _ _ _ _ _ _ us hl=>ofLen2 us hl fun _ _=>rfl⟩
 have F27:=aP (st:=jf) l27 c27 k27
 have D27:Def K mg "seen" jf ["piles","view"] _ _:=⟨F27,PySem.W.mg_of X G a27,F27.binds (ps:=["piles","view"]) fun _ _ _ _ _ _ us hl=>ofLen2 us hl fun _ _=>rfl⟩
 have F28:=aP (st:=cx) l28 c28 k28
 have D28:Def K mg "_law_cell" cx ["_law_script","_law_k"] _ _:=⟨F28,PySem.W.mg_of X G a28,F28.binds (ps:=["_law_script","_law_k"]) fun _ _ _ _ _ _ us hl=>ofLen2 us hl fun _ _=>rfl⟩
 have F29:=aP (st:=bW) l29 c29 k29
 have D29:Def K mg "_law_mixed" bW ["_law_cell_here","_law_k"] _ _:=⟨F29,PySem.W.mg_of X G a29,F29.binds (ps:=["_law_cell_here","_law_k"]) fun _ _ _ _ _ _ us hl=>ofLen2 us hl fun _ _=>rfl⟩
 have F30:=aP (st:=cN) l30 c30 k30
 have D30:Def K mg "_law_pack" cN ["_law_cell_here"] _ _:=⟨F30,PySem.W.mg_of X G a30,F30.binds (ps:=["_law_cell_here"]) fun _ _ _ _ _ _ us hl=>ofLen1 us hl fun _=>rfl⟩
 have F31:=aP (st:=bh) l31 c31 k31
 have D31:Def K mg "_law_saying" bh ["_law_cell_here","_law_k","_law_cards","_law_hands","_law_deep"] _ _:=⟨F31,PySem.W.mg_of X G a31,F31.binds (ps:=["_law_cell_here","_law_k","_law_cards","_law_hands","_law_deep"]) fun _ _ _ _ _ _ us hl=>ofLen5 us hl fun _ _ _ _ _=>rfl⟩
 have F32:=aP (st:=bE) l32 c32 k32
 have D32:Def K mg "_law_lying" bE ["_law_claims","_law_deal"] _ _:=⟨F32,PySem.W.mg_of X G a32,F32.binds (ps:=["_law_claims","_law_deal"]) fun _ _ _ _ _ _ us hl=>ofLen2 us hl fun _ _=>rfl⟩
 have F33:=aP (st:=bO) l33 c33 k33
 have D33:Def K mg "_law_sets" bO ["_law_hands","_law_most"] _ _:=⟨F33,PySem.W.mg_of X G a33,F33.binds (ps:=["_law_hands","_law_most"]) fun _ _ _ _ _ _ us hl=>ofLen2 us hl fun _ _=>rfl⟩
 have F34:=aP (st:=aW) l34 c34 k34
 have D34:Def K mg "_law_lie_within" aW ["_law_lying_here","_law_most","_law_hands"] _ _:=⟨F34,PySem.W.mg_of X G a34,F34.binds (ps:=["_law_lying_here","_law_most","_law_hands"]) fun _ _ _ _ _ _ us hl=>ofLen3 us hl fun _ _ _=>rfl⟩
 have F35:=aP (st:=bp) l35 c35 k35
 have D35:Def K mg "_law_holds" bp ["_law_found","_law_lying_here","_law_truths","_law_hands"] _ _:=⟨F35,PySem.W.mg_of X G a35,F35.binds (ps:=["_law_found","_law_lying_here","_law_truths","_law_hands"]) fun _ _ _ _ _ _ us hl=>ofLen4 us hl fun _ _ _ _=>rfl⟩
 have F36:=aP (st:=bP) l36 c36 k36
 have D36:Def K mg "_law_no_less" bP ["_law_one","_law_other"] _ _:=⟨F36,PySem.W.mg_of X G a36,F36.binds (ps:=["_law_one","_law_other"]) fun _ _ _ _ _ _ us hl=>ofLen2 us hl fun _ _=>rfl⟩
 have F37:=aP (st:=bU) l37 c37 k37
 have D37:Def K mg "law" bU ["_law_script"] _ _:=⟨F37,PySem.W.mg_of X G a37,F37.binds (ps:=["_law_script"]) fun _ _ _ _ _ _ us hl=>ofLen1 us hl fun _=>rfl⟩
 have F38:=aP (st:=bL) l38 c38 k38
 have D38:uw K aT "Table.__init__" bL ["self","cards","sizes"] _ _:=⟨F38,⟨x17,a38,i38,x18⟩,F38.binds (ps:=["self","cards","sizes"]) fun _ _ _ _ _ _ us hl=>ofLen3 us hl fun _ _ _=>rfl⟩
 have F39:=aP (st:=cC) l39 c39 k39
 have D39:mG K aT "deals" "Table.deals" cC ["self"] _ _:=⟨F39,⟨a39,i39,k39⟩,F39.binds (ps:=["self"]) fun _ _ _ _ _ _ us hl=>ofLen1 us hl fun _=>rfl⟩
 have F40:=aP (st:=bQ) l40 c40 k40
 have D40:mG K aT "truths" "Table.truths" bQ ["self","S"] _ _:=⟨F40,⟨a40,i40,k40⟩,F40.binds (ps:=["self","S"]) fun _ _ _ _ _ _ us hl=>ofLen2 us hl fun _ _=>rfl⟩
 refine ⟨PySem.W.fnOf "law" "law" (aG bU) (ay bU) (aa bU) .none kV37 dc37 pm37 an37 cd37 ct37,fun s v=>.of_eq rfl,fun base _ _ bm=>?_⟩
 have T:ic l.prog w K mg _:=Ap (BP (aC:=0) x11 (PySem.W.mg_of X G x1) x2 x3 x4 x5 x6 x7 x8 x9 x10) (PySem.W.mg_of X G x12) x13 x14 x15 x16 x19 x20 x21 x22 x23 x24
 exact ED B D1 D2 D3 D4 D5 D6 D7 D8 D9 D10 D11 D12 D13 D14 D15 D16 D17 D18 D19 D20 D21 D22 D23 D24 D25 D26 D27 D28 D29 D30 D31 D32 D33 D34 D35 D36 D37 D38 D39 D40 T hfc hC bm (PySem.W.mg_of X G y1) (PySem.W.mg_of X G y2) (PySem.W.mg_of X G y3) (PySem.W.mg_none_of X G y4) (PySem.W.mg_of X G y5) (PySem.W.mg_none_of X G y6)
end Kc_k61
noncomputable def PySem.W.Fast.tw6764198704356131973:PySem.Program:=PySem.Challenge.pw_knowcards_k61_whole_sure_whoever_lies
theorem PySem.W.Fast.te6764198704356131973:PySem.Challenge.pw_knowcards_k61_whole_sure_whoever_lies=PySem.W.Fast.tw6764198704356131973:=rfl
noncomputable def PySem.W.Fast.tw16240998437716212892:PySem.Params->PySem.W.Frag:=fun _=>[]
theorem PySem.W.Fast.te16240998437716212892:(fun _=>[]:PySem.Params->PySem.W.Frag)=PySem.W.Fast.tw16240998437716212892:=rfl
noncomputable def PySem.W.Fast.tw8333066340381393377:PySem.Program:=PySem.Challenge.pw_knowcards_k61_whole_sure_whoever_lies
theorem PySem.W.Fast.te8333066340381393377:PySem.Challenge.pw_knowcards_k61_whole_sure_whoever_lies=PySem.W.Fast.tw8333066340381393377:=rfl
noncomputable def PySem.W.Fast.tw10881745252814313487:PySem.Params->PySem.Obj:=fun _=>default
theorem PySem.W.Fast.te10881745252814313487:(fun _=>default:PySem.Params->PySem.Obj)=PySem.W.Fast.tw10881745252814313487:=rfl
open PySem PySem.W PyProof.Rows
set_option maxRecDepth 100000 in
set_option maxHeartbeats 0 in
theorem PySem.Challenge.cw_knowcards_k61_whole_sure_whoever_lies_holds : PySem.Challenge.rw_knowcards_k61_whole_sure_whoever_lies.Holds := by
 w_on; o_law; k_head; (case hw=>w_witness2)
 k_fill
 refine L2.AM (l:=PySem.Challenge.rw_knowcards_k61_whole_sure_whoever_lies) (k:=12) (x:="_law_script") (P:=33) (c:=35) (lpos:=⟨14,27,14,51⟩) (qual:=(("how_sure":Str)++(".<locals>.":Str))++("<lambda>":Str)) rfl rfl ⟨rfl,by decide,by decide⟩ (fun w h Y=>PySem.W.km_in_of Y) (fun w h Y=>PySem.W.km_tabs_of Y 33 (List.mem_singleton.mpr rfl)) (fun w=>by kernel_rfl) (fun w=>by kernel_rfl) ?F
 case F=>
  intro w mg fa h KX G hmg
  refine' Kc_k61.all_mk KX G hmg ?a1 ?l1 ?c1 ?k1 ?a2 ?l2 ?c2 ?k2 ?a3 ?l3 ?c3 ?k3 ?a4 ?l4 ?c4 ?k4 ?a5 ?l5 ?c5 ?k5 ?a6 ?l6 ?c6 ?k6 ?a7 ?l7 ?c7 ?k7 ?a8 ?l8 ?c8 ?k8 ?a9 ?l9 ?c9 ?k9 ?a10 ?l10 ?c10 ?k10 ?a11 ?l11 ?c11 ?k11 ?a12 ?l12 ?c12 ?k12 ?a13 ?l13 ?c13 ?k13 ?a14 ?l14 ?c14 ?k14 ?a15 ?l15 ?c15 ?k15 ?a16 ?l16 ?c16 ?k16 ?a17 ?l17 ?c17 ?k17 ?a18 ?l18 ?c18 ?k18 ?a19 ?l19 ?c19 ?k19 ?a20 ?l20 ?c20 ?k20 ?a21 ?l21 ?c21 ?k21 ?a22 ?l22 ?c22 ?k22 ?a23 ?l23 ?c23 ?k23 ?a24 ?l24 ?c24 ?k24 ?a25 ?l25 ?c25 ?k25 ?a26 ?l26 ?c26 ?k26 ?a27 ?l27 ?c27 ?k27 ?a28 ?l28 ?c28 ?k28 ?a29 ?l29 ?c29 ?k29 ?a30 ?l30 ?c30 ?k30 ?a31 ?l31 ?c31 ?k31 ?a32 ?l32 ?c32 ?k32 ?a33 ?l33 ?c33 ?k33 ?a34 ?l34 ?c34 ?k34 ?a35 ?l35 ?c35 ?k35 ?a36 ?l36 ?c36 ?k36 ?a37 ?l37 ?c37 ?k37 ?a38 ?i38 ?l38 ?c38 ?k38 ?a39 ?i39 ?l39 ?c39 ?k39 ?a40 ?i40 ?l40 ?c40 ?k40 ?y1 ?y2 ?y3 ?y4 ?y5 ?y6 ?x1 ?x2 ?x3 ?x4 ?x5 ?x6 ?x7 ?x8 ?x9 ?x10 ?x11 ?x12 ?x13 ?x14 ?x15 ?x16 ?x17 ?x18 ?x19 ?x20 ?x21 ?x22 ?x23 ?x24 ?hfc ?hC ?z1 ?z2 ?z3 ?z4 ?z5 ?z6 ?z7 ?z8 ?z9 ?z10 ?z11 ?z12 ?z13 ?z14 ?z15 ?z16
  (case a1=>k_is); (case l1=>k_is); (case c1=>k_is); (case k1=>k_is)
  (case a2=>k_is); (case l2=>k_is); (case c2=>k_is); (case k2=>k_is)
  (case a3=>k_is); (case l3=>k_is); (case c3=>k_is); (case k3=>k_is)
  (case a4=>k_is); (case l4=>k_is); (case c4=>k_is); (case k4=>k_is)
  (case a5=>k_is); (case l5=>k_is); (case c5=>k_is); (case k5=>k_is)
  (case a6=>k_is); (case l6=>k_is); (case c6=>k_is); (case k6=>k_is)
  (case a7=>k_is); (case l7=>k_is); (case c7=>k_is); (case k7=>k_is)
  (case a8=>k_is); (case l8=>k_is); (case c8=>k_is); (case k8=>k_is)
  (case a9=>k_is); (case l9=>k_is); (case c9=>k_is); (case k9=>k_is)
  (case a10=>k_is); (case l10=>k_is); (case c10=>k_is); (case k10=>k_is)
  (case a11=>k_is); (case l11=>k_is); (case c11=>k_is); (case k11=>k_is)
  (case a12=>k_is); (case l12=>k_is); (case c12=>k_is); (case k12=>k_is)
  (case a13=>k_is); (case l13=>k_is); (case c13=>k_is); (case k13=>k_is)
  (case a14=>k_is); (case l14=>k_is); (case c14=>k_is); (case k14=>k_is)
  (case a15=>k_is); (case l15=>k_is); (case c15=>k_is); (case k15=>k_is)
  (case a16=>k_is); (case l16=>k_is); (case c16=>k_is); (case k16=>k_is)
  (case a17=>k_is); (case l17=>k_is); (case c17=>k_is); (case k17=>k_is)
  (case a18=>k_is); (case l18=>k_is); (case c18=>k_is); (case k18=>k_is)
  (case a19=>k_is); (case l19=>k_is); (case c19=>k_is); (case k19=>k_is)
  (case a20=>k_is); (case l20=>k_is); (case c20=>k_is); (case k20=>k_is)
  (case a21=>k_is); (case l21=>k_is); (case c21=>k_is); (case k21=>k_is)
  (case a22=>k_is); (case l22=>k_is); (case c22=>k_is); (case k22=>k_is)
  (case a23=>k_is); (case l23=>k_is); (case c23=>k_is); (case k23=>k_is)
  (case a24=>k_is); (case l24=>k_is); (case c24=>k_is); (case k24=>k_is)
  (case a25=>k_is); (case l25=>k_is); (case c25=>k_is); (case k25=>k_is)
  (case a26=>k_is); (case l26=>k_is); (case c26=>k_is); (case k26=>k_is)
  (case a27=>k_is); (case l27=>k_is); (case c27=>k_is); (case k27=>k_is)
  (case a28=>k_is); (case l28=>k_is); (case c28=>k_is); (case k28=>k_is)
  (case a29=>k_is); (case l29=>k_is); (case c29=>k_is); (case k29=>k_is)
  (case a30=>k_is); (case l30=>k_is); (case c30=>k_is); (case k30=>k_is)
  (case a31=>k_is); (case l31=>k_is); (case c31=>k_is); (case k31=>k_is)
  (case a32=>k_is); (case l32=>k_is); (case c32=>k_is); (case k32=>k_is)
  (case a33=>k_is); (case l33=>k_is); (case c33=>k_is); (case k33=>k_is)
  (case a34=>k_is); (case l34=>k_is); (case c34=>k_is); (case k34=>k_is)
  (case a35=>k_is); (case l35=>k_is); (case c35=>k_is); (case k35=>k_is)
  (case a36=>k_is); (case l36=>k_is); (case c36=>k_is); (case k36=>k_is)
  (case a37=>k_is); (case l37=>k_is); (case c37=>k_is); (case k37=>k_is)
  (case hfc=>rfl); (case hC=>kernel_rfl)
  (case y1=>k_is)
  (case y2=>k_is)
  (case y3=>k_is)
  (case y4=>k_is)
  (case y5=>k_is)
  (case y6=>k_is)
  (case x1=>k_is)
  (case x2=>k_is)
  (case x3=>k_is)
  (case x4=>k_is)
  (case x5=>k_is)
  (case x6=>k_is)
  (case x7=>k_is)
  (case x8=>k_is)
  (case x9=>k_is)
  (case x10=>k_is)
  (case x11=>rfl)
  (case x12=>k_is)
  (case x13=>k_is)
  (case x14=>k_is)
  (case x15=>k_is)
  (case x16=>k_is)
  (case x17=>k_is)
  (case x18=>k_is)
  (case x19=>k_is)
  (case x20=>k_is)
  (case x21=>k_is)
  (case x22=>k_is)
  (case x23=>k_is)
  (case x24=>k_is)
  (case a38=>k_is); (case i38=>k_is); (case l38=>k_is); (case c38=>k_is); (case k38=>k_is)
  (case a39=>k_is); (case i39=>k_is); (case l39=>k_is); (case c39=>k_is); (case k39=>k_is)
  (case a40=>k_is); (case i40=>k_is); (case l40=>k_is); (case c40=>k_is); (case k40=>k_is)
  (case z1=>k_is); (case z2=>k_is); (case z3=>k_is); (case z4=>k_is); (case z5=>k_is); (case z6=>k_is); (case z7=>k_is); (case z8=>k_is); (case z9=>k_is); (case z10=>k_is); (case z11=>k_is); (case z12=>k_is); (case z13=>k_is); (case z14=>k_is); (case z15=>k_is); (case z16=>k_is)
