import PyProof.Rows.All
import Wide.All
import OpenK.AllK
import Wide.FinOn
import Lean
import PyProof.EqAt
import PyProof.EqKinds
import PyProof.TupleCall
import PyProof.NeKinds
import PyProof.SumWalkG
import PyProof.ConsumeWalk
import KE.IntBitsLaws
import PyProof.ZipIter
import KE.KLam
import KE.KMinKey
import KE.KNestM
import KE.KDictLaws
import KE.KEqDict
import PyProof.Rows.EqDataRows
import PyProof.ListRange
import KE.KItemsList
import KE.KRevIter
import PyProof.ListMulRoad
import PyProof.Rows.SetFrom
import PyProof.Rows.CallKwBuiltin
import PyProof.Rows.SeqMore
import PyProof.WalkInts
import KE.KMinBuiltin
import PySem.Challenge.RW_knowcards_k29_whole_reasons_and_truths
set_option Elab.async false
set_option linter.all false
set_option maxRecDepth 100000
set_option maxHeartbeats 4000000
set_option compiler.extract_closed false
section
namespace L2
open PySem PySem.Spec PyProof.Rows
noncomputable abbrev Key:=Sum Int Str
noncomputable def Au:Key->Value->Bool
 | .inl k,v=>Value.isInt k v
 | .inr x,v=>Value.isStrOf x v
noncomputable def Dz (w:World):Key->Int
 | .inl k=>hashInt k
 | .inr x=>hashStr w x
theorem dm:∀ {k:Key} {v:Value},Au k v=true->(∃ i t,k=Sum.inl i/\v=Value.int i t)\/(∃ x t,k=Sum.inr x/\v=Value.str x t)
 | .inl i,v,h=>by
  obtain ⟨t,e⟩:=Value.isInt_shape (k:=i) (v:=v) h
  exact .inl ⟨i,t,rfl,e⟩
 | .inr x,v,h=>by
  obtain ⟨t,e⟩:=Value.isStrOf_shape (x:=x) (v:=v) h
  exact .inr ⟨x,t,rfl,e⟩
theorem BC (a b:Int):decide ((Sum.inl a:Key)=Sum.inl b)=(a == b):=by
 by_cases e:a=b
 ·subst e; simp
 ·have h:¬ (Sum.inl a:Key)=Sum.inl b:=fun q=>e (Sum.inl.inj q)
  rw [decide_eq_false h]
  exact (beq_eq_false_iff_ne.mpr e).symm
theorem BD (a b:Str):decide ((Sum.inr a:Key)=Sum.inr b)=decide (a=b):=by
 by_cases e:a=b
 ·subst e; simp
 ·have h:¬ (Sum.inr a:Key)=Sum.inr b:=fun q=>e (Sum.inr.inj q)
  rw [decide_eq_false h,decide_eq_false e]
theorem BE (a:Int) (b:Str):decide ((Sum.inl a:Key)=Sum.inr b)=false:=decide_eq_false (fun q=>nomatch q)
theorem BF (a:Str) (b:Int):decide ((Sum.inr a:Key)=Sum.inl b)=false:=decide_eq_false (fun q=>nomatch q)
noncomputable def vX (prog:Program) (w:World):PySem.KeyKind prog w Key where
 is:=Au
 hash:=Dz w
 inj:=fun v a b ha hb=>by
  rcases dm ha with ⟨i,t,rfl,rfl⟩ | ⟨x,t,rfl,rfl⟩
  ·rcases dm hb with ⟨j,u,rfl,e⟩ | ⟨y,u,rfl,e⟩
   ·injection e with e1 _; rw [e1]
   ·exact nomatch e
  ·rcases dm hb with ⟨j,u,rfl,e⟩ | ⟨y,u,rfl,e⟩
   ·exact nomatch e
   ·injection e with e1 _; rw [e1]
 byValue:=fun k v h=>by
  rcases dm h with ⟨i,t,rfl,rfl⟩ | ⟨x,t,rfl,rfl⟩ <;> rfl
 pyHash:=fun hv h=>by
  rcases dm hv with ⟨i,t,rfl,rfl⟩ | ⟨x,t,rfl,rfl⟩
  ·exact wpAny_pyHash_int h
  ·exact wpAny_pyHash_str h
 eqBool:=fun hu hv h=>by
  rcases dm hu with ⟨i,t,rfl,rfl⟩ | ⟨x,t,rfl,rfl⟩
  ·rcases dm hv with ⟨j,u,rfl,rfl⟩ | ⟨y,u,rfl,rfl⟩
   ·rw [BC] at h; exact wpAny_eqBool_int h
   ·rw [BE] at h; exact SeqAt.EqAt.int_str i t y u _ _ _ _ h
  ·rcases dm hv with ⟨j,u,rfl,rfl⟩ | ⟨y,u,rfl,rfl⟩
   ·rw [BF] at h; exact SeqAt.EqAt.str_int x t j u _ _ _ _ h
   ·rw [BD] at h; exact wpAny_eqBool_str h
 «strs»:=fun k x t v h=>by
  rcases dm h with ⟨i,u,rfl,e⟩ | ⟨y,u,rfl,e⟩
  ·exact nomatch e
  ·injection e with e1 _
   subst e1
   cases v <;> rfl
end L2
namespace L2
open PySem PySem.Spec PyProof.Rows
inductive V where
 | non | bl (b:Bool) | int (i:Int) | str (x:Str) | byt (b:Array UInt8) | flt (b:UInt64) | ref (a:Addr) | ty (n:String)
 deriving DecidableEq
noncomputable def aM:V->Value->Prop
 | .non,u=>u=Value.none
 | .bl b,u=>u=Value.bool b
 | .int i,u=>∃ t,u=Value.int i t
 | .str x,u=>∃ t,u=Value.str x t
 | .byt b,u=>∃ t,u=Value.bytes b t
 | .flt b,u=>∃ t,u=Value.float b t
 | .ref a,u=>u=Value.ref a
 | .ty n,u=>u=Value.type n
noncomputable abbrev aE:List V->List Value->Prop:=Paired aM
theorem aE.length {xs:List V} {us:List Value} (r:aE xs us):xs.length=us.length:=Paired.length r
theorem aE.get:∀ {xs:List V} {us:List Value} {i:Nat} {x:V},aE xs us->xs[i]?=some x->∃ u,us[i]?=some u/\aM x u
 | _,_,_,_,.nil,e=>by simp at e
 | _,_,0,_,.cons r _,e=>by simp at e; subst e; exact ⟨_,rfl,r⟩
 | _,_,i + 1,x,.cons _ t,e=>by
  obtain ⟨u,h1,h2⟩:=aE.get (i:=i) (x:=x) t (by simpa using e)
  exact ⟨u,by simpa using h1,h2⟩
theorem aE.set {x:V} {u:Value} (r:aM x u):∀ {xs:List V} {us:List Value} (i:Nat),aE xs us->aE (xs.set i x) (us.set i u)
 | _,_,_,.nil=>.nil
 | _,_,0,.cons _ t=>.cons r t
 | _,_,i + 1,.cons q t=>.cons q (aE.set r i t)
theorem aE.append:∀ {xs ys:List V} {us ws:List Value},aE xs us->aE ys ws->aE (xs++ys) (us++ws)
 | _,_,_,_,.nil,s=>s
 | _,_,_,_,.cons r t,s=>.cons r (aE.append t s)
theorem aE.take:∀ {xs:List V} {us:List Value} (n:Nat),aE xs us->aE (xs.take n) (us.take n)
 | _,_,0,_=>.nil
 | _,_,_ + 1,.nil=>.nil
 | _,_,n + 1,.cons r t=>.cons r (aE.take n t)
theorem aE.drop:∀ {xs:List V} {us:List Value} (n:Nat),aE xs us->aE (xs.drop n) (us.drop n)
 | _,_,0,r=>r
 | _,_,_ + 1,.nil=>.nil
 | _,_,n + 1,.cons _ t=>aE.drop n t
noncomputable def jJ:Option V->Option Value->Prop
 | some v,some u=>aM v u
 | none,none=>True
 | _,_=>False
noncomputable def KV {κ:Type}:List (κ×V)->List (κ×Value)->Prop:=Paired fun (p:κ×V) (q:κ×Value)=>p.1=q.1/\aM p.2 q.2
noncomputable def kV:Key->V
 | .inl i=>.int i
 | .inr x=>.str x
set_option genInjectivity false in
inductive HO where
 | lst (xs:List V)
 | tup (xs:List V)
 | dK (kvs:List (Key×V)) | dT (kvs:List (List Key×V))
 | set (S:Int->Bool) (n:Nat)
 | ins (C dx:Addr) (fs:List (Str×V))
 | own (x:Addr)
 | xd (fs:List (Str×V))
 | met (f x:Addr)
 | rng (lo hi:Int)
 | frz (o:Obj) (u:HO)
 | tbl (ps:Array Value)
 | ext (φ:Heap->Prop)
noncomputable abbrev Hp:=Addr->Option HO
noncomputable def upd (H:Hp) (a:Addr) (o:HO):Hp:=fun b=>if b=a then some o else H b
theorem av {H:Hp} {a:Addr} {o:HO}:upd H a o a=some o:=by unfold upd; rw [if_pos rfl]
theorem aF {H:Hp} {a b:Addr} {o:HO} (h:b≠a):upd H a o b=H b:=by unfold upd; rw [if_neg h]
theorem sV {H:Hp} {a b:Addr} {o u:HO} (h:H a=some o) (h':H b=some u) (d:o≠u):a≠b:=by
 intro e; subst e; rw [h] at h'; exact d (Option.some.inj h')
theorem aJ {H:Hp} {a b:Addr} {o:HO} (h:H a=some o) (h':H b=none):a≠b:=by
 intro e; subst e; rw [h] at h'; cases h'
noncomputable def fA (h:Heap) (a:Addr) (items:Array Value):Prop:=∃ o,h.get? a=some o/\o.cls=.type "tuple"/\(∃ n,o.data=.seq items n)/\o.dict=none
theorem fA.lt {h:Heap} {a:Addr} {items:Array Value} (x:fA h a items):a < h.objs.size:=let ⟨_,e,_⟩:=x; Heap.lt_size e
theorem fA.tup {h:Heap} {a:Addr} {items:Array Value} (x:fA h a items):IsTup h a items:=let ⟨o,e,c,d,_⟩:=x; ⟨o,e,c,d⟩
theorem fA.new (h:Heap) (items:Array Value):fA (h.push { cls:=.type "tuple",data:=.seq items }) h.objs.size items:=⟨_,Heap.get?_push_size _ rfl,rfl,⟨_,rfl⟩,rfl⟩
section
variable (P:Program) (w:World)
noncomputable def bZ (H:Hp) (h:Heap) (a:Addr):HO->Prop
 | .lst xs=>xs.length<=sizeLine/\∃ (its:List Value) (n:Nat),aE xs its/\h.get? a=some { cls:=.type "list",data:=.seq its.toArray n }
 | .tup xs=>xs.length<=sizeLine/\∃ its:List Value,aE xs its/\fA h a its.toArray
 | .dK kvs=>kvs.length<=sizeLine/\(a == sysModules)=false/\∃ vs,KV kvs vs/\h.DictOf (vX P w) a vs
 | .dT kvs=>kvs.length<=sizeLine/\(a == sysModules)=false/\∃ xs:List (List Key×Addr×Value),
   Paired (fun (p:List Key×V) (q:List Key×Addr×Value)=>p.1=q.1/\H q.2.1=some (.tup (p.1.map kV))/\aM p.2 q.2.2) kvs xs/\
   ∃ o es ep,h.get? a=some o/\o.ExactDict/\o.data=.dict es ep/\es.toList=xs.map (entryOfKey (tupleKind (vX P w)))/\(xs.map (·.1)).Nodup
 | .set S n=>h.SetOf (intKind P w) a S n
 | .ins C dx fs=>H dx=some (.own a)/\fs.length<=1000/\dx≠a/\h.get? a=some (PySem.W.instObj C dx)/\
   ∃ mA,h.Ns1 dx mA/\(∀ f,jJ (fs.lookup f) (mA f))/\PySem.Within mA (fs.map (·.1))
 | .own _=>∃ o,h.get? a=some o
 | .xd fs=>∃ mA,h.Ns1 a mA/\∀ f,jJ (fs.lookup f) (mA f)
 | .rng lo hi=>∃ t u v,h.get? a=some { cls:=.type "range",data:=.fields #[.int lo t,.int hi u,.int 1 v] }
 | .frz o u=>h.get? a=some o/\bZ H h a u
 | .tbl ps=>h.get? a=some { cls:=.none,data:=.fields ps }
 | .met f x=>h.get? a=some (PySem.W.methodObj (.ref f) (.ref x))
 | .ext φ=>φ h/\(∃ o,h.get? a=some o)/\∀ h1 h2:Heap,φ h1->(∀ o,h1.get? a=some o->h2.get? a=some o)->φ h2
noncomputable def HOk (H:Hp) (h:Heap):Prop:=∀ a o,H a=some o->bZ P w H h a o
end
section
variable {P:Program} {w:World} {H H':Hp} {h h':Heap} {a:Addr} {o:HO}
theorem bZ.lt (x:bZ P w H h a o):a < h.objs.size:=by
 cases o with
 | lst xs=>obtain ⟨_,_,_,_,e⟩:=x; exact Heap.lt_size e
 | tup xs=>obtain ⟨_,_,_,p⟩:=x; exact p.lt
 | dK kvs=>obtain ⟨_,_,_,_,o,_,_,e,_⟩:=x; exact Heap.lt_size e
 | dT kvs=>obtain ⟨_,_,_,_,o,_,_,e,_⟩:=x; exact Heap.lt_size e
 | set S n=>obtain ⟨o,_,_,_,e,_⟩:=x; exact Heap.lt_size e
 | ins C dx fs=>obtain ⟨_,_,_,e,_⟩:=x; exact Heap.lt_size e
 | own y=>obtain ⟨_,e⟩:=x; exact Heap.lt_size e
 | xd fs=>obtain ⟨_,⟨_,_,_,e,_⟩,_⟩:=x; exact Heap.lt_size e
 | rng lo hi=>obtain ⟨_,_,_,e⟩:=x; exact Heap.lt_size e
 | frz ob u=>obtain ⟨e,_⟩:=x; exact Heap.lt_size e
 | tbl ps=>exact Heap.lt_size (show h.get? a=some _ from x)
 | met f y=>exact Heap.lt_size (show h.get? a=some _ from x)
 | ext φ=>obtain ⟨_,⟨_,e⟩,_⟩:=x; exact Heap.lt_size e
theorem Paired.mapP {α β:Type} {F G:α->β->Prop}:∀ {l₁:List α} {l₂:List β},Paired F l₁ l₂->(∀ a b,F a b->G a b)->Paired G l₁ l₂
 | _,_,.nil,_=>.nil
 | _,_,.cons r t,f=>.cons (f _ _ r) (Paired.mapP t f)
theorem bZ.stay (x:bZ P w H h a o) (k:∀ b u,(b=a\/H b=some (.own a))->h.get? b=some u->h'.get? b=some u)
  (ho:∀ b,H b=some (.own a)->H' b=some (.own a)) (ht:∀ b xs,H b=some (.tup xs)->H' b=some (.tup xs)):bZ P w H' h' a o:=by
 induction o with
 | lst xs=>obtain ⟨z,its,n,r,e⟩:=x; exact ⟨z,its,n,r,k _ _ (.inl rfl) e⟩
 | tup xs=>obtain ⟨z,its,r,ob,e,c⟩:=x; exact ⟨z,its,r,ob,k _ _ (.inl rfl) e,c⟩
 | dK kvs=>obtain ⟨z,y,vs,r,ob,es,ep,e,c⟩:=x; exact ⟨z,y,vs,r,ob,es,ep,k _ _ (.inl rfl) e,c⟩
 | dT kvs=>
  obtain ⟨z,y,xs,r,ob,es,ep,e,c⟩:=x
  exact ⟨z,y,xs,Paired.mapP r fun p q z=>⟨z.1,ht _ _ z.2.1,z.2.2⟩,ob,es,ep,k _ _ (.inl rfl) e,c⟩
 | set S n=>obtain ⟨ob,es,ep,t,e,c⟩:=x; exact ⟨ob,es,ep,t,k _ _ (.inl rfl) e,c⟩
 | ins C dx fs=>
  obtain ⟨d,z,ne,e,mA,⟨od,es,ep,e2,c⟩,r⟩:=x
  exact ⟨ho _ d,z,ne,k _ _ (.inl rfl) e,mA,⟨od,es,ep,k _ _ (.inr d) e2,c⟩,r⟩
 | own y=>obtain ⟨ob,e⟩:=x; exact ⟨ob,k _ _ (.inl rfl) e⟩
 | xd fs=>obtain ⟨mA,⟨od,es,ep,e,c⟩,r⟩:=x; exact ⟨mA,⟨od,es,ep,k _ _ (.inl rfl) e,c⟩,r⟩
 | rng lo hi=>obtain ⟨t,u,v,e⟩:=x; exact ⟨t,u,v,k _ _ (.inl rfl) e⟩
 | frz ob u ih=>obtain ⟨e,q⟩:=x; exact ⟨k _ _ (.inl rfl) e,ih q⟩
 | tbl ps=>
  have e:h.get? a=some { cls:=.none,data:=.fields ps }:=x
  show h'.get? a=some { cls:=.none,data:=.fields ps }
  exact k a _ (.inl rfl) e
 | met f y=>
  have e:h.get? a=some (PySem.W.methodObj (.ref f) (.ref y)):=x
  show h'.get? a=some (PySem.W.methodObj (.ref f) (.ref y))
  exact k a _ (.inl rfl) e
 | ext φ=>obtain ⟨p,⟨o,e⟩,st⟩:=x; exact ⟨st _ _ p fun o q=>k _ _ (.inl rfl) q,⟨o,k _ _ (.inl rfl) e⟩,st⟩
theorem HOk.lt (x:HOk P w H h) (e:H a=some o):a < h.objs.size:=(x a o e).lt
theorem HOk.fresh (x:HOk P w H h) (e:h.objs.size<=a):H a=none:=by
 cases q:H a with
 | none=>rfl
 | some u=>exact absurd (Nat.lt_of_lt_of_le (x.lt q) e) (Nat.lt_irrefl _)
theorem HOk.kept (x:HOk P w H h) (k:∀ b u,h.get? b=some u->h'.get? b=some u):HOk P w H h':=fun a o e=>
 (x a o e).stay (fun b u _ q=>k b u q) (fun _ q=>q) fun _ _ q=>q
theorem HOk.laid (x:HOk P w H h) (k:∀ b u,h.get? b=some u->h'.get? b=some u) (hp:h.objs.size<=a) (new:bZ P w (upd H a o) h' a o):HOk P w (upd H a o) h':=fun b u e=>by
 have hn:=x.fresh hp
 by_cases hb:b=a
 ·subst hb; rw [av] at e; cases e; exact new
 ·rw [aF hb] at e
  exact (x b u e).stay (fun c v _ q=>k c v q) (fun c q=>by rw [aF (aJ q hn)]; exact q) fun c xs q=>by rw [aF (aJ q hn)]; exact q
end
noncomputable def Rd (H:Hp) (a:Addr) (u:HO):Prop:=H a=some u\/∃ o,H a=some (.frz o u)
theorem Rd.ok {P:Program} {w:World} {H:Hp} {h:Heap} {a:Addr} {u:HO} (r:Rd H a u) (x:HOk P w H h):bZ P w H h a u:=by
 rcases r with r | ⟨o,r⟩
 ·exact x a u r
 ·obtain ⟨_,q⟩:=x a _ r
  exact q
noncomputable def Mut:Option HO->Prop
 | some (.lst _)=>True
 | some (.dK _)=>True
 | some (.dT _)=>True
 | some (.set _ _)=>True
 | some (.ins _ _ _)=>True
 | some (.ext _)=>True
 | _=>False
section
variable {P:Program} {w:World} {H:Hp} {h h':Heap} {x e:Addr} {o':HO}
theorem HOk.write (ok:HOk P w H h) (mu:Mut (H x)) (he:e=x\/H e=some (.own x)) (k:∀ b u,b≠e->h.get? b=some u->h'.get? b=some u) (heo:∃ u,h'.get? e=some u)
  (new:bZ P w (upd H x o') h' x o'):HOk P w (upd H x o') h':=fun b u q=>by
 have nown:∀ c y,H c=some (.own y)->c≠x:=fun c y r z=>by subst z; rw [r] at mu; exact mu
 have ntup:∀ c xs,H c=some (.tup xs)->c≠x:=fun c xs r z=>by subst z; rw [r] at mu; exact mu
 by_cases hb:b=x
 ·subst hb; rw [av] at q; cases q; exact new
 ·rw [aF hb] at q
  by_cases hbe:b=e
  ·have q':H b=some (.own x):=by
    rcases he with z | z
    ·exact absurd (hbe.trans z) hb
    ·rw [hbe]; exact z
   rw [q] at q'; cases q'
   obtain ⟨v,hv⟩:=heo
   exact ⟨v,by rw [hbe]; exact hv⟩
  ·refine (ok b u q).stay (fun c v hc r=>k c v ?_ r) (fun c r=>by rw [aF (nown c b r)]; exact r) fun c xs r=>by rw [aF (ntup c xs r)]; exact r
   rcases hc with rfl | hc
   ·exact hbe
   ·rintro rfl
    rcases he with z | z
    ·exact nown c b hc z
    ·rw [hc] at z; cases z; exact hb rfl
end
structure Un (fs ex:List Addr) (H H':Hp) (h h':Heap):Prop where
 keep:∀ b o,h.get? b=some o->H b=none->b∉fs->b∉ex->h'.get? b=some o
 slot:∀ b o,h.get? b=some o->H b=none->b∈fs->b∉ex->∃ sl,h'.get? b=some { o with slots:=sl }
 free:∀ b o,h.get? b=some o->H b=none->b∉ex->H' b=none
 there:∀ b o,h.get? b=some o->b∉ex->∃ o',h'.get? b=some o'
 tups:∀ b xs,H b=some (.tup xs)->H' b=some (.tup xs)
 frzs:∀ b o u,H b=some (.frz o u)->H' b=some (.frz o u)
 tbls:∀ b ps,H b=some (.tbl ps)->∃ more,H' b=some (.tbl (ps++more))
section
variable {fs fs' ex ex':List Addr} {H H1 H2:Hp} {h h1 h2 h':Heap} {a x e:Addr} {o:HO}
theorem Un.any (u:Un fs ex H H1 h h1) {b:Addr} {ob:Obj} (q:h.get? b=some ob) (n:H b=none) (hx:b∉ex):∃ sl,h1.get? b=some { ob with slots:=sl }:=by
 by_cases hb:b∈fs
 ·exact u.slot b ob q n hb hx
 ·exact ⟨ob.slots,u.keep b ob q n hb hx⟩
theorem Un.kept (k:∀ b u,h.get? b=some u->h'.get? b=some u):Un fs ex H H h h':=
 ⟨fun b ob q _ _ _=>k b ob q,fun b ob q _ _ _=>⟨ob.slots,k b ob q⟩,fun _ _ _ n _=>n,fun b ob q _=>⟨ob,k b ob q⟩,fun _ _ q=>q,fun _ _ _ q=>q,fun _ ps q=>⟨#[],by rw [q]; simp⟩⟩
theorem Un.refl:Un fs ex H H h h:=Un.kept fun _ _ q=>q
theorem Un.laid (k:∀ b u,h.get? b=some u->h'.get? b=some u) (hp:h.objs.size<=a) (hn:H a=none):Un fs ex H (upd H a o) h h' where
 keep:=fun b u q _ _ _=>k b u q
 slot:=fun b u q _ _ _=>⟨u.slots,k b u q⟩
 free:=fun b u q n _=>by rw [aF (Nat.ne_of_lt (Nat.lt_of_lt_of_le (Heap.lt_size q) hp))]; exact n
 there:=fun b u q _=>⟨u,k b u q⟩
 tups:=fun b xs q=>by rw [aF (aJ q hn)]; exact q
 frzs:=fun b u xs q=>by rw [aF (aJ q hn)]; exact q
 tbls:=fun b ps q=>⟨#[],by rw [aF (aJ q hn),q]; simp⟩
theorem Un.write (mu:Mut (H x)) (he:e=x\/H e=some (.own x)) (k:∀ b u,b≠e->h.get? b=some u->h'.get? b=some u) (heo:∃ u,h'.get? e=some u):Un fs ex H (upd H x o) h h':=by
 have hx:∀ b,H b=none->b≠x:=fun b n z=>by subst z; rw [n] at mu; exact mu
 have hb:∀ b,H b=none->b≠e:=fun b n z=>by
  subst z
  rcases he with r | r
  ·exact hx b n r
  ·rw [n] at r; cases r
 have hm:∀ b u,H b=some u->¬ Mut (some u)->b≠x:=fun b u q nm z=>by subst z; rw [q] at mu; exact nm mu
 refine ⟨fun b u q n _ _=>k b u (hb b n) q,fun b u q n _ _=>⟨u.slots,k b u (hb b n) q⟩,fun b u q n _=>by rw [aF (hx b n)]; exact n,fun b u q _=>?_,
  fun b xs q=>by rw [aF (hm b _ q fun z=>z)]; exact q,fun b u xs q=>by rw [aF (hm b _ q fun z=>z)]; exact q,fun b ps q=>⟨#[],by rw [aF (hm b _ q fun z=>z),q]; simp⟩⟩
 by_cases hbe:b=e
 ·subst hbe; exact heo
 ·exact ⟨u,k b u hbe q⟩
end
noncomputable def trk (h:Heap) (H:Hp):List Addr:=(List.range h.objs.size).filter fun a=>(H a).isSome
noncomputable def h7 (h:Heap) (H:Hp):Heap:=PySem.W.hideAll h (trk h H)
theorem rj (h:Heap) (H:Hp):(h7 h H).objs.size=h.objs.size:=PySem.W.hideAll_size _ _
theorem ll {h:Heap} {H:Hp} {b:Addr} {o:Obj} (e:h.get? b=some o) (n:H b=none):(h7 h H).get? b=some o:=
 PySem.W.hideAll_get _ e fun hm=>by
  have q:(H b).isSome=true:=(List.mem_filter.mp hm).2
  rw [n] at q; simp at q
theorem vY {h:Heap} {H:Hp} {b:Addr} {o:Obj} (e:(h7 h H).get? b=some o):h.get? b=some o/\H b=none:=by
 have e':h.get? b=some o:=PySem.W.of_hideAll (trk h H) e
 refine ⟨e',?_⟩
 cases q:H b with
 | none=>rfl
 | some x=>
  have hm:b∈trk h H:=List.mem_filter.mpr ⟨List.mem_range.mpr (Heap.lt_size e'),by simp [q]⟩
  have z:(h7 h H).get? b=none:=PySem.W.hideAll_none (trk h H) hm
  rw [z] at e; cases e
noncomputable def iK (g h:Heap) (L:Addr):List (Addr×Obj):=(List.range h.objs.size).filterMap fun a=>if a=L\/(g.get? a).isSome=true then none else (h.get? a).map fun o=>(a,o)
theorem iX {g h:Heap} {L a:Addr} {o:Obj} (h1:a≠L) (h2:g.get? a=none) (h3:h.get? a=some o):(a,o)∈iK g h L:=
 List.mem_filterMap.mpr ⟨a,List.mem_range.mpr (Heap.lt_size h3),by simp [h1,h2,h3]⟩
theorem qa {g h:Heap} {L:Addr} {p:Addr×Obj} (hp:p∈iK g h L):p.1≠L/\g.get? p.1=none/\h.get? p.1=some p.2:=by
 obtain ⟨b,_,e⟩:=List.mem_filterMap.mp hp
 split at e
 ·cases e
 ·rename_i hn
  cases q:h.get? b with
  | none=>rw [q] at e; simp at e
  | some u=>
   rw [q] at e
   simp only [Option.map_some,Option.some.injEq] at e
   subst e
   refine ⟨fun z=>hn (.inl z),?_,q⟩
   show g.get? b=none
   cases r:g.get? b with
   | none=>rfl
   | some v=>exact (hn (.inr (by simp [r]))).elim
noncomputable def dh (g h:Heap) (L d:Addr):List (Addr×Obj):=(iK g h L).filter fun p=>decide (p.1≠d)
theorem zd {g h:Heap} {L:Addr}:News g L h (iK g h L):=fun p hp=>let ⟨a,b,c⟩:=qa hp; ⟨c,a,b⟩
end L2
namespace L2
open PySem PySem.Spec PyProof.Rows
structure Mod (K:PySem.W.Frag) (mg:Str->Option Value) (base:Heap):Prop where
 kin:K.In base
 glob:base.Ns mainGlobals mg
 blt:∃ mb,base.Ns builtinsNs mb/\∀ x:Str,x≠"__name__"->mb x=bootBuiltins x
 nolimit:base.NoLimit
set_option genInjectivity false in
structure Cx where
 prog:Program
 w:World
 K:PySem.W.Frag
 mg:Str->Option Value
 base:Heap
 A:Around
 N:List Str
 s₀:Shared
 H₀:Hp
 env:Env
 outer:List Env
 stack:List Env
 ex:List Addr
 fn:Str->Bool
 calm:Bool
 pn:List (Addr×Obj)
 xe:Value->Shared->Prop
noncomputable def frs (l:List Env):List Addr:=l.filterMap (·.frame)
noncomputable abbrev Cx.fs (X:Cx):List Addr:=frs X.outer
noncomputable def Vis (sc:Scope) (x:Str):Prop:=sc.names.lookup x=some .local\/sc.names.lookup x=some .cell\/sc.names.lookup x=some .free
noncomputable def Loc (sc:Scope) (x:Str):Prop:=sc.names.lookup x=some .local\/sc.names.lookup x=some .cell
noncomputable def BG (env:Env) (h:Heap) (m:Str->Option Value) (x:Str) (u:Value):Prop:=
 (env.kindOf x=some .local/\m x=some u)\/((env.kindOf x=some .cell\/env.kindOf x=some .free)/\∃ c,env.cells.lookup x=some c/\h.IsCell c (some u))
structure Cx.Ok (X:Cx):Prop where
 mod:Mod X.K X.mg X.base
 kind:X.env.scope.kind=.function
 glob:X.env.globals=mainGlobals
 blt:X.env.builtins=builtinsNs
 above:X.s₀.heap.objs.size<=X.env.locals
 inj:∀ x y c,X.env.cells.lookup x=some c->X.env.cells.lookup y=some c->x=y
 has:∀ x,(X.env.kindOf x=some .cell\/X.env.kindOf x=some .free)->∃ c,X.env.cells.lookup x=some c
 cab:∀ x c,X.fn x=true->X.env.cells.lookup x=some c->X.s₀.heap.objs.size<=c
 hd:X.calm=true->X.A.handled=none
 frames:X.A.frames=some X.stack
 stk:X.stack=X.outer\/(X.stack=X.env :: X.outer/\X.env.frame=some X.env.locals)
 exf:∀ b∈X.ex,b≠X.env.locals/\∀ x c,X.env.cells.lookup x=some c->c≠b
 bs:∀ b o,X.base.get? b=some o->X.s₀.heap.get? b=some o/\X.H₀ b=none
 bsz:X.base.objs.size<=X.s₀.heap.objs.size
 noex:∀ b o,X.base.get? b=some o->b∉X.ex
 exfs:∀ b∈X.ex,b∉X.fs
 funs:X.s₀.heap.FunFrames X.base X.outer
 frf:∀ b∈X.fs,X.H₀ b=none
structure Inv (X:Cx) (pins:List (Addr×Obj)) (σ:List (Option V)) (H:Hp) (s:Shared):Prop where
 ok:X.Ok
 os:s.os=X.s₀.os
 bare:AllBare s.gens
 base:Un X.fs X.ex X.H₀ H X.s₀.heap s.heap
 loc:∃ m,s.heap.Ns X.env.locals m/\∀ (i:Nat) (x:Str) (v:V),X.N[i]?=some x->σ[i]?=some (some v)->Vis X.env.scope x->∃ u,aM v u/\BG X.env s.heap m x u
 cell:∀ x c,X.env.cells.lookup x=some c->∃ v,s.heap.IsCell c v
 free:H X.env.locals=none
 freeC:∀ x c,X.env.cells.lookup x=some c->H c=none
 pin:∀ p∈X.pn++pins,s.heap.get? p.1=some p.2/\H p.1=none/\p.1≠X.env.locals/\p.1∉X.fs/\∀ v,p.2.data≠.cell v
 hok:HOk X.prog X.w H s.heap
 len:σ.length=X.N.length
section
variable {X:Cx} {pins:List (Addr×Obj)} {σ:List (Option V)} {H H':Hp} {s:Shared} {h':Heap}
theorem Cx.Ok.nofr (ok:X.Ok) {b:Addr} {o:Obj} (e:X.base.get? b=some o):b∉X.fs:=fun hb=>by
 have:=(ok.funs.mem hb).1
 rw [e] at this; cases this
theorem Inv.bs (I:Inv X pins σ H s):∀ b o,X.base.get? b=some o->s.heap.get? b=some o/\H b=none:=fun b o e=>
 ⟨I.base.keep b o (I.ok.bs b o e).1 (I.ok.bs b o e).2 (I.ok.nofr e) (I.ok.noex b o e),I.base.free b o (I.ok.bs b o e).1 (I.ok.bs b o e).2 (I.ok.noex b o e)⟩
theorem Inv.bk (I:Inv X pins σ H s):∀ b o,X.base.get? b=some o->s.heap.get? b=some o:=fun b o e=>(I.bs b o e).1
theorem Inv.mod (I:Inv X pins σ H s):Mod X.K X.mg X.base:=I.ok.mod
theorem Inv.kIn (I:Inv X pins σ H s):X.K.In s.heap:=I.ok.mod.kin.keeps I.bk
theorem Inv.nolimit (I:Inv X pins σ H s):s.heap.NoLimit:=I.ok.mod.nolimit.keeps I.bk
theorem Inv.fr (I:Inv X pins σ H s):∃ m,Fr X.base X.env.locals s.heap m:=
 let ⟨m,hn,_⟩:=I.loc
 ⟨m,hn,I.bk,Nat.le_trans I.ok.bsz I.ok.above⟩
theorem Inv.lt (I:Inv X pins σ H s):X.env.locals < s.heap.objs.size:=let ⟨_,hn,_⟩:=I.loc; hn.lt
theorem Inv.sz (I:Inv X pins σ H s):X.s₀.heap.objs.size<=s.heap.objs.size:=Nat.le_trans I.ok.above (Nat.le_of_lt I.lt)
theorem Inv.nofs (I:Inv X pins σ H s) {a:Addr} (h:s.heap.objs.size<=a):a∉X.fs:=fun hb=>by
 obtain ⟨_,o,ho,_⟩:=I.ok.funs.mem hb
 exact absurd (Nat.lt_of_lt_of_le (Heap.lt_size ho) (Nat.le_trans I.sz h)) (Nat.lt_irrefl _)
theorem Inv.cne (I:Inv X pins σ H s):∀ x c,X.env.cells.lookup x=some c->c≠X.env.locals:=fun x c e z=>by
 obtain ⟨v,o,ho,hd⟩:=I.cell x c e
 obtain ⟨m,⟨o',es,ep,ho',hd',_⟩,_⟩:=I.loc
 rw [z,ho'] at ho; cases ho; rw [hd'] at hd; cases hd
theorem Inv.funs (I:Inv X pins σ H s):s.heap.FunFrames X.base X.outer:=by
 have all:∀ (l:List Env),(∀ b∈frs l,b∈X.fs)->X.s₀.heap.FunFrames X.base l->s.heap.FunFrames X.base l:=by
  intro l
  induction l with
  | nil=>intro _ _; trivial
  | cons env r ih=>
   intro hs hl
   obtain ⟨hk,⟨L,o,hf,hn,ho,hd⟩,hr⟩:=hl
   have hL:L∈X.fs:=hs L (by unfold frs; rw [List.filterMap_cons,hf]; exact List.mem_cons_self)
   obtain ⟨sl,e⟩:=I.base.slot L o ho (I.ok.frf L hL) hL fun z=>I.ok.exfs L z hL
   exact ⟨hk,⟨L,_,hf,hn,e,hd⟩,ih (fun b hb=>hs b (by unfold frs; rw [List.filterMap_cons,hf]; exact List.mem_cons_of_mem _ hb)) hr⟩
 exact all X.outer (fun _ hb=>hb) I.ok.funs
theorem Inv.stack (I:Inv X pins σ H s):s.heap.FunFrames X.base X.stack:=by
 rcases I.ok.stk with e | ⟨e,hf⟩
 ·rw [e]; exact I.funs
 ·rw [e]
  obtain ⟨m,hn,_⟩:=I.loc
  refine .cons (by rw [I.ok.kind]; decide) hf hn ?_ I.funs
  exact Heap.get?_none_of_le (Nat.le_trans I.ok.bsz I.ok.above)
theorem Inv.stkSub (I:Inv X pins σ H s):∀ b∈frs X.stack,b∈X.env.locals :: X.fs:=fun b hb=>by
 rcases I.ok.stk with e | ⟨e,hf⟩
 ·rw [e] at hb; exact List.mem_cons_of_mem _ hb
 ·rw [e] at hb
  unfold frs at hb
  rw [List.filterMap_cons,hf] at hb
  exact hb
theorem Inv.stkFree (I:Inv X pins σ H s):∀ b∈frs X.stack,H b=none:=fun b hb=>by
 rcases List.mem_cons.mp (I.stkSub b hb) with e | hb
 ·rw [e]; exact I.free
 ·obtain ⟨_,o,ho,_⟩:=I.ok.funs.mem hb
  exact I.base.free b o ho (I.ok.frf b hb) fun z=>I.ok.exfs b z hb
theorem Inv.step {g':Array GenState} {t':Nat} {d':Drawn} {ch:List Addr} (I:Inv X pins σ H s)
  (hch:∀ b∈ch,(b∈X.ex\/X.s₀.heap.objs.size<=b)/\b≠X.env.locals/\(∀ x c,X.env.cells.lookup x=some c->c≠b)/\∀ p∈X.pn++pins,p.1≠b)
  (keep:∀ b o,b≠X.env.locals->b∉X.fs->b∉ch->s.heap.get? b=some o->H b=none->h'.get? b=some o)
  (slot:∀ b o,b≠X.env.locals->b∈X.fs->b∉ch->s.heap.get? b=some o->H b=none->∃ sl,h'.get? b=some { o with slots:=sl }) (free:∀ b o,b∉ch->s.heap.get? b=some o->H b=none->H' b=none)
  (there:∀ b o,b∉ch->s.heap.get? b=some o->∃ o',h'.get? b=some o')
  (tups:∀ b xs,H b=some (.tup xs)->H' b=some (.tup xs)) (frzs:∀ b o u,H b=some (.frz o u)->H' b=some (.frz o u)) (tbls:∀ b ps,H b=some (.tbl ps)->∃ more,H' b=some (.tbl (ps++more)))
  (ns:∀ m,s.heap.Ns X.env.locals m->h'.Ns X.env.locals m) (hok:HOk X.prog X.w H' h') (hg:AllBare g'):
  Inv X pins σ H' { s with heap:=h',gens:=g',drawn:=d',toks:=t' }:=by
 have neL:∀ b o,X.s₀.heap.get? b=some o->b≠X.env.locals:=fun b o e=>Nat.ne_of_lt (Nat.lt_of_lt_of_le (Heap.lt_size e) I.ok.above)
 have neC:∀ b o,X.s₀.heap.get? b=some o->b∉X.ex->b∉ch:=fun b o e hx hb=>by
  rcases (hch b hb).1 with z | z
  ·exact hx z
  ·exact absurd (Nat.lt_of_lt_of_le (Heap.lt_size e) z) (Nat.lt_irrefl _)
 have cellK:∀ x c,X.env.cells.lookup x=some c->∀ v,s.heap.IsCell c v->h'.IsCell c v:=fun x c e v ⟨o,ho,hd⟩=>by
  have nch:c∉ch:=fun z=>(hch c z).2.2.1 x c e rfl
  by_cases hc:c∈X.fs
  ·obtain ⟨sl,q⟩:=slot c o (I.cne x c e) hc nch ho (I.freeC x c e)
   exact ⟨_,q,hd⟩
  ·exact ⟨o,keep c o (I.cne x c e) hc nch ho (I.freeC x c e),hd⟩
 refine ⟨I.ok,I.os,hg,⟨fun b o e n hb hx=>?_,fun b o e n hb hx=>?_,fun b o e n hx=>?_,fun b o e hx=>?_,fun b xs e=>tups b xs (I.base.tups b xs e),fun b o xs e=>frzs b o xs (I.base.frzs b o xs e),fun b ps e=>?_⟩,?_,fun x c e=>?_,?_,fun x c e=>?_,fun p hp=>?_,hok,I.len⟩
 ·exact keep b o (neL b o e) hb (neC b o e hx) (I.base.keep b o e n hb hx) (I.base.free b o e n hx)
 ·obtain ⟨sl,e1⟩:=I.base.slot b o e n hb hx
  obtain ⟨sl',e2⟩:=slot b _ (neL b o e) hb (neC b o e hx) e1 (I.base.free b o e n hx)
  exact ⟨sl',e2⟩
 ·obtain ⟨o',e1⟩:=I.base.there b o e hx
  exact free b o' (neC b o e hx) e1 (I.base.free b o e n hx)
 ·obtain ⟨o',e1⟩:=I.base.there b o e hx
  exact there b o' (neC b o e hx) e1
 ·obtain ⟨m1,e1⟩:=I.base.tbls b ps e
  obtain ⟨m2,e2⟩:=tbls b _ e1
  exact ⟨m1++m2,by rw [e2,Array.append_assoc]⟩
 ·obtain ⟨m,hn,hl⟩:=I.loc
  refine ⟨m,ns m hn,fun i x v e1 e2 e3=>?_⟩
  obtain ⟨u,r,l⟩:=hl i x v e1 e2 e3
  refine ⟨u,r,?_⟩
  rcases l with l | ⟨k,c,e,z⟩
  ·exact .inl l
  ·exact .inr ⟨k,c,e,cellK x c e _ z⟩
 ·obtain ⟨v,z⟩:=I.cell x c e
  exact ⟨v,cellK x c e v z⟩
 ·obtain ⟨m,⟨o,_,_,ho,_⟩,_⟩:=I.loc
  exact free _ o (fun z=>(hch _ z).2.1 rfl) ho I.free
 ·obtain ⟨v,o,ho,hd⟩:=I.cell x c e
  exact free c o (fun z=>(hch c z).2.2.1 x c e rfl) ho (I.freeC x c e)
 ·obtain ⟨e,n,ne,nf,d⟩:=I.pin p hp
  have nch:p.1∉ch:=fun z=>(hch p.1 z).2.2.2 p hp rfl
  exact ⟨keep p.1 p.2 ne nf nch e n,free p.1 p.2 nch e n,ne,nf,d⟩
theorem Inv.un {t':Nat} (I:Inv X pins σ H s) (u:Un X.fs [] H H' s.heap h') (hok:HOk X.prog X.w H' h'):Inv X pins σ H' { s with heap:=h',toks:=t' }:=by
 obtain ⟨m,⟨o,es,ep,ho,r⟩,_⟩:=id I.loc
 obtain ⟨sl,hL⟩:=u.any ho I.free (by simp)
 exact I.step (g':=s.gens) (d':=s.drawn) (ch:=[]) (fun _ z=>nomatch z) (fun b o _ hb _ e n=>u.keep b o e n hb (by simp)) (fun b o _ hb _ e n=>u.slot b o e n hb (by simp)) (fun b o _ e n=>u.free b o e n (by simp)) (fun b o _ e=>u.there b o e (by simp)) u.tups u.frzs u.tbls (fun m' hm=>by
  obtain ⟨o',es',ep',ho',r'⟩:=hm
  rw [ho] at ho'; cases ho'
  exact ⟨_,es',ep',hL,r'⟩) hok I.bare
theorem Inv.call {g':Array GenState} {t':Nat} {d':Drawn} {ch:List Addr} (I:Inv X pins σ H s) (u:Un (frs X.stack) ch H H' s.heap h') (hok:HOk X.prog X.w H' h') (hg:AllBare g')
  (hch:∀ b∈ch,(b∈X.ex\/X.s₀.heap.objs.size<=b)/\b≠X.env.locals/\(∀ x c,X.env.cells.lookup x=some c->c≠b)/\∀ p∈X.pn++pins,p.1≠b):
  Inv X pins σ H' { s with heap:=h',gens:=g',drawn:=d',toks:=t' }:=by
 obtain ⟨m,⟨o,es,ep,ho,r⟩,_⟩:=id I.loc
 obtain ⟨sl,hL⟩:=u.any ho I.free fun z=>(hch _ z).2.1 rfl
 exact I.step (ch:=ch) hch (fun b o hL hb hc e n=>u.keep b o e n (fun z=>(List.mem_cons.mp (I.stkSub b z)).elim hL hb) hc) (fun b o _ _ hc e n=>u.any e n hc) (fun b o hc e n=>u.free b o e n hc) (fun b o hc e=>u.there b o e hc) u.tups u.frzs u.tbls (fun m' hm=>by
  obtain ⟨o',es',ep',ho',r'⟩:=hm
  rw [ho] at ho'; cases ho'
  exact ⟨_,es',ep',hL,r'⟩) hok hg
theorem Inv.turned {t':Nat} {it:Addr} (I:Inv X pins σ H s) (k:∀ b o,b≠it->s.heap.get? b=some o->h'.get? b=some o) (hn:H it=none) (hL:it≠X.env.locals)
  (h1:it∈X.ex\/X.s₀.heap.objs.size<=it) (h2:∀ x c,X.env.cells.lookup x=some c->c≠it) (h3:∀ p∈X.pn++pins,p.1≠it):Inv X pins σ H { s with heap:=h',toks:=t' }:=by
 have nit:∀ b u,H b=some u->b≠it:=fun b u e z=>by rw [z,hn] at e; cases e
 refine I.step (g':=s.gens) (d':=s.drawn) (ch:=[it]) (fun b hb=>?_) (fun b o _ _ hc e _=>k b o (fun z=>hc (by simp [z])) e) (fun b o _ _ hc e _=>⟨o.slots,k b o (fun z=>hc (by simp [z])) e⟩) (fun _ _ _ _ n=>n)
  (fun b o hc e=>⟨o,k b o (fun z=>hc (by simp [z])) e⟩) (fun _ _ e=>e) (fun _ _ _ e=>e) (fun b ps e=>⟨#[],by rw [e]; simp⟩) (fun m hm=>?_) (fun b u e=>?_) I.bare
 ·have e:b=it:=by simpa using hb
  subst e
  exact ⟨h1,hL,h2,h3⟩
 ·obtain ⟨o,es,ep,ho,r⟩:=hm
  exact ⟨o,es,ep,k _ o (Ne.symm hL) ho,r⟩
 ·refine (I.hok b u e).stay (fun c v hc q=>k c v ?_ q) (fun _ q=>q) fun _ _ q=>q
  rcases hc with z | z
  ·rw [z]; exact nit b u e
  ·exact nit c _ z
theorem Inv.tok (I:Inv X pins σ H s) (t:Nat):Inv X pins σ H { s with toks:=t }:=I.un (h':=s.heap) (t':=t) Un.refl I.hok
theorem Inv.kept {t':Nat} (I:Inv X pins σ H s) (k:∀ b u,s.heap.get? b=some u->h'.get? b=some u):Inv X pins σ H { s with heap:=h',toks:=t' }:=I.un (Un.kept k) (I.hok.kept k)
theorem Inv.laid {a:Addr} {o:HO} {t':Nat} (I:Inv X pins σ H s) (k:∀ b u,s.heap.get? b=some u->h'.get? b=some u) (hp:s.heap.objs.size<=a) (new:bZ X.prog X.w (upd H a o) h' a o):
  Inv X pins σ (upd H a o) { s with heap:=h',toks:=t' }:=I.un (Un.laid k hp (I.hok.fresh hp)) (I.hok.laid k hp new)
theorem Inv.write {x e:Addr} {o:HO} {t':Nat} (I:Inv X pins σ H s) (mu:Mut (H x)) (he:e=x\/H e=some (.own x)) (k:∀ b u,b≠e->s.heap.get? b=some u->h'.get? b=some u) (heo:∃ u,h'.get? e=some u)
  (new:bZ X.prog X.w (upd H x o) h' x o):Inv X pins σ (upd H x o) { s with heap:=h',toks:=t' }:=I.un (Un.write mu he k heo) (I.hok.write mu he k heo new)
theorem Inv.pins_of {pins':List (Addr×Obj)} (I:Inv X pins σ H s) (h:∀ p∈pins',s.heap.get? p.1=some p.2/\H p.1=none/\p.1≠X.env.locals/\p.1∉X.fs/\∀ v,p.2.data≠.cell v):Inv X pins' σ H s:=
 ⟨I.ok,I.os,I.bare,I.base,I.loc,I.cell,I.free,I.freeC,fun p hp=>(List.mem_append.mp hp).elim (fun z=>I.pin p (List.mem_append_left _ z)) (h p),I.hok,I.len⟩
theorem tE {N:List Str} (hN:N.Nodup) {i j:Nat} {x:Str} (a:N[i]?=some x) (b:N[j]?=some x):i=j:=by
 obtain ⟨h1,e1⟩:=List.getElem?_eq_some_iff.mp a
 obtain ⟨h2,e2⟩:=List.getElem?_eq_some_iff.mp b
 exact (List.getElem_inj hN).mp (e1.trans e2.symm)
theorem rk {M:Model} {A:Around} {E:Value->Shared->Prop} {i:Nat} {x:Str} {v:V} {u:Value} {Q:Unit->Shared->Prop} (I:Inv X pins σ H s) (hN:X.N.Nodup) (hi:X.N[i]?=some x) (hx:Loc X.env.scope x) (r:aM v u)
  (h:∀ s',Inv X pins (σ.set i (some v)) H s'->(∃ a,Heap.SameBut a s.heap s'.heap/\(a=X.env.locals\/X.env.cells.lookup x=some a))->Q () s') (hf:X.fn x=true\/X.env.scope.names.lookup x=some .local:=by first | exact .inl rfl | exact .inr rfl | assumption):wpAny M A (storeName X.env x u) Q E s:=by
 obtain ⟨m,hn,hl⟩:=id I.loc
 have hcls:(X.env.scope.kind == .class || (X.env.scope.kind == .module && X.env.locals != X.env.globals))=false:=by rw [I.ok.kind]; rfl
 have hiσ:i < σ.length:=by rw [I.len]; exact (List.getElem?_eq_some_iff.mp hi).1
 have cne:=I.cne
 have tracked:∀ {a:Addr} {h':Heap},(∃ o,s.heap.get? a=some o/\H a=none)->Heap.SameBut a s.heap h'->HOk X.prog X.w H h':=fun {a h'} ha hs b ob e=>by
  obtain ⟨_,_,hfree⟩:=ha
  refine (I.hok b ob e).stay (fun c w' hc q=>(hs.2 c ?_).trans q) (fun _ q=>q) fun _ _ q=>q
  rintro rfl
  rcases hc with rfl | hc
  ·rw [hfree] at e; cases e
  ·rw [hfree] at hc; cases hc
 rcases hx with hk | hk
 ·refine wpAny_storeName_local hk hn (fun h' hn' hs=>?_) hcls
  obtain ⟨oL,_,_,hoL,_⟩:=id hn
  refine h _ ⟨I.ok,I.os,I.bare,⟨fun b o e n hb hx=>?_,fun b o e n hb hx=>?_,I.base.free,fun b o e hx=>?_,I.base.tups,I.base.frzs,I.base.tbls⟩,⟨_,hn',fun j y v' e1 e2 e3=>?_⟩,fun y c e=>?_,I.free,I.freeC,fun p hp=>?_,tracked ⟨oL,hoL,I.free⟩ hs,by simpa using I.len⟩ ⟨_,hs,.inl rfl⟩
  ·exact (hs.2 b (Nat.ne_of_lt (Nat.lt_of_lt_of_le (Heap.lt_size e) I.ok.above))).trans (I.base.keep b o e n hb hx)
  ·obtain ⟨sl,e1⟩:=I.base.slot b o e n hb hx
   exact ⟨sl,(hs.2 b (Nat.ne_of_lt (Nat.lt_of_lt_of_le (Heap.lt_size e) I.ok.above))).trans e1⟩
  ·obtain ⟨o',e1⟩:=I.base.there b o e hx
   exact ⟨o',(hs.2 b (Nat.ne_of_lt (Nat.lt_of_lt_of_le (Heap.lt_size e) I.ok.above))).trans e1⟩
  ·by_cases hj:j=i
   ·subst hj
    rw [hi] at e1; cases e1
    rw [List.getElem?_set_self hiσ] at e2
    cases e2
    exact ⟨u,r,.inl ⟨hk,by simp⟩⟩
   ·rw [List.getElem?_set_ne (Ne.symm hj)] at e2
    obtain ⟨u',r',q⟩:=hl j y v' e1 e2 e3
    refine ⟨u',r',?_⟩
    rcases q with ⟨k,e⟩ | ⟨k,c,e,z⟩
    ·refine .inl ⟨k,?_⟩
     have:y≠x:=fun e=>hj (tE hN e1 (e ▸ hi))
     simp [this,e]
    ·exact .inr ⟨k,c,e,z.sameBut hs (cne y c e)⟩
  ·obtain ⟨w',z⟩:=I.cell y c e
   exact ⟨w',z.sameBut hs (cne y c e)⟩
  ·obtain ⟨e,n,ne,nf,d⟩:=I.pin p hp
   exact ⟨(hs.2 p.1 ne).trans e,n,ne,nf,d⟩
 ·have hfn:X.fn x=true:=by
   rcases hf with z | z
   ·exact z
   ·rw [z] at hk; cases hk
  obtain ⟨c,hc⟩:=I.ok.has x (.inl hk)
  obtain ⟨w',z⟩:=I.cell x c hc
  refine wpAny_storeName_cell I.ok.kind hk hc z (fun h' hc' hs=>?_)
  obtain ⟨oc,hoc,hocd⟩:=id z
  refine h { s with heap:=h' } ⟨I.ok,I.os,I.bare,⟨fun b o e n hb hx=>?_,fun b o e n hb hx=>?_,I.base.free,fun b o e hx=>?_,I.base.tups,I.base.frzs,I.base.tbls⟩,⟨m,hn.sameBut hs (Ne.symm (cne x c hc)),fun j y v' e1 e2 e3=>?_⟩,fun y c' e=>?_,I.free,I.freeC,fun p hp=>?_,tracked ⟨oc,hoc,I.freeC x c hc⟩ hs,by simpa using I.len⟩ ⟨c,hs,.inr hc⟩
  ·exact (hs.2 b (Nat.ne_of_lt (Nat.lt_of_lt_of_le (Heap.lt_size e) (I.ok.cab x c hfn hc)))).trans (I.base.keep b o e n hb hx)
  ·obtain ⟨sl,e1⟩:=I.base.slot b o e n hb hx
   exact ⟨sl,(hs.2 b (Nat.ne_of_lt (Nat.lt_of_lt_of_le (Heap.lt_size e) (I.ok.cab x c hfn hc)))).trans e1⟩
  ·obtain ⟨o',e1⟩:=I.base.there b o e hx
   exact ⟨o',(hs.2 b (Nat.ne_of_lt (Nat.lt_of_lt_of_le (Heap.lt_size e) (I.ok.cab x c hfn hc)))).trans e1⟩
  ·by_cases hj:j=i
   ·subst hj
    rw [hi] at e1; cases e1
    rw [List.getElem?_set_self hiσ] at e2
    cases e2
    exact ⟨u,r,.inr ⟨.inl hk,c,hc,hc'⟩⟩
   ·rw [List.getElem?_set_ne (Ne.symm hj)] at e2
    obtain ⟨u',r',q⟩:=hl j y v' e1 e2 e3
    refine ⟨u',r',?_⟩
    rcases q with q | ⟨k,c',e,z'⟩
    ·exact .inl q
    ·refine .inr ⟨k,c',e,z'.sameBut hs ?_⟩
     rintro rfl
     exact hj (tE hN e1 (I.ok.inj _ _ _ e hc ▸ hi))
  ·by_cases hcc:c'=c
   ·subst hcc; exact ⟨_,hc'⟩
   ·obtain ⟨w2,z2⟩:=I.cell y c' e
    exact ⟨w2,z2.sameBut hs hcc⟩
  ·obtain ⟨e,n,ne,nf,d⟩:=I.pin p hp
   refine ⟨(hs.2 p.1 ?_).trans e,n,ne,nf,d⟩
   intro q
   rw [q,hoc] at e
   have q':oc=p.2:=Option.some.inj e
   exact d w' (by rw [<-q']; exact hocd)
theorem tF {M:Model} {A:Around} {E:Value->Shared->Prop} {i:Nat} {x:Str} {v:V} {u:Value} {Q:Unit->Shared->Prop} (I:Inv X pins σ H s) (hN:X.N.Nodup) (hi:X.N[i]?=some x) (hx:Loc X.env.scope x) (r:aM v u)
  (h:∀ s',Inv X pins (σ.set i (some v)) H s'->Q () s') (hf:X.fn x=true\/X.env.scope.names.lookup x=some .local:=by first | exact .inl rfl | exact .inr rfl | assumption):wpAny M A (storeName X.env x u) Q E s:=
 rk I hN hi hx r (fun s' I' _=>h s' I') hf
theorem Inv.call' {s':Shared} {ch:List Addr} (I:Inv X pins σ H s) (ho:s'.os=s.os) (u:Un (frs X.stack) ch H H' s.heap s'.heap) (hok:HOk X.prog X.w H' s'.heap) (hg:AllBare s'.gens)
  (hch:∀ b∈ch,(b∈X.ex\/X.s₀.heap.objs.size<=b)/\b≠X.env.locals/\(∀ x c,X.env.cells.lookup x=some c->c≠b)/\∀ p∈X.pn++pins,p.1≠b):Inv X pins σ H' s':=by
 obtain ⟨h',g',d',t',o'⟩:=s'
 have e:o'=s.os:=ho
 subst e
 exact I.call (g':=g') (t':=t') (d':=d') u hok hg hch
end
noncomputable abbrev XK:=Value->Option Addr->Hp->Prop
noncomputable abbrev St:=List (Option V)
noncomputable abbrev VK:=V->Hp->Prop
noncomputable abbrev TE:=St->Hp->VK->Prop
noncomputable abbrev TT:=St->Hp->(Bool->Hp->Prop)->Prop
noncomputable abbrev TA:=St->Hp->(List V->Hp->Prop)->Prop
set_option genInjectivity false in
structure jm where
 nx:St->Hp->Prop
 rt:VK
 bk:St->Hp->Prop:=fun _ _=>False
 ct:St->Hp->Prop:=fun _ _=>False
noncomputable abbrev TS:=jm->St->Hp->Prop
noncomputable def EP (X:Cx) (pins:List (Addr×Obj)) (σ:St) (Q:VK) (u:Value) (s':Shared):Prop:=∃ v H',Inv X pins σ H' s'/\aM v u/\Q v H'
noncomputable def TP (X:Cx) (pins:List (Addr×Obj)) (σ:St) (Q:Bool->Hp->Prop) (b:Bool) (s':Shared):Prop:=∃ H',Inv X pins σ H' s'/\Q b H'
noncomputable def AP (X:Cx) (pins:List (Addr×Obj)) (σ:St) (Q:List V->Hp->Prop) (us:List Value) (s':Shared):Prop:=∃ vs H',Inv X pins σ H' s'/\aE vs us/\Q vs H'
noncomputable def SP (X:Cx) (pins:List (Addr×Obj)) (D:jm) (f:Flow) (s':Shared):Prop:=
 match f with
 | .next=>∃ σ' H',Inv X pins σ' H' s'/\D.nx σ' H'
 | .brk=>∃ σ' H',Inv X pins σ' H' s'/\D.bk σ' H'
 | .cont=>∃ σ' H',Inv X pins σ' H' s'/\D.ct σ' H'
 | .ret u=>∃ v σ' H',Inv X pins σ' H' s'/\aM v u/\D.rt v H'
noncomputable def PE (X:Cx) (e:Expr) (t:TE):Prop:=
 ∀ (pins:List (Addr×Obj)) (s:Shared) (σ:St) (H:Hp) (Q:VK),Inv X pins σ H s->t σ H Q->wpAny (model X.prog X.w) X.A (eval e X.env) (EP X pins σ Q) X.xe s
noncomputable def PT (X:Cx) (e:Expr) (t:TT):Prop:=
 ∀ (pins:List (Addr×Obj)) (s:Shared) (σ:St) (H:Hp) (Q:Bool->Hp->Prop),Inv X pins σ H s->t σ H Q->wpAny (model X.prog X.w) X.A (isTrue e X.env (eval e X.env)) (TP X pins σ Q) X.xe s
noncomputable def PW (X:Cx) (e:Expr) (t:TT):Prop:=
 ∀ (whole:Sem Value) (pins:List (Addr×Obj)) (s:Shared) (σ:St) (H:Hp) (Q:Bool->Hp->Prop),Inv X pins σ H s->t σ H Q->wpAny (model X.prog X.w) X.A (isTrue e X.env whole) (TP X pins σ Q) X.xe s
theorem PW.pt {X:Cx} {e:Expr} {t:TT} (h:PW X e t):PT X e t:=h _
noncomputable def PA (X:Cx) (es:List Expr) (t:TA):Prop:=
 ∀ (pos:Pos) (pins:List (Addr×Obj)) (s:Shared) (σ:St) (H:Hp) (Q:List V->Hp->Prop),Inv X pins σ H s->t σ H Q->wpAny (model X.prog X.w) X.A (spliced (backTo pos (starEach es X.env))) (AP X pins σ Q) X.xe s
noncomputable def PS (X:Cx) (st:Stmt) (t:TS):Prop:=
 ∀ (pins:List (Addr×Obj)) (s:Shared) (σ:St) (H:Hp) (D:jm),Inv X pins σ H s->t D σ H->wpAny (model X.prog X.w) X.A (exec st X.env) (SP X pins D) X.xe s
noncomputable def PSs (X:Cx) (st:List Stmt) (t:TS):Prop:=
 ∀ (pins:List (Addr×Obj)) (s:Shared) (σ:St) (H:Hp) (D:jm),Inv X pins σ H s->t D σ H->wpAny (model X.prog X.w) X.A (execs st X.env) (SP X pins D) X.xe s
theorem thn {α:Type} {t:Sem α} {Q Q':α->Shared->Prop} {M:Model} {A:Around} {E:Value->Shared->Prop} {s:Shared} (h:wpAny M A t Q E s) (hQ:∀ a s,Q a s->Q' a s):wpAny M A t Q' E s:=wpAny_mono h hQ fun _ _ x=>x
end L2
namespace L2
open PySem PySem.Spec PyProof.Rows
section
variable {X:Cx}
noncomputable def ab (i:Nat):TE:=fun σ H Q=>∃ v,σ[i]?=some (some v)/\Q v H
noncomputable def tC (v:V):TE:=fun _ H Q=>Q v H
theorem xN {i:Nat} {x:Str} {pos:Pos} (hN:X.N[i]?=some x) (hv:Vis X.env.scope x) (hd:(x == ("__debug__":Str))=false:=by decide) (hcd:(x == ("__classdict__":Str))=false:=by decide):PE X (.Name x pos) (ab i):=by
 intro pins s σ H Q I h
 obtain ⟨v,e,h⟩:=h
 obtain ⟨m,hn,hl⟩:=I.loc
 obtain ⟨u,r,l⟩:=hl i x v hN e hv
 have fin:EP X pins σ Q u s:=⟨v,H,I,r,h⟩
 rcases l with ⟨hk,hm⟩ | ⟨hk,c,hc,hcell⟩
 ·exact wpAny_Name (wpAny_loadName_local I.ok.kind hk hn hm fin) hd
 ·rcases hk with hk | hk
  ·exact wpAny_Name (wpAny_loadName_cell I.ok.kind hk hc hcell fin) hd
  ·exact wpAny_Name (wpAny_loadName_free I.ok.kind hk hc hcell fin hcd) hd
theorem aj {i j pos}:PE X (.Constant (.int i) j pos) (tC (.int i)):=fun _ _ _ H _ I h=>wpAny_Constant_int ⟨.int i,H,I.tok _,⟨_,rfl⟩,h⟩
theorem eU {b j pos}:PE X (.Constant (.bool b) j pos) (tC (.bl b)):=fun _ _ _ H _ I h=>Constant_bool ⟨.bl b,H,I,rfl,h⟩
theorem mm {j pos}:PE X (.Constant .none j pos) (tC .non):=fun _ _ _ H _ I h=>Constant_none ⟨.non,H,I,rfl,h⟩
theorem ba {x j pos}:PE X (.Constant (.str x) j pos) (tC (.str x)):=fun _ _ _ H _ I h=>Calls.Constant_str ⟨.str x,H,I.tok _,⟨_,rfl⟩,h⟩
noncomputable def Gl (X:Cx) (x:Str):Prop:=X.env.kindOf x=some .globalImplicit
theorem vZ {E:Value->Shared->Prop} {pins:List (Addr×Obj)} {s:Shared} {σ:St} {H:Hp} {x:Str} {u:Value} {pos:Pos} {Q:Value->Shared->Prop} (I:Inv X pins σ H s) (hg:Gl X x) (hm:X.mg x=some u) (h:Q u s)
  (hd:(x == ("__debug__":Str))=false:=by decide):wpAny (model X.prog X.w) X.A (eval (.Name x pos) X.env) Q E s:=
 Calls.Name_function_global I.ok.kind hg (Calls.loadGlobal_global (by rw [I.ok.glob]; exact I.mod.glob.keeps I.bk) hm h) hd
theorem h8 {E:Value->Shared->Prop} {pins:List (Addr×Obj)} {s:Shared} {σ:St} {H:Hp} {x:Str} {u:Value} {pos:Pos} {Q:Value->Shared->Prop} (I:Inv X pins σ H s) (hg:Gl X x) (hm:X.mg x=none) (hv:bootBuiltins x=some u) (h:Q u s)
  (hn:x≠"__name__":=by decide) (hd:(x == ("__debug__":Str))=false:=by decide):wpAny (model X.prog X.w) X.A (eval (.Name x pos) X.env) Q E s:=by
 obtain ⟨mb,h1,h2⟩:=I.mod.blt
 exact Calls.Name_function_global I.ok.kind hg (Calls.loadGlobal_builtin (by rw [I.ok.glob]; exact I.mod.glob.keeps I.bk) hm (by rw [I.ok.blt]; exact h1.keeps I.bk) ((h2 x hn).trans hv) h) hd
theorem qb {x:Str} {v:V} {u:Value} {pos:Pos} (hg:Gl X x) (hm:X.mg x=some u) (r:aM v u) (hd:(x == ("__debug__":Str))=false:=by decide):PE X (.Name x pos) (tC v):=
 fun _ _ _ H _ I h=>vZ I hg hm ⟨v,H,I,r,h⟩ hd
theorem ku {x:Str} {v:V} {u:Value} {pos:Pos} (hg:Gl X x) (hm:X.mg x=none) (hv:bootBuiltins x=some u) (r:aM v u) (hn:x≠"__name__":=by decide) (hd:(x == ("__debug__":Str))=false:=by decide):PE X (.Name x pos) (tC v):=
 fun _ _ _ H _ I h=>h8 I hg hm hv ⟨v,H,I,r,h⟩ hn hd
variable {a b:Expr} {ta tb:TE} {pos:Pos}
noncomputable def tB (t:TE):TT:=fun σ H Q=>t σ H fun x H1=>∃ c,x=.bl c/\Q c H1
theorem fB {e:Expr} {t:TE} (h:PE X e t) (he:∀ whole,isTrue e X.env whole=(do let v <-whole; standAt e.pos; holding [v] (truthy v)):=by intro _; rfl):PT X e (tB t):=by
 intro pins s σ H Q I hw
 refine isTrue_plain (thn (h pins s σ H _ I hw) fun v s1 ⟨x,H1,I1,r1,q1⟩=>?_) (he _)
 obtain ⟨d,rfl,q⟩:=q1
 cases r1
 exact wpAny_truthy_bool ⟨H1,I1,q⟩
variable {tA tB':TT} {dh:List Expr}
noncomputable def tG (t u:TT):TT:=fun σ H Q=>t σ H fun c H1=>if c=true then u σ H1 Q else Q false H1
noncomputable def tOr (t u:TT):TT:=fun σ H Q=>t σ H fun c H1=>if c=true then Q true H1 else u σ H1 Q
noncomputable def jK (t:TT):TT:=fun σ H Q=>t σ H fun c H1=>Q (!c) H1
theorem v2 (ha:PT X a tA):PW X (.BoolOp .And [a] pos) tA:=by
 intro wh pins s σ H Q I h
 refine isTrue_and (thn (ha pins s σ H Q I h) fun c s1 e=>?_)
 cases c with
 | true=>exact isTrue_and_nil e
 | false=>exact e
theorem tH (ha:PT X a tA):PW X (.BoolOp .Or [a] pos) tA:=by
 intro wh pins s σ H Q I h
 refine isTrue_or (thn (ha pins s σ H Q I h) fun c s1 e=>?_)
 cases c with
 | false=>exact isTrue_or_nil e
 | true=>exact e
theorem tI (ha:PT X a tA) (hb:PW X (.BoolOp .And (b :: dh) pos) tB'):PW X (.BoolOp .And (a :: b :: dh) pos) (tG tA tB'):=by
 intro wh pins s σ H Q I h
 refine isTrue_and (thn (ha pins s σ H _ I h) fun c s1 ⟨H1,I1,q1⟩=>?_)
 cases c with
 | true=>exact hb wh pins s1 σ H1 Q I1 q1
 | false=>exact ⟨H1,I1,q1⟩
theorem wD (ha:PT X a tA) (hb:PW X (.BoolOp .Or (b :: dh) pos) tB'):PW X (.BoolOp .Or (a :: b :: dh) pos) (tOr tA tB'):=by
 intro wh pins s σ H Q I h
 refine isTrue_or (thn (ha pins s σ H _ I h) fun c s1 ⟨H1,I1,q1⟩=>?_)
 cases c with
 | true=>exact ⟨H1,I1,q1⟩
 | false=>exact hb wh pins s1 σ H1 Q I1 q1
theorem h9 (ha:PT X a tA):PT X (.UnaryOp .Not a pos) (jK tA):=by
 intro pins s σ H Q I h
 exact isTrue_not (ha pins s σ H (fun c H1=>Q (!c) H1) I h)
noncomputable def j6 (ta tb:TE):TE:=fun σ H Q=>ta σ H fun x H1=>∃ c,x=.bl c/\if c=true then tb σ H1 Q else Q (.bl false) H1
noncomputable def ze (ta tb:TE):TE:=fun σ H Q=>ta σ H fun x H1=>∃ c,x=.bl c/\if c=true then Q (.bl true) H1 else tb σ H1 Q
noncomputable def sW (ta:TE):TE:=fun σ H Q=>ta σ H fun x H1=>∃ c,x=.bl c/\Q (.bl (!c)) H1
theorem jL {op} {t:TE} (h:PE X a t):PE X (.BoolOp op [a] pos) t:=fun pins s σ H Q I hw=>BoolOp_one (h pins s σ H Q I hw)
theorem kz (ha:PE X a ta) (hb:PE X (.BoolOp .And (b :: dh) pos) tb):PE X (.BoolOp .And (a :: b :: dh) pos) (j6 ta tb):=by
 intro pins s σ H Q I h
 refine BoolOp_and (thn (ha pins s σ H _ I h) fun v s1 ⟨x,H1,I1,r1,q1⟩=>?_)
 obtain ⟨c,rfl,q1⟩:=q1
 cases r1
 refine wpAny_truthy_bool ?_
 cases c with
 | true=>exact hb pins s1 σ H1 Q I1 q1
 | false=>exact ⟨.bl false,H1,I1,rfl,q1⟩
theorem C0 (ha:PE X a ta) (hb:PE X (.BoolOp .Or (b :: dh) pos) tb):PE X (.BoolOp .Or (a :: b :: dh) pos) (ze ta tb):=by
 intro pins s σ H Q I h
 refine BoolOp_or (thn (ha pins s σ H _ I h) fun v s1 ⟨x,H1,I1,r1,q1⟩=>?_)
 obtain ⟨c,rfl,q1⟩:=q1
 cases r1
 refine wpAny_truthy_bool ?_
 cases c with
 | false=>exact hb pins s1 σ H1 Q I1 q1
 | true=>exact ⟨.bl true,H1,I1,rfl,q1⟩
theorem xO (ha:PE X a ta):PE X (.UnaryOp .Not a pos) (sW ta):=by
 intro pins s σ H Q I h
 refine UnaryOp_ (thn (ha pins s σ H _ I h) fun v s1 ⟨x,H1,I1,r1,q1⟩=>?_)
 obtain ⟨c,rfl,q1⟩:=q1
 cases r1
 exact not_of (wpAny_truthy_bool ⟨.bl (!c),H1,I1,rfl,q1⟩)
noncomputable def tIf (t:TT) (ta tb:TE):TE:=fun σ H Q=>t σ H fun c H1=>if c=true then ta σ H1 Q else tb σ H1 Q
end
end L2
namespace L2
open PySem PySem.Spec PyProof.Rows
noncomputable def SqL (K:PySem.W.Frag) (H:Hp) (a:Addr) (xs:List V):Prop:=
 Rd H a (.lst xs)\/
  ∃ (o:Obj) (its:Array Value) (n:Nat),K.lookup a=some o/\o.cls=.type "list"/\o.dict=none/\o.data=.seq its n/\its.size<=sizeLine/\aE xs its.toList
noncomputable def SqT (K:PySem.W.Frag) (H:Hp) (a:Addr) (xs:List V):Prop:=
 Rd H a (.tup xs)\/
  ∃ (o:Obj) (its:Array Value) (n:Nat),K.lookup a=some o/\o.cls=.type "tuple"/\o.data=.seq its n/\its.size<=sizeLine/\aE xs its.toList
noncomputable def DC:Value->Option V
 | .none=>some .non
 | .bool b=>some (.bl b)
 | .int i _=>some (.int i)
 | .str x _=>some (.str x)
 | .bytes b _=>some (.byt b)
 | .float b _=>some (.flt b)
 | .ref a=>some (.ref a)
 | .type n=>some (.ty n)
 | _=>none
theorem aM.abs {x:V} {u:Value} (r:aM x u):DC u=some x:=by
 cases x with
 | non=>cases r; rfl
 | bl _=>cases r; rfl
 | int _=>obtain ⟨t,rfl⟩:=r; rfl
 | str _=>obtain ⟨t,rfl⟩:=r; rfl
 | byt _=>obtain ⟨t,rfl⟩:=r; rfl
 | flt _=>obtain ⟨t,rfl⟩:=r; rfl
 | ref _=>cases r; rfl
 | ty _=>cases r; rfl
theorem aM.inj {x y:V} {u:Value} (r:aM x u) (q:aM y u):x=y:=Option.some.inj (r.abs.symm.trans q.abs)
theorem aE.inj {xs ys:List V} {us:List Value} (h:aE xs us):aE ys us->xs=ys:=by
 induction h generalizing ys with
 | nil=>intro h; cases h; rfl
 | cons r t ih=>intro h; cases h with
  | cons r' t'=>rw [r.inj r',ih t']
section
variable {X:Cx} {pins:List (Addr×Obj)} {σ:St} {H:Hp} {s:Shared} {a:Addr} {xs ys:List V}
theorem SqL.of {K:PySem.W.Frag} (h:H a=some (.lst xs)):SqL K H a xs:=.inl (.inl h)
theorem SqT.of {K:PySem.W.Frag} (h:H a=some (.tup xs)):SqT K H a xs:=.inl (.inl h)
theorem Inv.list (I:Inv X pins σ H s) (h:SqL X.K H a xs):∃ its:List Value,aE xs its/\PlainL s.heap a its.toArray/\xs.length<=sizeLine:=by
 rcases h with h | ⟨o,its,n,hk,hc,hd,hs,hz,r⟩
 ·obtain ⟨z,its,n,r,e⟩:=h.ok I.hok
  exact ⟨its,r,⟨_,n,e,rfl,rfl,rfl⟩,z⟩
 ·refine ⟨its.toList,r,⟨o,n,I.kIn a o hk,hc,hd,by simpa using hs⟩,?_⟩
  have e:=r.length
  simp only [Array.length_toList] at e
  omega
theorem Inv.tuple (I:Inv X pins σ H s) (h:SqT X.K H a xs):∃ its:List Value,aE xs its/\IsTup s.heap a its.toArray/\xs.length<=sizeLine:=by
 rcases h with h | ⟨o,its,n,hk,hc,hs,hz,r⟩
 ·obtain ⟨z,its,r,p⟩:=h.ok I.hok
  exact ⟨its,r,p.tup,z⟩
 ·refine ⟨its.toList,r,⟨o,I.kIn a o hk,hc,n,by simpa using hs⟩,?_⟩
  have e:=r.length
  simp only [Array.length_toList] at e
  omega
theorem Inv.list_inj (I:Inv X pins σ H s) (h:SqL X.K H a xs) (h':SqL X.K H a ys):xs=ys:=by
 obtain ⟨its,r,⟨o,n,e,_,_,d⟩,_⟩:=I.list h
 obtain ⟨its',r',⟨o',n',e',_,_,d'⟩,_⟩:=I.list h'
 rw [e] at e'; cases e'
 rw [d] at d'
 injection d' with d1 _
 have:its=its':=by simpa using congrArg Array.toList d1
 subst this
 exact r.inj r'
theorem Inv.tuple_inj (I:Inv X pins σ H s) (h:SqT X.K H a xs) (h':SqT X.K H a ys):xs=ys:=by
 obtain ⟨its,r,⟨o,e,_,n,d⟩,_⟩:=I.tuple h
 obtain ⟨its',r',⟨o',e',_,n',d'⟩,_⟩:=I.tuple h'
 rw [e] at e'; cases e'
 rw [d] at d'
 injection d' with d1 _
 have:its=its':=by simpa using congrArg Array.toList d1
 subst this
 exact r.inj r'
end
noncomputable abbrev Cx.wish (X:Cx) (E:Value->Shared->Prop):Cx:={ X with xe:=E }
noncomputable abbrev Cx.nox (X:Cx):Cx:=X.wish fun _ _=>False
theorem Cx.Ok.wish {X:Cx} (ok:X.Ok) (E:Value->Shared->Prop):(X.wish E).Ok:=
 ⟨ok.mod,ok.kind,ok.glob,ok.blt,ok.above,ok.inj,ok.has,ok.cab,ok.hd,ok.frames,ok.stk,ok.exf,ok.bs,ok.bsz,ok.noex,ok.exfs,ok.funs,ok.frf⟩
theorem Cx.Ok.unwish {X:Cx} {E:Value->Shared->Prop} (ok:(X.wish E).Ok):X.Ok:=
 ⟨ok.mod,ok.kind,ok.glob,ok.blt,ok.above,ok.inj,ok.has,ok.cab,ok.hd,ok.frames,ok.stk,ok.exf,ok.bs,ok.bsz,ok.noex,ok.exfs,ok.funs,ok.frf⟩
section
variable {X:Cx} {pins:List (Addr×Obj)} {σ:St} {H:Hp} {s:Shared} {E:Value->Shared->Prop}
theorem Inv.wish (I:Inv X pins σ H s) (E:Value->Shared->Prop):Inv (X.wish E) pins σ H s:=⟨I.ok.wish E,I.os,I.bare,I.base,I.loc,I.cell,I.free,I.freeC,I.pin,I.hok,I.len⟩
theorem Inv.unwish (I:Inv (X.wish E) pins σ H s):Inv X pins σ H s:=⟨I.ok.unwish,I.os,I.bare,I.base,I.loc,I.cell,I.free,I.freeC,I.pin,I.hok,I.len⟩
theorem SP.unwish {D:jm} {f:Flow} {s':Shared} (h:SP (X.wish E) pins D f s'):SP X pins D f s':=by
 cases f with
 | next=>obtain ⟨σ',H',I,q⟩:=h; exact ⟨σ',H',I.unwish,q⟩
 | brk=>obtain ⟨σ',H',I,q⟩:=h; exact ⟨σ',H',I.unwish,q⟩
 | cont=>obtain ⟨σ',H',I,q⟩:=h; exact ⟨σ',H',I.unwish,q⟩
 | ret u=>obtain ⟨v,σ',H',I,r,q⟩:=h; exact ⟨v,σ',H',I.unwish,r,q⟩
theorem PSs.nox {st:List Stmt} {t:TS} (h:PSs X.nox st t):PSs X st t:=fun pins s σ H D I hw=>
 wpAny_mono (h pins s σ H D (I.wish _) hw) (fun _ _ q=>q.unwish) fun _ _ z=>False.elim z
end
section
variable {X:Cx} {st:Stmt} {dh:List Stmt} {t u:TS} {e:Expr} {te:TE} {pos:Pos}
noncomputable def bK:TS:=fun D σ H=>D.nx σ H
noncomputable def au (t u:TS):TS:=fun D σ H=>t { D with nx:=u D } σ H
theorem bg:PSs X [] bK:=fun _ _ σ H _ I h=>wpAny_execs_nil ⟨σ,H,I,h⟩
theorem af (h1:PS X st t) (h2:PSs X dh u):PSs X (st :: dh) (au t u):=by
 intro pins s σ H D I h
 refine wpAny_execs_cons (thn (h1 pins s σ H { D with nx:=u D } I h) fun f s1 q=>?_)
 cases f with
 | next=>
  obtain ⟨σ',H',I',q⟩:=q
  exact h2 pins s1 σ' H' D I' q
 | ret v=>exact q
 | brk=>exact q
 | cont=>exact q
theorem am (h1:PS X st t):PSs X [st] t:=by
 intro pins s σ H D I h
 refine wpAny_execs_cons (thn (h1 pins s σ H D I h) fun f s1 q=>?_)
 cases f with
 | next=>exact wpAny_execs_nil q
 | ret v=>exact q
 | brk=>exact q
 | cont=>exact q
noncomputable def BI:TS:=fun D σ H=>D.bk σ H
noncomputable def C1:TS:=fun D σ H=>D.ct σ H
theorem Inv.quiet {pins:List (Addr×Obj)} {σ:St} {H:Hp} {s:Shared} (I:Inv X pins σ H s):interactive X.env=false:=by simp [interactive,I.ok.kind]
noncomputable def gh (te:TE):TS:=fun D σ H=>te σ H fun _ H1=>D.nx σ H1
theorem eV (he:PE X e te) (hs:swapsWith e none pos.line X.env=pure false:=by rfl):PS X (.Expr e pos) (gh te):=by
 intro pins s σ H D I h
 exact wpAny_Expr_any (thn (he pins s σ H _ I h) fun v s1 ⟨x,H1,I1,r1,q1⟩=>⟨σ,H1,I1,q1⟩) I.quiet hs
noncomputable def aV (te:TE):TS:=fun D σ H=>te σ H D.rt
theorem aC (he:PE X e te):PS X (.Return (some e) pos) (aV te):=by
 intro pins s σ H D I h
 exact wpAny_Return_some (thn (he pins s σ H _ I h) fun v s1 ⟨x,H1,I1,r1,q1⟩=>⟨x,σ,H1,I1,r1,q1⟩)
noncomputable def C2:TS:=fun D _ H=>D.rt .non H
noncomputable def cu (c:TT) (t u:TS):TS:=fun D σ H=>c σ H fun b H1=>if b=true then t D σ H1 else u D σ H1
theorem bU {c:Expr} {a b:List Stmt} {tc:TT} (hc:PT X c tc) (ha:PSs X a t) (hb:PSs X b u):PS X (.If c a b pos) (cu tc t u):=by
 intro pins s σ H D I h
 refine wpAny_If (thn (hc pins s σ H _ I h) fun d s1 ⟨H1,I1,q1⟩=>?_)
 cases d with
 | true=>exact ha pins s1 σ H1 D I1 q1
 | false=>exact hb pins s1 σ H1 D I1 q1
noncomputable def tJ:TS:=fun _ _ _=>False
theorem tK:PS X st tJ:=fun _ _ _ _ _ _ h=>h.elim
end
noncomputable abbrev TG:=V->St->Hp->(St->Hp->Prop)->Prop
noncomputable abbrev TGs:=List V->St->Hp->(St->Hp->Prop)->Prop
noncomputable def PG (X:Cx) (target:Expr) (t:TG):Prop:=
 ∀ (pins:List (Addr×Obj)) (s:Shared) (σ:St) (H:Hp) (v:V) (u:Value) (Q:St->Hp->Prop),Inv X pins σ H s->aM v u->t v σ H Q->
  wpAny (model X.prog X.w) X.A (assign target X.env u) (fun _ s'=>∃ σ' H',Inv X pins σ' H' s'/\Q σ' H') X.xe s
noncomputable def PGs (X:Cx) (ts:List Expr) (t:TGs):Prop:=
 ∀ (pins:List (Addr×Obj)) (s:Shared) (σ:St) (H:Hp) (vs:List V) (us:List Value) (Q:St->Hp->Prop),Inv X pins σ H s->aE vs us->t vs σ H Q->
  wpAny (model X.prog X.w) X.A (assignInOrder ((assignEach ts X.env).map (·.2)) us) (fun _ s'=>∃ σ' H',Inv X pins σ' H' s'/\Q σ' H') X.xe s
noncomputable abbrev tL:=V->V->V->Hp->(Hp->Prop)->Prop
noncomputable def wE (X:Cx) (t:tL):Prop:=
 ∀ (pins:List (Addr×Obj)) (s:Shared) (σ:St) (H:Hp) (o i v:V) (ov iv u:Value) (Q:Hp->Prop),Inv X pins σ H s->aM o ov->aM i iv->aM v u->t o i v H Q->
  wpAny (model X.prog X.w) X.A (setItem ov iv u) (fun _ s'=>∃ H',Inv X pins σ H' s'/\Q H') X.xe s
section
variable {X:Cx} {pos:Pos}
noncomputable def ai (i:Nat):TG:=fun v σ H Q=>Q (σ.set i (some v)) H
theorem aw {i:Nat} {x:Str} (hN:X.N.Nodup) (hi:X.N[i]?=some x) (hx:Loc X.env.scope x) (hf:X.fn x=true\/X.env.scope.names.lookup x=some .local:=by first | exact .inl rfl | exact .inr rfl | assumption):PG X (.Name x pos) (ai i):=by
 intro pins s σ H v u Q I r h
 exact wpAny_assign_Name (tF I hN hi hx r (fun s' I'=>⟨_,H,I',h⟩) hf)
noncomputable def eW:TGs:=fun vs σ H Q=>vs=[]/\Q σ H
noncomputable def bt (t:TG) (u:TGs):TGs:=fun vs σ H Q=>∃ v r,vs=v :: r/\t v σ H fun σ' H'=>u r σ' H' Q
theorem cT:PGs X [] eW:=by
 intro pins s σ H vs us Q I r h
 obtain ⟨e,h⟩:=h
 subst e
 cases r
 exact assignInOrder_nil ⟨σ,H,I,h⟩
theorem aS {e:Expr} {es:List Expr} {t:TG} {u:TGs} (h1:PG X e t) (h2:PGs X es u)
  (hs:(assignEach (e :: es) X.env).map (·.2)=assign e X.env :: (assignEach es X.env).map (·.2):=by rfl):PGs X (e :: es) (bt t u):=by
 intro pins s σ H vs us Q I r h
 obtain ⟨v,vr,e1,h⟩:=h
 subst e1
 cases r with
 | cons r rr=>
  rw [hs]
  refine assignInOrder_cons (thn (h1 pins s σ H _ _ _ I r h) fun _ s1 ⟨σ1,H1,I1,q1⟩=>?_)
  exact h2 pins s1 σ1 H1 _ _ Q I1 rr q1
noncomputable def eX (K:PySem.W.Frag) (n:Nat) (t:TGs):TG:=fun v σ H Q=>∃ a xs,v=.ref a/\SqT K H a xs/\xs.length=n/\t xs σ H Q
theorem dL {es:List Expr} {k:Nat} {t:TGs} {n:Nat} (hc:X.calm=true) (h:PGs X es t)
  (hn:(assignEach es X.env).length=n:=by rfl) (hst:(assignEach es X.env).findIdx? (·.1)=none:=by rfl):PG X (.Tuple es k pos) (eX X.K n t):=by
 intro pins s σ H v u Q I r hw
 obtain ⟨a,xs,e1,hq,hl,hw⟩:=hw
 subst e1
 cases r
 obtain ⟨its,rv,ht,hz⟩:=I.tuple hq
 refine assign_Tuple_tuple (I.ok.hd hc) ht (by simp [hn,<-hl,rv.length]) hst fun h' hx=>?_
 have I1:Inv X pins σ H { s with heap:=h' }:=I.kept (t':=s.toks) fun b o e=>hx b o (Nat.ne_of_lt (Heap.lt_size e)) e
 exact h pins _ σ H xs _ Q I1 (by simpa using rv) hw
noncomputable def jM (to ti:TE) (t:tL):TG:=fun v σ H Q=>to σ H fun o H1=>ti σ H1 fun i H2=>t o i v H2 fun H3=>Q σ H3
theorem jg {o i:Expr} {to ti:TE} {t:tL} (ho:PE X o to) (hi:PE X i ti) (hs:wE X t)
  (ha:∀ v,assign (.Subscript o i pos) X.env v=(do
   let ov <-holding [v] (eval o X.env)
   let iv <-holding [v,ov] (eval i X.env)
   standAt pos
   holding [v,ov,iv] (setItem ov iv v)
   release [v,ov,iv] []):=by intro _; rfl):PG X (.Subscript o i pos) (jM to ti t):=by
 intro pins s σ H v u Q I r h
 rw [ha]
 refine wpAny_bind (wpAny_holding (thn (ho pins s σ H _ I h) fun ov s1 ⟨x,H1,I1,r1,q1⟩=>?_))
 refine wpAny_bind (wpAny_holding (thn (hi pins s1 σ H1 _ I1 q1) fun iv s2 ⟨y,H2,I2,r2,q2⟩=>?_))
 refine wpAny_bind (wpAny_standAt (wpAny_bind (wpAny_holding (thn (hs pins s2 σ H2 x y v ov iv u _ I2 r1 r2 r q2) fun _ s3 ⟨H3,I3,q3⟩=>?_))))
 exact wpAny_release ⟨σ,H3,I3,q3⟩
noncomputable def ay (te:TE) (g:TG):TS:=fun D σ H=>te σ H fun x H1=>g x σ H1 D.nx
theorem ib {tg e:Expr} {te:TE} {g:TG} (he:PE X e te) (hg:PG X tg g) (hs:swapsWithSole [tg] e pos.line X.env=pure false:=by rfl) (hw:swappedStores [tg] e X.env=pure none:=by rfl)
  (h1:(assignEach [tg] X.env).map (·.2)=[assign tg X.env]:=by rfl):PS X (.Assign [tg] e pos) (ay te g):=by
 intro pins s σ H D I h
 refine wpAny_Assign_stores (thn (he pins s σ H _ I h) fun v s1 ⟨x,H1,I1,r1,q1⟩=>?_) hs hw
 rw [h1]
 exact thn (hg pins s1 σ H1 x v _ I1 r1 q1) fun _ s2 q=>q
theorem ax {i:Nat} {x:Str} {e:Expr} {te:TE} {pos':Pos} (hN:X.N.Nodup) (hi:X.N[i]?=some x) (hx:Loc X.env.scope x) (he:PE X e te) (hs:swapsWith e (some (.Name x pos')) pos.line X.env=pure false:=by rfl) (hf:X.fn x=true\/X.env.scope.names.lookup x=some .local:=by first | exact .inl rfl | exact .inr rfl | assumption):
  PS X (.Assign [.Name x pos'] e pos) (ay te (ai i)):=by
 intro pins s σ H D I h
 refine wpAny_Assign_Name (thn (he pins s σ H _ I h) fun v s1 ⟨y,H1,I1,r1,q1⟩=>?_) hs
 exact tF I1 hN hi hx r1 (fun s2 I2=>⟨_,H1,I2,q1⟩) hf
end
section
variable {X:Cx} {pos:Pos}
noncomputable def jN (c:TT) (tb:TS):TS:=fun D σ H=>∃ W:Nat->St->Hp->Prop,(∃ m,W m σ H)/\∀ m σ H,W m σ H->
 c σ H fun b H1=>if b=true then ∃ N:St->Hp->Prop,(∀ σ' H',N σ' H'->∃ m',m' < m/\W m' σ' H')/\tb { D with nx:=N,ct:=N,bk:=D.nx } σ H1 else D.nx σ H1
theorem lm {c:Expr} {body:List Stmt} {tc:TT} {tb:TS} (hp:PassesOwn (model X.prog X.w) X.A X.env X.xe) (hc:PT X c tc) (hb:PSs X body tb):PS X (.While c body [] pos) (jN tc tb):=by
 intro pins s σ H D I h
 obtain ⟨W,⟨m0,w0⟩,turn⟩:=h
 refine wpAny_While (codeAny_whileLoop (fun n s'=>∃ σ' H',Inv X pins σ' H' s'/\W n σ' H') ?_ m0 ⟨σ,H,I,w0⟩)
 rintro n s1 ⟨σ1,H1,I1,w1⟩
 refine wpAny_passesOwn hp (thn (hc pins s1 σ1 H1 _ I1 (turn n σ1 H1 w1)) fun b s2 ⟨H2,I2,q2⟩=>?_)
 cases b with
 | true=>
  obtain ⟨N,hN,q2⟩:=q2
  rw [if_pos rfl]
  refine wpAny_passesOwn hp (thn (hb pins s2 σ1 H2 _ I2 q2) fun f s3 q3=>?_)
  cases f with
  | next=>
   obtain ⟨σ3,H3,I3,n3⟩:=q3
   obtain ⟨m',hm,w3⟩:=hN σ3 H3 n3
   exact ⟨m',hm,σ3,H3,I3,w3⟩
  | cont=>
   obtain ⟨σ3,H3,I3,n3⟩:=q3
   obtain ⟨m',hm,w3⟩:=hN σ3 H3 n3
   exact ⟨m',hm,σ3,H3,I3,w3⟩
  | brk=>exact q3
  | ret v=>exact q3
 | false=>
  rw [if_neg Bool.false_ne_true]
  exact wpAny_execs_nil ⟨σ1,H2,I2,q2⟩
end
set_option genInjectivity false in
structure It where
 go:Nat->Hp->Prop
 yld:Nat->Hp->V->Hp->Prop
 stop:Nat->Hp->Prop
noncomputable def jn (X:Cx) (pins:List (Addr×Obj)) (H:Hp) (b:Addr):Prop:=
 H b=none/\b≠X.env.locals/\b∉X.fs/\(b∈X.ex\/X.s₀.heap.objs.size<=b)/\(∀ x c,X.env.cells.lookup x=some c->c≠b)/\∀ p∈X.pn++pins,p.1≠b
theorem Inv.fpOk {X:Cx} {pins:List (Addr×Obj)} {σ:St} {H H':Hp} {s:Shared} {b:Addr} (I:Inv X pins σ H s) (hb:s.heap.objs.size<=b) (hn:H' b=none):jn X pins H' b:=by
 refine ⟨hn,Nat.ne_of_gt (Nat.lt_of_lt_of_le I.lt hb),I.nofs hb,.inr (Nat.le_trans I.sz hb),fun x c e z=>?_,fun p hp z=>?_⟩
 ·obtain ⟨v,q⟩:=I.cell x c e
  exact absurd (Nat.lt_of_lt_of_le q.lt (by rw [z]; exact hb)) (Nat.lt_irrefl _)
 ·exact absurd (Nat.lt_of_lt_of_le (Heap.lt_size (I.pin p hp).1) (by rw [z]; exact hb)) (Nat.lt_irrefl _)
structure mn (P:Program) (w:World) (K:PySem.W.Frag) (tg:Expr) (J:It) (fp:List Addr) (it:Addr) (tn:Nat->Heap->Prop):Prop where
 mem:it∈fp
 obj:∀ i h,tn i h->∀ b∈fp,∃ o,h.get? b=some o/\∀ v,o.data≠.cell v
 keep:∀ i h h',tn i h->(∀ b∈fp,∀ o,h.get? b=some o->h'.get? b=some o)->tn i h'
 item:∀ (X:Cx),X.prog=P->X.w=w->X.K=K->X.calm=true->∀ (i:Nat) (pins:List (Addr×Obj)) (s:Shared) (σ:St) (H:Hp) (E:Value->Shared->Prop),Inv X pins σ H s->(∀ b∈fp,jn X pins H b)->tn i s.heap->J.go i H->
  wpAny (model P w) X.A (pyNext (.ref it)) (fun r s1=>∃ u,r=some u/\
   wpAny (model P w) X.A (letOwnedTupleGo tg (.ref it) u) (fun _ s2=>∃ x H',Inv X pins σ H' s2/\aM x u/\J.yld i H x H'/\tn (i + 1) s2.heap/\∀ b∈fp,H' b=none) E s1) E s
 done:∀ (X:Cx),X.prog=P->X.w=w->X.K=K->X.calm=true->∀ (i:Nat) (pins:List (Addr×Obj)) (s:Shared) (σ:St) (H:Hp) (E:Value->Shared->Prop),Inv X pins σ H s->(∀ b∈fp,jn X pins H b)->tn i s.heap->J.stop i H->
  wpAny (model P w) X.A (pyNext (.ref it)) (fun r s1=>r=none/\Inv X pins σ H s1) E s
 self:∀ (A:Around) (i:Nat) (s:Shared) (Q:Value->Shared->Prop) (E:Value->Shared->Prop),tn i s.heap->Q (.ref it) s->wpAny (model P w) A (pyIter (.ref it)) Q E s
noncomputable abbrev TI:=St->Hp->(It->Hp->Prop)->Prop
noncomputable def PIE (X:Cx) (pins:List (Addr×Obj)) (σ:St) (tg:Expr) (R:It->Hp->Prop) (itv:Value) (s2:Shared):Prop:=
 ∃ (it:Addr) (fp:List Addr) (tn:Nat->Heap->Prop) (J:It) (H':Hp),itv=.ref it/\Inv X pins σ H' s2/\mn X.prog X.w X.K tg J fp it tn/\tn 0 s2.heap/\(∀ b∈fp,jn X pins H' b)/\R J H'
noncomputable def PI (X:Cx) (tg iter:Expr) (wi:TI):Prop:=
 ∀ (pins:List (Addr×Obj)) (s:Shared) (σ:St) (H:Hp) (R:It->Hp->Prop),Inv X pins σ H s->wi σ H R->
  wpAny (model X.prog X.w) X.A (eval iter X.env) (fun v s1=>wpAny (model X.prog X.w) X.A (pyIter v) (PIE X pins σ tg R) X.xe s1) X.xe s
theorem wF {M : Model} {A : Around} {E : Value → Shared → Prop} {s : Shared} {tg : Expr} {it : Addr} {u : Value} {o : Obj} {n : String} {vs : Array Value} {Q : Unit → Shared → Prop} (ho : s.heap.get? it = some o) (hc : o.cls = .type n) (hd : o.data = .fields vs)
    (hn : ["enumerate", "zip", "dict_itemiterator", "dict_reverseitemiterator", "odict_iterator", "itertools.zip_longest", "itertools.pairwise"].contains n = false) (hQ : Q () s) : wpAny M A (letOwnedTupleGo tg (.ref it) u) Q E s := by
  unfold letOwnedTupleGo
  cases tg <;> first
    | exact wpAny_pure hQ
    | (cases u <;> first
        | exact wpAny_pure hQ
        | (refine wpAny_bind (wpAny_load ho ?_)
           rw [hc, hd]
           show wpAny M A (if (["enumerate", "zip", "dict_itemiterator", "dict_reverseitemiterator", "odict_iterator", "itertools.zip_longest", "itertools.pairwise"].contains n && vs[0]? == some (rawInt _)) = true then _ else _) Q E s
           rw [if_neg (by intro h; rw [hn, Bool.false_and] at h; cases h)]
           exact wpAny_pure hQ))
noncomputable def Itl (K:PySem.W.Frag) (a:Addr):It:=
 ⟨fun i H=>∃ xs x,SqL K H a xs/\xs[i]?=some x,fun i H x H'=>H'=H/\∀ xs,SqL K H a xs->xs[i]?=some x,fun i H=>∃ xs,SqL K H a xs/\xs.length<=i⟩
noncomputable def Itt (K:PySem.W.Frag) (a:Addr):It:=
 ⟨fun i H=>∃ xs x,SqT K H a xs/\xs[i]?=some x,fun i H x H'=>H'=H/\∀ xs,SqT K H a xs->xs[i]?=some x,fun i H=>∃ xs,SqT K H a xs/\xs.length<=i⟩
noncomputable def Itr (lo:Int) (n:Nat):It:=⟨fun i _=>i < n,fun i H x H'=>H'=H/\x=.int (lo + i),fun i _=>n<=i⟩
theorem xP {P:Program} {w:World} {K:PySem.W.Frag} {tg:Expr} (a it:Addr):mn P w K tg (Itl K a) [it] it (fun i h=>h.IsListIter it a i) where
 mem:=by simp
 obj:=fun i h st b hb=>by
  have e:b=it:=by simpa using hb
  subst e
  obtain ⟨o,e,c,d⟩:=st
  exact ⟨o,e,fun v z=>by rw [d] at z; cases z⟩
 keep:=fun i h h' st k=>st.at fun o e=>k it (by simp) o e
 item:=by
  intro X hP hw hK hc i pins s σ H E I hf st hg
  subst hP hw hK
  obtain ⟨xs,x,hq,hx⟩:=hg
  obtain ⟨its,rv,p,hz⟩:=I.list hq
  obtain ⟨u,hu,ru⟩:=rv.get hx
  obtain ⟨f0,f1,f2,f3,f4,f5⟩:=hf it (by simp)
  refine wpAny_pyNext_list_item st p.isList (x:=u) (by simpa using hu) fun h' st' sb=>?_
  have I1:Inv X pins σ H { s with heap:=h' }:=I.turned (t':=s.toks) (fun b o hb e=>(sb.2 b hb).trans e) f0 f1 f3 f4 f5
  obtain ⟨o,e,c,d⟩:=id st'
  exact ⟨u,rfl,wF (s:={ s with heap:=h' }) e c d (by decide) ⟨x,H,I1,ru,⟨rfl,fun ys hy=>by rw [I.list_inj hy hq]; exact hx⟩,st',fun b hb=>(hf b hb).1⟩⟩
 done:=by
  intro X hP hw hK hc i pins s σ H E I hf st hg
  subst hP hw hK
  obtain ⟨xs,hq,hx⟩:=hg
  obtain ⟨its,rv,p,hz⟩:=I.list hq
  obtain ⟨f0,f1,f2,f3,f4,f5⟩:=hf it (by simp)
  have hl:=rv.length
  exact wpAny_pyNext_list_end (I.ok.hd hc) st p.isList (by simp; omega) fun h' eb=>⟨rfl,I.turned (t':=s.toks) (fun b o hb e=>eb b o hb e) f0 f1 f3 f4 f5⟩
 self:=fun _ _ _ _ _ st h=>wpAny_pyIter_listiter st h
theorem wG {P:Program} {w:World} {K:PySem.W.Frag} {tg:Expr} (a it:Addr):mn P w K tg (Itt K a) [it] it (fun i h=>h.IsTupleIter it a i) where
 mem:=by simp
 obj:=fun i h st b hb=>by
  have e:b=it:=by simpa using hb
  subst e
  obtain ⟨o,e,c,d⟩:=st
  exact ⟨o,e,fun v z=>by rw [d] at z; cases z⟩
 keep:=fun i h h' st k=>st.at fun o e=>k it (by simp) o e
 item:=by
  intro X hP hw hK hc i pins s σ H E I hf st hg
  subst hP hw hK
  obtain ⟨xs,x,hq,hx⟩:=hg
  obtain ⟨its,rv,p,hz⟩:=I.tuple hq
  obtain ⟨u,hu,ru⟩:=rv.get hx
  obtain ⟨f0,f1,f2,f3,f4,f5⟩:=hf it (by simp)
  refine wpAny_pyNext_tuple_item st (show s.heap.IsTuple a its.toArray from p) (x:=u) (by simpa using hu) fun h' st' sb=>?_
  have I1:Inv X pins σ H { s with heap:=h' }:=I.turned (t':=s.toks) (fun b o hb e=>(sb.2 b hb).trans e) f0 f1 f3 f4 f5
  obtain ⟨o,e,c,d⟩:=id st'
  exact ⟨u,rfl,wF (s:={ s with heap:=h' }) e c d (by decide) ⟨x,H,I1,ru,⟨rfl,fun ys hy=>by rw [I.tuple_inj hy hq]; exact hx⟩,st',fun b hb=>(hf b hb).1⟩⟩
 done:=by
  intro X hP hw hK hc i pins s σ H E I hf st hg
  subst hP hw hK
  obtain ⟨xs,hq,hx⟩:=hg
  obtain ⟨its,rv,p,hz⟩:=I.tuple hq
  obtain ⟨f0,f1,f2,f3,f4,f5⟩:=hf it (by simp)
  have hl:=rv.length
  exact wpAny_pyNext_tuple_end (I.ok.hd hc) st (show s.heap.IsTuple a its.toArray from p) (by simp; omega) fun h' eb=>⟨rfl,I.turned (t':=s.toks) (fun b o hb e=>eb b o hb e) f0 f1 f3 f4 f5⟩
 self:=fun _ _ _ _ _ st h=>wpAny_pyIter_tupleiter st h
theorem wH {P:Program} {w:World} {K:PySem.W.Frag} {tg:Expr} (it:Addr) (lo:Int) (n:Nat):mn P w K tg (Itr lo n) [it] it (fun i h=>IsRangeIter h it (lo + (i:Nat) * 1) ((n:Int) - (i:Nat)) 1) where
 mem:=by simp
 obj:=fun i h st b hb=>by
  have e:b=it:=by simpa using hb
  subst e
  exact ⟨_,st,fun v z=>by
   have z':Data.fields _=Data.cell v:=z
   cases z'⟩
 keep:=fun i h h' st k=>k it (by simp) _ st
 item:=by
  intro X hP hw hK hc i pins s σ H E I hf st hg
  subst hP hw hK
  obtain ⟨f0,f1,f2,f3,f4,f5⟩:=hf it (by simp)
  have W:=Walks.range (prog:=X.prog) (w:=X.w) (I.ok.hd hc) it lo 1 n
  refine W.item i s _ _ hg st fun v h' tk hv st' kk=>?_
  obtain ⟨t,rfl⟩:=hv
  have I1:Inv X pins σ H { s with heap:=h',toks:=tk }:=I.turned (fun b o hb e=>kk b o (by simpa using hb) e) f0 f1 f3 f4 f5
  refine ⟨_,rfl,wF (s:={ s with heap:=h',toks:=tk }) (n:="range_iterator") st' rfl rfl (by decide) ⟨.int (lo + i),H,I1,⟨t,?_⟩,⟨rfl,rfl⟩,st',fun b hb=>(hf b hb).1⟩⟩
  rw [Int.mul_one]
 done:=by
  intro X hP hw hK hc i pins s σ H E I hf st hg
  subst hP hw hK
  obtain ⟨f0,f1,f2,f3,f4,f5⟩:=hf it (by simp)
  exact wpAny_pyNext_range_end (I.ok.hd hc) st (by have:n<=i:=hg; omega) fun h' eb=>⟨rfl,I.turned (t':=s.toks) (fun b o hb e=>eb b o hb e) f0 f1 f3 f4 f5⟩
 self:=fun _ _ _ _ _ st h=>wpAny_pyIter_rangeiter st h
end L2
namespace L2
open PySem PySem.Spec PyProof.Rows
section
variable {X:Cx} {tg:Expr}
noncomputable def cO (K:PySem.W.Frag) (tl:TE):TI:=fun σ H R=>tl σ H fun x H1=>∃ a,x=.ref a/\(∃ xs,SqL K H1 a xs)/\R (Itl K a) H1
noncomputable def tM (K:PySem.W.Frag) (tl:TE):TI:=fun σ H R=>tl σ H fun x H1=>∃ a,x=.ref a/\(∃ xs,SqT K H1 a xs)/\R (Itt K a) H1
theorem bV {l:Expr} {tl:TE} (hl:PE X l tl):PI X tg l (cO X.K tl):=by
 intro pins s σ H R I h
 refine thn (hl pins s σ H _ I h) fun v s1 ⟨x,H1,I1,r1,q1⟩=>?_
 obtain ⟨a,e,⟨xs,hq⟩,q⟩:=q1
 subst e
 cases r1
 obtain ⟨its,rv,p,hz⟩:=I1.list hq
 refine wpAny_pyIter_list p.isList ?_
 refine ⟨s1.heap.objs.size,[s1.heap.objs.size],_,_,H1,rfl,I1.kept (t':=s1.toks) fun b o e=>Heap.get?_push_of_some _ e,xP a _,⟨_,Heap.get?_push_size _ rfl,rfl,rfl⟩,fun b hb=>?_,q⟩
 have e:b=s1.heap.objs.size:=by simpa using hb
 subst e
 exact I1.fpOk (Nat.le_refl _) (I1.hok.fresh (Nat.le_refl _))
theorem tN {l:Expr} {tl:TE} (hl:PE X l tl):PI X tg l (tM X.K tl):=by
 intro pins s σ H R I h
 refine thn (hl pins s σ H _ I h) fun v s1 ⟨x,H1,I1,r1,q1⟩=>?_
 obtain ⟨a,e,⟨xs,hq⟩,q⟩:=q1
 subst e
 cases r1
 obtain ⟨its,rv,p,hz⟩:=I1.tuple hq
 refine wpAny_pyIter_tuple (show s1.heap.IsTuple a its.toArray from p) ?_
 refine ⟨s1.heap.objs.size,[s1.heap.objs.size],_,_,H1,rfl,I1.kept (t':=s1.toks) fun b o e=>Heap.get?_push_of_some _ e,wG a _,⟨_,Heap.get?_push_size _ rfl,rfl,rfl⟩,fun b hb=>?_,q⟩
 have e:b=s1.heap.objs.size:=by simpa using hb
 subst e
 exact I1.fpOk (Nat.le_refl _) (I1.hok.fresh (Nat.le_refl _))
theorem zf {pins:List (Addr×Obj)} {σ:St} {H:Hp} {s:Shared} {R:It->Hp->Prop} {E:Value->Shared->Prop} {lo hi:Int} {t u v:Tok} {tk:Nat} (I:Inv X pins σ H s) (h1:-(2 ^ 62)<=lo) (h2:lo < 2 ^ 62) (h3:-(2 ^ 62)<=hi) (h4:hi < 2 ^ 62)
  (q:R (Itr lo (hi - lo).toNat) H):wpAny (model X.prog X.w) X.A (pyIter (.ref s.heap.objs.size)) (PIE X pins σ tg R) E { s with heap:=s.heap.push { cls:=.type "range",data:=.fields #[.int lo t,.int hi u,.int 1 v] },toks:=tk }:=by
 refine wpAny_pyIter_range (IsRange.new ..) (small_one h1 h2 h3 h4) ?_
 have I1:Inv X pins σ H { s with heap:=s.heap.push { cls:=.type "range",data:=.fields #[.int lo t,.int hi u,.int 1 v] },toks:=tk }:=I.kept fun b o e=>Heap.get?_push_of_some _ e
 refine ⟨(s.heap.push { cls:=.type "range",data:=.fields #[.int lo t,.int hi u,.int 1 v] }).objs.size,[(s.heap.push { cls:=.type "range",data:=.fields #[.int lo t,.int hi u,.int 1 v] }).objs.size],_,_,H,rfl,
  I1.kept (t':=tk) fun b o e=>Heap.get?_push_of_some _ e,wH _ lo (hi - lo).toNat,?_,fun b hb=>?_,q⟩
 ·have e1:lo + ((0:Nat):Int) * 1=lo:=by simp
  have e2:(((hi - lo).toNat:Nat):Int) - ((0:Nat):Int)=Builtin.Range.rangeSize lo hi 1:=by rw [rangeSize_one]; split <;> omega
  show IsRangeIter _ _ (lo + ((0:Nat):Int) * 1) ((((hi - lo).toNat:Nat):Int) - ((0:Nat):Int)) 1
  rw [e1,e2]
  exact Heap.get?_push_size _ rfl
 ·have e:b=(s.heap.push { cls:=.type "range",data:=.fields #[.int lo t,.int hi u,.int 1 v] }).objs.size:=by simpa using hb
  subst e
  exact I1.fpOk (Nat.le_refl _) (I1.hok.fresh (Nat.le_refl _))
noncomputable def gi (ta:TA):TI:=fun σ H R=>ta σ H fun vs H1=>∃ j:Int,vs=[.int j]/\-(2 ^ 62)<=j/\j < 2 ^ 62/\R (Itr 0 j.toNat) H1
noncomputable def C3 (ta:TA):TI:=fun σ H R=>ta σ H fun vs H1=>∃ i j:Int,vs=[.int i,.int j]/\(-(2 ^ 62)<=i/\i < 2 ^ 62/\-(2 ^ 62)<=j/\j < 2 ^ 62)/\R (Itr i (j - i).toNat) H1
theorem dr {a:Expr} {ta:TA} {p pos:Pos} (hg:Gl X "range") (hm:X.mg "range"=none) (ha:PA X [a] ta) (hs:starEach [a] X.env=[(false,eval a X.env)]:=by rfl):PI X tg (.Call (.Name "range" p) [a] [] pos) (gi ta):=by
 intro pins s σ H R I h
 refine Call_ (h8 I hg hm boot_range (PyProof.Rows.callWith_type1 (thn (ha pos pins s σ H _ I h) fun us s1 ⟨vs,H1,I1,r1,q1⟩=>?_) hs rfl))
 obtain ⟨j,e,q1,q2,q⟩:=q1
 subst e
 cases r1 with
 | cons r rr=>
  cases rr
  obtain ⟨t,rfl⟩:=r
  exact call_range_1 (zf I1 (by omega) (by omega) q1 q2 (by simpa using q))
noncomputable def dc (wi:TI) (g:TG) (tb:TS):TS:=fun D σ H=>wi σ H fun J H1=>∃ W:Nat->Nat->St->Hp->Prop,(∃ m,W 0 m σ H1)/\∀ i m σ H,W i m σ H->
 (J.stop i H/\D.nx σ H)\/(J.go i H/\∃ N:St->Hp->Prop,(∀ σ' H',N σ' H'->∃ m',m' < m/\W (i + 1) m' σ' H')/\∀ x H',J.yld i H x H'->g x σ H' fun σ2 H2=>tb { D with nx:=N,ct:=N,bk:=D.nx } σ2 H2)
noncomputable def mq (fp:List Addr) (h:Heap):List (Addr×Obj):=fp.filterMap fun b=>(h.get? b).map fun o=>(b,o)
theorem jy {fp:List Addr} {h:Heap} {b:Addr} {o:Obj} (hb:b∈fp) (e:h.get? b=some o):(b,o)∈mq fp h:=List.mem_filterMap.mpr ⟨b,hb,by rw [e]; rfl⟩
theorem xQ {fp:List Addr} {h:Heap} {p:Addr×Obj} (hp:p∈mq fp h):p.1∈fp/\h.get? p.1=some p.2:=by
 obtain ⟨b,hb,e⟩:=List.mem_filterMap.mp hp
 cases q:h.get? b with
 | none=>rw [q] at e; cases e
 | some o=>
  rw [q] at e
  have e':(b,o)=p:=Option.some.inj e
  subst e'
  exact ⟨hb,q⟩
theorem Inv.pinned {pins:List (Addr×Obj)} {σ:St} {H:Hp} {s:Shared} {fp:List Addr} (I:Inv X pins σ H s) (hf:∀ b∈fp,jn X pins H b) (ho:∀ b∈fp,∃ o,s.heap.get? b=some o/\∀ v,o.data≠.cell v):Inv X (pins++mq fp s.heap) σ H s:=
 I.pins_of fun p hp=>(List.mem_append.mp hp).elim (fun z=>I.pin p (List.mem_append_right _ z)) fun z=>by
  obtain ⟨hb,e⟩:=xQ z
  obtain ⟨f0,f1,f2,_⟩:=hf p.1 hb
  obtain ⟨o,e',d⟩:=ho p.1 hb
  rw [e] at e'; cases e'
  exact ⟨e,f0,f1,f2,d⟩
theorem Inv.unpinned {pins pl:List (Addr×Obj)} {σ:St} {H:Hp} {s:Shared} (I:Inv X (pins++pl) σ H s):Inv X pins σ H s:=I.pins_of fun p hp=>I.pin p (List.mem_append_right _ (List.mem_append_left _ hp))
theorem bS {iter:Expr} {body:List Stmt} {wi:TI} {g:TG} {tb:TS} {pos:Pos} (hp:PassesOwn (model X.prog X.w) X.A X.env X.xe) (hc:X.calm=true) (hi:PI X tg iter wi) (hg:PG X tg g) (hb:PSs X body tb)
  (hs:∀ x,foldedSetIterable iter X.env x=pure x:=by intro _; rfl):PS X (.For tg iter body [] pos) (dc wi g tb):=by
 intro pins s σ H D I h
 refine wpAny_For (thn (hi pins s σ H _ I h) fun v s1 h1=>thn h1 fun itv s2 h2=>?_) hs
 obtain ⟨it,fp,tn,J,H2,e,I2,T,st2,f2,W,⟨m0,w0⟩,turn⟩:=h2
 subst e
 have stat:∀ {H':Hp},(∀ b∈fp,H' b=none)->∀ b∈fp,jn X pins H' b:=fun hn b hb=>⟨hn b hb,(f2 b hb).2⟩
 refine codeAny_forLoop_any (fun n s'=>∃ i σ' H',Inv X pins σ' H' s'/\tn i s'.heap/\(∀ b∈fp,H' b=none)/\W i n σ' H') ?_ m0 ⟨0,σ,H2,I2,st2,fun b hb=>(f2 b hb).1,w0⟩
 rintro n s3 ⟨i,σ3,H3,I3,st3,fr3,w3⟩
 rcases turn i n σ3 H3 w3 with ⟨stop,qn⟩ | ⟨go,N,hN,step⟩
 ·refine wpAny_passesOwn hp (thn (T.done X rfl rfl rfl hc i pins s3 σ3 H3 X.xe I3 (stat fr3) st3 stop) fun r s4 ⟨hr,I4⟩=>?_)
  subst hr
  exact wpAny_execs_nil ⟨σ3,H3,I4,qn⟩
 ·refine wpAny_passesOwn hp (thn (T.item X rfl rfl rfl hc i pins s3 σ3 H3 X.xe I3 (stat fr3) st3 go) fun r s4 ⟨u,hr,h4⟩=>?_)
  subst hr
  refine wpAny_passesOwn hp (thn h4 fun _ s5 ⟨x,H5,I5,r5,y5,st5,fr5⟩=>?_)
  have I5':=I5.pinned (stat fr5) (T.obj _ _ st5)
  refine wpAny_passesOwn hp (thn (hg _ s5 σ3 H5 x u _ I5' r5 (step x H5 y5)) fun _ s6 ⟨σ6,H6,I6,q6⟩=>?_)
  refine wpAny_passesOwn hp (thn (hb _ s6 σ6 H6 _ I6 q6) fun f s7 q7=>?_)
  have again:∀ {σ7:St} {H7:Hp},Inv X (pins++mq fp s5.heap) σ7 H7 s7->N σ7 H7->∃ m,m < n/\∃ i σ' H',Inv X pins σ' H' s7/\tn i s7.heap/\(∀ b∈fp,H' b=none)/\W i m σ' H':=fun {σ7 H7} I7 n7=>by
   obtain ⟨m',hm,w7⟩:=hN σ7 H7 n7
   refine ⟨m',hm,i + 1,σ7,H7,I7.unpinned,T.keep _ _ _ st5 fun b hb o e=>(I7.pin (b,o) (List.mem_append_right _ (List.mem_append_right _ (jy hb e)))).1,fun b hb=>?_,w7⟩
   obtain ⟨o,e,d⟩:=T.obj _ _ st5 b hb
   exact (I7.pin (b,o) (List.mem_append_right _ (List.mem_append_right _ (jy hb e)))).2.1
  cases f with
  | next=>obtain ⟨σ7,H7,I7,n7⟩:=q7; exact again I7 n7
  | cont=>obtain ⟨σ7,H7,I7,n7⟩:=q7; exact again I7 n7
  | brk=>obtain ⟨σ7,H7,I7,q7⟩:=q7; exact ⟨σ7,H7,I7.unpinned,q7⟩
  | ret v=>obtain ⟨x7,σ7,H7,I7,r7,q7⟩:=q7; exact ⟨x7,σ7,H7,I7.unpinned,r7,q7⟩
end
theorem n9 {K:PySem.W.Frag} {a:Addr} {xs:List V} {g:TG} {tb:TS} {D:jm} {σ:St} {H:Hp} (Pv:Nat->St->Hp->Prop) (h0:Pv 0 σ H) (hl:∀ i σ H,i<=xs.length->Pv i σ H->SqL K H a xs)
  (hs:∀ i x σ H,xs[i]?=some x->Pv i σ H->g x σ H fun σ2 H2=>tb { D with nx:=Pv (i + 1),ct:=Pv (i + 1),bk:=D.nx } σ2 H2) (hd:∀ σ H,Pv xs.length σ H->D.nx σ H):
  ∃ W:Nat->Nat->St->Hp->Prop,(∃ m,W 0 m σ H)/\∀ i m σ H,W i m σ H->
   ((Itl K a).stop i H/\D.nx σ H)\/((Itl K a).go i H/\∃ N:St->Hp->Prop,(∀ σ' H',N σ' H'->∃ m',m' < m/\W (i + 1) m' σ' H')/\∀ x H',(Itl K a).yld i H x H'->g x σ H' fun σ2 H2=>tb { D with nx:=N,ct:=N,bk:=D.nx } σ2 H2):=by
 refine ⟨fun i m σ H=>m=xs.length - i/\i<=xs.length/\Pv i σ H,⟨xs.length,by simp,Nat.zero_le _,h0⟩,?_⟩
 rintro i m σ H ⟨rfl,hi,p⟩
 have q:=hl i σ H hi p
 by_cases hlt:i < xs.length
 ·refine .inr ⟨⟨xs,xs[i],q,by simp [hlt]⟩,Pv (i + 1),fun σ' H' p'=>⟨xs.length - (i + 1),by omega,rfl,hlt,p'⟩,fun x H' y=>?_⟩
  obtain ⟨e,y⟩:=y
  subst e
  exact hs i x σ _ (y xs q) p
 ·have e:i=xs.length:=by omega
  subst e
  exact .inl ⟨⟨xs,q,Nat.le_refl _⟩,hd σ H p⟩
theorem AN {K:PySem.W.Frag} {a:Addr} {xs:List V} {g:TG} {tb:TS} {D:jm} {σ:St} {H:Hp} (Pv:Nat->St->Hp->Prop) (h0:Pv 0 σ H) (hl:∀ i σ H,i<=xs.length->Pv i σ H->SqT K H a xs)
  (hs:∀ i x σ H,xs[i]?=some x->Pv i σ H->g x σ H fun σ2 H2=>tb { D with nx:=Pv (i + 1),ct:=Pv (i + 1),bk:=D.nx } σ2 H2) (hd:∀ σ H,Pv xs.length σ H->D.nx σ H):
  ∃ W:Nat->Nat->St->Hp->Prop,(∃ m,W 0 m σ H)/\∀ i m σ H,W i m σ H->
   ((Itt K a).stop i H/\D.nx σ H)\/((Itt K a).go i H/\∃ N:St->Hp->Prop,(∀ σ' H',N σ' H'->∃ m',m' < m/\W (i + 1) m' σ' H')/\∀ x H',(Itt K a).yld i H x H'->g x σ H' fun σ2 H2=>tb { D with nx:=N,ct:=N,bk:=D.nx } σ2 H2):=by
 refine ⟨fun i m σ H=>m=xs.length - i/\i<=xs.length/\Pv i σ H,⟨xs.length,by simp,Nat.zero_le _,h0⟩,?_⟩
 rintro i m σ H ⟨rfl,hi,p⟩
 have q:=hl i σ H hi p
 by_cases hlt:i < xs.length
 ·refine .inr ⟨⟨xs,xs[i],q,by simp [hlt]⟩,Pv (i + 1),fun σ' H' p'=>⟨xs.length - (i + 1),by omega,rfl,hlt,p'⟩,fun x H' y=>?_⟩
  obtain ⟨e,y⟩:=y
  subst e
  exact hs i x σ _ (y xs q) p
 ·have e:i=xs.length:=by omega
  subst e
  exact .inl ⟨⟨xs,q,Nat.le_refl _⟩,hd σ H p⟩
theorem mr {lo:Int} {n:Nat} {g:TG} {tb:TS} {D:jm} {σ:St} {H:Hp} (Pv:Nat->St->Hp->Prop) (h0:Pv 0 σ H)
  (hs:∀ i σ H,i < n->Pv i σ H->g (.int (lo + i)) σ H fun σ2 H2=>tb { D with nx:=Pv (i + 1),ct:=Pv (i + 1),bk:=D.nx } σ2 H2) (hd:∀ σ H,Pv n σ H->D.nx σ H):
  ∃ W:Nat->Nat->St->Hp->Prop,(∃ m,W 0 m σ H)/\∀ i m σ H,W i m σ H->
   ((Itr lo n).stop i H/\D.nx σ H)\/((Itr lo n).go i H/\∃ N:St->Hp->Prop,(∀ σ' H',N σ' H'->∃ m',m' < m/\W (i + 1) m' σ' H')/\∀ x H',(Itr lo n).yld i H x H'->g x σ H' fun σ2 H2=>tb { D with nx:=N,ct:=N,bk:=D.nx } σ2 H2):=by
 refine ⟨fun i m σ H=>m=n - i/\i<=n/\Pv i σ H,⟨n,by simp,Nat.zero_le _,h0⟩,?_⟩
 rintro i m σ H ⟨rfl,hi,p⟩
 by_cases hlt:i < n
 ·refine .inr ⟨hlt,Pv (i + 1),fun σ' H' p'=>⟨n - (i + 1),by omega,rfl,hlt,p'⟩,fun x H' y=>?_⟩
  obtain ⟨e,y⟩:=y
  subst e y
  exact hs i σ _ hlt p
 ·have e:i=n:=by omega
  subst e
  exact .inl ⟨Nat.le_refl _,hd σ H p⟩
end L2
namespace L2
open PySem PySem.Spec PyProof.Rows
noncomputable abbrev R2:=V->V->Hp->VK->Prop
noncomputable def OpR (X:Cx) (f:Value->Value->Sem Value) (r:R2):Prop:=
 ∀ (pins:List (Addr×Obj)) (s:Shared) (σ:St) (H:Hp) (x y:V) (v u:Value) (Q:VK),Inv X pins σ H s->aM x v->aM y u->r x y H Q->
  wpAny (model X.prog X.w) X.A (f v u) (EP X pins σ Q) X.xe s
noncomputable def UnR (X:Cx) (f:Value->Sem Value) (r:V->Hp->VK->Prop):Prop:=
 ∀ (pins:List (Addr×Obj)) (s:Shared) (σ:St) (H:Hp) (x:V) (v:Value) (Q:VK),Inv X pins σ H s->aM x v->r x H Q->
  wpAny (model X.prog X.w) X.A (f v) (EP X pins σ Q) X.xe s
noncomputable def ee (X:Cx) (f:Value) (r:List V->Hp->VK->Prop):Prop:=
 ∀ (pins:List (Addr×Obj)) (s:Shared) (σ:St) (H:Hp) (xs:List V) (us:List Value) (Q:VK),Inv X pins σ H s->aE xs us->r xs H Q->
  wpAny (model X.prog X.w) X.A (call f us) (EP X pins σ Q) X.xe s
noncomputable def tOp (r:R2) (ta tb:TE):TE:=fun σ H Q=>ta σ H fun x H1=>tb σ H1 fun y H2=>r x y H2 Q
noncomputable def tUn (r:V->Hp->VK->Prop) (ta:TE):TE:=fun σ H Q=>ta σ H fun x H1=>r x H1 Q
noncomputable def rI (C:Int->Int->Prop) (g:Int->Int->V):R2:=fun x y H Q=>∃ i j,x=.int i/\y=.int j/\C i j/\Q (g i j) H
noncomputable def rI0 (g:Int->Int->V):R2:=fun x y H Q=>∃ i j,x=.int i/\y=.int j/\Q (g i j) H
noncomputable def rU (g:Int->V):V->Hp->VK->Prop:=fun x H Q=>∃ i,x=.int i/\Q (g i) H
section
variable {X:Cx} {a b c:Expr} {ta tb tc:TE} {pos:Pos}
theorem zg (ha:PE X a ta) (hb:PE X b tb) {pins:List (Addr×Obj)} {s:Shared} {σ:St} {H:Hp} {R:V->V->Hp->Prop} (I:Inv X pins σ H s)
  (h:ta σ H fun x H1=>tb σ H1 fun y H2=>R x y H2) {Q:Value->Shared->Prop} {f:Value->Value->Sem Value}
  (hf:∀ v u s2 x y H2,Inv X pins σ H2 s2->aM x v->aM y u->R x y H2->wpAny (model X.prog X.w) X.A (f v u) Q X.xe s2):
  wpAny (model X.prog X.w) X.A (eval a X.env) (fun v s₁=>wpAny (model X.prog X.w) X.A (eval b X.env) (fun u s₂=>wpAny (model X.prog X.w) X.A (f v u) Q X.xe s₂) X.xe s₁) X.xe s:=by
 refine thn (ha pins s σ H _ I h) fun v s1 ⟨x,H1,I1,r1,q1⟩=>?_
 refine thn (hb pins s1 σ H1 _ I1 q1) fun u s2 ⟨y,H2,I2,r2,q2⟩=>?_
 exact hf v u s2 x y H2 I2 r1 r2 q2
theorem ar {op:Operator} {r:R2} (ho:OpR X (binaryOp op) r) (ha:PE X a ta) (hb:PE X b tb):PE X (.BinOp a op b pos) (tOp r ta tb):=by
 intro pins s σ H Q I h
 exact wpAny_BinOp (zg ha hb I h fun v u s2 x y H2 I2 rx ry q=>ho pins s2 σ H2 x y v u Q I2 rx ry q)
theorem Av {op:UnaryOp} {r:V->Hp->VK->Prop} (ho:UnR X (unaryOp op) r) (ha:PE X a ta):PE X (.UnaryOp op a pos) (tUn r ta):=by
 intro pins s σ H Q I h
 exact UnaryOp_ (thn (ha pins s σ H _ I h) fun v s1 ⟨x,H1,I1,r1,q1⟩=>ho pins s1 σ H1 x v Q I1 r1 q1)
theorem opI {f:Value->Value->Sem Value} {C:Int->Int->Prop} {g:Int->Int->Int}
  (rule:∀ (i j:Int) (t u:Tok) (s:Shared) (Q:Value->Shared->Prop) (E:Value->Shared->Prop),C i j->Q (.int (g i j) s.toks) { s with toks:=s.toks + 1 }->wpAny (model X.prog X.w) X.A (f (.int i t) (.int j u)) Q E s):
  OpR X f (rI C fun i j=>.int (g i j)):=by
 intro pins s σ H x y v u Q I rx ry h
 obtain ⟨i,j,rfl,rfl,hc,q⟩:=h
 obtain ⟨t,rfl⟩:=rx
 obtain ⟨t',rfl⟩:=ry
 exact rule i j t t' s _ _ hc ⟨.int (g i j),H,I.tok _,⟨_,rfl⟩,q⟩
theorem BJ {f:Value->Value->Sem Value} {g:Int->Int->Int}
  (rule:∀ (i j:Int) (t u:Tok) (s:Shared) (Q:Value->Shared->Prop) (E:Value->Shared->Prop),Q (.int (g i j) s.toks) { s with toks:=s.toks + 1 }->wpAny (model X.prog X.w) X.A (f (.int i t) (.int j u)) Q E s):
  OpR X f (rI0 fun i j=>.int (g i j)):=by
 intro pins s σ H x y v u Q I rx ry h
 obtain ⟨i,j,rfl,rfl,q⟩:=h
 obtain ⟨t,rfl⟩:=rx
 obtain ⟨t',rfl⟩:=ry
 exact rule i j t t' s _ _ ⟨.int (g i j),H,I.tok _,⟨_,rfl⟩,q⟩
theorem zh {f:Value->Value->Sem Value} {g:Int->Int->Bool}
  (rule:∀ (i j:Int) (t u:Tok) (s:Shared) (Q:Value->Shared->Prop) (E:Value->Shared->Prop),Q (.bool (g i j)) s->wpAny (model X.prog X.w) X.A (f (.int i t) (.int j u)) Q E s):
  OpR X f (rI0 fun i j=>.bl (g i j)):=by
 intro pins s σ H x y v u Q I rx ry h
 obtain ⟨i,j,rfl,rfl,q⟩:=h
 obtain ⟨t,rfl⟩:=rx
 obtain ⟨t',rfl⟩:=ry
 exact rule i j t t' s _ _ ⟨.bl (g i j),H,I,rfl,q⟩
noncomputable def fW (i j:Int):Prop:=0 < j/\j < 1073741824
noncomputable def BK (i j:Int):Prop:=0<=j/\j<=1000000/\i.natAbs < 2 ^ 64
theorem bL:OpR X (binaryOp .Add) (rI0 fun i j=>.int (i + j)):=BJ fun _ _ _ _ _ _ _ q=>add_int q
theorem jh:OpR X (binaryOp .Sub) (rI0 fun i j=>.int (i - j)):=BJ fun _ _ _ _ _ _ _ q=>sub_int q
theorem cU:OpR X (binaryOp .FloorDiv) (rI fW fun i j=>.int (i / j)):=opI fun i j _ _ _ _ _ hc q=>by
 have h1:(0:Int) < j:=hc.1
 have h2:j < 1073741824:=hc.2
 exact floordiv_int (by omega) (by rw [Int.fdiv_eq_ediv_of_nonneg i (by omega)]; exact q) (.inl (PyProof.noPylong_small (by omega)))
theorem bA:OpR X (binaryOp .Mod) (rI (fun _ j=>0 < j) fun i j=>.int (i % j)):=opI fun i j _ _ _ _ _ hc q=>by
 have h1:(0:Int) < j:=hc
 exact mod_int' (by omega) (by rw [Int.fmod_eq_emod_of_nonneg i (by omega)]; exact q)
theorem BL:OpR X (binaryOp .Pow) (rI BK fun i j=>.int (i ^ j.toNat)):=opI fun _ _ _ _ _ _ _ hc q=>pow_int_small hc.1 hc.2.1 hc.2.2 q
theorem unI {f:Value->Sem Value} {g:Int->Int}
  (rule:∀ (i:Int) (t:Tok) (s:Shared) (Q:Value->Shared->Prop) (E:Value->Shared->Prop),Q (.int (g i) s.toks) { s with toks:=s.toks + 1 }->wpAny (model X.prog X.w) X.A (f (.int i t)) Q E s):
  UnR X f (rU fun i=>.int (g i)):=by
 intro pins s σ H x v Q I rx h
 obtain ⟨i,rfl,q⟩:=h
 obtain ⟨t,rfl⟩:=rx
 exact rule i t s _ _ ⟨.int (g i),H,I.tok _,⟨_,rfl⟩,q⟩
theorem xR:UnR X (unaryOp .USub) (rU fun i=>.int (-i)):=unI fun _ _ _ _ _ q=>neg_int q
end
noncomputable def BN:V->V->Bool
 | .non,.non=>true | .non,.int _=>true | .int _,.non=>true | .non,.bl _=>true | .bl _,.non=>true | .non,.str _=>true | .str _,.non=>true
 | .int _,.int _=>true | .bl _,.bl _=>true | .str _,.str _=>true | .byt _,.byt _=>true
 | .int _,.str _=>true | .str _,.int _=>true | .bl _,.str _=>true | .str _,.bl _=>true
 | _,_=>false
noncomputable def rEq:R2:=fun x y H Q=>BN x y=true/\Q (.bl (decide (x=y))) H
noncomputable def rNe:R2:=fun x y H Q=>BN x y=true/\Q (.bl (!decide (x=y))) H
theorem v3 {i j:Int}:decide (V.int i=V.int j)=(i == j):=by
 rw [Bool.eq_iff_iff]
 simp
theorem xS {i j:Bool}:decide (V.bl i=V.bl j)=(i == j):=by
 rw [Bool.eq_iff_iff]
 simp
theorem v4 {i j:Str}:decide (V.str i=V.str j)=(i == j):=by
 rw [Bool.eq_iff_iff]
 simp
theorem wa {i j:Array UInt8}:decide (V.byt i=V.byt j)=(i.toList == j.toList):=by
 rw [Bool.eq_iff_iff]
 cases i
 cases j
 simp
section
variable {X:Cx} {a b c:Expr} {ta tb tc:TE} {pos:Pos}
theorem bB {pins:List (Addr×Obj)} {σ:St} {H:Hp} {s:Shared} {Q:VK} {k k':Bool} (I:Inv X pins σ H s) (q:Q (.bl k) H) (e:k=k'):EP X pins σ Q (.bool k') s:=by
 subst e
 exact ⟨.bl k,H,I,rfl,q⟩
theorem eI:OpR X (compareOp .Eq) rEq:=by
 intro pins s σ H x y v u Q I rx ry h
 obtain ⟨hs,q⟩:=h
 cases x with
 | non=>
  cases rx
  cases y with
  | non=>cases ry; exact PySem.EqNone.eq_none_none (bB I q (by simp))
  | bl j=>cases ry; exact PySem.EqNone.eq_none_bool (bB I q (by simp))
  | int j=>obtain ⟨t',rfl⟩:=ry; exact PySem.EqNone.eq_none_int (bB I q (by simp))
  | str j=>obtain ⟨t',rfl⟩:=ry; exact PySem.EqNone.eq_none_str (bB I q (by simp))
  | _=>exact absurd (show false=true from hs) Bool.false_ne_true
 | bl i=>
  cases rx
  cases y with
  | non=>cases ry; exact PySem.EqNone.eq_bool_none (bB I q (by simp))
  | bl j=>cases ry; exact eq_bool (bB I q xS)
  | str j=>obtain ⟨t',rfl⟩:=ry; exact PySem.EqMixed.eq_bool_str (bB I q (by simp))
  | _=>exact absurd (show false=true from hs) Bool.false_ne_true
 | int i=>
  obtain ⟨t,rfl⟩:=rx
  cases y with
  | non=>cases ry; exact PySem.EqNone.eq_int_none (bB I q (by simp))
  | int j=>obtain ⟨t',rfl⟩:=ry; exact eq_int (bB I q v3)
  | str j=>obtain ⟨t',rfl⟩:=ry; exact PySem.EqMixed.eq_int_str (bB I q (by simp))
  | _=>exact absurd (show false=true from hs) Bool.false_ne_true
 | str i=>
  obtain ⟨t,rfl⟩:=rx
  cases y with
  | non=>cases ry; exact PySem.EqNone.eq_str_none (bB I q (by simp))
  | bl j=>cases ry; exact PySem.EqMixed.eq_str_bool (bB I q (by simp))
  | int j=>obtain ⟨t',rfl⟩:=ry; exact PySem.EqMixed.eq_str_int (bB I q (by simp))
  | str j=>obtain ⟨t',rfl⟩:=ry; exact eq_str (bB I q v4)
  | _=>exact absurd (show false=true from hs) Bool.false_ne_true
 | byt i=>
  obtain ⟨t,rfl⟩:=rx
  cases y with
  | byt j=>obtain ⟨t',rfl⟩:=ry; exact PySem.W.eq_bytes (bB I q wa)
  | _=>exact absurd (show false=true from hs) Bool.false_ne_true
 | _=>cases y <;> exact absurd (show false=true from hs) Bool.false_ne_true
theorem wI:OpR X (compareOp .NotEq) rNe:=by
 intro pins s σ H x y v u Q I rx ry h
 obtain ⟨hs,q⟩:=h
 cases x with
 | non=>
  cases rx
  cases y with
  | non=>cases ry; exact PySem.EqNone.ne_none_none (bB I q (by simp))
  | bl j=>cases ry; exact PySem.EqNone.ne_none_bool (bB I q (by simp))
  | int j=>obtain ⟨t',rfl⟩:=ry; exact PySem.EqNone.ne_none_int (bB I q (by simp))
  | str j=>obtain ⟨t',rfl⟩:=ry; exact PySem.EqNone.ne_none_str (bB I q (by simp))
  | _=>exact absurd (show false=true from hs) Bool.false_ne_true
 | bl i=>
  cases rx
  cases y with
  | non=>cases ry; exact PySem.EqNone.ne_bool_none (bB I q (by simp))
  | bl j=>cases ry; exact ne_bool (bB I q (congrArg not xS))
  | str j=>obtain ⟨t',rfl⟩:=ry; exact PySem.EqMixed.ne_bool_str (bB I q (by simp))
  | _=>exact absurd (show false=true from hs) Bool.false_ne_true
 | int i=>
  obtain ⟨t,rfl⟩:=rx
  cases y with
  | non=>cases ry; exact PySem.EqNone.ne_int_none (bB I q (by simp))
  | int j=>obtain ⟨t',rfl⟩:=ry; exact ne_int (bB I q (congrArg not v3))
  | str j=>obtain ⟨t',rfl⟩:=ry; exact PySem.EqMixed.ne_int_str (bB I q (by simp))
  | _=>exact absurd (show false=true from hs) Bool.false_ne_true
 | str i=>
  obtain ⟨t,rfl⟩:=rx
  cases y with
  | non=>cases ry; exact PySem.EqNone.ne_str_none (bB I q (by simp))
  | bl j=>cases ry; exact PySem.EqMixed.ne_str_bool (bB I q (by simp))
  | int j=>obtain ⟨t',rfl⟩:=ry; exact PySem.EqMixed.ne_str_int (bB I q (by simp))
  | str j=>obtain ⟨t',rfl⟩:=ry; exact ne_str (bB I q (congrArg not v4))
  | _=>exact absurd (show false=true from hs) Bool.false_ne_true
 | byt i=>
  obtain ⟨t,rfl⟩:=rx
  cases y with
  | byt j=>obtain ⟨t',rfl⟩:=ry; exact PySem.W.ne_bytes (bB I q (congrArg not wa))
  | _=>exact absurd (show false=true from hs) Bool.false_ne_true
 | _=>cases y <;> exact absurd (show false=true from hs) Bool.false_ne_true
theorem Aw:OpR X (compareOp .Lt) (rI0 fun i j=>.bl (decide (i < j))):=zh fun _ _ _ _ _ _ _ q=>lt_int q
theorem sX:OpR X (compareOp .LtE) (rI0 fun i j=>.bl (decide (i<=j))):=zh fun _ _ _ _ _ _ _ q=>le_int q
theorem jz:OpR X (compareOp .Gt) (rI0 fun i j=>.bl (decide (j < i))):=zh fun _ _ _ _ _ _ _ q=>gt_int q
theorem aW (b:Expr) {op:CmpOp} (h:op≠.In:=by decide) (h2:op≠.NotIn:=by decide):behindInMarks op b=false:=by
 have e1:(op == CmpOp.In)=false:=by cases op <;> first | rfl | exact absurd rfl h
 have e2:(op == CmpOp.NotIn)=false:=by cases op <;> first | rfl | exact absurd rfl h2
 cases b <;> simp [behindInMarks,e1,e2]
theorem ek {op:CmpOp} {r:R2} (ho:OpR X (compareOp op) r) (ha:PE X a ta) (hb:PE X b tb) (hm:behindInMarks op b=false):PE X (.Compare a [op] [b] pos) (tOp r ta tb):=by
 intro pins s σ H Q I h
 exact wpAny_Compare1 (zg ha hb I h fun v u s2 x y H2 I2 rx ry q=>ho pins s2 σ H2 x y v u Q I2 rx ry q) hm
noncomputable def bn (t:TE):TT:=fun σ H Q=>t σ H fun x H'=>∃ k,x=.bl k/\Q k H'
theorem aU {op:CmpOp} {r:R2} (ho:OpR X (compareOp op) r) (ha:PE X a ta) (hb:PE X b tb) (hm:behindInMarks op b=false):PT X (.Compare a [op] [b] pos) (bn (tOp r ta tb)):=by
 intro pins s σ H Q I h
 refine wpAny_isTrue_Compare1 (thn (ha pins s σ H _ I h) fun v s1 ⟨x,H1,I1,r1,q1⟩=>thn (hb pins s1 σ H1 _ I1 q1) fun u s2 ⟨y,H2,I2,r2,q2⟩=>
  thn (ho pins s2 σ H2 x y v u _ I2 r1 r2 q2) fun c s3 ⟨z,H3,I3,r3,k,e,q3⟩=>?_) hm
 subst e
 cases r3
 exact wpAny_truthy_bool ⟨H3,I3,q3⟩
noncomputable def tO (r r':R2) (ta tb tc:TE):TE:=fun σ H Q=>ta σ H fun x H1=>tb σ H1 fun y H2=>r x y H2 fun z H3=>∃ k,z=.bl k/\
 (if k=true then tc σ H3 fun w' H4=>r' y w' H4 Q else Q (.bl false) H3)
theorem zi {op op':CmpOp} {r r':R2} (ho:OpR X (compareOp op) r) (ho':OpR X (compareOp op') r') (ha:PE X a ta) (hb:PE X b tb) (hc:PE X c tc)
  (hm:lastMarks [op,op'] [b,c]=false:=by with_unfolding_all rfl):PE X (.Compare a [op,op'] [b,c] pos) (tO r r' ta tb tc):=by
 intro pins s σ H Q I h
 refine Compare_chain (thn (ha pins s σ H _ I h) fun v s1 ⟨x,H1,I1,r1,q1⟩=>chain_link (thn (hb pins s1 σ H1 _ I1 q1) fun u s2 ⟨y,H2,I2,r2,q2⟩=>
  thn (ho pins s2 σ H2 x y v u _ I2 r1 r2 q2) fun d s3 ⟨z,H3,I3,r3,k,e,q3⟩=>?_)) hm
 subst e
 cases r3
 refine wpAny_truthy_bool ?_
 cases k with
 | false=>exact ite_ff ⟨.bl false,H3,I3,rfl,q3⟩
 | true=>exact ite_tt (chain_last (thn (hc pins s3 σ H3 _ I3 q3) fun w' s4 ⟨z',H4,I4,r4,q4⟩=>ho' pins s4 σ H4 y z' u w' Q I4 r2 r4 q4))
theorem mt:(sizeLine:Nat) < 2 ^ 63:=by rw [sizeLine_eq]; decide
theorem ln {x:V} {us:List Value} (r:aE [x] us):∃ u,us=[u]/\aM x u:=by
 cases r with
 | cons r1 r2=>cases r2; exact ⟨_,rfl,r1⟩
theorem Ax {x y:V} {us:List Value} (r:aE [x,y] us):∃ u w',us=[u,w']/\aM x u/\aM y w':=by
 cases r with
 | cons r1 r2=>
  cases r2 with
  | cons r3 r4=>cases r4; exact ⟨_,_,rfl,r1,r3⟩
theorem xT (hc:X.calm=true):ee X (.builtin "max") (fun xs H Q=>∃ i j,xs=[.int i,.int j]/\Q (.int (if j > i then j else i)) H):=by
 intro pins s σ H xs us Q I r h
 obtain ⟨i,j,rfl,q⟩:=h
 obtain ⟨u,w',rfl,⟨t,rfl⟩,⟨t',rfl⟩⟩:=Ax r
 refine max_two_ints (I.ok.hd hc) fun h' tk k=>⟨_,H,I.kept k,?_,q⟩
 by_cases hj:j > i
 ·rw [if_pos hj,if_pos hj]; exact ⟨_,rfl⟩
 ·rw [if_neg hj,if_neg hj]; exact ⟨_,rfl⟩
theorem rl (hc:X.calm=true):ee X (.builtin "min") (fun xs H Q=>∃ i j,xs=[.int i,.int j]/\Q (.int (if j < i then j else i)) H):=by
 intro pins s σ H xs us Q I r h
 obtain ⟨i,j,rfl,q⟩:=h
 obtain ⟨u,w',rfl,⟨t,rfl⟩,⟨t',rfl⟩⟩:=Ax r
 refine min_two_ints (I.ok.hd hc) fun h' tk k=>⟨_,H,I.kept k,?_,q⟩
 by_cases hj:j < i
 ·rw [if_pos hj,if_pos hj]; exact ⟨_,rfl⟩
 ·rw [if_neg hj,if_neg hj]; exact ⟨_,rfl⟩
theorem xU:ee X (.type "int") (fun xs H Q=>(∃ i,xs=[.int i]/\Q (.int i) H)\/∃ k,xs=[.bl k]/\Q (.int (if k then 1 else 0)) H):=by
 intro pins s σ H xs us Q I r h
 rcases h with ⟨i,rfl,q⟩ | ⟨k,rfl,q⟩
 ·obtain ⟨u,rfl,t,rfl⟩:=ln r
  exact call_int_int ⟨.int i,H,I,⟨_,rfl⟩,q⟩
 ·obtain ⟨u,rfl,r1⟩:=ln r
  cases r1
  exact call_int_bool ⟨.int (if k then 1 else 0),H,I.tok _,⟨_,rfl⟩,q⟩
end
end L2
namespace L2
open PySem PySem.Spec PyProof.Rows
structure zj (h:Heap) (x dx C:Addr) (mA:Str->Option Value):Prop where
 obj:h.get? x=some (PySem.W.instObj C dx)
 ns:h.Ns1 dx mA
 ne:dx≠x
theorem xV {h:Heap} {dx:Addr} {mA:Str->Option Value} (n:h.Ns1 dx mA):∃ od,h.get? dx=some od/\∀ name,PySem.W.lookIn name od=some (mA name):=by
 obtain ⟨o,es,ep,ho,hd,hk,_,hm⟩:=n
 refine ⟨o,ho,fun name=>?_⟩
 have e:=hm name
 unfold nsFind findBy at e
 rw [<-Array.find?_toList] at e
 unfold PySem.W.lookIn
 rw [hd]
 dsimp only
 split
 ·rename_i y q
  rw [q] at e
  exact congrArg some e
 ·rename_i q
  rw [q] at e
  have a:es.toList.any (·.refKey)=false:=by
   rw [List.any_eq_false]
   intro y hy
   obtain ⟨z,t,hkey⟩:=hk y (Array.mem_toList_iff.mp hy)
   simp [DictEntry.refKey,hkey]
  have a':¬ es.toList.any (·.refKey)=true:=by rw [a]; exact Bool.false_ne_true
  rw [if_neg a']
  exact congrArg some e
theorem zj.look {h:Heap} {x dx C:Addr} {mA:Str->Option Value} (I:zj h x dx C mA):∃ od,PySem.W.InstAt h x (PySem.W.instObj C dx) C (some od)/\∀ name,PySem.W.lookIn name od=some (mA name):=
 let ⟨od,ho,hl⟩:=xV I.ns
 ⟨od,⟨I.obj,rfl,rfl,ho⟩,hl⟩
section
variable {prog:Program} {w:World} {A:Around} {E:Value->Shared->Prop} {s:Shared} {K:PySem.W.Frag} {x dx C f:Addr} {mA:Str->Option Value} {name:Str} {v:Value}
end
theorem jJ.some_of {v:V} {o:Option Value} (r:jJ (some v) o):∃ u,o=some u/\aM v u:=by
 cases o with
 | none=>exact (show False from r).elim
 | some u=>exact ⟨u,rfl,r⟩
section
variable {P:Program} {w:World} {H H':Hp} {h h':Heap} {a C dx:Addr} {fs fs':List (Str×V)}
theorem AO (hok:HOk P w H h) (e:H a=some (.ins C dx fs)):∃ mA,zj h a dx C mA/\(∀ f,jJ (fs.lookup f) (mA f))/\PySem.Within mA (fs.map (·.1))/\fs.length<=1000/\H dx=some (.own a):=by
 obtain ⟨d,z,ne,ob,mA,n,r,q⟩:=(show bZ P w H h a (.ins C dx fs) from hok a _ e)
 exact ⟨mA,⟨ob,n,ne⟩,r,q,z,d⟩
end
structure Cls (K:PySem.W.Frag) (C:Addr):Prop where
 pg:PySem.W.plainGet K C Str.empty=true
 hd:PySem.W.hasDictIn K C=true
 po:PySem.W.plainOver K C=true
 sa:PySem.W.findIn K (.ref C) "__setattr__"=some (some (.builtin "object.__setattr__"))
theorem Cls.get {K:PySem.W.Frag} {C:Addr} (c:Cls K C) (f:Str):PySem.W.plainGet K C f=true:=c.pg
structure Con (K:PySem.W.Frag) (C:Addr) (f:Str) (v:V) (u:Value):Prop where
 at_:PySem.W.findIn K (.ref C) f=some (some u)
 rel:aM v u
 get:PySem.W.specialIn K u "__get__"=some none
 cp:PySem.W.copiedNames.contains f=false
structure DY (K:PySem.W.Frag) (C:Addr) (m:Str) (f:Addr):Prop where
 at_:PySem.W.findIn K (.ref C) m=some (some (.ref f))
 fn:PySem.W.isFn K (.ref f)=true
 kp:PySem.W.keepIn K (.ref f)=true
section
variable {X:Cx} {pins:List (Addr×Obj)} {σ:St} {H:Hp} {s:Shared} {a C dx:Addr} {fs:List (Str×V)} {f:Str} {v:V} {A:Around} {E:Value->Shared->Prop}
end
section
variable {X:Cx} {o e value:Expr} {f:Str} {pos pos' tpos:Pos} {ta tv:TE}
end
section
variable {X:Cx} {pins:List (Addr×Obj)} {σ:St} {H:Hp} {s:Shared} {A:Around} {E:Value->Shared->Prop} {Q:Value->Shared->Prop} {c:Value} {b:Bool}
inductive fq (K:PySem.W.Frag) (H:Hp):V->Value->Prop where
 | non:fq K H .non (.type "NoneType")
 | bl (x:Bool):fq K H (.bl x) (.type "bool")
 | int (i:Int):fq K H (.int i) (.type "int")
 | str (x:Str):fq K H (.str x) (.type "str")
 | flt (x:UInt64):fq K H (.flt x) (.type "float")
 | lst {a:Addr} {xs:List V} (e:H a=some (.lst xs)):fq K H (.ref a) (.type "list")
 | frz {a:Addr} {o:Obj} {xs:List V} (e:H a=some (.frz o (.lst xs))):fq K H (.ref a) (.type "list")
 | tup {a:Addr} {xs:List V} (e:H a=some (.tup xs)):fq K H (.ref a) (.type "tuple")
 | dK {a:Addr} {kvs:List (Key×V)} (e:H a=some (.dK kvs)):fq K H (.ref a) (.type "dict")
 | dT {a:Addr} {kvs:List (List Key×V)} (e:H a=some (.dT kvs)):fq K H (.ref a) (.type "dict")
 | ins {a C dx:Addr} {fs:List (Str×V)} (e:H a=some (.ins C dx fs)) (cl:Cls K C) (ha:PySem.W.findIn K (.ref C) "__class__"=some (some (.builtin "object.__class__")))
   (hn:PySem.W.specialIn K (.builtin "object.__class__") "__get__"=some (some (.builtin "getset_descriptor.__get__"))) (htk:PySem.W.takesIn K (.builtin "object.__class__")=some true)
   (hm:PySem.W.mroIn K C (.type "object")=some true):fq K H (.ref a) (.ref C)
theorem xW {x:V} {u t:Value} (I:Inv X pins σ H s) (rx:aM x u) (ty:fq X.K H x t) (e:PySem.W.kitOne X.K t c=some b) (h:∀ tk,Q (.bool b) { s with toks:=tk }):
  wpAny (model X.prog X.w) A (call (.builtin "isinstance") [u,c]) Q E s:=by
 cases ty with
 | non=>cases (show u=Value.none from rx); exact PySem.W.kia_one PySem.W.kitx_none I.kIn True.intro e (fun z=>nomatch z) h
 | bl y=>cases (show u=Value.bool y from rx); exact PySem.W.kia_one PySem.W.kitx_bool I.kIn True.intro e (fun z=>nomatch z) h
 | int i=>obtain ⟨t,q⟩:=(show ∃ t,u=Value.int i t from rx); cases q; exact PySem.W.kia_one PySem.W.kitx_int I.kIn True.intro e (fun z=>nomatch z) h
 | str y=>obtain ⟨t,q⟩:=(show ∃ t,u=Value.str y t from rx); cases q; exact PySem.W.kia_one PySem.W.kitx_str I.kIn True.intro e (fun z=>nomatch z) h
 | flt y=>obtain ⟨t,q⟩:=(show ∃ t,u=Value.float y t from rx); cases q; exact PySem.W.kia_one PySem.W.kitx_float I.kIn True.intro e (fun z=>nomatch z) h
 | @lst a xs ea=>
  cases (show u=Value.ref a from rx)
  obtain ⟨_,_,n,_,h1⟩:=(show bZ X.prog X.w H s.heap a (.lst xs) from I.hok a _ ea)
  exact PySem.W.kia_one PySem.W.kitx_list I.kIn ⟨_,h1,rfl⟩ e (fun z=>nomatch z) h
 | @frz a ob xs ea=>
  cases (show u=Value.ref a from rx)
  obtain ⟨_,_,_,n,_,h1⟩:=(show bZ X.prog X.w H s.heap a (.frz ob (.lst xs)) from I.hok a _ ea)
  exact PySem.W.kia_one PySem.W.kitx_list I.kIn ⟨_,h1,rfl⟩ e (fun z=>nomatch z) h
 | @tup a xs ea=>
  cases (show u=Value.ref a from rx)
  obtain ⟨_,_,_,p⟩:=(show bZ X.prog X.w H s.heap a (.tup xs) from I.hok a _ ea)
  obtain ⟨o,h1,h2,_⟩:=p
  exact PySem.W.kia_one PySem.W.kitx_tuple I.kIn ⟨o,h1,h2⟩ e (fun z=>nomatch z) h
 | @dK a kvs ea=>
  cases (show u=Value.ref a from rx)
  obtain ⟨_,_,vs,_,p⟩:=(show bZ X.prog X.w H s.heap a (.dK kvs) from I.hok a _ ea)
  obtain ⟨o,es,ep,h1,h2,_⟩:=p
  exact PySem.W.kia_one PySem.W.kitx_dict I.kIn ⟨o,h1,h2.1⟩ e (fun z=>nomatch z) h
 | @dT a kvs ea=>
  cases (show u=Value.ref a from rx)
  obtain ⟨_,_,xs,_,o,es,ep,h1,h2,_⟩:=(show bZ X.prog X.w H s.heap a (.dT kvs) from I.hok a _ ea)
  exact PySem.W.kia_one PySem.W.kitx_dict I.kIn ⟨o,h1,h2.1⟩ e (fun z=>nomatch z) h
 | @ins a C dx fs ea cl ha hn htk hm=>
  cases (show u=Value.ref a from rx)
  obtain ⟨mA,O,_⟩:=AO I.hok ea
  obtain ⟨od,J,_⟩:=O.look
  exact PySem.W.kia_one (PySem.W.kitx_own (cl.get _) cl.hd ha hn htk hm) I.kIn J e (fun z=>nomatch z) h
end
end L2
namespace L2
open PySem PySem.Spec PyProof.Rows
structure dG (k:Nat) (A:Around):Prop where
 hd:A.handled=none
 dp:A.depth + 3 * k + 5 < recursionLimit
 un:A.units + 16 * k + 200 < cLine
theorem dG.mono {j k:Nat} {A:Around} (r:dG k A) (h:j<=k):dG j A:=⟨r.hd,by have:=r.dp; omega,by have:=r.un; omega⟩
theorem dG.deeper {k:Nat} {A:Around} (r:dG (k + 1) A) (env:Env):dG k (A.deeper env):=
 ⟨r.hd,by have:=r.dp; show A.depth + 1 + 3 * k + 5 < _; omega,by have:=r.un; show A.units + 3 + 16 * k + 200 < _; omega⟩
theorem dG.depth {k:Nat} {A:Around} (r:dG k A):A.depth < recursionLimit:=by have:=r.dp; omega
theorem dG.units0 {k:Nat} {A:Around} (r:dG k A):A.units < cLine:=by have:=r.un; omega
noncomputable def ah:TA:=fun _ H Q=>Q [] H
noncomputable def ac (ta:TE) (tr:TA):TA:=fun σ H Q=>ta σ H fun x H1=>tr σ H1 fun xs H2=>Q (x :: xs) H2
section
variable {X:Cx} {e:Expr} {es:List Expr} {te:TE} {t:TA} {pos:Pos}
theorem ae:PA X [] ah:=fun _ _ _ _ H Q I h=>Calls.spliced_nil ⟨[],H,I,.nil,h⟩
theorem g0 (ha:PE X e te) (hr:PA X es t) (hs:starEach (e :: es) X.env=(false,eval e X.env) :: starEach es X.env:=by rfl):PA X (e :: es) (ac te t):=by
 intro pos pins s σ H Q I h
 rw [hs]
 show wpAny _ _ (spliced ((false,eval e X.env) :: backTo pos (starEach es X.env))) _ _ s
 refine Calls.spliced_cons (thn (ha pins s σ H _ I h) fun u s1 ⟨x,H1,I1,r1,q1⟩=>?_)
 exact thn (hr pos pins s1 σ H1 _ I1 q1) fun us s2 ⟨xs,H2,I2,r2,q2⟩=>⟨x :: xs,H2,I2,.cons r1 r2,q2⟩
noncomputable def wJ (t:TA):TE:=fun σ H Q=>t σ H fun xs H1=>xs.length<=sizeLine/\∀ p,H1 p=none->Q (.ref p) (upd H1 p (.tup xs))
noncomputable def tP (t:TA):TE:=fun σ H Q=>t σ H fun xs H1=>xs.length<=sizeLine/\∀ p,H1 p=none->Q (.ref p) (upd H1 p (.lst xs))
theorem xX {x1} (h:PA X es t):PE X (.Tuple es x1 pos) (wJ t):=by
 intro pins s σ H Q I hq
 refine wpAny_Tuple_spliced (thn (h pos pins s σ H _ I hq) fun us s1 ⟨xs,H1,I1,r,z,q⟩=>⟨by rw [<-r.length]; exact z,?_⟩)
 have hf:H1 s1.heap.objs.size=none:=I1.hok.fresh (Nat.le_refl _)
 refine ⟨.ref s1.heap.objs.size,upd H1 s1.heap.objs.size (.tup xs),I1.laid (t':=s1.toks) (fun b u e=>Heap.get?_push_of_some _ e) (Nat.le_refl _) ?_,rfl,q _ hf⟩
 exact ⟨z,us,r,fA.new _ _⟩
theorem tQ (h:PA X es t):PE X (.List es pos) (tP t):=by
 intro pins s σ H Q I hq
 refine wpAny_List_spliced (thn (h pos pins s σ H _ I hq) fun us s1 ⟨xs,H1,I1,r,z,q⟩=>⟨by rw [<-r.length]; exact z,?_⟩)
 have hf:H1 s1.heap.objs.size=none:=I1.hok.fresh (Nat.le_refl _)
 refine ⟨.ref s1.heap.objs.size,upd H1 s1.heap.objs.size (.lst xs),I1.laid (t':=s1.toks) (fun b u e=>Heap.get?_push_of_some _ e) (Nat.le_refl _) ?_,rfl,q _ hf⟩
 exact ⟨z,us,0,r,Heap.get?_push_size _ rfl⟩
end
noncomputable abbrev Sp:=List V->Hp->VK->XK->Prop
noncomputable abbrev CXT:=List Env->Hp->Shared->XK->Value->Shared->Prop
structure tR (P:Program) (w:World) (K:PySem.W.Frag) (mg:Str->Option Value) (base:Heap) (A:Around) (outer:List Env) (s:Shared) (H:Hp):Prop where
 frames:A.frames=some outer
 mod:Mod K mg base
 bs:∀ b o,base.get? b=some o->s.heap.get? b=some o/\H b=none
 bsz:base.objs.size<=s.heap.objs.size
 funs:s.heap.FunFrames base outer
 frf:∀ b∈frs outer,H b=none
 hok:HOk P w H s.heap
 bare:AllBare s.gens
noncomputable def CE (outer:List Env) (P:Program) (w:World) (H:Hp) (s:Shared) (Q:VK) (u:Value) (s':Shared):Prop:=
 ∃ v H',s'.os=s.os/\AllBare s'.gens/\Un (frs outer) [] H H' s.heap s'.heap/\HOk P w H' s'.heap/\aM v u/\Q v H'
noncomputable def CR (CX:CXT) (outer:List Env) (P:Program) (w:World) (H:Hp) (s:Shared) (Q:VK) (E:XK) (r:Result) (s':Shared):Prop:=
 match r with
 | .ok (.ret u)=>CE outer P w H s Q u s'
 | .ok _=>False
 | .error e=>CX outer H s E e s'
structure iL (P:Program) (w:World) (K:PySem.W.Frag) (mg:Str->Option Value) (base:Heap) (CX:CXT) (k:Nat) (f:Addr) (fd:FuncData) (ps:List Str) (sp:Sp):Prop where
 len:∀ vs H Q E,sp vs H Q E->vs.length=ps.length
 run:∀ (A:Around) (outer:List Env) (s:Shared) (H:Hp) (args:Args) (us:List Value) (vs:List V) (Q:VK) (E:XK),dG k A->tR P w K mg base A outer s H->BindsTo s fd args (ps.zip us)->aE vs us->sp vs H Q E->
  codeAny (model P w) A (.call (.ref f) args) (CR CX outer P w H s Q E) s
section
variable {X:Cx} {pins:List (Addr×Obj)} {σ:St} {H:Hp} {s s':Shared}
theorem Inv.env0 (I:Inv X pins σ H s):tR X.prog X.w X.K X.mg X.base X.A X.stack s H:=
 ⟨I.ok.frames,I.ok.mod,I.bs,Nat.le_trans I.ok.bsz I.sz,I.stack,I.stkFree,I.hok,I.bare⟩
theorem Inv.after {Q:VK} {u:Value} (I:Inv X pins σ H s) (h:CE X.stack X.prog X.w H s Q u s'):EP X pins σ Q u s':=by
 obtain ⟨v,H',os,bare,un,hok,r,q⟩:=h
 obtain ⟨hh,g,d,t,os'⟩:=s'
 obtain rfl:os'=s.os:=os
 exact ⟨v,H',I.call (h':=hh) (g':=g) (d':=d) (t':=t) (ch:=[]) un hok bare (fun b z=>absurd z (by simp)),r,q⟩
end
noncomputable def az (sp:Sp) (dvs:List V) (E:XK) (t:TA):TE:=fun σ H Q=>t σ H fun vs H1=>sp (vs++dvs) H1 Q E
noncomputable def lp (K:PySem.W.Frag) (fd:FuncData) (ps:List Str) (ds:List Value):Prop:=
 ∀ (s:Shared) (us:List Value),K.In s.heap->(us++ds).length=ps.length->BindsTo s fd ⟨us,[]⟩ (ps.zip (us++ds))
theorem lp.all {K:PySem.W.Frag} {fd:FuncData} {ps:List Str} (h:∀ us:List Value,us.length=ps.length->bindArgs fd ⟨us,[]⟩=pure (ps.zip us)):lp K fd ps []:=fun s us _ hl=>by
 rw [List.append_nil] at hl ⊢
 exact .of_eq (h us hl)
noncomputable def tS (CX:CXT) (X:Cx) (E:XK):Prop:=∀ (pins:List (Addr×Obj)) (σ:St) (H:Hp) (s:Shared) (e:Value) (s':Shared),Inv X pins σ H s->CX X.stack H s E e s'->X.xe e s'
section
variable {X:Cx} {CX:CXT} {k:Nat} {f C:Addr} {fd:FuncData} {ps:List Str} {sp:Sp} {dvs:List V} {ds:List Value} {E:XK} {x m:Str} {p pos apos:Pos} {e o:Expr} {es:List Expr} {ta:TE} {t:TA}
theorem BO {pins:List (Addr×Obj)} {σ:St} {H:Hp} {s:Shared} {Q:VK} {us:List Value} {vs:List V} (F:iL X.prog X.w X.K X.mg X.base CX k f fd ps sp) (hr:dG k X.A) (hb:lp X.K fd ps ds) (hd:aE dvs ds) (hx:tS CX X E)
  (I:Inv X pins σ H s) (r:aE vs us) (h:sp (vs++dvs) H Q E):wpAny (model X.prog X.w) X.A (call (.ref f) us) (EP X pins σ Q) X.xe s:=by
 have r2:aE (vs++dvs) (us++ds):=r.append hd
 have hl:(us++ds).length=ps.length:=by rw [<-r2.length]; exact F.len _ _ _ _ h
 refine wpAny_call (codeAny_mono (F.run X.A X.stack s H ⟨us,[]⟩ (us++ds) (vs++dvs) Q E hr I.env0 (hb s us I.kIn hl) r2 h) fun r s' hq=>?_)
 cases r with
 | error e=>exact hx pins σ H s e s' I hq
 | ok fl=>
  cases fl with
  | ret u=>exact I.after hq
  | next=>exact False.elim hq
  | brk=>exact False.elim hq
  | cont=>exact False.elim hq
theorem AQ (F:iL X.prog X.w X.K X.mg X.base CX k f fd ps sp) (hr:dG k X.A) (hg:Gl X x) (hm:X.mg x=some (.ref f)) (hk:PySem.W.keepIn X.K (.ref f)=true) (hb:lp X.K fd ps ds) (hd:aE dvs ds) (hx:tS CX X E)
  (ha:PA X (e :: es) t) (hdb:(x == ("__debug__":Str))=false:=by decide) (he:starEach (e :: es) X.env=(false,eval e X.env) :: starEach es X.env:=by rfl) (hpl:(backTo pos (starEach es X.env)).any (·.1)=false:=by rfl):
  PE X (.Call (.Name x p) (e :: es) [] pos) (az sp dvs E t):=by
 intro pins s σ H Q I h
 refine wpAny_Call_Name_kw (vZ I hg hm ?_ hdb)
 refine PySem.W.callWith_K (h₀:=X.base) I.ok.mod.kin hk (thn (ha pos pins s σ H _ I h) fun us s1 ⟨vs,H1,I1,r,q⟩=>⟨I1.kIn,?_⟩) he hpl
 exact BO F hr hb hd hx I1 r q
structure Mk (K:PySem.W.Frag) (C f:Addr):Prop where
 makes:PySem.W.makesIn K C=true
 init:PySem.W.findIn K (.ref C) "__init__"=some (some (.ref f))
 fn:PySem.W.isFn K (.ref f)=true
 kp:PySem.W.keepIn K (.ref C)=true
end
noncomputable def PK (X:Cx) (kws:List Keyword) (t:TA):Prop:=
 ∀ (pos:Pos) (pins:List (Addr×Obj)) (s:Shared) (σ:St) (H:Hp) (Q:List V->Hp->Prop),Inv X pins σ H s->t σ H Q->wpAny (model X.prog X.w) X.A (evalAll ((backToKw pos (keywordEach kws X.env)).map (·.2))) (AP X pins σ Q) X.xe s
section
variable {X:Cx} {CX:CXT} {k:Nat} {f C:Addr} {fd:FuncData} {ps ks:List Str} {sp:Sp} {E:XK} {x m:Str} {p pos apos kpos:Pos} {e o:Expr} {es:List Expr} {kws:List Keyword} {te ta:TE} {t tk:TA} {nm:Option Str}
theorem BP:PK X [] ah:=fun _ _ _ _ H Q I h=>wpAny_evalAll_nil ⟨[],H,I,.nil,h⟩
theorem AR (ha:PE X e te) (hr:PK X kws t):PK X (⟨nm,e,kpos⟩ :: kws) (ac te t):=by
 intro pos pins s σ H Q I h
 show wpAny _ _ (evalAll ((do let v <-eval e X.env; standAt pos; pure v) :: (backToKw pos (keywordEach kws X.env)).map (·.2))) _ _ s
 refine wpAny_evalAll_cons (wpAny_bind (thn (ha pins s σ H _ I h) fun u s1 ⟨x,H1,I1,r1,q1⟩=>wpAny_bind (wpAny_standAt (wpAny_pure ?_))))
 exact thn (hr pos pins s1 σ H1 _ I1 q1) fun us s2 ⟨xs,H2,I2,r2,q2⟩=>⟨x :: xs,H2,I2,.cons r1 r2,q2⟩
structure DV (K:PySem.W.Frag) (fd:FuncData) (ps ks:List Str) (g:List Value->List Value->List Value) (gV:List V->List V->List V):Prop where
 to:∀ (s:Shared) (us ws:List Value),K.In s.heap->(g us ws).length=ps.length->BindsTo s fd ⟨us,ks.zip ws⟩ (ps.zip (g us ws))
 rel:∀ {vs:List V} {us:List Value} {zs:List V} {ws:List Value},aE vs us->aE zs ws->aE (gV vs zs) (g us ws)
variable {g:List Value->List Value->List Value} {gV:List V->List V->List V}
end
structure aG (N P:List Str) (sc:Scope):Prop where
 kind:sc.kind=.function
 co:sc.isCoroutine=false
 gen:sc.isGenerator=false
 nd:N.Nodup
 pre:N.take P.length=P
 par:∀ x∈P,sc.names.lookup x=some .local\/sc.names.lookup x=some .cell
 nofree:∀ y∈sc.names,y.2≠.free
theorem rn {kindOf:Str->Option NameKind} {x:Str}:∀ {binds:List (Str×Value)} {m:Str->Option Value},(∀ v,(x,v)∉binds)->bindL kindOf binds m x=m x
 | [],_,_=>rfl
 | (n,v) :: r,m,h=>by
  unfold bindL
  rw [rn fun w hw=>h w (List.mem_cons_of_mem _ hw)]
  split
  ·have:x≠n:=by rintro rfl; exact h v List.mem_cons_self
   simp [this]
  ·rfl
theorem rp {kindOf:Str->Option NameKind} {x:Str}:∀ {binds:List (Str×Value)} {m:Str->Option Value},(∀ v,(x,v)∉binds)->bindC kindOf binds m x=m x
 | [],_,_=>rfl
 | (n,v) :: r,m,h=>by
  unfold bindC
  rw [rp fun w hw=>h w (List.mem_cons_of_mem _ hw)]
  split
  ·rfl
  ·have:x≠n:=by rintro rfl; exact h v List.mem_cons_self
   simp [this]
theorem rq {kindOf:Str->Option NameKind} {x:Str} {v:Value}:∀ {P:List Str} {vs:List Value} {i:Nat} {m:Str->Option Value},P.Nodup->P[i]?=some x->vs[i]?=some v->kindOf x=some .local->
  bindL kindOf (P.zip vs) m x=some v
 | [],_,_,_,_,h,_,_=>by simp at h
 | _ :: _,[],_,_,_,_,h,_=>by simp at h
 | p :: P,w :: vs,0,m,nd,h1,h2,hk=>by
  simp at h1 h2; subst h1; subst h2
  show bindL kindOf ((p,w) :: P.zip vs) m p=_
  unfold bindL
  rw [rn fun v hv=>(List.nodup_cons.mp nd).1 (List.of_mem_zip hv).1,if_pos hk]
  simp
 | p :: P,w :: vs,i + 1,m,nd,h1,h2,hk=>by
  show bindL kindOf ((p,w) :: P.zip vs) m x=_
  unfold bindL
  exact rq (i:=i) (List.nodup_cons.mp nd).2 (by simpa using h1) (by simpa using h2) hk
theorem rA {kindOf:Str->Option NameKind} {x:Str} {v:Value}:∀ {P:List Str} {vs:List Value} {i:Nat} {m:Str->Option Value},P.Nodup->P[i]?=some x->vs[i]?=some v->kindOf x≠some .local->
  bindC kindOf (P.zip vs) m x=some v
 | [],_,_,_,_,h,_,_=>by simp at h
 | _ :: _,[],_,_,_,_,h,_=>by simp at h
 | p :: P,w :: vs,0,m,nd,h1,h2,hk=>by
  simp at h1 h2; subst h1; subst h2
  show bindC kindOf ((p,w) :: P.zip vs) m p=_
  unfold bindC
  rw [rp fun v hv=>(List.nodup_cons.mp nd).1 (List.of_mem_zip hv).1,if_neg hk]
  simp
 | p :: P,w :: vs,i + 1,m,nd,h1,h2,hk=>by
  show bindC kindOf ((p,w) :: P.zip vs) m x=_
  unfold bindC
  exact rA (i:=i) (List.nodup_cons.mp nd).2 (by simpa using h1) (by simpa using h2) hk
noncomputable def start (N:List Str) (vs:List V):St:=vs.map some++List.replicate (N.length - vs.length) none
noncomputable def lq (CX:CXT) (P:Program) (w:World) (K:PySem.W.Frag) (mg:Str->Option Value) (base:Heap) (N:List Str) (qual:Str) (scope:Scope) (f:Addr) (cd:Value) (A:Around) (outer:List Env) (s:Shared) (H:Hp) (E:XK):Cx where
 prog:=P
 w:=w
 K:=K
 mg:=mg
 base:=base
 A:=A.deeper (envOfC qual scope s.heap.objs.size f cd)
 N:=N
 s₀:=s
 H₀:=H
 env:=envOfC qual scope s.heap.objs.size f cd
 outer:=outer
 stack:=envOfC qual scope s.heap.objs.size f cd :: outer
 ex:=[]
 calm:=true
 fn:=fun _=>true
 pn:=[]
 xe:=fun e s'=>wpAny (model P w) (A.deeper (envOfC qual scope s.heap.objs.size f cd)) («leaving» (envOfC qual scope s.heap.objs.size f cd) e) (fun _ s''=>CX outer H s E e s'') (fun e' s''=>CX outer H s E e' s'') s'
theorem tT {sc:Scope} {n:Nat} {x:Str} (h:sc.names.lookup x=some .cell):∃ c,(cellsFrom n sc.names []).lookup x=some c:=by
 have q:=PySem.W.cellsFrom_some sc.names n [] (.inl h)
 exact Option.isSome_iff_exists.mp q
theorem xY {CX:CXT} {P:Program} {w:World} {K:PySem.W.Frag} {mg:Str->Option Value} {base:Heap} {N ps:List Str} {qual:Str} {scope:Scope} {f:Addr} {cd:Value} {A:Around} {outer:List Env} {s s1:Shared} {H:Hp} {E:XK} {us:List Value} {vs:List V}
  (S:aG N ps scope) (hd:A.handled=none) (e0:tR P w K mg base A outer s H) (hl:vs.length=ps.length) (r:aE vs us)
  (x:InCallC s s.heap.objs.size (bindL (envOfC qual scope s.heap.objs.size f cd).kindOf (ps.zip us) fun _=>none) (cellsFrom (s.heap.objs.size + 1) scope.names []) (bindC (envOfC qual scope s.heap.objs.size f cd).kindOf (ps.zip us) fun _=>none) s1):
  Inv (lq CX P w K mg base N qual scope f cd A outer s H E) [] (start N vs) H s1:=by
 have hpl:ps.length<=N.length:=by have:=congrArg List.length S.pre; rw [List.length_take] at this; omega
 obtain ⟨h1,tk,rfl,hk⟩:=x.done
 have noA:∀ b:Addr,b∉(lq CX P w K mg base N qual scope f cd A outer s H E).ex:=fun b z=>absurd (show b∈([]:List Addr) from z) (by simp)
 refine ⟨⟨e0.mod,S.kind,rfl,rfl,Nat.le_refl _,fun y z c h1 h2=>?_,fun y hy=>?_,fun y c _ h=>?_,fun _=>hd,Around.frames_deeper e0.frames,.inr ⟨rfl,rfl⟩,fun b z=>absurd z (noA b),e0.bs,e0.bsz,fun b _ _=>noA b,fun b z=>absurd z (noA b),e0.funs,e0.frf⟩,
  rfl,e0.bare,Un.kept hk,⟨_,x.toInCall.ns,fun i y v h1 h2 h3=>?_⟩,fun y c h=>⟨_,x.cell y c h⟩,e0.hok.fresh (Nat.le_refl _),fun y c h=>?_,fun p hp=>absurd (show p∈([]:List (Addr×Obj)) from hp) (by simp),e0.hok.kept hk,?_⟩
 ·exact name_of_addr x.apart (PySem.mem_of_lookup h1) (PySem.mem_of_lookup h2)
 ·have hy:scope.names.lookup y=some .cell\/scope.names.lookup y=some .free:=hy
  rcases hy with hy | hy
  ·exact tT hy
  ·exact absurd rfl (S.nofree _ (PySem.mem_of_lookup hy))
 ·exact Nat.le_of_lt (x.above y c (PySem.mem_of_lookup h))
 ·have hi:i < vs.length:=by
   unfold start at h2
   by_cases hi:i < vs.length
   ·exact hi
   ·rw [List.getElem?_append_right (by simpa using hi)] at h2
    rw [List.getElem?_replicate] at h2
    split at h2 <;> cases h2
  have ha:vs[i]?=some v:=by
   unfold start at h2
   rw [List.getElem?_append_left (by simpa using hi),List.getElem?_map] at h2
   cases e:vs[i]? with
   | none=>rw [e] at h2; cases h2
   | some a=>rw [e] at h2; cases h2; rfl
  obtain ⟨u,hu,rv⟩:=r.get ha
  have hp:ps[i]?=some y:=by
   rw [<-S.pre,List.getElem?_take_of_lt (by omega)]; exact h1
  have ndP:ps.Nodup:=by rw [<-S.pre]; exact S.nd.sublist (List.take_sublist _ _)
  refine ⟨u,rv,?_⟩
  rcases S.par y (List.mem_of_getElem? hp) with k | k
  ·exact .inl ⟨k,rq ndP hp hu k⟩
  ·obtain ⟨c,e⟩:=tT (n:=s.heap.objs.size + 1) k
   refine .inr ⟨.inl k,c,e,?_⟩
   have q:=x.cell y c e
   rw [rA ndP hp hu (by show scope.names.lookup y≠_; rw [k]; decide)] at q
   exact q
 ·exact e0.hok.fresh (Nat.le_of_lt (x.above y c (PySem.mem_of_lookup h)))
 ·unfold start
  show _=N.length
  rw [List.length_append,List.length_map,List.length_replicate]
  omega
theorem Ay {CX:CXT} {P:Program} {w:World} {K:PySem.W.Frag} {mg:Str->Option Value} {base:Heap} {k:Nat} {f:Addr} {name qual:Str} {params:Arguments} {body:List Stmt} {scope:Scope} {dV kV doc pm cdv ct oc:Value} {an od:Option Addr}
  {osl:Array (Option Value)} {N ps:List Str} {sp:Sp} (lk:K.lookup f=some ⟨oc,od,.func (PySem.W.fnOf name qual params body scope dV kV doc pm an cdv ct),osl⟩) (hcd:PySem.W.codeIn K cdv qual=true) (S:aG N ps scope)
  (len:∀ vs H Q E,sp vs H Q E->vs.length=ps.length)
  (hbody:∀ (A:Around) (outer:List Env) (s:Shared) (H:Hp) (vs:List V) (Q:VK) (E:XK),dG k (A.deeper (envOfC qual scope s.heap.objs.size f cdv))->sp vs H Q E->
   ∃ t,PSs (lq CX P w K mg base N qual scope f cdv A outer s H E) body t/\t { nx:=fun _ H'=>Q .non H',rt:=Q } (start N vs) H):
  iL P w K mg base CX (k + 1) f (PySem.W.fnOf name qual params body scope dV kV doc pm an cdv ct) ps sp:=by
 refine ⟨len,fun A outer s H args us vs Q E hr e0 hb r hsp=>?_⟩
 have hl:=len _ _ _ _ hsp
 have KX:K.In s.heap:=e0.mod.kin.keeps fun b o e=>(e0.bs b o e).1
 have lim:s.heap.NoLimit:=e0.mod.nolimit.keeps fun b o e=>(e0.bs b o e).1
 have hkind:∀ y∈ps.zip us,scope.names.lookup y.1=some .local\/(scope.names.lookup y.1=some .cell/\((cellsFrom (s.heap.objs.size + 1) scope.names []).lookup y.1).isSome=true):=fun ⟨n,v⟩ hy=>by
  rcases S.par n (List.of_mem_zip hy).1 with q | q
  ·exact .inl q
  ·exact .inr ⟨q,PySem.W.cellsFrom_some _ _ _ (.inl q)⟩
 refine codeAny_call_function hr.depth (KX _ _ lk) rfl S.co S.gen rfl (PySem.W.codeRec_of KX hcd) (hb _ _ _ _ ?_)
 refine wpAny_newFunctionEnv_cells S.kind hkind fun env he s1 x=>?_
 subst he
 refine ⟨lim.keeps x.toInCall.keep,codeAny_func ?_⟩
 obtain ⟨t,ht,hq⟩:=hbody A outer s H vs Q E (hr.deeper _) hsp
 have I:Inv (lq CX P w K mg base N qual scope f cdv A outer s H E) [] (start N vs) H s1:=xY S hr.hd e0 hl r x
 refine wpAny_mono (ht [] s1 (start N vs) H _ I hq) (fun fl s' hs=>?_) fun e s' hs=>hs
 have fin:∀ {σ':St} {H':Hp} {v:V} {u:Value},Inv (lq CX P w K mg base N qual scope f cdv A outer s H E) [] σ' H' s'->aM v u->Q v H'->CE outer P w H s Q u s':=
  fun {σ' H' v u} J rv q=>⟨v,H',J.os,J.bare,J.base,J.hok,rv,q⟩
 cases fl with
 | ret u=>
  obtain ⟨v,σ',H',J,rv,q⟩:=hs
  exact fin J rv q
 | next=>
  obtain ⟨σ',H',J,q⟩:=hs
  exact fin (v:=V.non) (u:=Value.none) J rfl q
 | brk=>
  obtain ⟨_,_,_,q⟩:=hs
  exact False.elim q
 | cont=>
  obtain ⟨_,_,_,q⟩:=hs
  exact False.elim q
end L2
namespace L2
open PySem PySem.Spec PyProof.Rows
section
variable {X:Cx} {x:Str} {p pos:Pos} {e:Expr} {es:List Expr} {t:TA} {id T:String} {r:List V->Hp->VK->Prop}
noncomputable def tCB (r:List V->Hp->VK->Prop) (t:TA):TE:=fun σ H Q=>t σ H fun vs H1=>r vs H1 Q
theorem aO (hc:ee X (.builtin id) r) (hg:Gl X x) (hm:X.mg x=none) (hv:bootBuiltins x=some (.builtin id)) (ha:PA X (e :: es) t) (hn:x≠"__name__":=by decide) (hdb:(x == ("__debug__":Str))=false:=by decide)
  (he:starEach (e :: es) X.env=(false,eval e X.env) :: starEach es X.env:=by rfl) (hpl:(backTo pos (starEach es X.env)).any (·.1)=false:=by rfl):PE X (.Call (.Name x p) (e :: es) [] pos) (tCB r t):=by
 intro pins s σ H Q I h
 refine wpAny_Call_Name_kw (h8 I hg hm hv ?_ hn hdb)
 exact PyProof.Rows.callWith_builtin1 (thn (ha pos pins s σ H _ I h) fun us s1 ⟨vs,H1,I1,r1,q1⟩=>hc pins s1 σ H1 vs us Q I1 r1 q1) he hpl
theorem g9 (hc:ee X (.type T) r) (hg:Gl X x) (hm:X.mg x=none) (hv:bootBuiltins x=some (.type T)) (ha:PA X (e :: es) t) (hn:x≠"__name__":=by decide) (hdb:(x == ("__debug__":Str))=false:=by decide)
  (he:starEach (e :: es) X.env=(false,eval e X.env) :: starEach es X.env:=by rfl) (hpl:(backTo pos (starEach es X.env)).any (·.1)=false:=by rfl):PE X (.Call (.Name x p) (e :: es) [] pos) (tCB r t):=by
 intro pins s σ H Q I h
 refine wpAny_Call_Name_kw (h8 I hg hm hv ?_ hn hdb)
 exact PyProof.Rows.callWith_type1 (thn (ha pos pins s σ H _ I h) fun us s1 ⟨vs,H1,I1,r1,q1⟩=>hc pins s1 σ H1 vs us Q I1 r1 q1) he hpl
end
end L2
namespace HT
open PySem PyProof.Rows
section
open PySem.SeqAt
open PySem.AutoSeq1 (wpAny_loadPart')
open PySem.MeetsSeq PySem.MeetsSeq2 PySem.MeetsSeq3
end
section
variable {prog:Program} {w:World} {A:Around} {E:Value->Shared->Prop} {s:Shared}
theorem AS {t b:Addr} {vs ws:List Value} {Q:Value->Shared->Prop} (ht:IsTup s.heap t vs.toArray) (hb:IsTup s.heap b ws.toArray) (hv:vs≠[])
  (h1:ws=[]->Q (.ref t) s) (h2:ws≠[]->Q (.ref s.heap.objs.size) { s with heap:=s.heap.push { cls:=.type "tuple",data:=.seq (vs++ws).toArray } })
  (hsz:vs.length + ws.length<=sizeLine):wpAny (model prog w) A (binaryOp .Add (.ref t) (.ref b)) Q E s:=by
 obtain ⟨⟨cls,dd,data,sl⟩,ho,hc,n,hd⟩:=id ht
 obtain ⟨⟨cls2,dd2,data2,sl2⟩,ho2,hc2,n2,hd2⟩:=id hb
 simp only at hc hd hc2 hd2
 subst hc hd hc2 hd2
 have e:vs.toArray++ws.toArray=(vs++ws).toArray:=by simp
 by_cases hw:ws=[]
 ·exact concat_meets ⟨_,ho,rfl⟩ ⟨_,ho2,rfl⟩ noFill_tuple_add seq_tuple_add PySem.F.slot_tuple_add PySem.F.entry_tuple_add (PySem.F.args_tuple_add_2 _ _)
   (tuple_addW1 t b vs.toArray ws.toArray n n2 dd dd2 sl sl2 (by simpa using hv) (by simp [hw])) ⟨ho,ho2,h1 hw⟩
 ·refine concat_meets ⟨_,ho,rfl⟩ ⟨_,ho2,rfl⟩ noFill_tuple_add seq_tuple_add PySem.F.slot_tuple_add PySem.F.entry_tuple_add (PySem.F.args_tuple_add_2 _ _)
   (tuple_addW2 t b vs.toArray ws.toArray n n2 dd dd2 sl sl2 (by simpa using hv) (by simpa using hw) (by rw [List.size_toArray,List.size_toArray]; exact hsz)) ⟨ho,ho2,?_⟩
  rw [e]
  exact h2 hw
noncomputable def sIx (n d:Nat):Option Int->Nat
 | none=>d
 | some v=>if v < 0 then (v + (n:Int)).toNat else min v.toNat n
theorem BQ (n d:Nat) (hd:d<=n) (o:Option Int):sIx n d o<=n:=by
 cases o with
 | none=>exact hd
 | some v=>
  show (if v < 0 then (v + (n:Int)).toNat else min v.toNat n)<=n
  by_cases hv:v < 0
  ·rw [if_pos hv]; omega
  ·rw [if_neg hv]; exact Nat.min_le_right _ _
theorem wb (v:Int) (n d:Nat):(if v < 0 then max (v + (n:Int)) 0 else min v (n:Int))=((sIx n d (some v):Nat):Int):=by
 show (if v < 0 then max (v + (n:Int)) 0 else min v (n:Int))=(((if v < 0 then (v + (n:Int)).toNat else min v.toNat n):Nat):Int)
 by_cases hv:v < 0
 ·simp only [if_pos hv]; omega
 ·simp only [if_neg hv]; omega
theorem wK (lo hi:Option Int) (n:Nat):Builtin.Slice.sliceAdjust lo hi 1 (n:Int)=(((sIx n 0 lo:Nat):Int),((sIx n n hi:Nat):Int)):=by
 have h1:¬ ((1:Int) < 0):=by omega
 unfold Builtin.Slice.sliceAdjust
 simp only [h1,if_false]
 refine Prod.ext ?_ ?_
 ·cases lo with
  | none=>rfl
  | some v=>exact wb v n 0
 ·cases hi with
  | none=>rfl
  | some v=>exact wb v n n
theorem wL (i j:Nat):Builtin.Slice.slicePlaces (i:Int) (j:Int) 1=j - i:=by
 unfold Builtin.Slice.slicePlaces
 have h1:(1:Int) > 0:=by omega
 simp only [h1,if_true,Int.ediv_one]
 split <;> omega
theorem oK {v:Value} {o:Option Int} {Q:Option Int->Shared->Prop} (p:IsPart v o) (h:Q o s):wpAny (model prog w) A (Builtin.Slice.slicePartIndex v) Q E s:=by
 cases p with
 | none=>exact slicePart_none h
 | int i t=>exact slicePart_int h
theorem og {sl:Addr} {vl vu:Value} {lo hi:Option Int} {n:Nat} {Q:Int×Int×Nat->Shared->Prop} (hs:s.heap.IsSliceOf sl vl vu .none) (pl:IsPart vl lo) (pu:IsPart vu hi)
  (h:Q (((sIx n 0 lo:Nat):Int),1,sIx n n hi - sIx n 0 lo) s):wpAny (model prog w) A (Builtin.Slice.sliceApplied (.ref sl) (pure (n:Int))) Q E s:=by
 obtain ⟨os,hos,hcs,hds⟩:=id hs
 unfold Builtin.Slice.sliceApplied Builtin.Slice.sliceFields
 refine wpAny_bind (wpAny_bind (wpAny_field hos hds (x:=vl) rfl (wpAny_bind (wpAny_field hos hds (x:=vu) rfl (wpAny_bind (wpAny_field hos hds (x:=.none) rfl (wpAny_pure ?_)))))))
 refine wpAny_bind (slicePart_none ?_)
 show wpAny _ _ (if ((1:Int) == 0)=true then _ else _) _ _ s
 rw [if_neg (by decide)]
 refine wpAny_bind (oK pl (wpAny_bind (oK pu (wpAny_bind (wpAny_pure ?_)))))
 show wpAny _ _ (match Builtin.Slice.sliceAdjust lo hi 1 (n:Int) with | (lo,hi)=>pure (lo,(1:Int),Builtin.Slice.slicePlaces lo hi 1)) _ _ s
 rw [wK lo hi n]
 show wpAny _ _ (pure (((sIx n 0 lo:Nat):Int),(1:Int),Builtin.Slice.slicePlaces ((sIx n 0 lo:Nat):Int) ((sIx n n hi:Nat):Int) 1)) _ _ s
 rw [wL]
 exact wpAny_pure h
theorem zk (xs:Array Value) (i k:Nat):((List.range k).filterMap fun (m:Nat)=>xs[((i:Int) + (m:Int) * 1).toNat]?).toArray=((xs.toList.drop i).take k).toArray:=by
 have e:(fun (m:Nat)=>xs[((i:Int) + (m:Int) * 1).toNat]?)=fun m=>xs[i + m]?:=by
  funext m
  have:((i:Int) + (m:Int) * 1).toNat=i + m:=by omega
  rw [this]
 rw [e]
 have:=pick_run xs i k
 rw [List.filterMap_map] at this
 have e2:((fun x=>xs[x]?) ∘ fun x=>i + x)=fun m=>xs[i + m]?:=rfl
 rw [e2] at this
 rw [this]
theorem nF {t sl:Addr} {items:Array Value} {vl vu:Value} {lo hi:Option Int} {Q:Value->Shared->Prop} (ht:IsTup s.heap t items) (hs:s.heap.IsSliceOf sl vl vu .none) (pl:IsPart vl lo) (pu:IsPart vu hi)
  (hw:¬ (sIx items.size 0 lo=0/\sIx items.size items.size hi=items.size))
  (h:Q (.ref s.heap.objs.size) { s with heap:=s.heap.push { cls:=.type "tuple",data:=.seq ((items.toList.drop (sIx items.size 0 lo)).take (sIx items.size items.size hi - sIx items.size 0 lo)).toArray } })
  (hsz:items.size<=sizeLine):wpAny (model prog w) A (getItem (.ref t) (.ref sl)) Q E s:=by
 have htake:sizeOk (.seq ((items.toList.drop (sIx items.size 0 lo)).take (sIx items.size items.size hi - sIx items.size 0 lo)).toArray):=by
  show ((items.toList.drop (sIx items.size 0 lo)).take (sIx items.size items.size hi - sIx items.size 0 lo)).toArray.size<=sizeLine
  rw [List.size_toArray,List.length_take,List.length_drop,Array.length_toList]
  omega
 have hj:sIx items.size items.size hi<=items.size:=BQ _ _ (Nat.le_refl _) hi
 obtain ⟨os,hos,hcs,hds⟩:=id hs
 have hTs:s.TypeIs (.ref sl) "slice":=⟨os,hos,hcs⟩
 unfold getItem
 try with_reducible refine wpAny_holding ?_
 first | refine wpAny_bind (wpAny_pure ?_) | skip
 refine wpAny_bind (wpAny_sequenceKey ht.typeIs (by decide) ?_)
 refine wpAny_bind (wpAny_callSpecial?_slot (name:=Str.ofString "__getitem__") ht.typeIs PyProof.Rows.slot_tuple_getitem
  (wpAny_call_entry PyProof.Rows.slot_tuple_getitem ht.typeIs entry_tuple_getitem ?_ (args_tuple_getitem _ _)))
 show wpAny _ _ (Builtin.Tuple.tupleItemsOf (.ref t) >>= _) _ _ s
 refine wpAny_bind (tupleItemsOf_ ht ?_)
 refine wpAny_bind (wpAny_typeOf hTs ?_)
 rw [if_pos (by decide)]
 refine wpAny_bind (og hs pl pu ?_)
 have hno:¬ ((((sIx items.size 0 lo:Nat):Int) == 0 && (1:Int) == 1 && (sIx items.size items.size hi - sIx items.size 0 lo) == items.size)=true):=by
  intro q
  rw [Bool.and_eq_true,Bool.and_eq_true] at q
  have q1:((sIx items.size 0 lo:Nat):Int)=0:=eq_of_beq q.1.1
  have q2:sIx items.size items.size hi - sIx items.size 0 lo=items.size:=eq_of_beq q.2
  exact hw ⟨by omega,by omega⟩
 show wpAny _ _ (if (((sIx items.size 0 lo:Nat):Int) == 0 && (1:Int) == 1 && (sIx items.size items.size hi - sIx items.size 0 lo) == items.size)=true then _ else _) _ _ s
 rw [if_neg hno,zk]
 first
  | exact wpAny_bind (m:=Builtin.Tuple.tupleExact _) (wpAny_newObj_type (wpAny_pure ⟨_,rfl,wpAny_pure h⟩) htake)
  | exact wpAny_bind (m:=Builtin.Tuple.tupleExact _) (wpAny_newObj_type (wpAny_bind (wpAny_pure (wpAny_pure ⟨_,rfl,wpAny_pure h⟩))) htake)
  | exact wpAny_bind (wpAny_bind (m:=Builtin.Tuple.tupleExact _) (wpAny_newObj_type (wpAny_pure (wpAny_pure ⟨_,rfl,wpAny_pure h⟩)) htake))
  | exact wpAny_bind (wpAny_bind (m:=Builtin.Tuple.tupleExact _) (wpAny_newObj_type (wpAny_pure ⟨_,rfl,wpAny_pure h⟩) htake))
end
end HT
namespace L2
open PySem PySem.Spec PyProof.Rows
noncomputable abbrev TO:=St->Hp->(Option Int->Hp->Prop)->Prop
noncomputable def PO (X:Cx) (e:Option Expr) (t:TO):Prop:=
 ∀ (pins:List (Addr×Obj)) (s:Shared) (σ:St) (H:Hp) (Q:Option Int->Hp->Prop),Inv X pins σ H s->t σ H Q->
  wpAny (model X.prog X.w) X.A (evalPart e X.env) (fun u s'=>∃ o H',Inv X pins σ H' s'/\IsPart u o/\Q o H') X.xe s
noncomputable def qc:TO:=fun _ H Q=>Q none H
noncomputable def wM (t:TE):TO:=fun σ H Q=>t σ H fun x H1=>∃ i,x=.int i/\Q (some i) H1
theorem oM {ns:List Int}:∀ {us:List Value},aE (ns.map V.int) us->IntsAre us ns:=by
 induction ns with
 | nil=>intro us r; rw [List.map_nil] at r; cases r; exact .nil
 | cons n ns ih=>
  intro us r
  rw [List.map_cons] at r
  cases r with
  | cons r1 r2=>
   obtain ⟨t,e⟩:=r1
   subst e
   exact .cons n t (ih r2)
section
variable {X:Cx} {e:Expr} {te:TE} {lo hi:Option Expr} {tl th:TO} {pos p2:Pos}
theorem AT:PO X none qc:=by
 intro pins s σ H Q I h
 rw [evalPart_none]
 exact wpAny_pure ⟨none,H,I,.none,h⟩
theorem AU (h:PE X e te):PO X (some e) (wM te):=by
 intro pins s σ H Q I hw
 rw [evalPart_some]
 refine thn (h pins s σ H _ I hw) fun u s1 ⟨x,H1,I1,r1,q1⟩=>?_
 obtain ⟨i,rfl,q⟩:=q1
 obtain ⟨t,rfl⟩:=r1
 exact ⟨some i,H1,I1,.int i t,q⟩
noncomputable def SlR (X:Cx) (r:V->Option Int->Option Int->Hp->VK->Prop):Prop:=
 ∀ (pins:List (Addr×Obj)) (s:Shared) (σ:St) (H:Hp) (x:V) (v vl vu:Value) (lo hi:Option Int) (sl:Addr) (Q:VK),Inv X pins σ H s->aM x v->s.heap.IsSliceOf sl vl vu .none->IsPart vl lo->IsPart vu hi->r x lo hi H Q->
  ∃ T id,typeLookup (.type T) "__getitem__"=pure (some (.builtin id))/\s.TypeIs v T/\wpAny (model X.prog X.w) X.A (getItem v (.ref sl)) (EP X pins σ Q) X.xe s
noncomputable def tSl (r:V->Option Int->Option Int->Hp->VK->Prop) (te:TE) (tl th:TO):TE:=fun σ H Q=>te σ H fun x H1=>tl σ H1 fun l H2=>th σ H2 fun u H3=>r x l u H3 Q
theorem zl {r:V->Option Int->Option Int->Hp->VK->Prop} (hr:SlR X r) (he:PE X e te) (hl:PO X lo tl) (hu:PO X hi th):PE X (.Subscript e (.Slice lo hi none p2) pos) (tSl r te tl th):=by
 intro pins s σ H Q I h
 refine Subscript_ (thn (he pins s σ H _ I h) fun v s1 ⟨x,H1,I1,r1,q1⟩=>?_)
 refine wpAny_Slice (thn (hl pins s1 σ H1 _ I1 q1) fun vl s2 ⟨l,H2,I2,pl,q2⟩=>thn (hu pins s2 σ H2 _ I2 q2) fun vu s3 ⟨u,H3,I3,pu,q3⟩=>?_)
 rw [evalPart_none]
 refine wpAny_pure ?_
 have I4:Inv X pins σ H3 { s3 with heap:=s3.heap.push { cls:=.type "slice",data:=.fields #[vl,vu,.none] } }:=I3.kept (t':=s3.toks) fun b ob q=>Heap.get?_push_of_some _ q
 obtain ⟨T,id,hT,ht,hg⟩:=hr pins { s3 with heap:=s3.heap.push { cls:=.type "slice",data:=.fields #[vl,vu,.none] } } σ H3 x v vl vu l u s3.heap.objs.size Q I4 r1 (Heap.IsSliceOf.new ..) pl pu q3
 show wpAny (model X.prog X.w) X.A (subscriptTail e (.Slice lo hi none p2) v (.ref s3.heap.objs.size)) (EP X pins σ Q) X.xe { s3 with heap:=s3.heap.push { cls:=.type "slice",data:=.fields #[vl,vu,.none] } }
 exact tail_any (ops:=[.ref s3.heap.objs.size,v]) ht hT hg (by with_unfolding_all rfl)
noncomputable def mv (xs:List V) (lo hi:Option Int):List V:=(xs.drop (HT.sIx xs.length 0 lo)).take (HT.sIx xs.length xs.length hi - HT.sIx xs.length 0 lo)
theorem vi (xs:List V) (lo hi:Option Int):(mv xs lo hi).length<=xs.length:=by
 unfold mv
 rw [List.length_take,List.length_drop]
 omega
noncomputable def DD (K:PySem.W.Frag):V->Option Int->Option Int->Hp->VK->Prop:=fun x lo hi H Q=>∃ a xs,x=.ref a/\SqT K H a xs/\
 ¬ (HT.sIx xs.length 0 lo=0/\HT.sIx xs.length xs.length hi=xs.length)/\∀ p,H p=none->Q (.ref p) (upd H p (.tup (mv xs lo hi)))
theorem BR:SlR X (DD X.K):=by
 intro pins s σ H x v vl vu lo hi sl Q I rx hs pl pu h
 obtain ⟨a,xs,rfl,hx,hw,q⟩:=h
 cases rx
 obtain ⟨its,r,ht,hz⟩:=I.tuple hx
 have hlen:its.toArray.size=xs.length:=by rw [List.size_toArray]; exact r.length.symm
 refine ⟨"tuple",_,PyProof.Rows.slot_tuple_getitem.lookup,ht.typeIs,?_⟩
 refine HT.nF ht hs pl pu (by rw [hlen]; exact hw) ?_ (by rw [hlen]; exact hz)
 rw [hlen]
 refine ⟨.ref s.heap.objs.size,_,I.laid (t':=s.toks) (o:=.tup (mv xs lo hi)) (fun b ob q=>Heap.get?_push_of_some _ q) (Nat.le_refl _) ?_,rfl,q _ (I.hok.fresh (Nat.le_refl _))⟩
 exact ⟨Nat.le_trans (vi xs lo hi) hz,_,(r.drop (HT.sIx xs.length 0 lo)).take (HT.sIx xs.length xs.length hi - HT.sIx xs.length 0 lo),fA.new _ _⟩
noncomputable def C4 (K:PySem.W.Frag):R2:=fun x y H Q=>∃ a b xs ys,x=.ref a/\y=.ref b/\SqT K H a xs/\SqT K H b ys/\xs≠[]/\xs.length + ys.length<=sizeLine/\
 (ys=[]->Q (.ref a) H)/\(ys≠[]->∀ p,H p=none->Q (.ref p) (upd H p (.tup (xs++ys))))
theorem aE.nil_iff {xs:List V} {us:List Value} (r:aE xs us):us=[]↔xs=[]:=by
 cases r with
 | nil=>simp
 | cons _ _=>simp
theorem AV:OpR X (binaryOp .Add) (C4 X.K):=by
 intro pins s σ H x y v u Q I rx ry h
 obtain ⟨a,b,xs,ys,rfl,rfl,ha,hb,hx,hz,q1,q2⟩:=h
 cases rx
 cases ry
 obtain ⟨its,r1,p1,_⟩:=I.tuple ha
 obtain ⟨its2,r2,p2,_⟩:=I.tuple hb
 refine HT.AS p1 p2 (fun z=>hx (r1.nil_iff.mp z)) (fun z=>⟨.ref a,H,I,rfl,q1 (r2.nil_iff.mp z)⟩) (fun z=>?_) (by rw [<-r1.length,<-r2.length]; exact hz)
 refine ⟨.ref s.heap.objs.size,_,I.laid (t':=s.toks) (o:=.tup (xs++ys)) (fun b ob q=>Heap.get?_push_of_some _ q) (Nat.le_refl _) ?_,rfl,q2 (fun w=>z (r2.nil_iff.mpr w)) _ (I.hok.fresh (Nat.le_refl _))⟩
 exact ⟨by rw [List.length_append]; exact hz,_,r1.append r2,fA.new _ _⟩
end
end L2
namespace L2
open PySem PySem.Spec PyProof.Rows
noncomputable def ixN (n:Nat) (i:Int):Option Nat:=if 0<=i then (if i < n then some i.toNat else none) else if -(n:Int)<=i then some (i + n).toNat else none
noncomputable def atI {α:Type} (xs:List α) (i:Int):Option α:=(ixN xs.length i).bind fun j=>xs[j]?
theorem wc {n:Nat} {i:Int} {j:Nat} (h:ixN n i=some j):seqIndex? i n=some j/\j < n/\-(n:Int)<=i/\i < n:=by
 unfold ixN at h
 by_cases h0:0<=i
 ·rw [if_pos h0] at h
  by_cases h1:i < n
  ·rw [if_pos h1] at h
   have e:i.toNat=j:=Option.some.inj h
   exact ⟨by rw [seqIndex_of h0 h1,e],by omega,by omega,h1⟩
  ·rw [if_neg h1] at h; cases h
 ·rw [if_neg h0] at h
  by_cases h1:-(n:Int)<=i
  ·rw [if_pos h1] at h
   have e:(i + n).toNat=j:=Option.some.inj h
   exact ⟨by rw [seqIndex_neg (by omega) h1,e],by omega,h1,by omega⟩
  ·rw [if_neg h1] at h; cases h
theorem nj {α:Type} {xs:List α} {i:Int} {v:α} (h:atI xs i=some v):∃ j,seqIndex? i xs.length=some j/\xs[j]?=some v/\j < xs.length/\-(xs.length:Int)<=i/\i < xs.length:=by
 unfold atI at h
 cases e:ixN xs.length i with
 | none=>rw [e] at h; cases h
 | some j=>
  rw [e] at h
  obtain ⟨h1,h2,h3,h4⟩:=wc e
  exact ⟨j,h1,h,h2,h3,h4⟩
theorem bG {α:Type} {xs:List α} {j:Nat} {v:α} (h:xs[j]?=some v):atI xs (j:Int)=some v:=by
 have hj:j < xs.length:=(List.getElem?_eq_some_iff.mp h).1
 have e:ixN xs.length (j:Int)=some j:=by
  unfold ixN
  rw [if_pos (by omega),if_pos (by omega)]; simp
 unfold atI; rw [e]; exact h
noncomputable def AW (b:Expr):Prop:=∀ o i,subscripted b false o i=operate [o,i] (getItem o i)
noncomputable def IxR (X:Cx) (r:R2):Prop:=
 ∀ (value slice:Expr) (pins:List (Addr×Obj)) (s:Shared) (σ:St) (H:Hp) (x y:V) (v u:Value) (Q:VK),Inv X pins σ H s->aM x v->aM y u->r x y H Q->
  subscripted slice false v u=operate [v,u] (getItem v u)->wpAny (model X.prog X.w) X.A (subscriptTail value slice v u) (EP X pins σ Q) X.xe s
noncomputable def MtR (X:Cx) (id:String) (r:V->List V->Hp->VK->Prop):Prop:=
 ∀ (pins:List (Addr×Obj)) (s:Shared) (σ:St) (H:Hp) (x:V) (xs:List V) (v:Value) (us:List Value) (Q:VK),Inv X pins σ H s->aM x v->aE xs us->r x xs H Q->
  wpAny (model X.prog X.w) X.A (call (.builtin id) (v :: us)) (EP X pins σ Q) X.xe s
section
variable {X:Cx} {a b:Expr} {ta tb:TE} {pos:Pos}
theorem aA {r:R2} (hr:IxR X r) (ha:PE X a ta) (hb:PE X b tb) (hs:AW b):PE X (.Subscript a b pos) (tOp r ta tb):=by
 intro pins s σ H Q I h
 exact Subscript_ (zg ha hb I h fun v u s2 x y H2 I2 rx ry q=>hr a b pins s2 σ H2 x y v u Q I2 rx ry q (hs _ _))
noncomputable def bE (K:PySem.W.Frag):R2:=fun x y H Q=>∃ p xs i v,x=.ref p/\y=.int i/\SqL K H p xs/\atI xs i=some v/\Q v H
noncomputable def cD (K:PySem.W.Frag):R2:=fun x y H Q=>∃ p xs i v,x=.ref p/\y=.int i/\SqT K H p xs/\atI xs i=some v/\Q v H
theorem aI:IxR X (bE X.K):=by
 intro value slice pins s σ H x y v u Q I rx ry h hs
 obtain ⟨p,xs,i,z,rfl,rfl,hq,he,q⟩:=h
 cases rx
 obtain ⟨t,rfl⟩:=ry
 obtain ⟨its,r,pl,hz⟩:=I.list hq
 obtain ⟨j,h1,h2,h3,h4,h5⟩:=nj he
 obtain ⟨w,ew,rw'⟩:=r.get h2
 have hl:=r.length
 have hn:=mt
 have fin:EP X pins σ Q w s:=⟨z,H,I,rw',q⟩
 by_cases h0:0<=i
 ·have hj:i.toNat=j:=by
   rw [seqIndex_of h0 h5] at h1
   exact Option.some.inj h1
  exact item_listR pl.isList h0 (by omega) (by rw [hj]; simpa using ew) fin hs
 ·have hj:(i + (its.toArray.size:Int)).toNat=j:=by
   rw [seqIndex_neg (by omega) h4] at h1
   rw [List.size_toArray,<-hl]
   exact Option.some.inj h1
  exact subscriptTail_builtinR (x:=w) pl.isList.typeIs slot_list_getitem.lookup
   (wpAny_getItem_list_neg (Q:=fun r s'=>r=w/\EP X pins σ Q r s') pl.isList (by omega) (by rw [List.size_toArray] <;> omega) (by omega) (by rw [hj]; simpa using ew) ⟨rfl,fin⟩) hs
theorem bC:IxR X (cD X.K):=by
 intro value slice pins s σ H x y v u Q I rx ry h hs
 obtain ⟨p,xs,i,z,rfl,rfl,hq,he,q⟩:=h
 cases rx
 obtain ⟨t,rfl⟩:=ry
 obtain ⟨its,r,pl,hz⟩:=I.tuple hq
 obtain ⟨j,h1,h2,h3,h4,h5⟩:=nj he
 obtain ⟨w,ew,rw'⟩:=r.get h2
 have hl:=r.length
 have hn:=mt
 have fin:EP X pins σ Q w s:=⟨z,H,I,rw',q⟩
 exact subscriptTail_builtinR (x:=w) pl.typeIs slot_tuple_getitem.lookup
  (getItem_tuple (j:=j) (Q:=fun r s'=>r=w/\EP X pins σ Q r s') pl (by omega) (by omega) (by rw [List.size_toArray,<-hl]; exact h1) (by simpa using ew) ⟨rfl,fin⟩) hs
theorem wN (its:List Value) (n j:Nat) (u:Value):Obj.mapSeq (·.setIfInBounds j u) { cls:=.type "list",data:=.seq its.toArray n }={ cls:=.type "list",data:=.seq (its.set j u).toArray n }:=by
 simp [Obj.mapSeq]
theorem Inv.lst {pins:List (Addr×Obj)} {σ:St} {H:Hp} {s:Shared} {p:Addr} {xs:List V} (I:Inv X pins σ H s) (h:H p=some (.lst xs)):
  ∃ (its:List Value) (n:Nat),aE xs its/\s.heap.get? p=some { cls:=.type "list",data:=.seq its.toArray n }/\xs.length<=sizeLine:=by
 obtain ⟨z,its,n,r,e⟩:=I.hok p _ h
 exact ⟨its,n,r,e,z⟩
theorem Inv.lstUpd {pins:List (Addr×Obj)} {σ:St} {H:Hp} {s:Shared} {p:Addr} {xs ys:List V} {its its':List Value} {n n':Nat} {f:Obj->Obj} (I:Inv X pins σ H s) (h:H p=some (.lst xs))
  (ho:s.heap.get? p=some { cls:=.type "list",data:=.seq its.toArray n }) (hf:f { cls:=.type "list",data:=.seq its.toArray n }={ cls:=.type "list",data:=.seq its'.toArray n' }) (r:aE ys its') (hz:ys.length<=sizeLine) (t:Nat):
  Inv X pins σ (upd H p (.lst ys)) { s with heap:=s.heap.update p f,toks:=t }:=by
 have e:(s.heap.update p f).get? p=some { cls:=.type "list",data:=.seq its'.toArray n' }:=by
  rw [Heap.get?_update_self f ho (by rw [hf] <;> rfl),hf]
 refine I.write (x:=p) (e:=p) (by rw [h]; trivial) (.inl rfl) (fun b u hb q=>(Heap.get?_update_other _ _ (Ne.symm hb)).trans q) ⟨_,e⟩ ?_
 exact ⟨hz,its',n',r,e⟩
noncomputable def iY:V->V->V->Hp->(Hp->Prop)->Prop:=fun o i v H Q=>∃ p xs k j,o=.ref p/\i=.int k/\H p=some (.lst xs)/\ixN xs.length k=some j/\Q (upd H p (.lst (xs.set j v)))
theorem gW:wE X iY:=by
 intro pins s σ H o i v ov iv u Q I ro ri rv h
 obtain ⟨p,xs,k,j,rfl,rfl,hp,hj,q⟩:=h
 cases ro
 obtain ⟨t,rfl⟩:=ri
 obtain ⟨its,n,r,ho,hz⟩:=I.lst hp
 obtain ⟨h1,h2,h3,h4⟩:=wc hj
 have hl:=r.length
 have hn:=mt
 have I':Inv X pins σ (upd H p (.lst (xs.set j v))) { s with heap:=s.heap.update p (Obj.mapSeq (·.setIfInBounds j u)) }:=
  I.lstUpd hp ho (wN its n j u) (r.set rv j) (by rw [List.length_set]; exact hz) s.toks
 by_cases h0:0<=k
 ·have hk:k.toNat=j:=by
   rw [seqIndex_of h0 h4] at h1
   exact Option.some.inj h1
  exact PySem.W.ki_setAt ho h0 (by omega) (by rw [List.size_toArray,<-hl]; exact h4) (by rw [hk]; exact ⟨_,I',q⟩)
 ·have hk:(k + (its.toArray.size:Int)).toNat=j:=by
   rw [seqIndex_neg (by omega) h3] at h1
   rw [List.size_toArray,<-hl]
   exact Option.some.inj h1
  exact PySem.W.ki_setBack ho (by omega) (by rw [List.size_toArray,<-hl]; exact h3) (by omega) (by rw [hk]; exact ⟨_,I',q⟩)
noncomputable def cP:V->Bool
 | .non=>true
 | .bl _=>true
 | .int _=>true
 | .str _=>true
 | _=>false
noncomputable def eqV:V->V->Bool
 | .non,.non=>true
 | .bl a,.bl b=>a == b
 | .bl a,.int b=>(if a then 1 else 0) == b
 | .int a,.bl b=>a == (if b then 1 else 0)
 | .int a,.int b=>a == b
 | .str a,.str b=>a == b
 | _,_=>false
theorem xZ {A:Around} {s:Shared} {y x:V} {u v:Value} (ry:aM y u) (rx:aM x v) (fy:cP y=true) (fx:cP x=true):SeqAt.EqAt A s u v (eqV y x):=by
 cases y with
 | non=>
  cases ry
  cases x with
  | non=>cases rx; exact SeqAt.EqAt.same _
  | bl b=>cases rx; exact SeqAt.EqAt.none_bool b
  | int b=>obtain ⟨t,rfl⟩:=rx; exact SeqAt.EqAt.none_int b t
  | str b=>obtain ⟨t,rfl⟩:=rx; exact SeqAt.EqAt.none_str b t
  | _=>exact absurd (show false=true from fx) Bool.false_ne_true
 | bl a=>
  cases ry
  cases x with
  | non=>cases rx; exact SeqAt.EqAt.bool_none a
  | bl b=>cases rx; exact SeqAt.EqAt.bool_bool a b
  | int b=>obtain ⟨t,rfl⟩:=rx; exact SeqAt.EqAt.bool_int a b t
  | str b=>obtain ⟨t,rfl⟩:=rx; exact SeqAt.EqAt.bool_str a b t
  | _=>exact absurd (show false=true from fx) Bool.false_ne_true
 | int a=>
  obtain ⟨t',rfl⟩:=ry
  cases x with
  | non=>cases rx; exact SeqAt.EqAt.int_none a t'
  | bl b=>cases rx; exact SeqAt.EqAt.int_bool a t' b
  | int b=>obtain ⟨t,rfl⟩:=rx; exact SeqAt.EqAt.int_int a t' b t
  | str b=>obtain ⟨t,rfl⟩:=rx; exact SeqAt.EqAt.int_str a t' b t
  | _=>exact absurd (show false=true from fx) Bool.false_ne_true
 | str a=>
  obtain ⟨t',rfl⟩:=ry
  cases x with
  | non=>cases rx; exact SeqAt.EqAt.str_none a t'
  | bl b=>cases rx; exact SeqAt.EqAt.str_bool a t' b
  | int b=>obtain ⟨t,rfl⟩:=rx; exact SeqAt.EqAt.str_int a t' b t
  | str b=>obtain ⟨t,rfl⟩:=rx; exact SeqAt.EqAt.str_str a t' b t
  | _=>exact absurd (show false=true from fx) Bool.false_ne_true
 | _=>exact absurd (show false=true from fy) Bool.false_ne_true
noncomputable def eqU (x:V) (u:Value):Bool:=match u with
 | .none=>eqV .non x
 | .bool b=>eqV (.bl b) x
 | .int i _=>eqV (.int i) x
 | .str z _=>eqV (.str z) x
 | _=>false
theorem tU {x y:V} {u:Value} (r:aM y u) (f:cP y=true):eqU x u=eqV y x:=by
 cases y with
 | non=>cases r; rfl
 | bl b=>cases r; rfl
 | int i=>obtain ⟨t,rfl⟩:=r; rfl
 | str z=>obtain ⟨t,rfl⟩:=r; rfl
 | _=>exact absurd (show false=true from f) Bool.false_ne_true
theorem kA {x:V}:∀ {xs:List V} {us:List Value},aE xs us->xs.all cP=true->us.any (eqU x)=xs.any fun y=>eqV y x
 | _,_,.nil,_=>rfl
 | y :: xs,u :: us,.cons r t,f=>by
  rw [List.all_cons,Bool.and_eq_true] at f
  rw [List.any_cons,List.any_cons,tU r f.1,kA t f.2]
theorem gX {A:Around} {s:Shared} {x:V} {v:Value} (rx:aM x v) (fx:cP x=true):∀ {xs:List V} {us:List Value},aE xs us->xs.all cP=true->∀ u∈us,SeqAt.EqAt A s u v (eqU x u)
 | _,_,.nil,_=>fun u hu=>by cases hu
 | y :: xs,u :: us,.cons r t,f=>fun u' hu=>by
  rw [List.all_cons,Bool.and_eq_true] at f
  rcases List.mem_cons.mp hu with rfl | hu
  ·rw [tU r f.1]; exact xZ r rx f.1 fx
  ·exact gX rx fx t f.2 u' hu
noncomputable def inV (x:V) (xs:List V):Bool:=xs.any fun y=>eqV y x
noncomputable def rIn (K:PySem.W.Frag) (neg:Bool):R2:=fun x y H Q=>∃ p xs,y=.ref p/\(SqL K H p xs\/SqT K H p xs)/\cP x=true/\xs.all cP=true/\Q (.bl (if neg then !inV x xs else inV x xs)) H
theorem rB:OpR X (compareOp .In) (rIn X.K false):=by
 intro pins s σ H x y v u Q I rx ry h
 obtain ⟨p,xs,rfl,hq,fx,fs,q⟩:=h
 cases ry
 rcases hq with hq | hq
 ·obtain ⟨its,r,pl,hz⟩:=I.list hq
  refine SeqAt.in_listAt (eqU x) pl.isList (fun w hw=>gX rx fx r fs w (by simpa using hw)) ⟨.bl _,H,I,rfl,?_⟩
  rw [show its.toArray.any (eqU x)=its.any (eqU x) by simp,kA r fs]
  exact q
 ·obtain ⟨its,r,pl,hz⟩:=I.tuple hq
  refine SeqAt.in_tupleAt (eqU x) pl (fun w hw=>gX rx fx r fs w (by simpa using hw)) ⟨.bl _,H,I,rfl,?_⟩
  rw [show its.toArray.any (eqU x)=its.any (eqU x) by simp,kA r fs]
  exact q
theorem fX:OpR X (compareOp .NotIn) (rIn X.K true):=by
 intro pins s σ H x y v u Q I rx ry h
 obtain ⟨p,xs,rfl,hq,fx,fs,q⟩:=h
 cases ry
 rcases hq with hq | hq
 ·obtain ⟨its,r,pl,hz⟩:=I.list hq
  refine SeqAt.notIn_listAt (eqU x) pl.isList (fun w hw=>gX rx fx r fs w (by simpa using hw)) ⟨.bl _,H,I,rfl,?_⟩
  rw [show its.toArray.any (eqU x)=its.any (eqU x) by simp,kA r fs]
  exact q
 ·obtain ⟨its,r,pl,hz⟩:=I.tuple hq
  refine SeqAt.notIn_tupleAt (eqU x) pl (fun w hw=>gX rx fx r fs w (by simpa using hw)) ⟨.bl _,H,I,rfl,?_⟩
  rw [show its.toArray.any (eqU x)=its.any (eqU x) by simp,kA r fs]
  exact q
theorem br:ee X (.builtin "len") (fun xs H Q=>∃ p ys,xs=[.ref p]/\(SqL X.K H p ys\/SqT X.K H p ys)/\Q (.int ys.length) H):=by
 intro pins s σ H xs us Q I r h
 obtain ⟨p,ys,rfl,hq,q⟩:=h
 obtain ⟨u,rfl,rx⟩:=ln r
 cases rx
 have hn:=mt
 rcases hq with hq | hq
 ·obtain ⟨its,r',pl,hz⟩:=I.list hq
  have hlen:=r'.length
  exact Calls.call_len_list pl.isList (by simp only [List.size_toArray] <;> omega) ⟨.int ys.length,H,I.tok _,⟨s.toks + 1,by rw [List.size_toArray,hlen]⟩,q⟩
 ·obtain ⟨its,r',pl,hz⟩:=I.tuple hq
  have hlen:=r'.length
  exact len_tuple pl (by simp only [List.size_toArray] <;> omega) ⟨.int ys.length,H,I.tok _,⟨s.toks + 1,by rw [List.size_toArray,hlen]⟩,q⟩
theorem lQ:ee X (.type "tuple") (fun xs H Q=>∃ p ys,xs=[.ref p]/\((SqL X.K H p ys/\∀ l,H l=none->Q (.ref l) (upd H l (.tup ys)))\/(SqT X.K H p ys/\Q (.ref p) H))):=by
 intro pins s σ H xs us Q I r h
 obtain ⟨p,ys,rfl,h⟩:=h
 obtain ⟨u,rfl,rx⟩:=ln r
 cases rx
 rcases h with ⟨hq,q⟩ | ⟨hq,q⟩
 ·obtain ⟨its,r',pl,hz⟩:=I.list hq
  have hlen:=r'.length
  refine call_tuple_list pl.isList (fun h' kp=>?_) (by simp only [List.size_toArray] <;> omega)
  have I1:Inv X pins σ H { s with heap:=h' }:=I.kept (t':=s.toks) kp
  have I2:Inv X pins σ (upd H h'.objs.size (.tup ys)) { s with heap:=h'.push { cls:=.type "tuple",data:=.seq its.toArray } }:=
   I1.laid (t':=s.toks) (fun b o e=>Heap.get?_push_of_some _ e) (Nat.le_refl _) (show bZ X.prog X.w _ _ _ (.tup ys) from ⟨hz,its,r',fA.new _ _⟩)
  exact ⟨.ref h'.objs.size,_,I2,rfl,q _ (I1.hok.fresh (Nat.le_refl _))⟩
 ·obtain ⟨its,r',pl,hz⟩:=I.tuple hq
  exact call_tuple_same pl ⟨.ref p,H,I,rfl,q⟩
noncomputable def tyV (K:PySem.W.Frag) (T:String) (x:V) (H:Hp):Prop:=match x with
 | .str _=>T="str"
 | .int _=>T="int"
 | .ref p=>(T="list"/\∃ xs,SqL K H p xs)\/(T="tuple"/\∃ o,K.lookup p=some o/\o.cls=.type "tuple"/\o.dict=none)\/
   (T="dict"/\((∃ kvs,H p=some (.dK kvs))\/∃ kvs,H p=some (.dT kvs)))\/(T="set"/\∃ S n,H p=some (.set S n))
 | _=>False
theorem BS {pins:List (Addr×Obj)} {σ:St} {H:Hp} {s:Shared} {T:String} {x:V} {v:Value} (I:Inv X pins σ H s) (r:aM x v) (ty:tyV X.K T x H):
  s.TypeIs v T/\∀ a,v=.ref a->∃ ob,s.heap.get? a=some ob/\ob.dict=none:=by
 cases x with
 | str z=>
  obtain ⟨t,rfl⟩:=r
  cases (show T="str" from ty)
  exact ⟨typeIs_str s z t,fun _ e=>nomatch e⟩
 | int i=>
  obtain ⟨t,rfl⟩:=r
  cases (show T="int" from ty)
  exact ⟨typeIs_int s i t,fun _ e=>nomatch e⟩
 | ref p=>
  cases r
  rcases ty with ⟨rfl,xs,hq⟩ | ⟨rfl,o,hk,hc,hd⟩ | ⟨rfl,hk⟩ | ⟨rfl,S,n,hk⟩
  ·obtain ⟨its,_,pl,_⟩:=I.list hq
   refine ⟨pl.isList.typeIs,fun a e=>?_⟩
   cases e
   obtain ⟨o,n,e,c,hd,_⟩:=pl
   exact ⟨o,e,hd⟩
  ·refine ⟨⟨o,I.kIn p o hk,hc⟩,fun a e=>?_⟩
   cases e
   exact ⟨o,I.kIn _ o hk,hd⟩
  ·have z:∃ o,s.heap.get? p=some o/\o.ExactDict:=by
    rcases hk with ⟨kvs,hk⟩ | ⟨kvs,hk⟩
    ·obtain ⟨_,_,_,_,o,_,_,e,ex,_⟩:=I.hok p _ hk
     exact ⟨o,e,ex⟩
    ·obtain ⟨_,_,_,_,o,_,_,e,ex,_⟩:=I.hok p _ hk
     exact ⟨o,e,ex⟩
   obtain ⟨o,e,ex⟩:=z
   refine ⟨⟨o,e,ex.1⟩,fun a e2=>?_⟩
   cases e2
   exact ⟨o,e,ex.2.1⟩
  ·obtain ⟨o,_,_,_,e,ex,_⟩:=I.hok p _ hk
   refine ⟨⟨o,e,ex.1⟩,fun a e2=>?_⟩
   cases e2
   exact ⟨o,e,ex.2.1⟩
 | _=>exact False.elim ty
noncomputable def DE (K:PySem.W.Frag) (T:String) (r:V->List V->Hp->VK->Prop) (to:TE):TE:=fun σ H Q=>to σ H fun x H1=>tyV K T x H1/\r x [] H1 Q
noncomputable def tBM (K:PySem.W.Frag) (T:String) (r:V->List V->Hp->VK->Prop) (to:TE) (t:TA):TE:=fun σ H Q=>to σ H fun x H1=>tyV K T x H1/\t σ H1 fun xs H2=>r x xs H2 Q
variable {o e:Expr} {es:List Expr} {to:TE} {t:TA} {name:Str} {apos cpos:Pos} {T id:String} {r:V->List V->Hp->VK->Prop}
theorem ic (pa:PlainAttrs T) (slot:Slot T name id) (hty:typeOf (.builtin id)=pure (.type "method_descriptor")) (hm:MtR X id r) (ho:PE X o to) (ha:PA X (e :: es) t)
  (hbase:attributeBase o name X.env (eval o X.env)=eval o X.env:=by rfl)
  (hfew:((backTo cpos (starEach (e :: es) X.env)).all (fun x=>!x.1) && (backToKw cpos (keywordEach [] X.env)).all (fun x=>x.1.isSome)
   && decide ((e :: es).length + ([]:List Keyword).length + (if ([]:List Keyword).isEmpty then 0 else 1) < 30))=true:=by rfl)
  (hline:(apos.endLine == cpos.line)=true:=by rfl) (hs:starEach (e :: es) X.env=(false,eval e X.env) :: starEach es X.env:=by rfl) (hplain:(backTo cpos (starEach es X.env)).any (·.1)=false:=by rfl):
  PE X (.Call (.Attribute o name apos) (e :: es) [] cpos) (tBM X.K T r to t):=by
 intro pins s σ H Q I h
 refine wpAny_Call_method_late hbase hfew hline rfl (thn (ho pins s σ H _ I h) fun v s1 ⟨x,H1,I1,r1,ty,q1⟩=>?_)
 obtain ⟨h1,h2⟩:=BS I1 r1 ty
 refine ⟨T,id,pa,slot,hty,h1,h2,?_⟩
 have hA:=ha cpos pins s1 σ H1 _ I1 q1
 rw [hs] at hA ⊢
 refine Calls.callWith_builtin (by show (false || (backTo cpos (starEach es X.env)).any (·.1))=false; rw [hplain] <;> rfl) (Calls.evalArgs_plain ?_)
 exact thn hA fun us s2 ⟨vs,H2,I2,r2,q2⟩=>hm pins s2 σ H2 x vs v us Q I2 r1 r2 q2
end
end L2
namespace L2
open PySem PySem.Spec PyProof.Rows
noncomputable def MtM (X:Cx) (id:String) (r:V->List V->Hp->VK->Prop):Prop:=
 ∀ (pins:List (Addr×Obj)) (s:Shared) (σ:St) (H:Hp) (x:V) (xs:List V) (v:Value) (us:List Value) (Q:VK),Inv X pins σ H s->aM x v->aE xs us->r x xs H Q->
  wpAny (model X.prog X.w) X.A (call (.builtin id) (v :: us)) (EP X pins σ Q) X.xe s
theorem aE.one {x:V} {us:List Value} (h:aE [x] us):∃ u,us=[u]/\aM x u:=by
 cases h with
 | cons r t=>cases t; exact ⟨_,rfl,r⟩
theorem aE.two {x y:V} {us:List Value} (h:aE [x,y] us):∃ u v,us=[u,v]/\aM x u/\aM y v:=by
 cases h with
 | cons r t=>cases t with
  | cons q z=>cases z; exact ⟨_,_,rfl,r,q⟩
theorem aE.rep {xs:List V} {us:List Value} (h:aE xs us):∀ k:Nat,aE (List.replicate k xs).flatten (List.replicate k us).flatten
 | 0=>.nil
 | k + 1=>by
  rw [List.replicate_succ,List.replicate_succ,List.flatten_cons,List.flatten_cons]
  exact aE.append h (aE.rep h k)
theorem rC (its:List Value):∀ (k:Nat) (acc:List Value),
  List.foldl (fun x1 x2=>x1++x2) acc.toArray (List.replicate k its.toArray)=(acc++(List.replicate k its).flatten).toArray
 | 0,acc=>by simp
 | k + 1,acc=>by
  have e:acc.toArray++its.toArray=(acc++its).toArray:=by simp
  have e2:(acc++its)++(List.replicate k its).flatten=acc++(List.replicate (k + 1) its).flatten:=by
   rw [List.replicate_succ,List.flatten_cons,List.append_assoc]
  rw [<-e2,<-rC its k (acc++its),<-e,List.replicate_succ,List.foldl_cons]
section
variable {X:Cx} {pins:List (Addr×Obj)} {σ:St} {H:Hp} {s:Shared} {l b:Addr} {xs ys zs:List V}
theorem Inv.lset {its its':List Value} {n:Nat} {f:Array Value->Array Value} {t':Nat} (I:Inv X pins σ H s) (hH:H l=some (.lst xs))
  (e:s.heap.get? l=some { cls:=.type "list",data:=.seq its.toArray n }) (hf:f its.toArray=its'.toArray) (hv:aE ys its') (hz:ys.length<=sizeLine):
  Inv X pins σ (upd H l (.lst ys)) { s with heap:=s.heap.update l (Obj.mapSeq f),toks:=t' }:=by
 have q:=PySem.IsL.update e f
 rw [hf] at q
 refine I.write (x:=l) (e:=l) (by rw [hH]; exact trivial) (.inl rfl) (fun b' u hb hu=>(Heap.get?_update_other s.heap (Obj.mapSeq f) (Ne.symm hb)).trans hu) ⟨_,q⟩ ?_
 exact ⟨hz,its',_,hv,q⟩
theorem Inv.lnew {its:List Value} {t':Nat} (I:Inv X pins σ H s) (hv:aE ys its) (hz:ys.length<=sizeLine):
  Inv X pins σ (upd H s.heap.objs.size (.lst ys)) { s with heap:=s.heap.push { cls:=.type "list",data:=.seq its.toArray },toks:=t' }:=
 I.laid (fun _ _ q=>Heap.get?_push_of_some _ q) (Nat.le_refl _) ⟨hz,its,0,hv,Heap.get?_push_size _ rfl⟩
theorem Inv.fresh (I:Inv X pins σ H s):H s.heap.objs.size=none:=I.hok.fresh (Nat.le_refl _)
theorem Inv.lstM (I:Inv X pins σ H s) (hH:H l=some (.lst xs)):xs.length<=sizeLine/\∃ (its:List Value) (n:Nat),aE xs its/\xs.length=its.length/\s.heap.get? l=some { cls:=.type "list",data:=.seq its.toArray n }:=by
 obtain ⟨z,its,n,r,e⟩:=I.hok l _ hH
 exact ⟨z,its,n,r,r.length,e⟩
theorem zm {n:Nat} (h:n<=sizeLine):Builtin.List.listTooLong n=false:=by
 unfold Builtin.List.listTooLong
 exact decide_eq_false (by omega)
end
section
variable {X:Cx}
noncomputable def eo:V->List V->Hp->VK->Prop:=fun x vs H Q=>∃ l xs y,x=.ref l/\vs=[y]/\H l=some (.lst xs)/\xs.length < sizeLine/\Q .non (upd H l (.lst (xs++[y])))
theorem dt:MtM X "list.append" eo:=by
 intro pins s σ H x vs v us Q I rx rv h
 obtain ⟨l,xs,y,rfl,rfl,hH,hz,q⟩:=h
 cases rx
 obtain ⟨u,rfl,ru⟩:=rv.one
 obtain ⟨z,its,n,r,hl,e⟩:=I.lstM hH
 refine call_meets F.slot_list_append ⟨_,e,rfl⟩ F.entry_list_append (F.args_list_append_2 _ _) (PySem.list_append l its.toArray n u (by rw [List.size_toArray]; omega)) ⟨e,?_⟩
 refine ⟨.non,_,I.lset (its':=its++[u]) hH e (by simp) (r.append (.cons ru .nil)) ?_,rfl,q⟩
 rw [List.length_append,List.length_singleton]
 omega
noncomputable def BT:R2:=fun x y H Q=>∃ l b xs zs,x=.ref l/\y=.ref b/\H l=some (.lst xs)/\H b=some (.lst zs)/\xs.length + zs.length<=sizeLine/\∀ p,H p=none->Q (.ref p) (upd H p (.lst (xs++zs)))
theorem x0:OpR X (binaryOp .Add) BT:=by
 intro pins s σ H x y v u Q I rx ry h
 obtain ⟨l,b,xs,zs,rfl,rfl,hH,hB,hz,q⟩:=h
 cases rx
 cases ry
 obtain ⟨z,its,n,r,hl,e⟩:=I.lstM hH
 obtain ⟨z2,its2,n2,r2,hl2,e2⟩:=I.lstM hB
 refine PySem.P.add_list e e2 ?_ (by rw [List.size_toArray,List.size_toArray]; omega)
 have ea:its.toArray++its2.toArray=(its++its2).toArray:=by simp
 rw [ea]
 exact ⟨.ref _,_,I.lnew (t':=s.toks) (r.append r2) (by rw [List.length_append]; omega),rfl,q _ I.fresh⟩
noncomputable def DF:R2:=fun x y H Q=>∃ l k xs,x=.ref l/\y=.int k/\H l=some (.lst xs)/\-(2 ^ 63)<=k/\k < 2 ^ 63/\xs.length * k.toNat<=sizeLine/\
 ∀ p,H p=none->Q (.ref p) (upd H p (.lst (List.replicate k.toNat xs).flatten))
theorem AX {α:Type} (xs:List α) (k:Nat):(List.replicate k xs).flatten.length=k * xs.length:=by
 induction k with
 | zero=>simp
 | succ k ih=>rw [List.replicate_succ,List.flatten_cons,List.length_append,ih,Nat.succ_mul,Nat.add_comm]
theorem BU:OpR X (binaryOp .Mult) DF:=by
 intro pins s σ H x y v u Q I rx ry h
 obtain ⟨l,k,xs,rfl,rfl,hH,h1,h2,hz,q⟩:=h
 cases rx
 obtain ⟨t,rfl⟩:=ry
 obtain ⟨z,its,n,r,hl,e⟩:=I.lstM hH
 have hlen:its.toArray.size * k.toNat<=sizeLine:=by rw [List.size_toArray,<-hl]; exact hz
 have hcap:¬ its.toArray.size * k.toNat > (2 ^ 63 - 1) / 8:=by
  have:(sizeLine:Nat)<=(2 ^ 63 - 1) / 8:=by decide
  omega
 have hfit:¬ (!Builtin.List.listFitsIndex k)=true:=by
  rw [fitsIndex_both h1 h2]
  exact Bool.false_ne_true
 have hlong:¬ Builtin.List.listTooLong (its.toArray.size * k.toNat)=true:=by
  rw [zm hlen]
  exact Bool.false_ne_true
 have hnew:List.foldl (fun x1 x2=>x1++x2) #[] (List.replicate (if its.toArray.isEmpty=true then 0 else k.toNat) its.toArray)=(List.replicate k.toNat its).flatten.toArray:=by
  have f0:∀ m:Nat,List.foldl (fun x1 x2=>x1++x2) #[] (List.replicate m its.toArray)=(List.replicate m its).flatten.toArray:=fun m=>by
   have:=rC its m []
   rw [List.nil_append] at this
   exact this
  rw [f0]
  cases its with
  | nil=>simp
  | cons a r'=>rw [if_neg (by simp)]
 refine wpAny_binaryOp_repeat_ref (T:="list") (U:="int") (by decide) ⟨_,e,rfl⟩ (fun s'=>typeIs_int s' k t) noFill_list_mul F.fills_int_mul F.slot_int_rmul repeat_list F.slot_int_index.lookup
  (call_meets F.slot_int_rmul (typeIs_int s k t) F.entry_int_rmul (F.args_int_rmul_2 _ _) (int___rmul___int_list k t l its.toArray n)
   ⟨e,rfl,⟨_,e,rfl⟩,call_meets F.slot_list_mul ⟨_,e,rfl⟩ F.entry_list_mul (F.args_list_mul_2 _ _) (AutoListH.list___mul___list_int_3 l its.toArray n k t hfit hcap hlong) ⟨e,?_⟩⟩)
 rw [hnew]
 exact ⟨.ref _,_,I.lnew (t':=s.toks) (r.rep k.toNat) (by rw [AX,Nat.mul_comm]; exact hz),rfl,q _ I.fresh⟩
end
section
variable {prog:Program} {w:World} {A:Around} {E:Value->Shared->Prop} {s:Shared}
end
section
variable {X:Cx}
end
end L2
namespace Att
open PySem PySem.W PySem.Calls PyProof.Rows
theorem oN {P:Params} {h:Heap}:∀ (ns:List Int) (vs:List Value),WellAll P h vs (ns.map WData.int)->IntsAre vs ns:=by
 intro ns
 induction ns with
 | nil=>
  intro vs w
  rw [List.map_nil] at w
  cases w
  exact .nil
 | cons n ns ih=>
  intro vs w
  rw [List.map_cons] at w
  cases w with
  | cons a b=>
   cases a
   exact .cons _ _ (ih _ b)
theorem rD {l:OpenLaw} {n:Nat} (hn:l.most=some n) {P:Params} {h:Heap} {args:List WData} {vals:List Value}
  (hpre:l.row.toRowW.claim.pre args=true) (hwl:WellAll P h vals args):
  ∃ a vs ns,vals=[Value.ref a]/\args=[WData.list (ns.map WData.int)]/\h.get? a=some { cls:=.type "list",data:=.seq vs.toArray }/\IntsAre vs ns/\ns.length<=n:=by
 have hsh:WShape.hasAll [] args [.list .int]=true:=(pre_splitW hpre).1
 have hc:l.pre.holds [] { args:=args }=true:=(pre_splitW hpre).2
 obtain ⟨d,r,rfl,h1,h2⟩:=hasAllW_cons hsh
 obtain rfl:=hasAllW_nil h2
 obtain ⟨xs,rfl,h3⟩:=hasW_list h1
 obtain ⟨ns,rfl⟩:=items_int h3
 have hlen:ns.length<=n:=by
  unfold OpenLaw.pre at hc
  have h4:(WTm.not (.lt (.lit (.int (n:Int))) (.len (.arg 0)))).holds [] { args:=[.list (ns.map .int)] }=true:=by
   have h4:=(holds_andW hc).1
   rw [hn] at h4
   exact h4
  have h5:=condW_of h4 (w_not (w_lt w_lit (w_len_list (w_arg rfl))))
  rw [List.length_map] at h5
  refine Nat.le_of_not_lt fun q=>?_
  have q':(n:Int) < ((ns.length:Nat):Int):=by omega
  first
   | (rw [decide_eq_true q'] at h5; exact absurd h5 (by decide))
   | (simp at h5; omega)
 cases hwl with
 | cons w1 w2=>
  cases w2
  cases w1 with
  | list ho hall=>exact ⟨_,_,ns,rfl,rfl,ho,oN ns _ hall,hlen⟩
theorem rE (l:OpenLaw) (args:List WData):l.row.toRowW.claim.post args (.bool true) args=true:=
 postW_of (r:=l.row.toRowW) (X:=(true == true))
  (show WShape.has [] (.bool true) .bool=true by first | rfl | decide | simp [WShape.has,WShape.arms,WShape.armsAll])
  (show (WTm.eq .res (.lit (.bool true))).value [] { args:=args,res:=some (.bool true),after:=args }=some (.bool (true == true)) from w_eq_bool (w_res rfl) w_lit) rfl
theorem vj {l:OpenLaw} {n:Nat} {q:Program} {loose:List Str} {XP:(Str->Option Value)->Heap->Prop} {YP:World->Heap->Prop} {d:DefRec}
  (hn:l.most=some n) (hdf:d.params.defaults=[])
  (call:∀ (w:World) (s₀ s₁:Shared) (mg mb:Str->Option Value) (fa:Addr) (o:Obj) (pm cd doc:Value) (a:Addr) (vs:List Value) (ns:List Int),
   Ground q loose [] XP w s₀ mg mb s₁.heap->YP w s₁.heap->
   s₁.heap.get? fa=some o->o.data=.func (docDef d.name d.params d.body d.scope pm cd doc)->s₁.heap.CodeRec cd d.name->mg d.name=some (.ref fa)->
   s₁.heap.get? a=some { cls:=.type "list",data:=.seq vs.toArray }->IntsAre vs ns->ns.length<=n->s₁.gens=#[]->
   codeAny (model l.prog w) callerA (.call (.ref fa) ⟨[.ref a],[]⟩) (fun r s'=>r=.ok (.ret (.bool true))/\OldK s₁.heap s'.heap/\s'.os=s₁.os/\AllBare s'.gens) s₁):
  WalkO q loose XP YP l.row.toRowW d [] (fun f vs=>PySem.call f vs):=by
 intro w s₀ s₁ mg mb G Y fa o pm cd doc dV kV ho hd hcd hD hmg hg args vals as hpre hlay hrd hwl hlo
 obtain rfl:dV=.none:=Dflts.none hD hdf
 obtain rfl:kV=.none:=Dflts.noKw hD
 obtain ⟨a,vs,ns,rfl,rfl,hobj,hints,hlen⟩:=rD hn hpre hwl
 refine enter_call (codeAny_mono (call w s₀ s₁ mg mb fa o pm cd doc a vs ns G Y ho (fd_plain hd) hcd hmg hobj hints hlen hg) fun r s' hq=>?_)
 obtain ⟨rfl,h2,h3,h4⟩:=hq
 exact ⟨.inl ⟨.bool true,.bool true,[],rfl,fun _=>rfl,.bool true,rE l _,fun _=>⟨List.Pairwise.nil,fun _ hm=>(nomatch hm)⟩⟩,h2,h3,h4⟩
section
variable {prog:Program} {w:World} {A:Around} {E:Value->Shared->Prop} {s:Shared} {K:Frag}
noncomputable def DW (h:Heap) (L d:Addr):List (Addr×Obj):=(List.range h.objs.size).filterMap fun a=>if a=L\/a=d then none else (h.get? a).map fun o=>(a,o)
end
end Att
namespace L2
open PySem PySem.Spec PyProof.Rows
theorem mw:∀ {vs:List Value} {ns:List Int},IntsAre vs ns->aE (ns.map V.int) vs
 | _,_,.nil=>.nil
 | _,_,.cons n t h=>.cons ⟨t,rfl⟩ (mw h)
noncomputable def zn (H:Hp):Prop:=∀ b,H b=none\/∃ o xs,H b=some (.frz o (.lst xs))
theorem zo {P:Program} {w:World} {K:PySem.W.Frag} {mg mb:Str->Option Value} {CX:CXT} {k:Nat} {fa a:Addr} {fd:FuncData} {x:Str} {sp:Sp} {s₁:Shared} {vs:List Value} {ns:List Int}
  (KX:K.In s₁.heap) (hns:s₁.heap.Ns mainGlobals mg) (hb:s₁.heap.Ns builtinsNs mb) (hbb:∀ x:Str,x≠"__name__"->mb x=bootBuiltins x) (hlim:s₁.heap.NoLimit) (hg:s₁.gens=#[])
  (ha:s₁.heap.get? a=some { cls:=.type "list",data:=.seq vs.toArray }) (hi:IntsAre vs ns) (hl:ns.length<=sizeLine) (hr:dG k callerA)
  (F:∀ base:Heap,K.In base->base.Ns mainGlobals mg->iL P w K mg base CX k fa fd [x] sp) (hbind:∀ (s:Shared) (u:Value),BindsTo s fd ⟨[u],[]⟩ [(x,u)])
  (hsp:∀ H:Hp,zn H->SqL K H a (ns.map V.int)->sp [.ref a] H (fun v _=>v=.bl true) fun _ _ _=>False)
  (hCX:∀ H e s',CX [] H s₁ (fun _ _ _=>False) e s'->False):
  codeAny (model P w) callerA (.call (.ref fa) ⟨[.ref a],[]⟩) (fun r s'=>r=.ok (.ret (.bool true))/\OldK s₁.heap s'.heap/\s'.os=s₁.os/\AllBare s'.gens) s₁:=by
 have rv:=mw hi
 have lenV:=hi.length
 have core:∀ H:Hp,zn H->SqL K H a (ns.map V.int)->HOk P w H s₁.heap->(∀ b,H b≠none->b=a)->(H a≠none->K.lookup a=none)->
   codeAny (model P w) callerA (.call (.ref fa) ⟨[.ref a],[]⟩) (fun r s'=>r=.ok (.ret (.bool true))/\OldK s₁.heap s'.heap/\s'.os=s₁.os/\AllBare s'.gens) s₁:=by
  intro H hO hS hok hA hK
  have base_of:∀ {b:Addr} {o:Obj},s₁.heap.get? b=some o->H b=none->(h7 s₁.heap H).get? b=some o:=fun e n=>ll e n
  have noA:∀ {b:Addr} {o:Obj} {es:Array DictEntry} {ep:Nat},s₁.heap.get? b=some o->o.data=.dict es ep->H b=none:=fun {b o es ep} e d=>by
   cases q:H b with
   | none=>rfl
   | some u=>
    have e':b=a:=hA b (by rw [q]; simp)
    subst e'
    rw [ha] at e; cases e
    have d':Data.seq vs.toArray _=Data.dict es ep:=d
    cases d'
  have nsK:∀ {b:Addr} {m:Str->Option Value},s₁.heap.Ns b m->(h7 s₁.heap H).Ns b m:=fun {b m} ⟨o,es,ep,e,d,r⟩=>⟨o,es,ep,base_of e (noA e d),d,r⟩
  have hKb:K.In (h7 s₁.heap H):=fun b o e=>base_of (KX b o e) (by
   cases q:H b with
   | none=>rfl
   | some u=>
    have e':b=a:=hA b (by rw [q]; simp)
    subst e'
    rw [hK (by rw [q]; simp)] at e; cases e)
  have hM:Mod K mg (h7 s₁.heap H):=⟨hKb,nsK hns,⟨mb,nsK hb,hbb⟩,let ⟨mc,h1,h2⟩:=hlim; ⟨mc,nsK h1,h2⟩⟩
  have e0:tR P w K mg (h7 s₁.heap H) callerA [] s₁ H:=⟨rfl,hM,fun b o e=>vY e,Nat.le_of_eq (rj _ _),trivial,fun b hb=>absurd (show b∈([]:List Addr) from hb) (by simp),hok,.of_eq hg⟩
  refine codeAny_mono ((F _ hKb (nsK hns)).run callerA [] s₁ H ⟨[.ref a],[]⟩ [.ref a] [.ref a] _ _ hr e0 (hbind s₁ (.ref a)) (.cons rfl .nil) (hsp H hO hS)) fun r s' h=>?_
  cases r with
  | error e=>exact (hCX H e s' h).elim
  | ok fl=>
   cases fl with
   | next=>exact False.elim h
   | brk=>exact False.elim h
   | cont=>exact False.elim h
   | ret u=>
    obtain ⟨v,H',os,bare,un,hok',r',q⟩:=h
    have q':v=.bl true:=q
    subst q'
    obtain rfl:u=Value.bool true:=r'
    refine ⟨rfl,OldK.of_keep fun b o e=>?_,os,bare⟩
    cases q:H b with
    | none=>exact un.keep b o e q (by intro z; exact absurd (show b∈([]:List Addr) from z) (by simp)) (by simp)
    | some u=>
     rcases hO b with z | ⟨ob,xs,z⟩
     ·rw [q] at z; cases z
     ·have z2:=un.frzs b ob _ z
      obtain ⟨e1,_⟩:=hok b _ z
      obtain ⟨e2,_⟩:=hok' b _ z2
      rw [e] at e1; cases e1
      exact e2
 cases hk:K.lookup a with
 | some o=>
  have e:=KX a o hk
  rw [ha] at e
  cases e
  refine core (fun _=>none) (fun _=>.inl rfl) (.inr ⟨_,vs.toArray,_,hk,rfl,rfl,rfl,by rw [List.size_toArray,lenV]; exact hl,by simpa using rv⟩) (fun b u z=>by have z':(none:Option HO)=some u:=z; cases z') (fun b z=>absurd rfl z) fun z=>absurd rfl z
 | none=>
  refine core (fun b=>if b=a then some (.frz { cls:=.type "list",data:=.seq vs.toArray } (.lst (ns.map V.int))) else none) (fun b=>?_) (.inl (.inr ⟨{ cls:=.type "list",data:=.seq vs.toArray },if_pos rfl⟩)) (fun b u z=>?_) (fun b z=>?_) fun _=>hk
  ·by_cases hb:b=a
   ·exact .inr ⟨_,_,if_pos hb⟩
   ·exact .inl (if_neg hb)
  ·by_cases hb:b=a
   ·have z':=(if_pos hb).symm.trans z
    cases z'
    subst hb
    exact ⟨ha,by rw [List.length_map]; exact hl,vs,_,rv,ha⟩
   ·have z':=(if_neg hb).symm.trans z
    cases z'
  ·by_cases hb:b=a
   ·exact hb
   ·exact absurd (if_neg hb) z
end L2
namespace L2
open PySem PySem.Spec PyProof.Rows
noncomputable abbrev KOf {K:PySem.W.Frag} {h:Heap} (_:K.In h):PySem.W.Frag:=K
theorem DU {l:PySem.W.OpenLaw} {n k:Nat} {q:Program} {loose:List Str} {XP:(Str->Option Value)->Heap->Prop} {YP:World->Heap->Prop} {d:DefRec} {K:Params->PySem.W.Frag} {CX:World->CXT} {sp:World->Sp} {x:Str}
  (hn:l.most=some n) (hn2:n<=sizeLine) (hdf:d.params.defaults=[]) (hr:dG k callerA)
  (hY:∀ (w:World) (h:Heap),YP w h->(K w.params).In h)
  (F:∀ (w:World) (mg:Str->Option Value) (fa:Addr) (h:Heap),(K w.params).In h->h.Ns mainGlobals mg->mg d.name=some (.ref fa)->
   ∃ fd:FuncData,(∀ (s:Shared) (u:Value),BindsTo s fd ⟨[u],[]⟩ [(x,u)])/\
    ∀ base:Heap,(K w.params).In base->base.Ns mainGlobals mg->iL l.prog w (K w.params) mg base (CX w) k fa fd [x] (sp w))
  (hsp:∀ (w:World) (H:Hp) (a:Addr) (ns:List Int),ns.length<=n->zn H->SqL (K w.params) H a (ns.map V.int)->sp w [.ref a] H (fun v _=>v=.bl true) fun _ _ _=>False)
  (hCX:∀ (w:World) (H:Hp) (s:Shared) (e:Value) (s':Shared),CX w [] H s (fun _ _ _=>False) e s'->False):
  PySem.W.WalkO q loose XP YP l.row.toRowW d [] (fun f vs=>PySem.call f vs):=by
 refine Att.vj hn hdf fun w s₀ s₁ mg mb fa o pm cd doc a vs ns G Y ho hd hcd hmg hobj hints hlen hg=>?_
 have KX:=hY w _ Y
 obtain ⟨fd,hb,hF⟩:=F w mg fa _ KX G.T.g hmg
 exact zo KX G.T.g G.T.b G.T.builtins G.T.nolimit hg hobj hints (Nat.le_trans hlen hn2) hr hF hb (fun H hO hS=>hsp w H a ns hlen hO hS) fun H e s'=>hCX w H s₁ e s'
end L2
namespace L2
open PySem PySem.Spec PyProof.Rows
noncomputable def aH (s:Stmt):Arguments:=match s with
 | .FunctionDef _ a _ _ _ _ _ _ _ _=>a
 | _=>{ posonlyargs:=[],args:=[],vararg:=none,kwonlyargs:=[],kw_defaults:=[],kwarg:=none,defaults:=[] }
noncomputable def aD (s:Stmt):List Stmt:=match s with
 | .FunctionDef _ _ b _ _ _ _ _ _ _=>b
 | _=>[]
noncomputable def aa (s:Stmt):Scope:=match s with
 | .FunctionDef _ _ _ _ _ _ sc _ _ _=>sc
 | _=>{ kind:=.function,names:=[],isGenerator:=false,isCoroutine:=false }
noncomputable abbrev CX0:CXT:=fun _ _ _ _ _ _=>False
noncomputable abbrev E0:XK:=fun _ _ _=>False
theorem C5 {X:Cx}:tS CX0 X E0:=fun _ _ _ _ _ _ _ h=>h.elim
structure Fun (K:PySem.W.Frag) (x qual:Str) (st:Stmt) (f:Addr) (fd:FuncData):Prop where
 ex:∃ (oc:Value) (od:Option Addr) (kV doc pm:Value) (an:Option Addr) (cdv ct:Value) (osl:Array (Option Value)),
  fd=PySem.W.fnOf x qual (aH st) (aD st) (aa st) .none kV doc pm an cdv ct/\K.lookup f=some ⟨oc,od,.func fd,osl⟩/\PySem.W.codeIn K cdv qual=true
 kp:PySem.W.keepIn K (.ref f)=true
section
variable {P:Program} {w:World} {K:PySem.W.Frag} {mg:Str->Option Value} {base:Heap}
theorem Fun.ok {x qual:Str} {st:Stmt} {f:Addr} {fd:FuncData} {N ps:List Str} {k:Nat} {sp:Sp} (F:Fun K x qual st f fd) (S:aG N ps (aa st)) (len:∀ vs H Q E,sp vs H Q E->vs.length=ps.length)
  (hbody:∀ (cdv:Value) (A:Around) (outer:List Env) (s:Shared) (H:Hp) (vs:List V) (Q:VK) (E:XK),dG k (A.deeper (envOfC qual (aa st) s.heap.objs.size f cdv))->sp vs H Q E->
   ∃ t,PSs (lq CX0 P w K mg base N qual (aa st) f cdv A outer s H E).nox (aD st) t/\t { nx:=fun _ H'=>Q .non H',rt:=Q } (start N vs) H):iL P w K mg base CX0 (k + 1) f fd ps sp:=by
 obtain ⟨oc,od,kV,doc,pm,an,cdv,ct,osl,rfl,lk,hcd⟩:=F.ex
 refine Ay lk hcd S len fun A outer s H vs Q E hr hsp=>?_
 obtain ⟨t,h,q⟩:=hbody cdv A outer s H vs Q E hr hsp
 exact ⟨t,h.nox,q⟩
theorem Fun.binds {x qual:Str} {st:Stmt} {f:Addr} {fd:FuncData} {ps:List Str} (F:Fun K x qual st f fd)
  (h:∀ (kV doc pm:Value) (an:Option Addr) (cdv ct:Value) (us:List Value),us.length=ps.length->bindArgs (PySem.W.fnOf x qual (aH st) (aD st) (aa st) .none kV doc pm an cdv ct) ⟨us,[]⟩=pure (ps.zip us)):lp K fd ps []:=by
 obtain ⟨oc,od,kV,doc,pm,an,cdv,ct,osl,rfl,lk,hcd⟩:=F.ex
 exact .all (h kV doc pm an cdv ct)
theorem aX {x qual:Str} {st:Stmt} {f:Addr} {oc:Value} {od an:Option Addr} {osl:Array (Option Value)} {kV doc pm cdv ct:Value} (l:K.lookup f=some ⟨oc,od,.func (PySem.W.fnOf x qual (aH st) (aD st) (aa st) .none kV doc pm an cdv ct),osl⟩)
  (c:PySem.W.codeIn K cdv qual=true) (k:PySem.W.keepIn K (.ref f)=true):Fun K x qual st f (PySem.W.fnOf x qual (aH st) (aD st) (aa st) .none kV doc pm an cdv ct):=⟨⟨oc,od,kV,doc,pm,an,cdv,ct,osl,rfl,l,c⟩,k⟩
end
theorem x3 {n:Nat} (h:n<=1000):n < sizeLine:=Nat.lt_of_le_of_lt h (by decide)
section
variable {X:Cx}
theorem pv (i:Nat) {x:Str} {pos:Pos} (hN:X.N[i]?=some x:=by rfl) (hv:Vis X.env.scope x:=by first | exact Or.inl rfl | exact Or.inr (Or.inl rfl) | exact Or.inr (Or.inr rfl)) (hd:(x == ("__debug__":Str))=false:=by decide)
  (hcd:(x == ("__classdict__":Str))=false:=by decide):PE X (.Name x pos) (ab i):=xN hN hv hd hcd
end
theorem fY {A B:Prop} (h:B):if false=true then A else B:=by
 rw [if_neg Bool.false_ne_true]
 exact h
theorem jo {A B:Prop} (h:A):if true=true then A else B:=by
 rw [if_pos rfl]
 exact h
noncomputable def ak (H H':Hp):Prop:=∀ b o,H b=some o->H' b=some o
theorem ak.refl (H:Hp):ak H H:=fun _ _ h=>h
theorem ak.trans {H H1 H2:Hp} (a:ak H H1) (b:ak H1 H2):ak H H2:=fun c o h=>b c o (a c o h)
theorem ak.free {H H':Hp} (e:ak H H') {l:Addr} (h:H' l=Option.none):H l=Option.none:=by
 cases q:H l with
 | none=>rfl
 | some o=>
  rw [e l o q] at h
  cases h
theorem ak.seq {K:PySem.W.Frag} {H H':Hp} {a:Addr} {xs:List V} (e:ak H H') (h:SqL K H a xs):SqL K H' a xs:=by
 rcases h with (h | ⟨o,h⟩) | h
 ·exact .inl (.inl (e _ _ h))
 ·exact .inl (.inr ⟨o,e _ _ h⟩)
 ·exact .inr h
end L2
end
section
namespace L2
open PySem PySem.Spec PyProof.Rows
theorem lr {a b:Addr} {n:Nat} (h:a < n) (h':n<=b):a≠b:=Nat.ne_of_lt (Nat.lt_of_lt_of_le h h')
theorem BV {a b:Addr} {n:Nat} (h:n<=a) (h':b < n):a≠b:=Nat.ne_of_gt (Nat.lt_of_lt_of_le h' h)
noncomputable def dH (env:Env):List (Str×NameKind)->List (Str×Addr)->List (Str×Addr)
 | [],acc=>acc
 | (n,k) :: r,acc=>if k=.free then (match env.cells.lookup n with | some c=>dH env r ((n,c) :: acc) | none=>dH env r acc) else dH env r acc
theorem jA {env:Env}:∀ (ns:List (Str×NameKind)) (acc:List (Str×Addr)),(∀ p∈acc,env.cells.lookup p.1=some p.2)->∀ p∈dH env ns acc,env.cells.lookup p.1=some p.2
 | [],acc,h=>by intro p hp; exact h p hp
 | (n,k) :: r,acc,h=>by
  intro p hp
  rw [dH] at hp
  split at hp
  ·split at hp
   ·rename_i c hc
    refine jA r _ (fun q hq=>?_) p hp
    rcases List.mem_cons.mp hq with rfl | hq
    ·exact hc
    ·exact h q hq
   ·exact jA r acc h p hp
  ·exact jA r acc h p hp
theorem lu {env:Env}:∀ (ns:List (Str×NameKind)) (acc:List (Str×Addr)),∀ p∈acc,p∈dH env ns acc
 | [],acc=>fun p hp=>hp
 | (n,k) :: r,acc=>fun p hp=>by
  rw [dH]
  split
  ·split
   ·exact lu r _ p (List.mem_cons_of_mem _ hp)
   ·exact lu r acc p hp
  ·exact lu r acc p hp
theorem lv {env:Env}:∀ (ns:List (Str×NameKind)) (acc:List (Str×Addr)) (x:Str) (c:Addr),(x,NameKind.free)∈ns->env.cells.lookup x=some c->(x,c)∈dH env ns acc
 | [],acc,x,c=>fun h _=>(nomatch h)
 | (n,k) :: r,acc,x,c=>fun h hc=>by
  rw [dH]
  rcases List.mem_cons.mp h with e | h
  ·cases e
   rw [if_pos rfl,hc]
   exact lu r _ _ List.mem_cons_self
  ·split
   ·split
    ·exact lv r _ x c h hc
    ·exact lv r acc x c h hc
   ·exact lv r acc x c h hc
theorem lR {α:Type} {x:Str} {c:α}:∀ {l:List (Str×α)},(x,c)∈l->∃ d,l.lookup x=some d
 | (y,d) :: r,h=>by
  rw [List.lookup_cons]
  cases e:x == y with
  | true=>exact ⟨d,rfl⟩
  | false=>
   rcases List.mem_cons.mp h with q | q
   ·cases q
    rw [beq_self_eq_true] at e
    cases e
   ·exact lR q
theorem fJ {env:Env} {ns:List (Str×NameKind)} {x:Str} {c:Addr} (h:(dH env ns []).lookup x=some c):env.cells.lookup x=some c:=
 jA ns [] (fun _ hp=>(nomatch hp)) (x,c) (PySem.mem_of_lookup h)
theorem mz {env:Env} {ns:List (Str×NameKind)} {x:Str} {c:Addr} (hm:(x,NameKind.free)∈ns) (hc:env.cells.lookup x=some c):(dH env ns []).lookup x=some c:=by
 obtain ⟨d,hd⟩:=lR (lv ns [] x c hm hc)
 have e:=fJ hd
 rw [hc] at e
 cases e
 exact hd
theorem lw {scope:Scope} {env:Env} (h:∀ y∈scope.names,y.2=.free->∃ c,env.cells.lookup y.1=some c):closureFor scope env=pure (dH env scope.names []):=by
 have go:∀ (ns:List (Str×NameKind)) (acc:List (Str×Addr)),(∀ y∈ns,y.2=.free->∃ c,env.cells.lookup y.1=some c)->
   (forIn ns acc fun (x:Str×NameKind) (cs:List (Str×Addr))=>(match x with
    | (name,kind)=>if (kind == NameKind.free)=true then (do let c <-cellOf env name; pure (ForInStep.yield ((name,c) :: cs))) else pure (ForInStep.yield cs):Sem (ForInStep (List (Str×Addr)))))=(pure (dH env ns acc):Sem (List (Str×Addr))):=by
  intro ns
  induction ns with
  | nil=>intro acc _; rfl
  | cons y r ih=>
   intro acc hy
   obtain ⟨n,k⟩:=y
   have ih':=fun acc=>ih acc fun z hz=>hy z (List.mem_cons_of_mem _ hz)
   rw [List.forIn_cons,dH]
   by_cases hk:k=.free
   ·subst hk
    obtain ⟨c,hc⟩:=hy (n,.free) List.mem_cons_self rfl
    have hc':env.cells.lookup n=some c:=hc
    simp only [beq_self_eq_true,if_true,cellOf,hc',pure_bind]
    exact ih' _
   ·have hb:(k == NameKind.free)=false:=by simpa using hk
    simp only [hb,Bool.false_eq_true,if_false,pure_bind,if_neg hk]
    exact ih' _
 unfold closureFor
 have g:=go scope.names [] h
 simp only [bind_pure]
 exact g
structure mB (sc scope:Scope) (NX N:List Str) (ix:List (Option Nat)):Prop where
 kind:scope.kind=.function
 nocell:∀ y∈scope.names,y.2≠.cell
 names:∀ y∈scope.names,y.2=.local->scope.names.lookup y.1=some .local
 free:∀ y∈scope.names,y.2=.free->sc.names.lookup y.1=some .cell\/sc.names.lookup y.1=some .free
 nd:N.Nodup
 len:ix.length=N.length
 at_:∀ p∈N.zip ix,∀ i∈p.2,NX[i]?=some p.1/\scope.names.lookup p.1=some .free
noncomputable def sub (ix:List (Option Nat)) (σ:St):St:=ix.map fun o=>match o with | some i=>(match σ[i]? with | some v=>v | none=>none) | none=>none
noncomputable def cN (X:Cx) (N:List Str) (scope:Scope) (C:Addr) (s:Shared) (H:Hp) (fp:List Addr):Cx where
 prog:=X.prog
 w:=X.w
 K:=X.K
 mg:=X.mg
 base:=X.base
 A:=X.A
 N:=N
 s₀:=s
 H₀:=H
 env:=compEnvC scope (dH X.env scope.names []) C X.env
 outer:=X.stack
 stack:=X.stack
 ex:=fp
 fn:=fun _=>false
 calm:=X.calm
 pn:=[]
 xe:=fun _ _=>False
theorem mC {scope:Scope} {env:Env} {x:Str} {k:NameKind} (h:(relabel scope env).names.lookup x=some k):scope.names.lookup x=some k\/(k=.cell/\scope.names.lookup x=some .free):=by
 have go:∀ ns:List (Str×NameKind),(ns.map fun (n,k)=>if (k == NameKind.free && env.scope.kind == .function && env.kindOf n == some .cell) then (n,NameKind.cell) else (n,k)).lookup x=some k->
   ns.lookup x=some k\/(k=.cell/\ns.lookup x=some .free):=by
  intro ns
  induction ns with
  | nil=>intro q; simp at q
  | cons y r ih=>
   obtain ⟨n,k'⟩:=y
   intro q
   rw [List.map_cons] at q
   by_cases hc:(k' == NameKind.free && env.scope.kind == .function && env.kindOf n == some .cell)=true
   ·simp only [hc,if_true] at q
    have hk':k'=.free:=by
     have:=(Bool.and_eq_true _ _ ▸ hc)
     have h1:=(Bool.and_eq_true _ _ ▸ this.1)
     exact eq_of_beq h1.1
    subst hk'
    rw [List.lookup_cons] at q ⊢
    cases e:x == n with
    | true=>
     rw [e] at q
     cases q
     exact .inr ⟨rfl,rfl⟩
    | false=>
     rw [e] at q
     exact ih q
   ·simp only [hc] at q
    rw [if_neg (by simp)] at q
    rw [List.lookup_cons] at q ⊢
    cases e:x == n with
    | true=>rw [e] at q; exact .inl q
    | false=>rw [e] at q; exact ih q
 exact go scope.names h
theorem tV {scope:Scope} {env:Env} {x:Str} (h:scope.names.lookup x=some .free):(relabel scope env).names.lookup x=some .cell\/(relabel scope env).names.lookup x=some .free:=by
 have go:∀ ns:List (Str×NameKind),ns.lookup x=some .free->
   (ns.map fun (n,k)=>if (k == NameKind.free && env.scope.kind == .function && env.kindOf n == some .cell) then (n,NameKind.cell) else (n,k)).lookup x=some .cell\/
   (ns.map fun (n,k)=>if (k == NameKind.free && env.scope.kind == .function && env.kindOf n == some .cell) then (n,NameKind.cell) else (n,k)).lookup x=some .free:=by
  intro ns
  induction ns with
  | nil=>intro q; simp at q
  | cons y r ih=>
   obtain ⟨n,k'⟩:=y
   intro q
   rw [List.map_cons]
   rw [List.lookup_cons] at q
   cases e:x == n with
   | true=>
    rw [e] at q
    cases q
    by_cases hc:(NameKind.free == NameKind.free && env.scope.kind == .function && env.kindOf n == some .cell)=true
    ·simp only [hc,if_true]
     rw [List.lookup_cons,e]
     exact .inl rfl
    ·simp only [hc]
     rw [if_neg (by simp),List.lookup_cons,e]
     exact .inr rfl
   | false=>
    rw [e] at q
    have z:=ih q
    by_cases hc:(k' == NameKind.free && env.scope.kind == .function && env.kindOf n == some .cell)=true
    ·simp only [hc,if_true]
     rw [List.lookup_cons,e]
     exact z
    ·simp only [hc]
     rw [if_neg (by simp),List.lookup_cons,e]
     exact z
 exact go scope.names h
theorem Inv.gone {X:Cx} {pins:List (Addr×Obj)} {σ σ₂:St} {H H₂:Hp} {s s₂:Shared} {C:Addr} {h'':Heap} (I:Inv X pins σ H s) (I2:Inv X pins σ₂ H₂ s₂) (hC:s₂.heap.objs.size<=C) (hn:H C=none) (hs:Heap.SameBut C s.heap h''):Inv X pins σ H { s with heap:=h'' }:=
 I.turned (t':=s.toks) (it:=C) (fun b o hb e=>hs.extBut b o hb e) hn (Nat.ne_of_gt (Nat.lt_of_lt_of_le I2.lt hC)) (.inr (Nat.le_trans I2.sz hC))
  (fun x c e=>by
   obtain ⟨v,o,ho,_⟩:=I2.cell x c e
   exact lr (Heap.lt_size ho) hC) fun q hq=>lr (Heap.lt_size (I2.pin q hq).1) hC
noncomputable def PTL (X:Cx) (ifs:List Expr) (t:TT):Prop:=
 ∀ (pins:List (Addr×Obj)) (s:Shared) (σ:St) (H:Hp) (Q:Bool->Hp->Prop),Inv X pins σ H s->t σ H Q->
  wpAny (model X.prog X.w) X.A (forIn ifs true fun c r=>if r=true then do let ok <-isTrue c X.env (eval c X.env); pure (ForInStep.yield ok) else pure (ForInStep.yield r)) (TP X pins σ Q) X.xe s
noncomputable def cB:TT:=fun _ H Q=>Q true H
theorem cV {X:Cx}:PTL X [] cB:=fun _ _ _ H _ I h=>wpAny_tests_nil ⟨H,I,h⟩
theorem iM {X:Cx} {c:Expr} {t:TT} (h:PT X c t):PTL X [c] t:=fun pins s σ H Q I q=>wpAny_tests_one (h pins s σ H Q I q)
noncomputable def b8 (J:It) (g:TG) (tt:TT) (te:TE) (σ₀:St) (p:Addr) (Q:VK) (W:Nat->Nat->List V->Hp->Prop):Prop:=
 ∀ i m acc H,W i m acc H->H p=some (.lst acc)/\
  ((J.stop i H/\Q (.ref p) H)\/(J.go i H/\acc.length < sizeLine/\∃ N:List V->Hp->Prop,(∀ acc' H',N acc' H'->∃ m',m' < m/\W (i + 1) m' acc' H')/\
   ∀ x H1,J.yld i H x H1->g x σ₀ H1 fun σ2 H2=>tt σ2 H2 fun b H3=>if b=true then te σ2 H3 fun y H4=>H4 p=some (.lst acc)/\N (acc++[y]) (upd H4 p (.lst (acc++[y]))) else N acc H3))
noncomputable abbrev CF (α:Type):=Addr->Shared->Hp->List Addr->α
noncomputable def cx (wi:TI) (g:CF TG) (tt:CF TT) (te:CF TE) (ix:List (Option Nat)):TE:=fun σ H Q=>wi σ H fun J H1=>∀ p,H1 p=none->
 ∃ W:Nat->Nat->List V->Hp->Prop,(∃ m,W 0 m [] (upd H1 p (.lst [])))/\∀ C s' H' fp,b8 J (g C s' H' fp) (tt C s' H' fp) (te C s' H' fp) (sub ix σ) p Q W
section
variable {X:Cx} {elt tg iter:Expr} {ifs:List Expr} {scope sc:Scope} {pos:Pos} {NX N:List Str} {ix:List (Option Nat)} {wi:TI} {g:CF TG} {tt:CF TT} {te:CF TE}
theorem x4 {prog:Program} {w:World} {A:Around} {R:Result->Shared->Prop} {s:Shared} {it acc:Value} {env:Env} (I:Nat->Shared->Prop)
  (turn:∀ n s,I n s->wpAny (model prog w) A (pyNext it) (fun r s₁=>match r with
   | none=>R (.ok .next) s₁
   | some v=>wpAny (model prog w) A (letOwnedTupleGo tg it v) (fun _ s₁'=>wpAny (model prog w) A (assign tg env v) (fun _ s₂=>
     wpAny (model prog w) A (forIn ifs true fun c r=>if r=true then do let ok <-isTrue c env (eval c env); pure (ForInStep.yield ok) else pure (ForInStep.yield r)) (fun ok s₃=>
      if ok=true then wpAny (model prog w) A (eval elt env) (fun x s₄=>
       wpAny (model prog w) A (call (.builtin "list.append") [acc,x]) (fun _ s₅=>∃ m,m < n/\I m s₅) (fun _ _=>False) s₄) (fun _ _=>False) s₃
      else ∃ m,m < n/\I m s₃) (fun _ _=>False) s₂) (fun _ _=>False) s₁') (fun _ _=>False) s₁) (fun _ _=>False) s)
  (n:Nat) (h:I n s):codeAny (model prog w) A (.compLoop (.ListComp elt [⟨tg,iter,ifs,0⟩] scope pos) 0 it acc env) R s:=by
 refine codeAny_loop rfl I (fun n s hI=>?_) n h
 show wpAny _ A ((compTurn (.ListComp elt [⟨tg,iter,ifs,0⟩] scope pos) 0 it acc env).onRaise (fun x=>do noteFrame x env; theTreesLotGoes x)) _ _ s
 refine wpAny_noted ?_
 rw [compTurn_list]
 refine wpAny_bind (wpAny_standAt (wpAny_bind (wpAny_mono (turn n s hI) (fun r s₁ h₁=>?_) fun _ _ z=>z.elim)))
 cases r with
 | none=>exact wpAny_pure h₁
 | some v=>
  refine wpAny_bind (wpAny_mono h₁ (fun _ s₁' h₁'=>?_) fun _ _ z=>z.elim)
  refine wpAny_bind (wpAny_mono h₁' (fun _ s₂ h₂=>wpAny_bind (wpAny_mono h₂ (fun ok s₃ h₃=>?_) fun _ _ z=>z.elim)) fun _ _ z=>z.elim)
  cases ok with
  | false=>exact wpAny_pure ⟨rfl,h₃⟩
  | true=>exact wpAny_bind (wpAny_bind (wpAny_mono h₃ (fun x s₄ h₄=>wpAny_bind (wpAny_mono h₄ (fun _ s₅ h₅=>wpAny_pure (wpAny_pure ⟨rfl,h₅⟩)) fun _ _ z=>z.elim)) fun _ _ z=>z.elim))
theorem oO {pins:List (Addr×Obj)} {σ:St} {H:Hp} {s:Shared} {fp:List Addr} {it:Addr} {J:It} {tn:Nat->Heap->Prop} {Q:VK} {E:Value->Shared->Prop} {RR:Value->Addr->Result->Shared->Prop}
  (hc:X.calm=true) (hsc:X.env.scope=sc) (hNX:X.N=NX) (S:mB sc scope NX N ix)
  (hg:∀ C s H fp,PG (cN X N scope C s H fp) tg (g C s H fp)) (ht:∀ C s H fp,PTL (cN X N scope C s H fp) ifs (tt C s H fp)) (he:∀ C s H fp,PE (cN X N scope C s H fp) elt (te C s H fp))
  (I:Inv X pins σ H s) (T:mn X.prog X.w X.K tg J fp it tn) (st:tn 0 s.heap) (hf:∀ b∈fp,jn X pins H b)
  (hq:∀ p,H p=none->∃ W:Nat->Nat->List V->Hp->Prop,(∃ m,W 0 m [] (upd H p (.lst [])))/\∀ C s' H' fp,b8 J (g C s' H' fp) (tt C s' H' fp) (te C s' H' fp) (sub ix σ) p Q W)
  (hR:∀ p C s' H' m,s.heap.objs.size<=p->s.heap.objs.size<=C->s'.heap.Ns C m->H' C=none->Q (.ref p) H'->Inv X pins σ H' s'->RR (.ref p) C (.ok .next) s'):
  wpAny (model X.prog X.w) X.A (newList []) (fun acc s₃=>wpAny (model X.prog X.w) X.A (newFunctionEnv scope X.env.globals (dH X.env scope.names []) [] X.env.qual none .none (some X.env)) (fun cenv s₄=>
   codeAny (model X.prog X.w) X.A (.compStart (.ListComp elt [⟨tg,iter,ifs,0⟩] scope pos) 0 (.ref it) acc { cenv with scope:=relabel scope X.env }) (RR acc cenv.locals) s₄) E s₃) E s:=by
 refine wpAny_newObj_type (wpAny_newFunctionEnv S.nocell (by intro y hy; simp at hy) (fun h₁ hns₁ hsb₁=>?_) S.kind)
 dsimp only at hns₁ hsb₁ ⊢
 have hsz:(s.heap.push { cls:=.type "list",dict:=none,data:=.seq ([]:List Value).toArray }).objs.size=s.heap.objs.size + 1:=Heap.size_push ..
 generalize hC:(s.heap.push { cls:=.type "list",dict:=none,data:=.seq ([]:List Value).toArray }).objs.size=C at hns₁ hsb₁ ⊢
 rw [hsz] at hC
 generalize hp:s.heap.objs.size=p at hC
 have pC:p≠C:=by omega
 have old:∀ b o,s.heap.get? b=some o->h₁.get? b=some o:=fun b o e=>hsb₁.extBut b o (lr (Heap.lt_size e) (by omega)) (Heap.get?_push_of_some _ (Heap.get?_push_of_some _ e))
 have hnew:h₁.get? p=some { cls:=.type "list",data:=.seq ([]:List Value).toArray }:=hsb₁.extBut _ _ pC (Heap.get?_push_of_some _ (by rw [<-hp]; exact Heap.get?_push_size _ rfl))
 have hfp:H p=none:=I.hok.fresh (by omega)
 have hfC:H C=none:=I.hok.fresh (by omega)
 have lt:∀ b∈fp,b < p:=fun b hb=>by
  obtain ⟨o,e,_⟩:=T.obj 0 _ st b hb
  rw [<-hp]
  exact Heap.lt_size e
 have hcells:∀ y∈scope.names,y.2=.free->∃ c,X.env.cells.lookup y.1=some c:=fun y hy hk=>by
  refine I.ok.has y.1 ?_
  show X.env.scope.names.lookup y.1=some .cell\/X.env.scope.names.lookup y.1=some .free
  rw [hsc]
  exact S.free y hy hk
 have noown:∀ x,scope.names.lookup x≠some .cell:=fun x e=>S.nocell _ (PySem.mem_of_lookup e) rfl
 have hok:(cN X N scope C s H fp).Ok:=by
  refine ⟨I.ok.mod,S.kind,I.ok.glob,I.ok.blt,by show s.heap.objs.size<=C; omega,fun x y c h1 h2=>I.ok.inj x y c (fJ h1) (fJ h2),fun x hx=>?_,fun x c z=>(by cases z),I.ok.hd,I.ok.frames,.inl rfl,fun b hb=>?_,I.bs,Nat.le_trans I.ok.bsz I.sz,fun b o e hb=>?_,fun b hb z=>?_,I.stack,I.stkFree⟩
  ·have hx':scope.names.lookup x=some .free:=by
    rcases hx with hx | hx
    ·rcases mC hx with q | q
     ·exact absurd q (noown x)
     ·exact q.2
    ·rcases mC hx with q | q
     ·exact q
     ·exact q.2
   obtain ⟨c,hc'⟩:=hcells _ (PySem.mem_of_lookup hx') rfl
   exact ⟨c,mz (PySem.mem_of_lookup hx') hc'⟩
  ·refine ⟨?_,fun x c e=>(hf b hb).2.2.2.2.1 x c (fJ e)⟩
   show b≠C
   exact lr (lt b hb) (by omega)
  ·rcases (hf b hb).2.2.2.1 with z | z
   ·exact I.ok.noex b o e z
   ·exact absurd (Nat.lt_of_lt_of_le (Heap.lt_size e) (Nat.le_trans I.ok.bsz z)) (Nat.lt_irrefl _)
  ·rcases List.mem_cons.mp (I.stkSub b z) with q | q
   ·exact (hf b hb).2.1 q
   ·exact (hf b hb).2.2.1 q
 have locs:∀ h':Heap,(∀ x c o,X.env.cells.lookup x=some c->s.heap.get? c=some o->∃ sl,h'.get? c=some { o with slots:=sl })->
   ∀ (i:Nat) (x:Str) (v:V),N[i]?=some x->(sub ix σ)[i]?=some (some v)->∃ u,aM v u/\∀ m,BG (compEnvC scope (dH X.env scope.names []) C X.env) h' m x u:=by
  intro h' hk i x v h1 h2
  obtain ⟨k,hk',hv⟩:∃ k,ix[i]?=some (some k)/\σ[k]?=some (some v):=by
   unfold sub at h2
   rw [List.getElem?_map] at h2
   cases e:ix[i]? with
   | none=>rw [e] at h2; cases h2
   | some o=>
    rw [e] at h2
    cases o with
    | none=>cases h2
    | some k=>
     refine ⟨k,rfl,?_⟩
     have h2':(match σ[k]? with | some v=>v | none=>none)=some v:=Option.some.inj h2
     cases e2:σ[k]? with
     | none=>rw [e2] at h2'; cases h2'
     | some z=>
      rw [e2] at h2'
      rw [show z=some v from h2']
  have hm:(x,some k)∈N.zip ix:=by
   refine List.mem_of_getElem? (i:=i) ?_
   rw [List.getElem?_zip_eq_some]
   exact ⟨h1,hk'⟩
  obtain ⟨a1,a2⟩:=S.at_ _ hm k (by simp)
  have hX:=S.free _ (PySem.mem_of_lookup a2) rfl
  have hvis:Vis X.env.scope x:=by
   show _\/_\/_
   rw [hsc]
   exact .inr hX
  obtain ⟨m,hn,hl⟩:=I.loc
  obtain ⟨u,r,l⟩:=hl k x v (by rw [hNX]; exact a1) hv hvis
  refine ⟨u,r,fun m'=>.inr ⟨tV a2,?_⟩⟩
  rcases l with ⟨l,_⟩ | ⟨_,c,e,z⟩
  ·have l':X.env.scope.names.lookup x=some .local:=l
   rw [hsc] at l'
   rcases hX with q | q <;> (rw [q] at l'; cases l')
  ·obtain ⟨o,ho,hd⟩:=z
   obtain ⟨sl,e'⟩:=hk x c o e ho
   exact ⟨c,mz (PySem.mem_of_lookup a2) e,_,e',hd⟩
 have hlen:(sub ix σ).length=N.length:=by
  unfold sub
  rw [List.length_map]
  exact S.len
 have I1:Inv (cN X N scope C s H fp) [] (sub ix σ) (upd H p (.lst [])) { s with heap:=h₁,toks:=s.toks + ([]:List (Str×Value)).length }:=by
  refine ⟨hok,rfl,I.bare,Un.laid old (Nat.le_of_eq hp) hfp,⟨_,hns₁,fun i x v h1 h2 h3=>?_⟩,fun x c e=>?_,?_,fun x c e=>?_,fun q hq=>(nomatch hq),I.hok.laid old (Nat.le_of_eq hp) ⟨Nat.zero_le _,[],0,.nil,hnew⟩,hlen⟩
  ·obtain ⟨u,r,l⟩:=locs h₁ (fun y c o _ ho=>⟨o.slots,old c o ho⟩) i x v h1 h2
   exact ⟨u,r,l _⟩
  ·obtain ⟨v,o,ho,hd⟩:=I.cell x c (fJ e)
   exact ⟨v,o,old c o ho,hd⟩
  ·show upd H p _ C=none
   rw [aF (Ne.symm pC)]
   exact hfC
  ·have e':=fJ e
   obtain ⟨v,o,ho,hd⟩:=I.cell x c e'
   rw [aF (lr (Heap.lt_size ho) (Nat.le_of_eq hp))]
   exact I.freeC x c e'
 have back:∀ {pl:List (Addr×Obj)} {σ':St} {H':Hp} {s':Shared},Inv (cN X N scope C s H fp) pl σ' H' s'->Inv (cN X N scope C s H fp) pl (sub ix σ) H' s':=fun {pl σ' H' s'} J=>by
  obtain ⟨m,hn,_⟩:=J.loc
  refine ⟨J.ok,J.os,J.bare,J.base,⟨m,hn,fun i x v h1 h2 h3=>?_⟩,J.cell,J.free,J.freeC,J.pin,J.hok,hlen⟩
  obtain ⟨u,r,l⟩:=locs s'.heap (fun y c o hc' ho=>J.base.any ho (I.freeC y c hc') fun hb=>(hf c hb).2.2.2.2.1 y c hc' rfl) i x v h1 h2
  exact ⟨u,r,l _⟩
 obtain ⟨W,⟨m0,w0⟩,turn⟩:=hq p hfp
 have st1:tn 0 h₁:=T.keep 0 _ _ st fun b _ o e=>old b o e
 have fp1:∀ {H':Hp},(∀ b∈fp,H' b=none)->∀ b∈fp,jn (cN X N scope C s H fp) [] H' b:=fun {H'} hn b hb=>
  ⟨hn b hb,(hok.exf b hb).1,hok.exfs b hb,.inl hb,(hok.exf b hb).2,fun q hq=>(nomatch hq)⟩
 have loop:codeAny (model X.prog X.w) X.A (.compLoop (.ListComp elt [⟨tg,iter,ifs,0⟩] scope pos) 0 (.ref it) (.ref p) (compEnvC scope (dH X.env scope.names []) C X.env)) (RR (.ref p) C) { s with heap:=h₁,toks:=s.toks + ([]:List (Str×Value)).length }:=by
  refine x4 (fun n s'=>∃ i acc H',Inv (cN X N scope C s H fp) [] (sub ix σ) H' s'/\tn i s'.heap/\(∀ b∈fp,H' b=none)/\W i n acc H') ?_ m0
   ⟨0,[],_,I1,st1,fun b hb=>by rw [aF (lr (lt b hb) (Nat.le_refl _))]; exact (hf b hb).1,w0⟩
  rintro n s3 ⟨i,acc,H3,I3,st3,fr3,w3⟩
  obtain ⟨hacc,w4⟩:=turn C s H fp i n acc H3 w3
  rcases w4 with ⟨stop,qn⟩ | ⟨go,hln,N',hN',step⟩
  ·refine thn (T.done (cN X N scope C s H fp) rfl rfl rfl hc i [] s3 _ H3 (fun _ _=>False) I3 (fp1 fr3) st3 stop) fun r s4 ⟨hr,I4⟩=>?_
   subst hr
   obtain ⟨m,hn,_⟩:=I4.loc
   refine hR p C s4 H3 m (by omega) (by omega) hn I4.free qn ?_
   exact I.call' I4.os I4.base I4.hok I4.bare fun b hb=>⟨(hf b hb).2.2.2.1,(hf b hb).2.1,(hf b hb).2.2.2.2.1,(hf b hb).2.2.2.2.2⟩
  ·refine thn (T.item (cN X N scope C s H fp) rfl rfl rfl hc i [] s3 _ H3 (fun _ _=>False) I3 (fp1 fr3) st3 go) fun r s4 ⟨u,hr,h4⟩=>?_
   subst hr
   refine thn h4 fun _ s5 ⟨x,H5,I5,r5,y5,st5,fr5⟩=>?_
   have I5':=I5.pinned (fp1 fr5) (T.obj _ _ st5)
   refine thn (hg C s H fp _ s5 _ H5 x u _ I5' r5 (step x H5 y5)) fun _ s6 ⟨σ6,H6,I6,q6⟩=>?_
   have later:∀ {s7:Shared} {H7:Hp} {acc':List V} {σ7:St},Inv (cN X N scope C s H fp) ([]++mq fp s5.heap) σ7 H7 s7->(∃ m',m' < n/\W (i + 1) m' acc' H7)->
     ∃ m,m < n/\∃ i acc H',Inv (cN X N scope C s H fp) [] (sub ix σ) H' s7/\tn i s7.heap/\(∀ b∈fp,H' b=none)/\W i m acc H':=fun {s7 H7 acc' σ7} I7 ⟨m',hm,w7⟩=>by
    refine ⟨m',hm,i + 1,acc',H7,back (I7.unpinned (pins:=[])),T.keep _ _ _ st5 fun b hb o e=>(I7.pin (b,o) (List.mem_append_right _ (List.mem_append_right _ (jy hb e)))).1,fun b hb=>?_,w7⟩
    obtain ⟨o,e,d⟩:=T.obj _ _ st5 b hb
    exact (I7.pin (b,o) (List.mem_append_right _ (List.mem_append_right _ (jy hb e)))).2.1
   refine thn (ht C s H fp _ s6 σ6 H6 _ I6 q6) fun ok s7 ⟨H7,I7,q7⟩=>?_
   cases ok with
   | false=>exact later I7 (hN' _ _ q7)
   | true=>
    refine thn (he C s H fp _ s7 σ6 H7 _ I7 q7) fun y s8 ⟨v8,H8,I8,r8,hacc8,w8⟩=>?_
    refine thn (dt (X:=cN X N scope C s H fp) _ s8 σ6 H8 (.ref p) [v8] (.ref p) [y] (fun _ H9=>H9=upd H8 p (.lst (acc++[v8]))) I8 rfl (.cons r8 .nil) ⟨p,acc,v8,rfl,rfl,hacc8,hln,rfl⟩) fun _ s9 ⟨_,H9,I9,_,e9⟩=>?_
    subst e9
    exact later I9 (hN' _ _ w8)
 exact codeAny_compStart_list loop (T.self _ 0 _ _ _ st1 loop)
theorem dz (hc:X.calm=true) (S:mB sc scope NX N ix) (hi:PI X tg iter wi)
  (hg:∀ C s H fp,PG (cN X N scope C s H fp) tg (g C s H fp)) (ht:∀ C s H fp,PTL (cN X N scope C s H fp) ifs (tt C s H fp)) (he:∀ C s H fp,PE (cN X N scope C s H fp) elt (te C s H fp))
  (hsc:X.env.scope=sc:=by rfl) (hNX:X.N=NX:=by rfl) (hs:∀ x,foldedSetIterable iter X.env x=pure x:=by intro _; rfl):
  PE X (.ListComp elt [⟨tg,iter,ifs,0⟩] scope pos) (cx wi g tt te ix):=by
 intro pins s σ H Q I h
 rw [eval_ListComp]
 have hcells:closureFor scope X.env=pure (dH X.env scope.names []):=lw fun y hy hk=>by
  refine I.ok.has y.1 ?_
  show X.env.scope.names.lookup y.1=some .cell\/X.env.scope.names.lookup y.1=some .free
  rw [hsc]
  exact S.free y hy hk
 refine wpAny_comprehension_free (use:=none) rfl hs hcells S.kind S.names (thn (hi pins s σ H _ I h) fun v s1 h1=>thn h1 fun itv s2 h2=>?_)
 obtain ⟨it,fp,tn,J,H2,e,I2,T,st2,f2,hq⟩:=h2
 subst e
 refine oO (Q:=Q) (RR:=fun acc C=>compPost (model X.prog X.w) X.A X.xe none (EP X pins σ Q) acc C) hc hsc hNX S hg ht he I2 T st2 f2 hq ?_
 intro p C s' H' m hp hC hn hfree q I'
 exact ⟨m,hn,fun h'' hs''=>⟨.ref p,H',I'.gone I2 hC hfree hs'',rfl,q⟩⟩
theorem dM {i:Nat} {y:Str} {py spos:Pos} (hN:X.N.Nodup) (hy:X.N[i]?=some y) (hl:X.env.scope.names.lookup y=some .local) (hc:X.calm=true) (S:mB sc scope NX N ix) (hi:PI X tg iter wi)
  (hg:∀ C s H fp,PG (cN X N scope C s H fp) tg (g C s H fp)) (ht:∀ C s H fp,PTL (cN X N scope C s H fp) ifs (tt C s H fp)) (he:∀ C s H fp,PE (cN X N scope C s H fp) elt (te C s H fp))
  (hsw:swapsWith (.ListComp elt [⟨tg,iter,ifs,0⟩] scope pos) (some (.Name y py)) spos.line X.env=pure true:=by rfl)
  (hsc:X.env.scope=sc:=by rfl) (hNX:X.N=NX:=by rfl) (hs:∀ x,foldedSetIterable iter X.env x=pure x:=by intro _; rfl):
  PS X (.Assign [.Name y py] (.ListComp elt [⟨tg,iter,ifs,0⟩] scope pos) spos) (ay (cx wi g tt te ix) (ai i)):=by
 intro pins s σ H D I h
 rw [exec_Assign_Name_used _ _ _ _ hsw]
 have hcells:closureFor scope X.env=pure (dH X.env scope.names []):=lw fun z hz hk=>by
  refine I.ok.has z.1 ?_
  show X.env.scope.names.lookup z.1=some .cell\/X.env.scope.names.lookup z.1=some .free
  rw [hsc]
  exact S.free z hz hk
 refine wpAny_bind (wpAny_standAt (wpAny_bind ?_))
 show wpAny _ X.A (do let _ <-comprehension (.ListComp elt [⟨tg,iter,ifs,0⟩] scope pos) scope X.env _ (newList []) false (eval iter X.env) (some (assign (.Name y py) X.env))) _ _ s
 refine wpAny_bind (thn (wpAny_comprehension_free (use:=some (assign (.Name y py) X.env)) (Q:=fun _ s'=>SP X pins D .next s') rfl hs hcells S.kind S.names (thn (hi pins s σ H _ I h) fun v s1 h1=>thn h1 fun itv s2 h2=>?_)) fun _ s' q=>wpAny_pure (wpAny_pure q))
 obtain ⟨it,fp,tn,J,H2,e,I2,T,st2,f2,hq⟩:=h2
 subst e
 refine oO (Q:=fun x H1=>ai i x σ H1 D.nx) (RR:=fun acc C=>compPost (model X.prog X.w) X.A X.xe (some (assign (.Name y py) X.env)) (fun _ s'=>SP X pins D .next s') acc C) hc hsc hNX S hg ht he I2 T st2 f2 hq ?_
 intro p C s' H' m hp hC hn hfree q I'
 refine wpAny_assign_Name (rk (v:=.ref p) I' hN hy (.inl hl) rfl (fun s'' I'' ⟨a,hsb,ha⟩=>?_) (.inr hl))
 have ne:C≠a:=by
  rcases ha with rfl | ha
  ·exact Nat.ne_of_gt (Nat.lt_of_lt_of_le I2.lt hC)
  ·obtain ⟨v,o,ho,_⟩:=I2.cell y a ha
   exact Nat.ne_of_gt (Nat.lt_of_lt_of_le (Heap.lt_size ho) hC)
 exact ⟨m,hn.sameBut hsb ne,fun h'' hs''=>⟨_,H',I''.gone I2 hC hfree hs'',q⟩⟩
end
section
variable {g:CF TG} {tt:CF TT} {te:CF TE} {σ₀:St} {p:Addr} {Q:VK} {H:Hp}
theorem kB {J:It} {n:Nat} {Y:Nat->Hp->V->Hp->Prop} (Pv:Nat->List V->Hp->Prop) (h0:Pv 0 [] (upd H p (.lst []))) (hp:∀ i acc H,i<=n->Pv i acc H->H p=some (.lst acc)/\acc.length<=i) (hz:n<=sizeLine)
  (hgo:∀ i acc H,i < n->Pv i acc H->J.go i H) (hst:∀ acc H,Pv n acc H->J.stop n H) (hy:∀ i acc H x H1,i < n->Pv i acc H->J.yld i H x H1->Y i H x H1)
  (hs:∀ C s' H' fp,∀ i x acc H H1,i < n->Pv i acc H->Y i H x H1->g C s' H' fp x σ₀ H1 fun σ2 H2=>tt C s' H' fp σ2 H2 fun b H3=>if b=true then te C s' H' fp σ2 H3 fun y H4=>H4 p=some (.lst acc)/\Pv (i + 1) (acc++[y]) (upd H4 p (.lst (acc++[y]))) else Pv (i + 1) acc H3)
  (hd:∀ acc H,Pv n acc H->Q (.ref p) H):
  ∃ W:Nat->Nat->List V->Hp->Prop,(∃ m,W 0 m [] (upd H p (.lst [])))/\∀ C s' H' fp,b8 J (g C s' H' fp) (tt C s' H' fp) (te C s' H' fp) σ₀ p Q W:=by
 refine ⟨fun i m acc H=>m=n - i/\i<=n/\Pv i acc H,⟨n,by simp,Nat.zero_le _,h0⟩,?_⟩
 rintro C s' H' fp i m acc H ⟨rfl,hi,w⟩
 obtain ⟨h1,h2⟩:=hp i acc H hi w
 refine ⟨h1,?_⟩
 by_cases hlt:i < n
 ·exact .inr ⟨hgo i acc H hlt w,by omega,Pv (i + 1),fun acc' H' q=>⟨n - (i + 1),by omega,rfl,hlt,q⟩,fun x H1 y=>hs C s' H' fp i x acc H H1 hlt w (hy i acc H x H1 hlt w y)⟩
 ·have e:i=n:=by omega
  subst e
  exact .inl ⟨hst acc H w,hd acc H w⟩
theorem mD {K:PySem.W.Frag} {a:Addr} {xs:List V} (Pv:Nat->List V->Hp->Prop) (h0:Pv 0 [] (upd H p (.lst []))) (hp:∀ i acc H,i<=xs.length->Pv i acc H->H p=some (.lst acc)/\acc.length<=i) (hl:∀ i acc H,i<=xs.length->Pv i acc H->SqL K H a xs) (hz:xs.length<=sizeLine)
  (hs:∀ C s' H' fp,∀ i x acc H,xs[i]?=some x->Pv i acc H->g C s' H' fp x σ₀ H fun σ2 H2=>tt C s' H' fp σ2 H2 fun b H3=>if b=true then te C s' H' fp σ2 H3 fun y H4=>H4 p=some (.lst acc)/\Pv (i + 1) (acc++[y]) (upd H4 p (.lst (acc++[y]))) else Pv (i + 1) acc H3)
  (hd:∀ acc H,Pv xs.length acc H->Q (.ref p) H):
  ∃ W:Nat->Nat->List V->Hp->Prop,(∃ m,W 0 m [] (upd H p (.lst [])))/\∀ C s' H' fp,b8 (Itl K a) (g C s' H' fp) (tt C s' H' fp) (te C s' H' fp) σ₀ p Q W:=
 kB (Y:=fun i H x H1=>H1=H/\xs[i]?=some x) Pv h0 hp hz (fun i acc H hi w=>⟨xs,xs[i],hl i acc H (Nat.le_of_lt hi) w,by simp [hi]⟩) (fun acc H w=>⟨xs,hl _ acc H (Nat.le_refl _) w,Nat.le_refl _⟩)
  (fun i acc H x H1 hi w y=>⟨y.1,y.2 xs (hl i acc H (Nat.le_of_lt hi) w)⟩) (fun C s' H' fp i x acc H H1 hi w y=>by
   obtain ⟨e,y⟩:=y
   subst e
   exact hs C s' H' fp i x acc _ y w) hd
theorem tW {K:PySem.W.Frag} {a:Addr} {xs:List V} (Pv:Nat->List V->Hp->Prop) (h0:Pv 0 [] (upd H p (.lst []))) (hp:∀ i acc H,i<=xs.length->Pv i acc H->H p=some (.lst acc)/\acc.length<=i) (hl:∀ i acc H,i<=xs.length->Pv i acc H->SqT K H a xs) (hz:xs.length<=sizeLine)
  (hs:∀ C s' H' fp,∀ i x acc H,xs[i]?=some x->Pv i acc H->g C s' H' fp x σ₀ H fun σ2 H2=>tt C s' H' fp σ2 H2 fun b H3=>if b=true then te C s' H' fp σ2 H3 fun y H4=>H4 p=some (.lst acc)/\Pv (i + 1) (acc++[y]) (upd H4 p (.lst (acc++[y]))) else Pv (i + 1) acc H3)
  (hd:∀ acc H,Pv xs.length acc H->Q (.ref p) H):
  ∃ W:Nat->Nat->List V->Hp->Prop,(∃ m,W 0 m [] (upd H p (.lst [])))/\∀ C s' H' fp,b8 (Itt K a) (g C s' H' fp) (tt C s' H' fp) (te C s' H' fp) σ₀ p Q W:=
 kB (Y:=fun i H x H1=>H1=H/\xs[i]?=some x) Pv h0 hp hz (fun i acc H hi w=>⟨xs,xs[i],hl i acc H (Nat.le_of_lt hi) w,by simp [hi]⟩) (fun acc H w=>⟨xs,hl _ acc H (Nat.le_refl _) w,Nat.le_refl _⟩)
  (fun i acc H x H1 hi w y=>⟨y.1,y.2 xs (hl i acc H (Nat.le_of_lt hi) w)⟩) (fun C s' H' fp i x acc H H1 hi w y=>by
   obtain ⟨e,y⟩:=y
   subst e
   exact hs C s' H' fp i x acc _ y w) hd
theorem oP {lo:Int} {n:Nat} (Pv:Nat->List V->Hp->Prop) (h0:Pv 0 [] (upd H p (.lst []))) (hp:∀ i acc H,i<=n->Pv i acc H->H p=some (.lst acc)/\acc.length<=i) (hz:n<=sizeLine)
  (hs:∀ C s' H' fp,∀ i acc H,i < n->Pv i acc H->g C s' H' fp (.int (lo + i)) σ₀ H fun σ2 H2=>tt C s' H' fp σ2 H2 fun b H3=>if b=true then te C s' H' fp σ2 H3 fun y H4=>H4 p=some (.lst acc)/\Pv (i + 1) (acc++[y]) (upd H4 p (.lst (acc++[y]))) else Pv (i + 1) acc H3)
  (hd:∀ acc H,Pv n acc H->Q (.ref p) H):
  ∃ W:Nat->Nat->List V->Hp->Prop,(∃ m,W 0 m [] (upd H p (.lst [])))/\∀ C s' H' fp,b8 (Itr lo n) (g C s' H' fp) (tt C s' H' fp) (te C s' H' fp) σ₀ p Q W:=
 kB (Y:=fun i H x H1=>H1=H/\x=.int (lo + i)) Pv h0 hp hz (fun i acc H hi w=>hi) (fun acc H w=>Nat.le_refl _) (fun i acc H x H1 hi w y=>y) (fun C s' H' fp i x acc H H1 hi w y=>by
   obtain ⟨e,e2⟩:=y
   subst e e2
   exact hs C s' H' fp i acc _ hi w) hd
end
end L2
end
section
namespace L2
open PySem PySem.Spec PyProof.Rows
section
variable {prog:Program} {w:World} {A:Around} {E:Value->Shared->Prop} {s:Shared}
theorem oQ {jt t:Addr} {i:Nat} {its:Array Value} {y:Value} {Q:Value->Shared->Prop} (h1:s.heap.IsTupleIter jt t i) (h2:s.heap.IsTuple t its) (hy:its[i]?=some y)
  (k:∀ h',h'.IsTupleIter jt t (i + 1)->Heap.SameBut jt s.heap h'->Q y { s with heap:=h' }):wpAny (model prog w) A (Builtin.SmallTypes.nextOf (.ref jt)) Q E s:=by
 obtain ⟨o,ho,hc,hd⟩:=id h1
 obtain ⟨ot,hot,_,nt,hdt⟩:=h2
 unfold Builtin.SmallTypes.nextOf
 refine wpAny_bind (wpAny_callSpecial?_slot (name:=Str.ofString "__next__") h1.typeIs F.slot_tuple_iterator_next (wpAny_call_entry F.slot_tuple_iterator_next h1.typeIs F.entry_tuple_iterator_next ?_ (F.args_tuple_iterator_next_1 _)))
 show wpAny _ _ (field (.ref jt) 0 >>= _) _ _ s
 refine wpAny_bind (wpAny_field ho hd (x:=.ref t) rfl ?_)
 show wpAny _ _ (if (Value.ref t == Value.none)=true then _ else _) _ _ s
 rw [if_neg (show ¬ ((Value.ref t == Value.none)=true) from Bool.false_ne_true)]
 show wpAny _ _ (field (.ref jt) 1 >>= _) _ _ s
 refine wpAny_bind (wpAny_field ho hd (x:=.int i 0) rfl ?_)
 show wpAny _ _ (seqItems? (.ref t) >>= _) _ _ s
 refine wpAny_bind (wpAny_seqItems hot hdt ?_)
 simp only [Int.toNat_natCast,hy]
 refine wpAny_bind (wpAny_setField ho hd (by simp) (wpAny_pure ⟨y,rfl,wpAny_pure (k _ ?_ (Heap.SameBut.update ..))⟩))
 exact ⟨_,Heap.get?_update_self _ ho (Obj.isFreed_of_fields (Obj.data_mapFields hd _)),(Obj.cls_mapFields ..).trans hc,by rw [Obj.data_mapFields hd]; simp [rawInt]⟩
theorem qd {jt t:Addr} {i:Nat} {its:Array Value} {Q:Value->Shared->Prop} (hh:A.handled=none) (h1:s.heap.IsTupleIter jt t i) (h2:s.heap.IsTuple t its) (hy:its[i]?=none)
  (k:∀ h' e,Heap.ExtBut jt s.heap h'->(∃ o,h'.get? e=some o/\o.cls=.type "StopIteration")->E (.ref e) { s with heap:=h' }):wpAny (model prog w) A (Builtin.SmallTypes.nextOf (.ref jt)) Q E s:=by
 obtain ⟨o,ho,hc,hd⟩:=id h1
 obtain ⟨ot,hot,_,nt,hdt⟩:=h2
 unfold Builtin.SmallTypes.nextOf
 refine wpAny_bind (wpAny_callSpecial?_slot (name:=Str.ofString "__next__") h1.typeIs F.slot_tuple_iterator_next (wpAny_call_entry F.slot_tuple_iterator_next h1.typeIs F.entry_tuple_iterator_next ?_ (F.args_tuple_iterator_next_1 _)))
 show wpAny _ _ (field (.ref jt) 0 >>= _) _ _ s
 refine wpAny_bind (wpAny_field ho hd (x:=.ref t) rfl ?_)
 show wpAny _ _ (if (Value.ref t == Value.none)=true then _ else _) _ _ s
 rw [if_neg (show ¬ ((Value.ref t == Value.none)=true) from Bool.false_ne_true)]
 show wpAny _ _ (field (.ref jt) 1 >>= _) _ _ s
 refine wpAny_bind (wpAny_field ho hd (x:=.int i 0) rfl ?_)
 show wpAny _ _ (seqItems? (.ref t) >>= _) _ _ s
 refine wpAny_bind (wpAny_seqItems hot hdt ?_)
 simp only [Int.toNat_natCast,hy]
 refine wpAny_bind (wpAny_rule (wpAny_bind (wpAny_setField ho hd (by simp) ?_)))
 show wpAny _ _ (newExc (.type "StopIteration") [] >>= _) _ _ _
 refine wpAny_bind ?_
 simp only [newExc,newTuple]
 refine wpAny_bind (wpAny_newObj_type ?_ (by size_fits))
 refine wpAny_bind (m:=firstArgMember _ _) (wpAny_of_eq (a:=Value.none) (by first | rfl | (simp only [firstArgMember]; rfl)) ?_)
 refine wpAny_newObj_type ?_ (by size_fits)
 simp only [raiseNew]
 refine wpAny_bind (wpAny_handled ?_)
 first | rw [show A.in1.handled=none from hh] | rw [hh]
 refine wpAny_bind (wpAny_pure (wpAny_throw ?_))
 exact k _ _ (((Heap.SameBut.update ..).extBut.push _).push _) ⟨_,Heap.get?_push_size _ rfl,rfl⟩
end
theorem vk {prog:Program} {w:World} {A:Around} (hh:A.handled=none) (jt t:Addr) (hne:t≠jt) (its:Array Value):
  Draws prog w A jt [jt,t] its.size (fun i v=>its[i]?=some v) (fun i h=>h.IsTupleIter jt t i/\h.IsTuple t its) where
 live:=fun _ _ st=>let ⟨o,ho,_⟩:=st.1; ⟨o,ho⟩
 frame:=fun _ _ _ st hk=>⟨st.1.at fun o e=>hk jt (by simp) o e,let ⟨o,ho,r⟩:=st.2; ⟨o,hk t (by simp) o ho,r⟩⟩
 item:=fun i s Q E hi st hQ=>oQ st.1 st.2 (y:=its[i]) (by simp [hi]) fun h' a b=>hQ _ h' s.toks (by simp [hi]) ⟨a,st.2.extBut b.extBut hne⟩ b
 done:=fun s Q E st hE=>qd hh st.1 st.2 (by simp) hE
theorem Inv.offBase {X:Cx} {pins:List (Addr×Obj)} {σ:St} {H:Hp} {s:Shared} {c:Addr} {o:Obj} (I:Inv X pins σ H s) (f:jn X pins H c) (e:X.base.get? c=some o):False:=by
 rcases f.2.2.2.1 with z | z
 ·exact I.ok.noex c o e z
 ·exact absurd (Nat.lt_of_lt_of_le (Heap.lt_size e) (Nat.le_trans I.ok.bsz z)) (Nat.lt_irrefl _)
set_option genInjectivity false in
structure Src where
 Sq:PySem.W.Frag->Hp->Addr->List V->Prop
 Is:Heap->Addr->Array Value->Prop
 It:Heap->Addr->Addr->Nat->Prop
 icls:String
 get:∀ {X:Cx} {pins:List (Addr×Obj)} {σ:St} {H:Hp} {s:Shared} {a:Addr} {xs:List V},Inv X pins σ H s->Sq X.K H a xs->∃ its:List Value,aE xs its/\Is s.heap a its.toArray/\xs.length<=sizeLine
 inj:∀ {X:Cx} {pins:List (Addr×Obj)} {σ:St} {H:Hp} {s:Shared} {a:Addr} {xs ys:List V},Inv X pins σ H s->Sq X.K H a xs->Sq X.K H a ys->xs=ys
 off:∀ {X:Cx} {pins:List (Addr×Obj)} {σ:St} {H:Hp} {s:Shared} {a c:Addr} {xs:List V},Inv X pins σ H s->Sq X.K H a xs->jn X pins H c->c≠a
 isSeq:∀ {h:Heap} {a:Addr} {its:Array Value},Is h a its->∃ o n,h.get? a=some o/\o.data=.seq its n
 isIt:∀ {h:Heap} {jt a:Addr} {i:Nat},It h jt a i->∃ o,h.get? jt=some o/\o.cls=.type icls/\o.data=.fields #[.ref a,.int i 0]
 mkI:∀ {h:Heap} {jt a:Addr} {i:Nat} {o:Obj},h.get? jt=some o->o.cls=.type icls->o.data=.fields #[.ref a,.int i 0]->It h jt a i
 itKeep:∀ {h h':Heap} {jt a:Addr} {i:Nat},It h jt a i->(∀ o,h.get? jt=some o->h'.get? jt=some o)->It h' jt a i
 isKeep:∀ {h h':Heap} {a:Addr} {its:Array Value},Is h a its->(∀ o,h.get? a=some o->h'.get? a=some o)->Is h' a its
 draws:∀ {prog:Program} {w:World} {A:Around},A.handled=none->∀ (jt a:Addr),a≠jt->∀ its:Array Value,Draws prog w A jt [jt,a] its.size (fun i v=>its[i]?=some v) (fun i h=>It h jt a i/\Is h a its)
 iter:∀ {prog:Program} {w:World} {A:Around} {E:Value->Shared->Prop} {s:Shared} {a:Addr} {its:Array Value} {Q:Value->Shared->Prop},Is s.heap a its->
  Q (.ref s.heap.objs.size) { s with heap:=s.heap.push { cls:=.type icls,data:=.fields #[.ref a,.int 0 0] } }->wpAny (model prog w) A (pyIter (.ref a)) Q E s
noncomputable def bu:Src where
 Sq:=SqL
 Is:=fun h a its=>h.IsList a its
 It:=fun h jt a i=>h.IsListIter jt a i
 icls:="list_iterator"
 get:=fun I h=>let ⟨its,r,p,z⟩:=I.list h; ⟨its,r,p.isList,z⟩
 inj:=fun I h h'=>I.list_inj h h'
 off:=fun {X pins σ H s a c xs} I h f e=>by
  subst e
  rcases h with (h | ⟨o,h⟩) | ⟨o,its,n,hk,_⟩
  ·rw [f.1] at h; cases h
  ·rw [f.1] at h; cases h
  ·exact I.offBase f (I.ok.mod.kin _ _ hk)
 isSeq:=fun h=>let ⟨o,ho,_,n,hd⟩:=h; ⟨o,n,ho,hd⟩
 isIt:=fun h=>h
 mkI:=fun h1 h2 h3=>⟨_,h1,h2,h3⟩
 itKeep:=fun h k=>h.at k
 isKeep:=fun h k=>h.at k
 draws:=fun hh jt a hne its=>Draws.list hh jt a hne its
 iter:=fun h q=>wpAny_pyIter_list h q
noncomputable def mE:Src where
 Sq:=SqT
 Is:=fun h a its=>h.IsTuple a its
 It:=fun h jt a i=>h.IsTupleIter jt a i
 icls:="tuple_iterator"
 get:=fun I h=>let ⟨its,r,p,z⟩:=I.tuple h; ⟨its,r,p,z⟩
 inj:=fun I h h'=>I.tuple_inj h h'
 off:=fun {X pins σ H s a c xs} I h f e=>by
  subst e
  rcases h with (h | ⟨o,h⟩) | ⟨o,its,n,hk,_⟩
  ·rw [f.1] at h; cases h
  ·rw [f.1] at h; cases h
  ·exact I.offBase f (I.ok.mod.kin _ _ hk)
 isSeq:=fun h=>let ⟨o,ho,_,n,hd⟩:=h; ⟨o,n,ho,hd⟩
 isIt:=fun h=>h
 mkI:=fun h1 h2 h3=>⟨_,h1,h2,h3⟩
 itKeep:=fun h k=>h.at k
 isKeep:=fun h k=>let ⟨o,ho,r⟩:=h; ⟨o,k o ho,r⟩
 draws:=fun hh jt a hne its=>vk hh jt a hne its
 iter:=fun h q=>wpAny_pyIter_tuple h q
theorem Inv.turns {X:Cx} {pins:List (Addr×Obj)} {σ:St} {H:Hp} {s:Shared} {h':Heap} {t':Nat} {ch:List Addr} {T:Addr} {o:HO} (I:Inv X pins σ H s) (hf:∀ b∈ch,jn X pins H b)
  (k:∀ b ob,b∉ch->s.heap.get? b=some ob->h'.get? b=some ob) (hT:s.heap.objs.size<=T) (new:bZ X.prog X.w (upd H T o) h' T o):Inv X pins σ (upd H T o) { s with heap:=h',toks:=t' }:=by
 have hn:H T=none:=I.hok.fresh hT
 have nc:∀ b u,H b=some u->b∉ch:=fun b u e z=>by
  have:=(hf b z).1
  rw [e] at this
  cases this
 refine I.step (g':=s.gens) (d':=s.drawn) (ch:=ch) (fun b hb=>⟨(hf b hb).2.2.2.1,(hf b hb).2.1,(hf b hb).2.2.2.2.1,(hf b hb).2.2.2.2.2⟩) (fun b ob _ _ hc e _=>k b ob hc e) (fun b ob _ _ hc e _=>⟨ob.slots,k b ob hc e⟩)
  (fun b ob _ e n=>?_) (fun b ob hc e=>⟨ob,k b ob hc e⟩) (fun b xs e=>?_) (fun b ob xs e=>?_) (fun b ps e=>⟨#[],?_⟩) (fun m hm=>?_) (fun b u e=>?_) I.bare
 ·rw [aF (lr (Heap.lt_size e) hT)]
  exact n
 ·rw [aF (aJ e hn)]
  exact e
 ·rw [aF (aJ e hn)]
  exact e
 ·rw [aF (aJ e hn),e]
  simp
 ·obtain ⟨ob,es,ep,ho,r⟩:=hm
  exact ⟨ob,es,ep,k _ ob (fun z=>(hf _ z).2.1 rfl) ho,r⟩
 ·by_cases hb:b=T
  ·subst hb
   rw [av] at e
   cases e
   exact new
  ·rw [aF hb] at e
   refine (I.hok b u e).stay (fun c v hc q=>k c v ?_ q) (fun c q=>by rw [aF (aJ q hn)]; exact q) fun c xs q=>by rw [aF (aJ q hn)]; exact q
   rcases hc with z | z
   ·rw [z]; exact nc b u e
   ·exact nc c _ z
theorem Inv.turnsN {X:Cx} {pins:List (Addr×Obj)} {σ:St} {H:Hp} {s:Shared} {h':Heap} {t':Nat} {ch:List Addr} (I:Inv X pins σ H s) (hf:∀ b∈ch,jn X pins H b)
  (k:∀ b ob,b∉ch->s.heap.get? b=some ob->h'.get? b=some ob):Inv X pins σ H { s with heap:=h',toks:=t' }:=by
 have nc:∀ b u,H b=some u->b∉ch:=fun b u e z=>by
  have:=(hf b z).1
  rw [e] at this
  cases this
 refine I.step (g':=s.gens) (d':=s.drawn) (ch:=ch) (fun b hb=>⟨(hf b hb).2.2.2.1,(hf b hb).2.1,(hf b hb).2.2.2.2.1,(hf b hb).2.2.2.2.2⟩) (fun b ob _ _ hc e _=>k b ob hc e) (fun b ob _ _ hc e _=>⟨ob.slots,k b ob hc e⟩)
  (fun b ob _ e n=>n) (fun b ob hc e=>⟨ob,k b ob hc e⟩) (fun b xs e=>e) (fun b ob xs e=>e) (fun b ps e=>⟨#[],by rw [e]; simp⟩) (fun m hm=>?_) (fun b u e=>?_) I.bare
 ·obtain ⟨ob,es,ep,ho,r⟩:=hm
  exact ⟨ob,es,ep,k _ ob (fun z=>(hf _ z).2.1 rfl) ho,r⟩
 ·refine (I.hok b u e).stay (fun c v hc q=>k c v ?_ q) (fun c q=>q) fun c xs q=>q
  rcases hc with z | z
  ·rw [z]; exact nc b u e
  ·exact nc c _ z
noncomputable def Ite (S:Src) (K:PySem.W.Frag) (a:Addr):It:=
 ⟨fun i H=>∃ xs x,S.Sq K H a xs/\xs[i]?=some x,fun i H x H'=>∃ T v,H T=none/\x=.ref T/\H'=upd H T (.tup [.int i,v])/\∀ xs,S.Sq K H a xs->xs[i]?=some v,fun i H=>∃ xs,S.Sq K H a xs/\xs.length=i⟩
theorem x5 {P:Program} {w:World} {K:PySem.W.Frag} {elts:List Expr} {k0:Nat} {pos:Pos} (S:Src) (a e it:Addr) (hl:S.icls≠"enumerate"):
  mn P w K (.Tuple elts k0 pos) (Ite S K a) [e,it] e (fun i h=>(∃ old,IsEnum h e it i old)/\S.It h it a i) where
 mem:=by simp
 obj:=fun i h st b hb=>by
  obtain ⟨⟨old,he⟩,hi⟩:=st
  rcases List.mem_cons.mp hb with rfl | hb
  ·exact ⟨_,he,fun v z=>nomatch z⟩
  ·obtain rfl:=List.mem_singleton.mp hb
   obtain ⟨o,ho,_,hd⟩:=S.isIt hi
   exact ⟨o,ho,fun v z=>by rw [hd] at z; cases z⟩
 keep:=fun i h h' st k=>by
  obtain ⟨⟨old,he⟩,hi⟩:=st
  exact ⟨⟨old,k e (by simp) _ he⟩,S.itKeep hi fun o q=>k it (by simp) o q⟩
 item:=by
  intro X hP hw hK hc i pins s σ H E I hf st hg
  subst hP hw hK
  obtain ⟨xs,x,hq,hx⟩:=hg
  obtain ⟨its,rv,p,hz⟩:=S.get I hq
  obtain ⟨⟨old,he⟩,hi⟩:=st
  obtain ⟨u,hu,ru⟩:=rv.get hx
  obtain ⟨oa,na,hoa,hda⟩:=S.isSeq p
  obtain ⟨oi,hoi,hci,hdi⟩:=S.isIt hi
  have nei:e≠it:=fun z=>by
   have he':s.heap.get? e=some _:=he
   rw [z,hoi] at he'
   cases he'
   exact hl (by simpa using hci.symm)
  have nae:e≠a:=S.off I hq (hf e (by simp))
  have nai:a≠it:=fun z=>by
   rw [z,hoi] at hoa
   cases hoa
   rw [hdi] at hda
   cases hda
  have hlt:i < its.toArray.size:=by
   have:=(List.getElem?_eq_some_iff.mp hu).1
   simpa using this
  refine wpAny_pyNext_enum_itemD (S.draws (A:=X.A.in1) (show X.A.in1.handled=none from I.ok.hd hc) it a nai its.toArray) he ⟨hi,p⟩ hlt nei (by simp [nei,nae]) fun y h1 tk hP ho hs1 hT hsz hk=>⟨_,rfl,?_⟩
  have hy:y=u:=by
   have:its.toArray[i]?=some u:=by simpa using hu
   rw [this] at hP
   exact (Option.some.inj hP).symm
  subst hy
  refine wpAny_letOwnedTupleGo_enum ho fun h2 he2 hs2=>?_
  have elt:e < s.heap.objs.size:=Heap.lt_size he
  have hT2:h2.get? s.heap.objs.size=some { cls:=.type "tuple",data:=.seq #[.int i tk,y] }:=hs2.extBut _ _ (BV (Nat.le_refl _) elt) hT
  have kept:∀ b ob,b∉[e,it]->s.heap.get? b=some ob->h2.get? b=some ob:=fun b ob hb q=>by
   have h1':b≠e:=fun z=>hb (by simp [z])
   exact hs2.extBut _ _ h1' (hk b ob h1' (fun z=>hb (by simp [z])) q)
  refine ⟨.ref s.heap.objs.size,upd H s.heap.objs.size (.tup [.int i,x]),?_,rfl,⟨_,x,I.fresh,rfl,rfl,fun ys hy=>by rw [S.inj I hy hq]; exact hx⟩,⟨⟨_,he2⟩,S.itKeep hs1.1 fun o q=>hs2.extBut _ _ (Ne.symm nei) q⟩,fun b hb=>?_⟩
  ·refine I.turns (t':=tk + 1) hf kept (Nat.le_refl _) ⟨(by show 2<=sizeLine; decide),[.int i tk,y],.cons ⟨tk,rfl⟩ (.cons ru .nil),_,hT2,rfl,⟨0,rfl⟩,rfl⟩
  ·have lt:b < s.heap.objs.size:=by
    rcases List.mem_cons.mp hb with rfl | hb
    ·exact elt
    ·obtain rfl:=List.mem_singleton.mp hb
     exact Heap.lt_size hoi
   rw [aF (lr lt (Nat.le_refl _))]
   exact (hf b hb).1
 done:=by
  intro X hP hw hK hc i pins s σ H E I hf st hg
  subst hP hw hK
  obtain ⟨xs,hq,hx⟩:=hg
  obtain ⟨its,rv,p,hz⟩:=S.get I hq
  obtain ⟨⟨old,he⟩,hi⟩:=st
  obtain ⟨oa,na,hoa,hda⟩:=S.isSeq p
  obtain ⟨oi,hoi,hci,hdi⟩:=S.isIt hi
  have nai:a≠it:=fun z=>by
   rw [z,hoi] at hoa
   cases hoa
   rw [hdi] at hda
   cases hda
  have hsz:i=its.toArray.size:=by
   have:=rv.length
   simp only [List.size_toArray]
   omega
  subst hsz
  exact wpAny_pyNext_enum_endD (S.draws (A:=X.A.in1) (show X.A.in1.handled=none from I.ok.hd hc) it a nai its.toArray) he ⟨hi,p⟩ fun h' hx'=>⟨rfl,I.turnsN (t':=s.toks) hf fun b ob hb q=>hx' b ob (fun z=>hb (by simp [z])) q⟩
 self:=fun _ _ _ _ _ st h=>by
  obtain ⟨⟨old,he⟩,_⟩:=st
  exact wpAny_pyIter_enum he h
section
variable {X:Cx} {elts:List Expr} {k0:Nat} {tpos:Pos}
theorem zq (S:Src) (l:Addr) (its:Array Value):
  Meets (Builtin.«enumerate.__new__» ⟨[.type "enumerate",.ref l],[]⟩) (fun _ R s=>S.Is s.heap l its/\
   R (.ok (.ret (.ref (s.heap.push { cls:=.type S.icls,data:=.fields #[.ref l,.int 0 0] }).objs.size)))
    { s with heap:=(s.heap.push { cls:=.type S.icls,data:=.fields #[.ref l,.int 0 0] }).push { cls:=.type "enumerate",data:=.fields #[.none,.bool false,.ref s.heap.objs.size,rawInt 0,.none,.none] } }):=
 .of_wp fun prog w A R s h=>by
  obtain ⟨hp,g,d,tk,os⟩:=s
  obtain ⟨hl,h⟩:=h
  have hsub:=sub_enumerate
  have hL:S.Is (Shared.heap ⟨hp,g,d,tk,os⟩) l its:=hl
  wp_walk
  refine wpAny_stack_any fun st=>wpAny_pure ?_
  split
  ·rename_i c _ _ _ _ _
   cases (c == Value.type "enumerate")
   ·wp_walk using S.iter hL
    exact ⟨_,rfl,h⟩
   ·wp_walk using S.iter hL
    exact ⟨_,rfl,h⟩
  ·wp_walk using S.iter hL
   exact ⟨_,rfl,h⟩
theorem x6 (S:Src) {prog:Program} {w:World} {A:Around} {E:Value->Shared->Prop} {s:Shared} {l:Addr} {its:Array Value} {Q:Value->Shared->Prop} (hL:S.Is s.heap l its)
  (h:∀ h',IsEnum h' (s.heap.objs.size + 1) s.heap.objs.size 0 .none->S.It h' s.heap.objs.size l 0->(∀ b o,s.heap.get? b=some o->h'.get? b=some o)->Q (.ref (s.heap.objs.size + 1)) { s with heap:=h' }):
  wpAny (model prog w) A (call (.type "enumerate") [.ref l]) Q E s:=by
 refine callType_new F.called_enumerate (by decide) (F.typeCall_enumerate_1 _) (F.newCall_enumerate_1 _) (fun obj=>F.args_object_init_2 obj _) F.entry_enumerate_new (zq S l its) ⟨hL,?_⟩
 have hz:(s.heap.push { cls:=.type S.icls,data:=.fields #[.ref l,.int 0 0] }).objs.size=s.heap.objs.size + 1:=Heap.size_push ..
 show _/\_
 rw [hz]
 have he:=Heap.get?_push_size (s.heap.push { cls:=.type S.icls,data:=.fields #[.ref l,.int 0 0] }) (o:={ cls:=.type "enumerate",data:=.fields #[.none,.bool false,.ref s.heap.objs.size,rawInt 0,.none,.none] }) rfl
 rw [hz] at he
 exact ⟨⟨_,he,rfl⟩,h _ he (S.mkI (Heap.get?_push_of_some _ (Heap.get?_push_size _ rfl)) rfl rfl) fun b o q=>Heap.get?_push_of_some _ (Heap.get?_push_of_some _ q)⟩
noncomputable def gK (S:Src) (K:PySem.W.Frag) (ta:TA):TI:=fun σ H R=>ta σ H fun vs H1=>∃ a xs,vs=[.ref a]/\S.Sq K H1 a xs/\R (Ite S K a) H1
theorem fK (S:Src) {a:Expr} {ta:TA} {p pos:Pos} (hg:Gl X "enumerate") (hm:X.mg "enumerate"=none) (hS:S.icls≠"enumerate") (ha:PA X [a] ta) (hs:starEach [a] X.env=[(false,eval a X.env)]:=by rfl):
  PI X (.Tuple elts k0 tpos) (.Call (.Name "enumerate" p) [a] [] pos) (gK S X.K ta):=by
 intro pins s σ H R I h
 refine Call_ (h8 I hg hm boot_enumerate (PyProof.Rows.callWith_type1 (thn (ha pos pins s σ H _ I h) fun us s1 ⟨vs,H1,I1,r1,q1⟩=>?_) hs rfl))
 obtain ⟨l,xs,e,hq,q⟩:=q1
 subst e
 obtain ⟨u,rfl,ru⟩:=r1.one
 cases ru
 obtain ⟨its,rv,p',hz⟩:=S.get I1 hq
 refine x6 S p' fun h' he hi kp=>wpAny_pyIter_enum he ?_
 have I2:Inv X pins σ H1 { s1 with heap:=h' }:=I1.kept (t':=s1.toks) kp
 refine ⟨s1.heap.objs.size + 1,[s1.heap.objs.size + 1,s1.heap.objs.size],_,_,H1,rfl,I2,x5 S l _ _ hS,⟨⟨_,he⟩,hi⟩,fun b hb=>?_,q⟩
 have hb':s1.heap.objs.size<=b:=by
  rcases List.mem_cons.mp hb with rfl | hb
  ·exact Nat.le_succ _
  ·obtain rfl:=List.mem_singleton.mp hb
   exact Nat.le_refl _
 exact I1.fpOk hb' (I1.hok.fresh hb')
end
end L2
end
section
namespace L2
open PySem PySem.Spec PyProof.Rows
section
variable {X:Cx}
noncomputable def oh (K:PySem.W.Frag):List V->Hp->VK->Prop:=fun xs H Q=>∃ x T t b,xs=[x,.ty T]/\fq K H x t/\PySem.W.kitOne K t (.type T)=some b/\Q (.bl b) H
theorem jO:ee X (.builtin "isinstance") (oh X.K):=by
 intro pins s σ H xs us Q I r h
 obtain ⟨x,T,t,b,rfl,ty,e,q⟩:=h
 obtain ⟨u,v,rfl,ru,rv⟩:=r.two
 cases (show v=Value.type T from rv)
 exact xW I ru ty e fun tk=>⟨.bl b,H,I.tok tk,rfl,q⟩
theorem vm (K:PySem.W.Frag):PySem.W.kitOne K (.type "int") (.type "int")=some true:=by unfold PySem.W.kitOne; rw [if_pos (beq_self_eq_true _)]
theorem tX (K:PySem.W.Frag):PySem.W.kitOne K (.type "int") (.type "bool")=some false:=by show (if (Value.type "int" == Value.type "bool")=true then some true else if PySem.W.kitMeta "bool"=true then (fastBuiltinMro "int").map (·.contains (.type "bool")) else none)=some false; decide +kernel
theorem nO (K:PySem.W.Frag):PySem.W.kitOne K (.type "tuple") (.type "tuple")=some true:=by unfold PySem.W.kitOne; rw [if_pos (beq_self_eq_true _)]
theorem vn (K:PySem.W.Frag):PySem.W.kitOne K (.type "list") (.type "list")=some true:=by unfold PySem.W.kitOne; rw [if_pos (beq_self_eq_true _)]
theorem AY:∀ (bs:List Bool),(List.range bs.length).all (fun i=>bs.getD i false)=bs.all id:=by
 intro bs
 induction bs with
 | nil=>rfl
 | cons b r ih=>
  rw [List.length_cons,List.range_succ_eq_map,List.all_cons,List.all_map,List.all_cons]
  show (b && _)=(b && _)
  rw [<-ih]
  rfl
theorem AZ {bs:List Bool} {us:List Value} (r:aE (bs.map V.bl) us):us=bs.map Value.bool:=by
 induction bs generalizing us with
 | nil=>cases r; rfl
 | cons b t ih=>
  cases r with
  | cons q r'=>
   rw [List.map_cons,<-ih r',show _=Value.bool b from q]
theorem Inv.walked {pins:List (Addr×Obj)} {σ:St} {H:Hp} {s:Shared} {h':Heap} {tk:Nat} {o:Obj} (I:Inv X pins σ H s) (hk:∀ b ob,b∉[s.heap.objs.size]->(s.heap.push o).get? b=some ob->h'.get? b=some ob):Inv X pins σ H { s with heap:=h',toks:=tk }:=
 I.kept fun b ob e=>hk b ob (fun z=>absurd (List.mem_singleton.mp z) (Nat.ne_of_lt (Heap.lt_size e))) (Heap.get?_push_of_some _ e)
theorem x8 (hc:X.calm=true):ee X (.builtin "all") (fun xs H Q=>∃ (p:Addr) (bs:List Bool),xs=[.ref p]/\SqL X.K H p (bs.map V.bl)/\Q (.bl (bs.all id)) H):=by
 intro pins s σ H xs us Q I r h
 obtain ⟨p,bs,rfl,hq,q⟩:=h
 obtain ⟨u,rfl,rx⟩:=r.one
 cases rx
 obtain ⟨its,rv,pl,hz⟩:=I.list hq
 have e:=AZ rv
 subst e
 refine call_all_walk (wpAny_pyIter_list pl.isList ⟨s.heap.objs.size,_,_,_,_,_,fun i=>bs.getD i false,rfl,Walks.list (show X.A.in1.handled=none from I.ok.hd hc) _ p (by obtain ⟨o,ho,_⟩:=pl.isList; exact Nat.ne_of_lt (Heap.lt_size ho)) (bs.map Value.bool).toArray,
  ⟨⟨_,Heap.get?_push_size _ rfl,rfl,rfl⟩,pl.isList.push _⟩,?_,fun h' tk hk=>?_⟩)
 ·intro i v s' Q' E' hP hQ
  have hP':(bs.map Value.bool)[i]?=some v:=by simpa using hP
  rw [List.getElem?_map] at hP'
  cases e:bs[i]? with
  | none=>rw [e] at hP'; cases hP'
  | some b=>
   rw [e] at hP'
   cases hP'
   have:bs.getD i false=b:=by rw [List.getD_eq_getElem?_getD,e]; rfl
   have hQ':Q' (bs.getD i false) s':=hQ
   rw [this] at hQ'
   exact wpAny_truthy_bool hQ'
 ·refine ⟨.bl (bs.all id),H,I.walked hk,?_,q⟩
  show Value.bool _=Value.bool _
  rw [<-AY]
  simp
theorem vo (ns:List Int):∀ k,k<=ns.length->preSum (fun i=>ns.getD i 0) k=(ns.take k).sum:=by
 intro k
 induction k with
 | zero=>intro _; simp [preSum]
 | succ k ih=>
  intro hk
  have hlt:k < ns.length:=hk
  rw [preSum,ih (Nat.le_of_lt hlt),List.take_add_one,List.sum_append,List.getElem?_eq_getElem hlt,List.getD_eq_getElem?_getD,List.getElem?_eq_getElem hlt]
  simp
theorem ji (hc:X.calm=true):ee X (.builtin "sum") (fun xs H Q=>∃ (p:Addr) (ns:List Int),xs=[.ref p]/\SqL X.K H p (ns.map V.int)/\Q (.int ns.sum) H):=by
 intro pins s σ H xs us Q I r h
 obtain ⟨p,ns,rfl,hq,q⟩:=h
 obtain ⟨u,rfl,rx⟩:=r.one
 cases rx
 obtain ⟨its,rv,pl,hz⟩:=I.list hq
 have hlen:ns.length=its.length:=by have:=rv.length; simpa using this
 have ia:=oM rv
 refine call_sum_walkG (wpAny_pyIter_list pl.isList ⟨s.heap.objs.size,_,_,_,_,_,fun i=>ns.getD i 0,rfl,Walks.list (show X.A.in1.handled=none from I.ok.hd hc) _ p (by obtain ⟨o,ho,_⟩:=pl.isList; exact Nat.ne_of_lt (Heap.lt_size ho)) its.toArray,
  ⟨⟨_,Heap.get?_push_size _ rfl,rfl,rfl⟩,pl.isList.push _⟩,fun b hb=>?_,?_,fun h' tk t' hk=>?_⟩)
 ·have hp:p < s.heap.objs.size:=by
   obtain ⟨o,ho,_⟩:=pl.isList
   exact Heap.lt_size ho
  show b < (s.heap.push _).objs.size
  rw [Heap.size_push]
  rcases List.mem_cons.mp hb with rfl | hb
  ·exact Nat.lt_succ_self _
  ·obtain rfl:=List.mem_singleton.mp hb
   exact Nat.lt_succ_of_lt hp
 ·intro i v hP
  have hP':its[i]?=some v:=by simpa using hP
  have hlt:i < ns.length:=by
   have:=(List.getElem?_eq_some_iff.mp hP').1
   omega
  obtain ⟨u',hu',ru'⟩:=rv.get (x:=.int ns[i]) (i:=i) (by rw [List.getElem?_map,List.getElem?_eq_getElem hlt] <;> rfl)
  rw [hP'] at hu'
  cases hu'
  obtain ⟨t,e⟩:=(show ∃ t,v=Value.int ns[i] t from ru')
  refine ⟨t,?_⟩
  show v=Value.int (ns.getD i 0) t
  rw [e,List.getD_eq_getElem?_getD,List.getElem?_eq_getElem hlt]
  rfl
 ·refine ⟨.int ns.sum,H,I.walked hk,⟨t',?_⟩,q⟩
  rw [show its.toArray.size=ns.length by simp; omega,vo ns _ (Nat.le_refl _),List.take_length]
noncomputable def EqE (x y:V) (b:Bool):Prop:=(cP x=true/\cP y=true/\b=eqV x y)\/(∃ a,x=.ref a/\y=.ref a/\b=true)
theorem EqE.at {A:Around} {s:Shared} {x y:V} {b:Bool} {u v:Value} (h:EqE x y b) (ru:aM x u) (rv:aM y v):SeqAt.EqAt A s u v b:=by
 rcases h with ⟨f1,f2,rfl⟩ | ⟨a,rfl,rfl,rfl⟩
 ·exact xZ ru rv f1 f2
 ·cases ru
  cases rv
  exact SeqAt.EqAt.same _
noncomputable def zr (xs ys:List V) (e:Nat->Bool):Prop:=∀ j x y,xs[j]?=some x->ys[j]?=some y->EqE x y (e j)
theorem wd {A:Around} {s:Shared} {xs ys:List V} {e:Nat->Bool} {us vs:List Value} (h:zr xs ys e) (ru:aE xs us) (rv:aE ys vs):
  ∀ j (h1:j < us.toArray.size) (h2:j < vs.toArray.size),SeqAt.EqAt A s us.toArray[j] vs.toArray[j] (e j):=by
 intro j h1 h2
 have h1':j < xs.length:=by rw [ru.length]; simpa using h1
 have h2':j < ys.length:=by rw [rv.length]; simpa using h2
 obtain ⟨u,eu,r1⟩:=ru.get (List.getElem?_eq_getElem h1')
 obtain ⟨v,ev,r2⟩:=rv.get (List.getElem?_eq_getElem h2')
 have q:=(h j _ _ (List.getElem?_eq_getElem h1') (List.getElem?_eq_getElem h2')).at (A:=A) (s:=s) r1 r2
 have e1:us.toArray[j]=u:=by
  have:=(List.getElem?_eq_some_iff.mp eu).2
  simpa using this
 have e2:vs.toArray[j]=v:=by
  have:=(List.getElem?_eq_some_iff.mp ev).2
  simpa using this
 rw [e1,e2]
 exact q
noncomputable def j7 (xs ys:List V) (e:Nat->Bool):Bool:=(List.range (min xs.length ys.length)).all e && xs.length == ys.length
noncomputable def qe (Sq:Hp->Addr->List V->Prop) (neg:Bool):R2:=fun x y H Q=>∃ a b xs ys e,x=.ref a/\y=.ref b/\Sq H a xs/\Sq H b ys/\zr xs ys e/\Q (.bl (if neg then !j7 xs ys e else j7 xs ys e)) H
theorem BW (hu:X.A.units < cLine):OpR X (compareOp .Eq) (qe (SqT X.K) false):=by
 intro pins s σ H x y v u Q I r1 r2 h
 obtain ⟨a,b,xs,ys,e,rfl,rfl,ha,hb,he,q⟩:=h
 cases r1
 cases r2
 obtain ⟨us,ru,pu,_⟩:=I.tuple ha
 obtain ⟨vs,rv,pv,_⟩:=I.tuple hb
 refine SeqAt.eq_tupleAt (e:=e) pu pv hu (wd he ru rv) ⟨.bl (j7 xs ys e),H,I,?_,q⟩
 show Value.bool _=Value.bool _
 unfold j7
 rw [List.size_toArray,List.size_toArray,ru.length,rv.length]
theorem BX (hu:X.A.units < cLine):OpR X (compareOp .NotEq) (qe (SqT X.K) true):=by
 intro pins s σ H x y v u Q I r1 r2 h
 obtain ⟨a,b,xs,ys,e,rfl,rfl,ha,hb,he,q⟩:=h
 cases r1
 cases r2
 obtain ⟨us,ru,pu,_⟩:=I.tuple ha
 obtain ⟨vs,rv,pv,_⟩:=I.tuple hb
 refine SeqAt.RcNeAt.tuples (e:=e) pu pv hu (wd he ru rv) _ _ _ _ ⟨.bl (!j7 xs ys e),H,I,?_,q⟩
 show Value.bool _=Value.bool _
 unfold j7
 rw [List.size_toArray,List.size_toArray,ru.length,rv.length]
end
theorem x9 (ns ms:List Int):zr (ns.map V.int) (ms.map V.int) (fun j=>decide (ns[j]?=ms[j]?)):=by
 intro j x y hx hy
 rw [List.getElem?_map] at hx hy
 cases e1:ns[j]? with
 | none=>rw [e1] at hx; cases hx
 | some n=>
  cases e2:ms[j]? with
  | none=>rw [e2] at hy; cases hy
  | some m=>
   rw [e1] at hx
   rw [e2] at hy
   cases hx
   cases hy
   refine .inl ⟨rfl,rfl,?_⟩
   show decide (ns[j]?=ms[j]?)=(n == m)
   rw [e1,e2]
   by_cases h:n=m
   ·subst h; simp
   ·simp [h]
theorem wO (ns ms:List Int):j7 (ns.map V.int) (ms.map V.int) (fun j=>decide (ns[j]?=ms[j]?))=decide (ns=ms):=by
 unfold j7
 rw [List.length_map,List.length_map]
 by_cases h:ns=ms
 ·subst h
  simp
 ·rw [decide_eq_false h]
  by_cases hl:ns.length=ms.length
  ·rw [Bool.and_eq_false_iff]
   left
   rw [<-Bool.not_eq_true,List.all_eq_true]
   intro q
   apply h
   apply List.ext_getElem?
   intro j
   by_cases hj:j < ns.length
   ·have:=q j (by rw [List.mem_range]; omega)
    exact of_decide_eq_true this
   ·rw [List.getElem?_eq_none (by omega),List.getElem?_eq_none (by omega)]
  ·rw [beq_eq_false_iff_ne.mpr hl,Bool.and_false]
end L2
end
section
namespace L2
open PySem PySem.Spec PyProof.Rows
noncomputable def FnB (P:Program) (w:World) (K:PySem.W.Frag) (mg:Str->Option Value) (base:Heap) (k:Nat) (x:Str) (ps:List Str) (sp:Sp):Prop:=
 ∃ f fd,iL P w K mg base CX0 k f fd ps sp/\mg x=some (.ref f)/\PySem.W.keepIn K (.ref f)=true/\lp K fd ps []
theorem aq {X:Cx} {k:Nat} {x:Str} {ps:List Str} {sp:Sp} {p pos:Pos} {e:Expr} {es:List Expr} {t:TA} (F:FnB X.prog X.w X.K X.mg X.base k x ps sp) (hr:dG k X.A) (ha:PA X (e :: es) t) (hg:Gl X x:=by rfl)
  (hdb:(x == ("__debug__":Str))=false:=by decide) (he:starEach (e :: es) X.env=(false,eval e X.env) :: starEach es X.env:=by rfl) (hpl:(backTo pos (starEach es X.env)).any (·.1)=false:=by rfl):
  PE X (.Call (.Name x p) (e :: es) [] pos) (az sp [] E0 t):=by
 obtain ⟨f,fd,ok,m,kp,b⟩:=F
 exact AQ ok hr hg m kp b .nil C5 ha hdb he hpl
structure Def (K:PySem.W.Frag) (mg:Str->Option Value) (x:Str) (st:Stmt) (ps:List Str) (f:Addr) (fd:FuncData):Prop where
 fn:Fun K x x st f fd
 m:mg x=some (.ref f)
 b:lp K fd ps []
theorem Def.ok {P:Program} {w:World} {K:PySem.W.Frag} {mg:Str->Option Value} {base:Heap} {x:Str} {st:Stmt} {N ps:List Str} {f:Addr} {fd:FuncData} {k:Nat} {sp:Sp} (D:Def K mg x st ps f fd) (S:aG N ps (aa st)) (len:∀ vs H Q E,sp vs H Q E->vs.length=ps.length)
  (hbody:∀ (cdv:Value) (A:Around) (outer:List Env) (s:Shared) (H:Hp) (vs:List V) (Q:VK) (E:XK),dG k (A.deeper (envOfC x (aa st) s.heap.objs.size f cdv))->sp vs H Q E->
   ∃ t,PSs (lq CX0 P w K mg base N x (aa st) f cdv A outer s H E).nox (aD st) t/\t { nx:=fun _ H'=>Q .non H',rt:=Q } (start N vs) H):FnB P w K mg base (k + 1) x ps sp:=
 ⟨f,fd,D.fn.ok S len hbody,D.m,D.fn.kp,D.b⟩
theorem di {X:Cx}:OpR X (binaryOp .Mult) (rI IntMulOk fun i j=>.int (i * j)):=opI fun _ _ _ _ _ _ _ hc q=>mul_int q hc
theorem oR:∀ (ns:List Int),∀ n∈ns,Builtin.Int.intBits n<=PySem.W.WData.weightAll (ns.map PySem.W.WData.int)
 | [],n,h=>(nomatch h)
 | m :: r,n,h=>by
  rw [List.map_cons,PySem.W.WData.weightAll]
  have e:PySem.W.WData.weight (.int m)=Builtin.Int.intBits m:=by
   rw [PySem.W.WData.weight]
   rfl
  rw [e]
  rcases List.mem_cons.mp h with rfl | h
  ·omega
  ·have:=oR r n h
   omega
theorem vp {ns:List Int} (h:PySem.W.WData.layableAll [PySem.W.WData.list (ns.map PySem.W.WData.int)]=true):∀ n∈ns,Builtin.Int.intBits n<=1048576:=by
 intro n hn
 have h1:PySem.W.WData.layable (PySem.W.WData.list (ns.map PySem.W.WData.int))=true:=by
  unfold PySem.W.WData.layableAll at h
  rw [List.all_cons,Bool.and_eq_true] at h
  exact h.1
 unfold PySem.W.WData.layable at h1
 rw [Bool.and_eq_true] at h1
 have h2:PySem.W.WData.weight (PySem.W.WData.list (ns.map PySem.W.WData.int))<=2 ^ 20:=of_decide_eq_true h1.2
 rw [PySem.W.WData.weight] at h2
 have h3:=oR ns n hn
 have e:(2:Nat) ^ 20=1048576:=by decide
 omega
noncomputable def dX (K:PySem.W.Frag) (H:Hp) (a:Addr) (ns:List Int):Prop:=SqL K H a (ns.map V.int)/\ns.length<=63/\∀ n∈ns,Builtin.Int.intBits n<=1048576
theorem ya {J:It} {n:Nat} {g:TG} {tb:TS} {D:jm} {σ:St} {H:Hp} {Y:Nat->Hp->V->Hp->Prop} (Pv:Nat->St->Hp->Prop) (h0:Pv 0 σ H) (hgo:∀ i σ H,i < n->Pv i σ H->J.go i H) (hst:∀ σ H,Pv n σ H->J.stop n H)
  (hy:∀ i σ H x H1,i < n->Pv i σ H->J.yld i H x H1->Y i H x H1) (hs:∀ i x σ H H1,i < n->Pv i σ H->Y i H x H1->g x σ H1 fun σ2 H2=>tb { D with nx:=Pv (i + 1),ct:=Pv (i + 1),bk:=D.nx } σ2 H2) (hd:∀ σ H,Pv n σ H->D.nx σ H):
  ∃ W:Nat->Nat->St->Hp->Prop,(∃ m,W 0 m σ H)/\∀ i m σ H,W i m σ H->
   (J.stop i H/\D.nx σ H)\/(J.go i H/\∃ N:St->Hp->Prop,(∀ σ' H',N σ' H'->∃ m',m' < m/\W (i + 1) m' σ' H')/\∀ x H',J.yld i H x H'->g x σ H' fun σ2 H2=>tb { D with nx:=N,ct:=N,bk:=D.nx } σ2 H2):=by
 refine ⟨fun i m σ H=>m=n - i/\i<=n/\Pv i σ H,⟨n,by simp,Nat.zero_le _,h0⟩,?_⟩
 rintro i m σ H ⟨rfl,hi,p⟩
 by_cases hlt:i < n
 ·exact .inr ⟨hgo i σ H hlt p,Pv (i + 1),fun σ' H' p'=>⟨n - (i + 1),by omega,rfl,hlt,p'⟩,fun x H' y=>hs i x σ H H' hlt p (hy i σ H x H' hlt p y)⟩
 ·have e:i=n:=by omega
  subst e
  exact .inl ⟨hst σ H p,hd σ H p⟩
theorem tY {S:Src} {K:PySem.W.Frag} {a:Addr} {xs:List V} {g:TG} {tb:TS} {D:jm} {σ:St} {H:Hp} (Pv:Nat->St->Hp->Prop) (h0:Pv 0 σ H) (hl:∀ i σ H,i<=xs.length->Pv i σ H->S.Sq K H a xs)
  (hs:∀ i x T σ H,xs[i]?=some x->Pv i σ H->H T=none->g (.ref T) σ (upd H T (.tup [.int i,x])) fun σ2 H2=>tb { D with nx:=Pv (i + 1),ct:=Pv (i + 1),bk:=D.nx } σ2 H2) (hd:∀ σ H,Pv xs.length σ H->D.nx σ H):
  ∃ W:Nat->Nat->St->Hp->Prop,(∃ m,W 0 m σ H)/\∀ i m σ H,W i m σ H->
   ((Ite S K a).stop i H/\D.nx σ H)\/((Ite S K a).go i H/\∃ N:St->Hp->Prop,(∀ σ' H',N σ' H'->∃ m',m' < m/\W (i + 1) m' σ' H')/\∀ x H',(Ite S K a).yld i H x H'->g x σ H' fun σ2 H2=>tb { D with nx:=N,ct:=N,bk:=D.nx } σ2 H2):=
 ya (J:=Ite S K a) (n:=xs.length) (Y:=fun i H x H1=>∃ T v,H T=none/\x=.ref T/\H1=upd H T (.tup [.int i,v])/\xs[i]?=some v) Pv h0 (fun i σ H hi w=>⟨xs,xs[i],hl i σ H (Nat.le_of_lt hi) w,by simp [hi]⟩) (fun σ H w=>⟨xs,hl _ σ H (Nat.le_refl _) w,rfl⟩)
  (fun i σ H x H1 hi w y=>by
   obtain ⟨T,v,e1,e2,e3,e4⟩:=y
   exact ⟨T,v,e1,e2,e3,e4 xs (hl i σ H (Nat.le_of_lt hi) w)⟩) (fun i x σ H H1 hi w y=>by
   obtain ⟨T,v,e1,rfl,rfl,e4⟩:=y
   exact hs i v T σ H e4 w e1) hd
theorem rF {S:Src} {K:PySem.W.Frag} {a:Addr} {xs:List V} {g:CF TG} {tt:CF TT} {te:CF TE} {σ₀:St} {p:Addr} {Q:VK} {H:Hp} (Pv:Nat->List V->Hp->Prop) (h0:Pv 0 [] (upd H p (.lst []))) (hp:∀ i acc H,i<=xs.length->Pv i acc H->H p=some (.lst acc)/\acc.length<=i) (hl:∀ i acc H,i<=xs.length->Pv i acc H->S.Sq K H a xs) (hz:xs.length<=sizeLine)
  (hs:∀ C s' H' fp,∀ i x T acc H,xs[i]?=some x->Pv i acc H->H T=none->g C s' H' fp (.ref T) σ₀ (upd H T (.tup [.int i,x])) fun σ2 H2=>tt C s' H' fp σ2 H2 fun b H3=>if b=true then te C s' H' fp σ2 H3 fun y H4=>H4 p=some (.lst acc)/\Pv (i + 1) (acc++[y]) (upd H4 p (.lst (acc++[y]))) else Pv (i + 1) acc H3)
  (hd:∀ acc H,Pv xs.length acc H->Q (.ref p) H):
  ∃ W:Nat->Nat->List V->Hp->Prop,(∃ m,W 0 m [] (upd H p (.lst [])))/\∀ C s' H' fp,b8 (Ite S K a) (g C s' H' fp) (tt C s' H' fp) (te C s' H' fp) σ₀ p Q W:=
 kB (Y:=fun i H x H1=>∃ T v,H T=none/\x=.ref T/\H1=upd H T (.tup [.int i,v])/\xs[i]?=some v) Pv h0 hp hz (fun i acc H hi w=>⟨xs,xs[i],hl i acc H (Nat.le_of_lt hi) w,by simp [hi]⟩) (fun acc H w=>⟨xs,hl _ acc H (Nat.le_refl _) w,rfl⟩)
  (fun i acc H x H1 hi w y=>by
   obtain ⟨T,v,e1,e2,e3,e4⟩:=y
   exact ⟨T,v,e1,e2,e3,e4 xs (hl i acc H (Nat.le_of_lt hi) w)⟩) (fun C s' H' fp i x acc H H1 hi w y=>by
   obtain ⟨T,v,e1,rfl,rfl,e4⟩:=y
   exact hs C s' H' fp i v T acc H e4 w e1) hd
theorem aP {H:Hp} {p:Addr} (h:H p=none) (o:HO):ak H (upd H p o):=fun b u q=>by rw [aF (aJ q h)]; exact q
theorem ak.upd {H H':Hp} {p:Addr} (s:ak H H') (h:H p=none) (o:HO):ak H (upd H' p o):=fun b u q=>by rw [aF (aJ q h)]; exact s b u q
theorem ak.tup {K:PySem.W.Frag} {H H':Hp} {a:Addr} {xs:List V} (e:ak H H') (h:SqT K H a xs):SqT K H' a xs:=by
 rcases h with (h | ⟨o,h⟩) | h
 ·exact .inl (.inl (e _ _ h))
 ·exact .inl (.inr ⟨o,e _ _ h⟩)
 ·exact .inr h
theorem small {n:Nat} (h:n<=1000):n<=sizeLine:=Nat.le_of_lt (x3 h)
theorem tZ {ns:List Int} {k:Int} (h0:0<=k) (h1:k < (ns.length:Int)):atI (ns.map V.int) k=some (.int (ns.getD k.toNat 0)):=by
 have hk:k.toNat < ns.length:=by omega
 have e:k=((k.toNat:Nat):Int):=by omega
 have q:atI (ns.map V.int) ((k.toNat:Nat):Int)=some (.int (ns.getD k.toNat 0)):=bG (by rw [List.getElem?_map,List.getElem?_eq_getElem hk,List.getD_eq_getElem?_getD,List.getElem?_eq_getElem hk] <;> rfl)
 rw [<-e] at q
 exact q
theorem gH {c:Bool} {A B:Prop} (h1:c=true->A) (h2:c=false->B):if c=true then A else B:=by
 cases c with
 | true=>rw [if_pos rfl]; exact h1 rfl
 | false=>rw [if_neg Bool.false_ne_true]; exact h2 rfl
noncomputable def cz (ns:List Int) (k:Int):Int:=
 if k < (ns.length:Int) then ns.getD k.toNat 0 else
  let n0:=if 0 < (ns.length:Int) then ns.getD ((k * 7) % (ns.length:Int)).toNat 0 * 48271 + k * 7919 else k * 7919 + 5
  let n1:=n0 * n0 % 2147483629
  (n1 + k) * (n1 + 69621) % 2147483587
noncomputable def BY (K:PySem.W.Frag):Sp:=fun vs H Q _=>∃ (a:Addr) (ns:List Int) (k:Int),vs=[.ref a,.int k]/\dX K H a ns/\0<=k/\k<=1000000/\Q (.int (cz ns k)) H
theorem dX.same {K:PySem.W.Frag} {H H':Hp} {a:Addr} {ns:List Int} (h:dX K H a ns) (s:ak H H'):dX K H' a ns:=⟨s.seq h.1,h.2⟩
structure Blt (mg:Str->Option Value):Prop where
 len:mg "len"=none
 range:mg "range"=none
 tuple:mg "tuple"=none
 list:mg "list"=none
 int:mg "int"=none
 bool:mg "bool"=none
 str:mg "str"=none
 dict:mg "dict"=none
 sum:mg "sum"=none
 all:mg "all"=none
 min:mg "min"=none
 max:mg "max"=none
 sorted:mg "sorted"=none
 enumerate:mg "enumerate"=none
 zip:mg "zip"=none
 isinstance:mg "isinstance"=none
theorem yb {ns:List Int} (h:∀ n∈ns,Builtin.Int.intBits n<=1048576) (i:Nat):Builtin.Int.intBits (ns.getD i 0)<=1048576:=by
 rw [List.getD_eq_getElem?_getD]
 cases e:ns[i]? with
 | none=>show Builtin.Int.intBits 0<=_; decide
 | some n=>exact h n (List.mem_of_getElem? e)
end L2
end
section
namespace L2
open PySem PySem.Spec PyProof.Rows
structure t0 (z TI TO j1 j2:Addr) (fp1 fp2:List Addr):Prop where
 a1:TI≠z
 a2:TO≠z
 a3:j1≠z
 a4:j2≠z
 a5:TI≠TO
 a6:TI≠j1
 a7:TI≠j2
 a8:TO≠j1
 a9:TO≠j2
 b0:j1≠j2
 b1:z∉fp1
 b2:TO∉fp1
 b3:j2∉fp1
 b4:z∉fp2
 b5:TO∉fp2
 b6:j1∉fp2
section
variable {prog:Program} {w:World} {A:Around} {E:Value->Shared->Prop} {s:Shared}
theorem _root_.PySem.Draws.but {it:Addr} {fp:List Addr} {n i:Nat} {P:Nat->Value->Prop} {St:Nat->Heap->Prop} {h h':Heap} {c:Addr} (D:Draws prog w A it fp n P St) (hst:St i h) (hs:Heap.SameBut c h h') (hc:c∉fp):St i h':=
 D.frame i _ _ hst fun b hb o e=>hs.extBut b o (fun z=>hc (by rw [<-z]; exact hb)) e
theorem yc {z TI TO j1 j2:Addr} {fp1 fp2:List Addr} {n1 n2 k:Nat} {P1 P2:Nat->Value->Prop} {S1 S2:Nat->Heap->Prop} {a b:Value} {Q:Value->Shared->Prop} (Z:t0 z TI TO j1 j2 fp1 fp2)
  (D1:Draws prog w A j1 fp1 n1 P1 S1) (D2:Draws prog w A j2 fp2 n2 P2 S2) (hz:IsZip s.heap z TI TO .none) (hTI:IsPair s.heap TI (.ref j1) (.ref j2)) (hTO:IsPair s.heap TO a b) (h1:S1 k s.heap) (h2:S2 k s.heap) (l1:k < n1) (l2:k < n2)
  (hQ:∀ x y h' tk,P1 k x->P2 k y->IsZip h' z TI TO (rawInt s.heap.objs.size)->(∃ a b,IsPair h' TO a b)->S1 (k + 1) h'->S2 (k + 1) h'->IsPair h' s.heap.objs.size x y->
   (∀ c o,c∉[z,TI,TO,j1,j2]->s.heap.get? c=some o->h'.get? c=some o)->IsPair h' TI (.ref j1) (.ref j2)->Q (.ref s.heap.objs.size) { s with heap:=h',toks:=tk }):
  wpAny (model prog w) A (Builtin.«zip.__next__» ⟨[.ref z],[]⟩) (fun fin s'=>∃ v,fin=.done (.ret v)/\Q v s') E s:=by
 obtain ⟨hp,g,d,tk₀,os⟩:=s
 show wpAny _ _ (field (.ref z) 2 >>= _) _ _ _
 refine wpAny_bind (wpAny_field hz rfl (x:=.bool false) rfl ?_)
 show wpAny _ _ (field (.ref z) 3 >>= _) _ _ _
 refine wpAny_bind (wpAny_field hz rfl (x:=.ref TI) rfl ?_)
 refine wpAny_bind (wpAny_seqItems hTI rfl ?_)
 show wpAny _ _ (Builtin.SmallTypes.ownedTupleIsFree (.ref z) >>= _) _ _ _
 refine wpAny_bind ?_
 unfold Builtin.SmallTypes.ownedTupleIsFree
 refine wpAny_bind (wpAny_field hz rfl (x:=.none) rfl (wpAny_pure ?_))
 simp only [if_true]
 refine wpAny_bind (wpAny_rule ?_)
 refine wpAny_bind (wpAny_field hz rfl (x:=.ref TO) rfl ?_)
 refine wpAny_bind (wpAny_setField_rec hz (by simp) fun g1 hz1 hs1=>?_)
 replace hz1:IsZip g1 z TI TO .ellipsis:=hz1
 replace hs1:Heap.SameBut z hp g1:=hs1
 refine wpAny_bind ?_
 simp only [List.zipIdx_cons,List.zipIdx_nil,List.forIn_cons,List.forIn_nil]
 refine wpAny_bind (wpAny_bind (wpAny_onRaise ?_))
 show wpAny _ _ (Builtin.SmallTypes.nextOf (.ref j1) >>= _) _ _ _
 refine wpAny_bind (D1.item k ⟨g1,g,d,tk₀,os⟩ _ _ l1 (D1.but h1 hs1 Z.b1) fun x g2 tk1 px st1 hs2=>wpAny_pure ?_)
 replace hs2:Heap.SameBut j1 g1 g2:=hs2
 have hTO2:IsPair g2 TO a b:=hs2.extBut _ _ Z.a8 (hs1.extBut _ _ Z.a2 hTO)
 refine wpAny_bind (wpAny_seqItems hTO2 rfl ?_)
 refine wpAny_bind (wpAny_updateSeq_pair hTO2 fun g3 hTO3 hs3=>?_)
 replace hTO3:IsPair g3 TO x b:=hTO3
 replace hs3:Heap.SameBut TO g2 g3:=hs3
 refine wpAny_bind (wpAny_letGo (wpAny_pure ?_))
 refine wpAny_bind (wpAny_bind (wpAny_onRaise ?_))
 show wpAny _ _ (Builtin.SmallTypes.nextOf (.ref j2) >>= _) _ _ _
 refine wpAny_bind (D2.item k ⟨g3,g,d,tk1,os⟩ _ _ l2 (D2.but (D2.but (D2.but h2 hs1 Z.b4) hs2 Z.b6) hs3 Z.b5) fun y g4 tk2 py st2 hs4=>wpAny_pure ?_)
 replace hs4:Heap.SameBut j2 g3 g4:=hs4
 have hTO4:IsPair g4 TO x b:=hs4.extBut _ _ Z.a9 hTO3
 refine wpAny_bind (wpAny_seqItems hTO4 rfl ?_)
 refine wpAny_bind (wpAny_updateSeq_pair hTO4 fun g5 hTO5 hs5=>?_)
 replace hTO5:IsPair g5 TO x y:=hTO5
 replace hs5:Heap.SameBut TO g4 g5:=hs5
 refine wpAny_bind (wpAny_letGo (wpAny_pure (wpAny_pure ?_)))
 refine wpAny_bind (wpAny_seqItems hTO5 rfl ?_)
 refine wpAny_bind (wpAny_newTuple ?_)
 have hsz:g5.objs.size=hp.objs.size:=by rw [hs5.1,hs4.1,hs3.1,hs2.1,hs1.1]
 have hz5:IsZip g5 z TI TO .ellipsis:=hs5.extBut _ _ Z.a2.symm (hs4.extBut _ _ Z.a4.symm (hs3.extBut _ _ Z.a2.symm (hs2.extBut _ _ Z.a3.symm hz1)))
 have k5:∀ c o,c≠z->c≠TO->c≠j1->c≠j2->hp.get? c=some o->g5.get? c=some o:=fun c o c1 c2 c3 c4 e=>
  hs5.extBut _ _ c2 (hs4.extBut _ _ c4 (hs3.extBut _ _ c2 (hs2.extBut _ _ c3 (hs1.extBut _ _ c1 e))))
 have st15:S1 (k + 1) g5:=D1.but (D1.but (D1.but st1 hs3 Z.b2) hs4 Z.b3) hs5 Z.b2
 have st25:S2 (k + 1) g5:=D2.but st2 hs5 Z.b5
 have zlt:z < g5.objs.size:=Heap.lt_size hz5
 show wpAny _ _ (Builtin.SmallTypes.ownedTupleHandOut (.ref z) (.ref g5.objs.size) >>= _) _ _ _
 refine wpAny_bind ?_
 unfold Builtin.SmallTypes.ownedTupleHandOut
 have hz6:IsZip (g5.push { cls:=.type "tuple",data:=.seq #[x,y] }) z TI TO .ellipsis:=Heap.get?_push_of_some _ hz5
 refine wpAny_bind (wpAny_setField_rec hz6 (by simp) fun g7 hz7 hs7=>?_)
 replace hz7:IsZip g7 z TI TO (rawInt g5.objs.size):=hz7
 refine wpAny_setField_rec hz7 (by simp) fun g8 hz8 hs8=>?_
 replace hz8:IsZip g8 z TI TO (rawInt g5.objs.size):=hz8
 have up:∀ c o,c≠z->g5.get? c=some o->g8.get? c=some o:=fun c o c1 e=>hs8.extBut _ _ c1 (hs7.extBut _ _ c1 (Heap.get?_push_of_some _ e))
 have hT8:IsPair g8 g5.objs.size x y:=hs8.extBut _ _ (Nat.ne_of_gt zlt) (hs7.extBut _ _ (Nat.ne_of_gt zlt) (Heap.get?_push_size _ rfl))
 rw [hsz] at hz8 hT8
 refine wpAny_pure ⟨_,rfl,?_⟩
 show Q (.ref g5.objs.size) _
 rw [hsz]
 exact hQ x y g8 tk2 px py hz8 ⟨x,y,up _ _ Z.a2 hTO5⟩ (D1.frame _ _ _ st15 fun c hc o e=>up c o (fun q=>Z.b1 (by rw [<-q]; exact hc)) e) (D2.frame _ _ _ st25 fun c hc o e=>up c o (fun q=>Z.b4 (by rw [<-q]; exact hc)) e) hT8
  (fun c o hc e=>by
   simp only [List.mem_cons,List.not_mem_nil,or_false,not_or] at hc
   exact up c o hc.1 (k5 c o hc.1 hc.2.2.1 hc.2.2.2.1 hc.2.2.2.2 e)) (up _ _ Z.a1 (k5 _ _ Z.a1 Z.a5 Z.a6 Z.a7 hTI))
theorem zt {z TI TO j1 j2:Addr} {fp1 fp2:List Addr} {n1 n2 k:Nat} {P1 P2:Nat->Value->Prop} {S1 S2:Nat->Heap->Prop} {a b:Value} {Q:Fin->Shared->Prop} (Z:t0 z TI TO j1 j2 fp1 fp2)
  (D1:Draws prog w A j1 fp1 n1 P1 S1) (D2:Draws prog w A j2 fp2 n2 P2 S2) (hz:IsZip s.heap z TI TO .none) (hTI:IsPair s.heap TI (.ref j1) (.ref j2)) (hTO:IsPair s.heap TO a b) (h1:S1 k s.heap) (h2:S2 k s.heap) (l:k=min n1 n2)
  (hE:∀ h' e tk,(∀ c o,c∉[z,TI,TO,j1,j2]->s.heap.get? c=some o->h'.get? c=some o)->(∃ o,h'.get? e=some o/\o.cls=.type "StopIteration")->E (.ref e) { s with heap:=h',toks:=tk }):
  wpAny (model prog w) A (Builtin.«zip.__next__» ⟨[.ref z],[]⟩) Q E s:=by
 obtain ⟨hp,g,d,tk₀,os⟩:=s
 have kp:∀ {h':Heap},(∀ c o,c≠z->c≠TO->c≠j1->c≠j2->hp.get? c=some o->h'.get? c=some o)->∀ c o,c∉[z,TI,TO,j1,j2]->hp.get? c=some o->h'.get? c=some o:=fun {h'} q c o hc e=>by
  simp only [List.mem_cons,List.not_mem_nil,or_false,not_or] at hc
  exact q c o hc.1 hc.2.2.1 hc.2.2.2.1 hc.2.2.2.2 e
 show wpAny _ _ (field (.ref z) 2 >>= _) _ _ _
 refine wpAny_bind (wpAny_field hz rfl (x:=.bool false) rfl ?_)
 show wpAny _ _ (field (.ref z) 3 >>= _) _ _ _
 refine wpAny_bind (wpAny_field hz rfl (x:=.ref TI) rfl ?_)
 refine wpAny_bind (wpAny_seqItems hTI rfl ?_)
 show wpAny _ _ (Builtin.SmallTypes.ownedTupleIsFree (.ref z) >>= _) _ _ _
 refine wpAny_bind ?_
 unfold Builtin.SmallTypes.ownedTupleIsFree
 refine wpAny_bind (wpAny_field hz rfl (x:=.none) rfl (wpAny_pure ?_))
 simp only [if_true]
 refine wpAny_bind (wpAny_rule ?_)
 refine wpAny_bind (wpAny_field hz rfl (x:=.ref TO) rfl ?_)
 refine wpAny_bind (wpAny_setField_rec hz (by simp) fun g1 hz1 hs1=>?_)
 replace hz1:IsZip g1 z TI TO .ellipsis:=hz1
 replace hs1:Heap.SameBut z hp g1:=hs1
 refine wpAny_bind ?_
 simp only [List.zipIdx_cons,List.zipIdx_nil,List.forIn_cons,List.forIn_nil]
 refine wpAny_bind (wpAny_bind (wpAny_onRaise ?_))
 show wpAny _ _ (Builtin.SmallTypes.nextOf (.ref j1) >>= _) _ _ _
 by_cases hk:k=n1
 ·subst hk
  refine wpAny_bind (D1.done ⟨g1,g,d,tk₀,os⟩ _ _ (D1.but h1 hs1 Z.b1) fun g2 e hs2 he=>?_)
  replace hs2:Heap.ExtBut j1 g1 g2:=hs2
  obtain ⟨oe,hoe,hce⟩:=he
  have hz2:IsZip g2 z TI TO .ellipsis:=hs2 _ _ Z.a3.symm hz1
  have nez:e≠z:=fun q=>by
   subst q
   rw [hz2] at hoe
   cases hoe
   simp at hce
  refine wpAny_setField_rec hz2 (by simp) fun g3 _ hs3=>hE g3 e tk₀ (kp fun c o c1 _ c3 _ q=>hs3.extBut _ _ c1 (hs2 _ _ c3 (hs1.extBut _ _ c1 q))) ⟨oe,hs3.extBut _ _ nez hoe,hce⟩
 ·have hlt:k < n1:=by omega
  have hk2:k=n2:=by omega
  refine wpAny_bind (D1.item k ⟨g1,g,d,tk₀,os⟩ _ _ hlt (D1.but h1 hs1 Z.b1) fun x g2 tk1 px st1 hs2=>wpAny_pure ?_)
  replace hs2:Heap.SameBut j1 g1 g2:=hs2
  have hTO2:IsPair g2 TO a b:=hs2.extBut _ _ Z.a8 (hs1.extBut _ _ Z.a2 hTO)
  refine wpAny_bind (wpAny_seqItems hTO2 rfl ?_)
  refine wpAny_bind (wpAny_updateSeq_pair hTO2 fun g3 hTO3 hs3=>?_)
  replace hs3:Heap.SameBut TO g2 g3:=hs3
  refine wpAny_bind (wpAny_letGo (wpAny_pure ?_))
  refine wpAny_bind (wpAny_bind (wpAny_onRaise ?_))
  show wpAny _ _ (Builtin.SmallTypes.nextOf (.ref j2) >>= _) _ _ _
  subst hk2
  refine wpAny_bind (D2.done ⟨g3,g,d,tk1,os⟩ _ _ (D2.but (D2.but (D2.but h2 hs1 Z.b4) hs2 Z.b6) hs3 Z.b5) fun g4 e hs4 he=>?_)
  replace hs4:Heap.ExtBut j2 g3 g4:=hs4
  obtain ⟨oe,hoe,hce⟩:=he
  have hz4:IsZip g4 z TI TO .ellipsis:=hs4 _ _ Z.a4.symm (hs3.extBut _ _ Z.a2.symm (hs2.extBut _ _ Z.a3.symm hz1))
  have nez:e≠z:=fun q=>by
   subst q
   rw [hz4] at hoe
   cases hoe
   simp at hce
  refine wpAny_setField_rec hz4 (by simp) fun g5 _ hs5=>hE g5 e tk1 (kp fun c o c1 c2 c3 c4 q=>hs5.extBut _ _ c1 (hs4 _ _ c4 (hs3.extBut _ _ c2 (hs2.extBut _ _ c3 (hs1.extBut _ _ c1 q))))) ⟨oe,hs5.extBut _ _ nez hoe,hce⟩
end
noncomputable abbrev zh1 (S1:Src) (h:Heap) (l1:Addr):Heap:=h.push { cls:=.type S1.icls,data:=.fields #[.ref l1,.int 0 0] }
noncomputable abbrev zh2 (S1 S2:Src) (h:Heap) (l1 l2:Addr):Heap:=(zh1 S1 h l1).push { cls:=.type S2.icls,data:=.fields #[.ref l2,.int 0 0] }
noncomputable abbrev zh3 (S1 S2:Src) (h:Heap) (l1 l2:Addr):Heap:=(zh2 S1 S2 h l1 l2).push { cls:=.type "tuple",data:=.seq #[.ref h.objs.size,.ref (zh1 S1 h l1).objs.size] }
noncomputable abbrev zh4 (S1 S2:Src) (h:Heap) (l1 l2:Addr):Heap:=(zh3 S1 S2 h l1 l2).push { cls:=.type "tuple",data:=.seq #[.none,.none] }
noncomputable abbrev zh5 (S1 S2:Src) (h:Heap) (l1 l2:Addr):Heap:=(zh4 S1 S2 h l1 l2).push { cls:=.type "zip",data:=.fields #[.none,.bool false,.bool false,.ref (zh2 S1 S2 h l1 l2).objs.size,.ref (zh3 S1 S2 h l1 l2).objs.size] }
theorem A0 (S1 S2:Src) (l1 l2:Addr) (xs ys:Array Value):
  Meets (Builtin.«zip.__new__» ⟨[.type "zip",.ref l1,.ref l2],[]⟩) (fun _ R s=>S1.Is s.heap l1 xs/\S2.Is s.heap l2 ys/\R (.ok (.ret (.ref (zh4 S1 S2 s.heap l1 l2).objs.size))) { s with heap:=zh5 S1 S2 s.heap l1 l2 }):=
 .of_wp fun prog w A R s h=>by
  obtain ⟨hp,g,d,tk,os⟩:=s
  obtain ⟨q1,q2,h⟩:=h
  have hsub:=sub_zip
  have hL1:S1.Is (Shared.heap ⟨hp,g,d,tk,os⟩) l1 xs:=q1
  have hL2:S2.Is (Shared.heap ⟨zh1 S1 hp l1,g,d,tk,os⟩) l2 ys:=S2.isKeep q2 fun o e=>Heap.get?_push_of_some _ e
  wp_walk using S1.iter hL1,S2.iter hL2
  exact ⟨_,rfl,h⟩
noncomputable def Itz (S1 S2 : Src) (K : PySem.W.Frag) (a b : Addr) : It :=
  ⟨fun i H => ∃ xs ys x y, S1.Sq K H a xs ∧ S2.Sq K H b ys ∧ xs[i]? = some x ∧ ys[i]? = some y,
   fun i H x H' => ∃ T u v, H T = none ∧ x = .ref T ∧ H' = upd H T (.tup [u, v]) ∧ ∀ xs ys, S1.Sq K H a xs → S2.Sq K H b ys → xs[i]? = some u ∧ ys[i]? = some v,
   fun i H => ∃ xs ys, S1.Sq K H a xs ∧ S2.Sq K H b ys ∧ min xs.length ys.length = i⟩
theorem zap {z TI TO j1 j2 a b:Addr} (nd:[z,TI,TO,j1,j2].Nodup) (h1:∀ c∈[z,TI,TO,j1,j2],c≠a) (h2:∀ c∈[z,TI,TO,j1,j2],c≠b):t0 z TI TO j1 j2 [j1,a] [j2,b]:=by
 simp only [List.nodup_cons,List.mem_cons,List.not_mem_nil,or_false,not_or] at nd
 obtain ⟨⟨c1,c2,c3,c4⟩,⟨c5,c6,c7⟩,⟨c8,c9⟩,c10,_⟩:=nd
 have g1:=h1 z (by simp)
 have g2:=h1 TO (by simp)
 have g3:=h1 j2 (by simp)
 have g4:=h2 z (by simp)
 have g5:=h2 TO (by simp)
 have g6:=h2 j1 (by simp)
 exact ⟨Ne.symm c1,Ne.symm c2,Ne.symm c3,Ne.symm c4,c5,c6,c7,c8,c9,c10,by simp [c3,g1],by simp [c8,g2],by simp [Ne.symm c10,g3],by simp [c4,g4],by simp [c9,g5],by simp [c10,g6]⟩
theorem zu {P:Program} {w:World} {K:PySem.W.Frag} {elts:List Expr} {k0:Nat} {pos:Pos} (S1 S2:Src) (a b z TI TO j1 j2:Addr) (nd:[z,TI,TO,j1,j2].Nodup):
  mn P w K (.Tuple elts k0 pos) (Itz S1 S2 K a b) [z,TI,TO,j1,j2] z (fun i h=>IsZip h z TI TO .none/\IsPair h TI (.ref j1) (.ref j2)/\(∃ u v,IsPair h TO u v)/\S1.It h j1 a i/\S2.It h j2 b i) where
 mem:=by simp
 obj:=fun i h st c hc=>by
  obtain ⟨q1,q2,⟨u,v,q3⟩,q4,q5⟩:=st
  simp only [List.mem_cons,List.not_mem_nil,or_false] at hc
  rcases hc with rfl | rfl | rfl | rfl | rfl
  ·exact ⟨_,q1,fun v z=>nomatch z⟩
  ·exact ⟨_,q2,fun v z=>nomatch z⟩
  ·exact ⟨_,q3,fun v z=>nomatch z⟩
  ·obtain ⟨o,ho,_,hd⟩:=S1.isIt q4
   exact ⟨o,ho,fun v z=>by rw [hd] at z; cases z⟩
  ·obtain ⟨o,ho,_,hd⟩:=S2.isIt q5
   exact ⟨o,ho,fun v z=>by rw [hd] at z; cases z⟩
 keep:=fun i h h' st k=>by
  obtain ⟨q1,q2,⟨u,v,q3⟩,q4,q5⟩:=st
  exact ⟨k z (by simp) _ q1,k TI (by simp) _ q2,⟨u,v,k TO (by simp) _ q3⟩,S1.itKeep q4 fun o q=>k j1 (by simp) o q,S2.itKeep q5 fun o q=>k j2 (by simp) o q⟩
 item:=by
  intro X hP hw hK hc i pins s σ H E I hf st hg
  subst hP hw hK
  obtain ⟨xs,ys,x,y,hq1,hq2,hx,hy⟩:=hg
  obtain ⟨us,r1,p1,_⟩:=S1.get I hq1
  obtain ⟨vs,r2,p2,_⟩:=S2.get I hq2
  obtain ⟨q1,q2,⟨u0,v0,q3⟩,q4,q5⟩:=st
  obtain ⟨u,hu,ru⟩:=r1.get hx
  obtain ⟨v,hv,rv⟩:=r2.get hy
  have Z:=zap nd (fun c hc'=>S1.off I hq1 (hf c hc')) (fun c hc'=>S2.off I hq2 (hf c hc'))
  have hh:X.A.in1.handled=none:=I.ok.hd hc
  have n1:a≠j1:=Ne.symm (S1.off I hq1 (hf j1 (by simp)))
  have n2:b≠j2:=Ne.symm (S2.off I hq2 (hf j2 (by simp)))
  have l1:i < us.toArray.size:=by have:=(List.getElem?_eq_some_iff.mp hu).1; simpa using this
  have l2:i < vs.toArray.size:=by have:=(List.getElem?_eq_some_iff.mp hv).1; simpa using this
  have hT:s.TypeIs (.ref z) "zip":=⟨_,q1,rfl⟩
  unfold pyNext
  refine wpAny_bind (wpAny_attempt (wpAny_callSpecial?_slot (name:=Str.ofString "__next__") hT F.slot_zip_next (wpAny_call_entry F.slot_zip_next hT F.entry_zip_next
   (yc (A:=X.A.in1) Z (S1.draws hh j1 a n1 us.toArray) (S2.draws hh j2 b n2 vs.toArray) q1 q2 q3 ⟨q4,p1⟩ ⟨q5,p2⟩ l1 l2 fun x' y' h' tk px py z1 z2 z3 z4 z5 z6 z7=>wpAny_pure ?_) (F.args_zip_next_1 _))))
  have ex:x'=u:=by
   have:us.toArray[i]?=some u:=by simpa using hu
   rw [this] at px
   exact (Option.some.inj px).symm
  have ey:y'=v:=by
   have:vs.toArray[i]?=some v:=by simpa using hv
   rw [this] at py
   exact (Option.some.inj py).symm
  subst ex ey
  refine ⟨_,rfl,wpAny_letOwnedTupleGo_zip z1 fun h2 w1 hs2=>?_⟩
  have nz:∀ c,c∈[TI,TO,j1,j2]->c≠z:=fun c hc' e=>by
   subst e
   exact (List.nodup_cons.mp nd).1 hc'
  have zlt:z < s.heap.objs.size:=Heap.lt_size q1
  have hT2:h2.get? s.heap.objs.size=some { cls:=.type "tuple",data:=.seq #[x',y'] }:=hs2.extBut _ _ (BV (Nat.le_refl _) zlt) z5
  have kept:∀ c ob,c∉[z,TI,TO,j1,j2]->s.heap.get? c=some ob->h2.get? c=some ob:=fun c ob hc' q=>hs2.extBut _ _ (fun e=>hc' (by simp [e])) (z6 c ob hc' q)
  obtain ⟨u1,v1,z2⟩:=z2
  refine ⟨.ref s.heap.objs.size,upd H s.heap.objs.size (.tup [x,y]),?_,rfl,⟨_,x,y,I.fresh,rfl,rfl,fun xs' ys' h1 h2=>by rw [S1.inj I h1 hq1,S2.inj I h2 hq2]; exact ⟨hx,hy⟩⟩,
   ⟨w1,hs2.extBut _ _ (nz TI (by simp)) z7,⟨u1,v1,hs2.extBut _ _ (nz TO (by simp)) z2⟩,S1.itKeep z3.1 fun o q=>hs2.extBut _ _ (nz j1 (by simp)) q,S2.itKeep z4.1 fun o q=>hs2.extBut _ _ (nz j2 (by simp)) q⟩,fun c hc'=>?_⟩
  ·exact I.turns (t':=tk) hf kept (Nat.le_refl _) ⟨(by show 2<=sizeLine; decide),[x',y'],.cons ru (.cons rv .nil),_,hT2,rfl,⟨0,rfl⟩,rfl⟩
  ·have lt:c < s.heap.objs.size:=by
    have st':IsZip s.heap z TI TO .none/\IsPair s.heap TI (.ref j1) (.ref j2)/\(∃ u v,IsPair s.heap TO u v)/\S1.It s.heap j1 a i/\S2.It s.heap j2 b i:=⟨q1,q2,⟨u0,v0,q3⟩,q4,q5⟩
    simp only [List.mem_cons,List.not_mem_nil,or_false] at hc'
    rcases hc' with rfl | rfl | rfl | rfl | rfl
    ·exact zlt
    ·exact Heap.lt_size q2
    ·exact Heap.lt_size q3
    ·obtain ⟨o,ho,_⟩:=S1.isIt q4
     exact Heap.lt_size ho
    ·obtain ⟨o,ho,_⟩:=S2.isIt q5
     exact Heap.lt_size ho
   rw [aF (lr lt (Nat.le_refl _))]
   exact (hf c hc').1
 done:=by
  intro X hP hw hK hc i pins s σ H E I hf st hg
  subst hP hw hK
  obtain ⟨xs,ys,hq1,hq2,hi⟩:=hg
  obtain ⟨us,r1,p1,_⟩:=S1.get I hq1
  obtain ⟨vs,r2,p2,_⟩:=S2.get I hq2
  obtain ⟨q1,q2,⟨u0,v0,q3⟩,q4,q5⟩:=st
  have Z:=zap nd (fun c hc'=>S1.off I hq1 (hf c hc')) (fun c hc'=>S2.off I hq2 (hf c hc'))
  have hh:X.A.in1.handled=none:=I.ok.hd hc
  have n1:a≠j1:=Ne.symm (S1.off I hq1 (hf j1 (by simp)))
  have n2:b≠j2:=Ne.symm (S2.off I hq2 (hf j2 (by simp)))
  have hT:s.TypeIs (.ref z) "zip":=⟨_,q1,rfl⟩
  have hl:i=min us.toArray.size vs.toArray.size:=by
   have:=r1.length
   have:=r2.length
   simp only [List.size_toArray]
   omega
  unfold pyNext
  refine wpAny_bind (wpAny_attempt (wpAny_callSpecial?_slot (name:=Str.ofString "__next__") hT F.slot_zip_next (wpAny_call_entry F.slot_zip_next hT F.entry_zip_next
   (zt (A:=X.A.in1) Z (S1.draws hh j1 a n1 us.toArray) (S2.draws hh j2 b n2 vs.toArray) q1 q2 q3 ⟨q4,p1⟩ ⟨q5,p2⟩ hl fun h' e tk kp he=>?_) (F.args_zip_next_1 _))))
  obtain ⟨o,ho,hcl⟩:=he
  refine wpAny_bind (wpAny_isInstance (T:="StopIteration") (b:=true) ⟨o,ho,hcl⟩ isSubtype_stop ?_)
  exact wpAny_pure ⟨rfl,I.turnsN (t':=tk) hf kp⟩
 self:=fun _ _ _ _ _ st h=>wpAny_pyIter_zip st.1 h
section
variable {X:Cx} {elts:List Expr} {k0:Nat} {tpos:Pos}
noncomputable def qf (S1 S2:Src) (K:PySem.W.Frag) (ta:TA):TI:=fun σ H R=>ta σ H fun vs H1=>∃ a b xs ys,vs=[.ref a,.ref b]/\S1.Sq K H1 a xs/\S2.Sq K H1 b ys/\R (Itz S1 S2 K a b) H1
theorem oT (S1 S2:Src) {a b:Expr} {ta:TA} {p pos:Pos} (hg:Gl X "zip") (hm:X.mg "zip"=none) (ha:PA X [a,b] ta) (hs:starEach [a,b] X.env=[(false,eval a X.env),(false,eval b X.env)]:=by rfl) (hs2:starEach [b] X.env=[(false,eval b X.env)]:=by rfl):
  PI X (.Tuple elts k0 tpos) (.Call (.Name "zip" p) [a,b] [] pos) (qf S1 S2 X.K ta):=by
 intro pins s σ H R I h
 refine Call_ (h8 I hg hm boot_zip (PyProof.Rows.callWith_type1 (thn (ha pos pins s σ H _ I h) fun us s1 ⟨vs,H1,I1,r1,q1⟩=>?_) (by rw [hs,hs2]) (by rw [hs2]; rfl)))
 obtain ⟨l1,l2,xs,ys,e,hq1,hq2,q⟩:=q1
 subst e
 obtain ⟨u,v,rfl,ru,rv⟩:=r1.two
 cases ru
 cases rv
 obtain ⟨us1,_,p1,_⟩:=S1.get I1 hq1
 obtain ⟨us2,_,p2,_⟩:=S2.get I1 hq2
 refine callType_new F.called_zip (by decide) (F.typeCall_zip_2 _ _) (F.newCall_zip_2 _ _) (fun obj=>F.args_object_init_3 obj _ _) F.entry_zip_new (A0 S1 S2 l1 l2 us1.toArray us2.toArray) ⟨p1,p2,?_⟩
 generalize hn:s1.heap.objs.size=n
 have z1:(zh1 S1 s1.heap l1).objs.size=n + 1:=by rw [Heap.size_push,hn]
 have z2:(zh2 S1 S2 s1.heap l1 l2).objs.size=n + 2:=by rw [Heap.size_push,z1]
 have z3:(zh3 S1 S2 s1.heap l1 l2).objs.size=n + 3:=by rw [Heap.size_push,z2]
 have z4:(zh4 S1 S2 s1.heap l1 l2).objs.size=n + 4:=by rw [Heap.size_push,z3]
 have g5:(zh5 S1 S2 s1.heap l1 l2).get? (zh4 S1 S2 s1.heap l1 l2).objs.size=some _:=Heap.get?_push_size _ rfl
 have g4:(zh5 S1 S2 s1.heap l1 l2).get? (zh3 S1 S2 s1.heap l1 l2).objs.size=some _:=Heap.get?_push_of_some _ (Heap.get?_push_size _ rfl)
 have g3:(zh5 S1 S2 s1.heap l1 l2).get? (zh2 S1 S2 s1.heap l1 l2).objs.size=some _:=Heap.get?_push_of_some _ (Heap.get?_push_of_some _ (Heap.get?_push_size _ rfl))
 have g2:(zh5 S1 S2 s1.heap l1 l2).get? (zh1 S1 s1.heap l1).objs.size=some _:=Heap.get?_push_of_some _ (Heap.get?_push_of_some _ (Heap.get?_push_of_some _ (Heap.get?_push_size _ rfl)))
 have g1:(zh5 S1 S2 s1.heap l1 l2).get? s1.heap.objs.size=some _:=Heap.get?_push_of_some _ (Heap.get?_push_of_some _ (Heap.get?_push_of_some _ (Heap.get?_push_of_some _ (Heap.get?_push_size _ rfl))))
 have kp:∀ c o,s1.heap.get? c=some o->(zh5 S1 S2 s1.heap l1 l2).get? c=some o:=fun c o e=>
  Heap.get?_push_of_some _ (Heap.get?_push_of_some _ (Heap.get?_push_of_some _ (Heap.get?_push_of_some _ (Heap.get?_push_of_some _ e))))
 show _/\_
 rw [z2,z3,z4] at g5
 rw [z1,z2,hn] at g3
 rw [z3] at g4
 rw [z1] at g2
 rw [hn] at g1
 rw [z4]
 refine ⟨⟨_,g5,rfl⟩,wpAny_pyIter_zip g5 ?_⟩
 have I2:Inv X pins σ H1 { s1 with heap:=zh5 S1 S2 s1.heap l1 l2 }:=I1.kept (t':=s1.toks) kp
 refine ⟨n + 4,[n + 4,n + 2,n + 3,n,n + 1],_,_,H1,rfl,I2,zu S1 S2 l1 l2 _ _ _ _ _ (by simp),⟨g5,g3,⟨_,_,g4⟩,S1.mkI g1 rfl rfl,S2.mkI g2 rfl rfl⟩,fun c hc=>?_,q⟩
 have hc':s1.heap.objs.size<=c:=by
  rw [hn]
  simp only [List.mem_cons,List.not_mem_nil,or_false] at hc
  rcases hc with rfl | rfl | rfl | rfl | rfl
  ·exact Nat.le_add_right _ _
  ·exact Nat.le_add_right _ _
  ·exact Nat.le_add_right _ _
  ·exact Nat.le_refl _
  ·exact Nat.le_add_right _ _
 exact I1.fpOk hc' (I1.hok.fresh hc')
end
end L2
end
section
namespace L2
open PySem PySem.Spec PyProof.Rows
section
variable {X:Cx}
noncomputable def Az (K:PySem.W.Frag):R2:=fun x y H Q=>∃ a b xs ys,x=.ref a/\y=.ref b/\SqT K H a xs/\SqT K H b ys/\xs.length + ys.length<=sizeLine/\
 (xs=[]->Q (.ref b) H)/\(xs≠[]->ys=[]->Q (.ref a) H)/\(xs≠[]->ys≠[]->∀ p,H p=none->Q (.ref p) (upd H p (.tup (xs++ys))))
theorem A1:OpR X (binaryOp .Add) (Az X.K):=by
 intro pins s σ H x y v u Q I rx ry h
 obtain ⟨a,b,xs,ys,rfl,rfl,ha,hb,hz,q0,q1,q2⟩:=h
 by_cases hx:xs=[]
 ·cases rx
  cases ry
  obtain ⟨its,r1,p1,_⟩:=I.tuple ha
  obtain ⟨its2,r2,p2,_⟩:=I.tuple hb
  obtain ⟨⟨cls,dd,data,sl⟩,ho,hc,n,hd⟩:=id p1
  obtain ⟨⟨cls2,dd2,data2,sl2⟩,ho2,hc2,n2,hd2⟩:=id p2
  simp only at hc hd hc2 hd2
  subst hc hd hc2 hd2
  have e:its=[]:=r1.nil_iff.mpr hx
  exact concat_meets ⟨_,ho,rfl⟩ ⟨_,ho2,rfl⟩ noFill_tuple_add seq_tuple_add PySem.F.slot_tuple_add PySem.F.entry_tuple_add (PySem.F.args_tuple_add_2 _ _)
   (tuple_addW0 a b its.toArray its2.toArray n n2 dd dd2 sl sl2 (by simp [e])) ⟨ho,ho2,⟨.ref b,H,I,rfl,q0 hx⟩⟩
 ·exact AV pins s σ H _ _ v u Q I rx ry ⟨a,b,xs,ys,rfl,rfl,ha,hb,hx,hz,q1 hx,q2 hx⟩
theorem rG {x:V}:∀ {xs:List V} {us:List Value},aE xs us->xs.all cP=true->us.countP (eqU x)=xs.countP fun y=>eqV y x
 | _,_,.nil,_=>rfl
 | y :: xs,u :: us,.cons r t,f=>by
  rw [List.all_cons,Bool.and_eq_true] at f
  rw [List.countP_cons,List.countP_cons,tU r f.1,rG t f.2]
noncomputable def tBT (r:V->List V->Hp->VK->Prop) (to:TE) (t:TA):TE:=fun σ H Q=>to σ H fun x H1=>(∃ a xs,x=.ref a/\H1 a=some (.tup xs))/\t σ H1 fun xs H2=>r x xs H2 Q
theorem C6 {o e:Expr} {es:List Expr} {to:TE} {t:TA} {name:Str} {apos cpos:Pos} {id:String} {r:V->List V->Hp->VK->Prop} (pa:PlainAttrs "tuple") (slot:Slot "tuple" name id) (hty:typeOf (.builtin id)=pure (.type "method_descriptor")) (hm:MtR X id r) (ho:PE X o to) (ha:PA X (e :: es) t)
  (hbase:attributeBase o name X.env (eval o X.env)=eval o X.env:=by rfl)
  (hfew:((backTo cpos (starEach (e :: es) X.env)).all (fun x=>!x.1) && (backToKw cpos (keywordEach [] X.env)).all (fun x=>x.1.isSome)
   && decide ((e :: es).length + ([]:List Keyword).length + (if ([]:List Keyword).isEmpty then 0 else 1) < 30))=true:=by rfl)
  (hline:(apos.endLine == cpos.line)=true:=by rfl) (hs:starEach (e :: es) X.env=(false,eval e X.env) :: starEach es X.env:=by rfl) (hplain:(backTo cpos (starEach es X.env)).any (·.1)=false:=by rfl):
  PE X (.Call (.Attribute o name apos) (e :: es) [] cpos) (tBT r to t):=by
 intro pins s σ H Q I h
 refine wpAny_Call_method_late hbase hfew hline rfl (thn (ho pins s σ H _ I h) fun v s1 ⟨x,H1,I1,r1,ty,q1⟩=>?_)
 obtain ⟨a,xs,rfl,hx⟩:=ty
 cases r1
 obtain ⟨_,its,_,o',ho',hc',_,hd'⟩:=I1.hok a _ hx
 refine ⟨"tuple",id,pa,slot,hty,⟨o',ho',hc'⟩,fun b e=>?_,?_⟩
 ·cases e
  exact ⟨o',ho',hd'⟩
 have hA:=ha cpos pins s1 σ H1 _ I1 q1
 rw [hs] at hA ⊢
 refine Calls.callWith_builtin (by show (false || (backTo cpos (starEach es X.env)).any (·.1))=false; rw [hplain] <;> rfl) (Calls.evalArgs_plain ?_)
 exact thn hA fun us s2 ⟨vs,H2,I2,r2,q2⟩=>hm pins s2 σ H2 (.ref a) vs (.ref a) us Q I2 rfl r2 q2
noncomputable def we:V->List V->Hp->VK->Prop:=fun x vs H Q=>∃ l xs y,x=.ref l/\vs=[y]/\H l=some (.tup xs)/\cP y=true/\xs.all cP=true/\Q (.int (xs.countP fun z=>eqV z y:Nat)) H
theorem yd:MtR X "tuple.count" we:=by
 intro pins s σ H x vs v us Q I rx rv h
 obtain ⟨l,xs,y,rfl,rfl,hH,fy,fx,q⟩:=h
 cases rx
 obtain ⟨u,rfl,ru⟩:=rv.one
 obtain ⟨_,its,r,⟨cls,dd,data,sl⟩,ho,hc,⟨n,hd⟩,hdd⟩:=I.hok l _ hH
 simp only at hc hd hdd
 subst hc hd hdd
 refine call_meets PySem.F.slot_tuple_count ⟨_,ho,rfl⟩ PySem.F.entry_tuple_count (PySem.F.args_tuple_count_2 _ _) (SeqAt.tuple_countAt l its.toArray n none sl u (eqU y)) ⟨ho,fun z hz=>gX ru fy r fx z (by simpa using hz),?_⟩
 refine ⟨.int (xs.countP fun z=>eqV z y:Nat),H,I.tok _,⟨s.toks,?_⟩,q⟩
 show Value.int ((its.toArray.toList.countP (eqU y):Nat):Int) s.toks=_
 rw [show its.toArray.toList=its from rfl,rG r fx]
theorem mF (hc:X.calm=true):ee X (.builtin "max") (fun xs H Q=>∃ (p:Addr) (ns:List Int),xs=[.ref p]/\SqL X.K H p (ns.map V.int)/\ns≠[]/\∀ M,M∈ns->(∀ a∈ns,a<=M)->Q (.int M) H):=by
 intro pins s σ H xs us Q I r h
 obtain ⟨p,ns,rfl,hq,hne,q⟩:=h
 obtain ⟨u,rfl,rx⟩:=r.one
 cases rx
 obtain ⟨its,rv,pl,hz⟩:=I.list hq
 have hi:=oM rv
 obtain ⟨zs,ez⟩:=(hi.allInts).items
 have hl:s.heap.IsList p (intItems zs):=by rw [<-ez]; exact pl.isList
 have hnum:zs.toList.map (·.1)=ns:=by
  rw [<-nums_intItems,<-ez]
  exact hi.numsOf
 have hsz:zs.size=ns.length:=by rw [<-hnum]; simp
 have hpos:0 < zs.size:=by
  rw [hsz]
  exact List.length_pos_iff.mpr hne
 refine max_intList (I.ok.hd hc) hl hpos fun v h' tk hv hk=>?_
 obtain ⟨t,rfl⟩:=intItems_at hv
 obtain ⟨h1,h2⟩:=argBest_gt (numAt zs) (zs.size - 1)
 refine ⟨.int _,H,I.kept hk,⟨t,rfl⟩,q _ ?_ fun a ha=>?_⟩
 ·rw [numAt_eq,hnum]
  exact getD_mem (by omega)
 ·rw [<-hnum] at ha
  obtain ⟨j,hj,rfl⟩:=mem_getD ha
  rw [List.length_map,Array.length_toList] at hj
  rw [<-numAt_eq]
  exact h2 j (by omega)
noncomputable def ua:V->List V->Hp->VK->Prop:=fun x vs H Q=>∃ (l:Addr) (ns:List Int) (m:Int) (j:Nat),x=.ref l/\vs=[.int m]/\H l=some (.lst (ns.map V.int))/\ns[j]?=some m/\(∀ i,i < j->ns[i]?≠some m)/\j<=1000/\Q (.int j) H
theorem zv:MtR X "list.index" ua:=by
 intro pins s σ H x vs v us Q I rx rv h
 obtain ⟨l,ns,m,j,rfl,rfl,hH,hj,hno,h1000,q⟩:=h
 cases rx
 obtain ⟨u,rfl,t,rfl⟩:=rv.one
 obtain ⟨z,its,n,r,hl,e⟩:=I.lstM hH
 have at_:∀ (i:Nat) (hi:i < its.toArray.size),∃ k t',ns[i]?=some k/\its.toArray[i]=.int k t':=fun i hi=>by
  have hi':i < ns.length:=by
   rw [List.length_map] at hl
   have:i < its.length:=by simpa using hi
   omega
  obtain ⟨w',hw,rw'⟩:=r.get (i:=i) (x:=.int ns[i]) (by rw [List.getElem?_map,List.getElem?_eq_getElem hi'] <;> rfl)
  obtain ⟨t',e'⟩:=(show ∃ t',w'=Value.int ns[i] t' from rw')
  have:=(List.getElem?_eq_some_iff.mp hw).2
  exact ⟨ns[i],t',List.getElem?_eq_getElem hi',by rw [<-e']; simpa using this⟩
 have hjs:j < its.toArray.size:=by
  have:=(List.getElem?_eq_some_iff.mp hj).1
  rw [List.length_map] at hl
  simp only [List.size_toArray]
  omega
 refine call_meets PySem.F.slot_list_index ⟨_,e,rfl⟩ PySem.F.entry_list_index (PySem.F.args_list_index_2 _ _) (SeqAt.list_indexAt l its.toArray n none #[] (.int m t) (eqU (.int m)) j hjs (by omega) ?_ ?_) ⟨e,fun y hy=>?_,?_⟩
 ·obtain ⟨k,t',e1,e2⟩:=at_ j hjs
  rw [e2]
  rw [hj] at e1
  cases e1
  exact beq_self_eq_true m
 ·intro i hi hlt
  obtain ⟨k,t',e1,e2⟩:=at_ i hi
  rw [e2]
  show (k == m)=false
  exact beq_eq_false_iff_ne.mpr fun z=>hno i hlt (by rw [e1,z])
 ·exact gX (x:=.int m) ⟨t,rfl⟩ rfl r (by rw [List.all_map]; simp [cP]) y (by simpa using hy)
 ·exact ⟨.int j,H,I.tok _,⟨_,rfl⟩,q⟩
end
end L2
end
section
namespace L2
open PySem
section
variable {σ:St} {H:Hp} {Q:VK} {D:jm} {K:PySem.W.Frag}
theorem ft {t u:TS} (h:t { nx:=u D,rt:=D.rt,bk:=D.bk,ct:=D.ct } σ H):au t u D σ H:=h
theorem nk {t u:TS} (h:∀ NX:St->Hp->Prop,(∀ σ H,u D σ H->NX σ H)->t { nx:=NX,rt:=D.rt,bk:=D.bk,ct:=D.ct } σ H):au t u D σ H:=h _ fun _ _ h=>h
theorem ye (h:D.nx σ H):bK D σ H:=h
theorem lx {te:TE} {g:TG} (h:te σ H fun x H1=>g x σ H1 D.nx):ay te g D σ H:=h
theorem C7 {te:TE} (h:te σ H D.rt):aV te D σ H:=h
theorem BZ (h:D.rt .non H):C2 D σ H:=h
theorem Ca {te:TE} (h:te σ H fun _ H1=>D.nx σ H1):gh te D σ H:=h
theorem AA {c:TT} {t u:TS} (h:c σ H fun b H1=>if b=true then t D σ H1 else u D σ H1):cu c t u D σ H:=h
theorem A2 (h:D.bk σ H):BI D σ H:=h
theorem Cb (h:D.ct σ H):C1 D σ H:=h
theorem jP {i:Nat} {v:V} {R:St->Hp->Prop} (h:R (σ.set i (some v)) H):ai i v σ H R:=h
theorem Cc {to ti:TE} {t:tL} {v:V} {R:St->Hp->Prop} (h:to σ H fun o H1=>ti σ H1 fun i H2=>t o i v H2 fun H3=>R σ H3):jM to ti t v σ H R:=h
theorem jQ {p:Addr} {xs:List V} {k:Int} {v:V} {R:Hp->Prop} {j:Nat} (e:H p=some (.lst xs)) (hj:ixN xs.length k=some j) (h:R (upd H p (.lst (xs.set j v)))):iY (.ref p) (.int k) v H R:=⟨p,xs,k,j,rfl,rfl,e,hj,h⟩
theorem ly {i:Nat} {v:V} (e:σ[i]?=some (some v)) (h:Q v H):ab i σ H Q:=⟨v,e,h⟩
theorem r_c {v:V} (h:Q v H):tC v σ H Q:=h
theorem oj {r:R2} {ta tb:TE} (h:ta σ H fun x H1=>tb σ H1 fun y H2=>r x y H2 Q):tOp r ta tb σ H Q:=h
theorem DG {r:V->Hp->VK->Prop} {ta:TE} (h:ta σ H fun x H1=>r x H1 Q):tUn r ta σ H Q:=h
theorem DH {g:Int->Int->V} {i j:Int} (h:Q (g i j) H):rI0 g (.int i) (.int j) H Q:=⟨i,j,rfl,rfl,h⟩
theorem r_I {C:Int->Int->Prop} {g:Int->Int->V} {i j:Int} (c:C i j) (h:Q (g i j) H):rI C g (.int i) (.int j) H Q:=⟨i,j,rfl,rfl,c,h⟩
theorem r_U {g:Int->V} {i:Int} (h:Q (g i) H):rU g (.int i) H Q:=⟨i,rfl,h⟩
theorem C8 {i j:Int} (h:Q (.bl (decide (i=j))) H):rEq (.int i) (.int j) H Q:=⟨rfl,by rw [show decide (V.int i=V.int j)=decide (i=j) from decide_eq_decide.mpr ⟨fun e=>by injection e,fun e=>by rw [e]⟩]; exact h⟩
theorem C9 {i j:Int} (h:Q (.bl (!decide (i=j))) H):rNe (.int i) (.int j) H Q:=⟨rfl,by rw [show decide (V.int i=V.int j)=decide (i=j) from decide_eq_decide.mpr ⟨fun e=>by injection e,fun e=>by rw [e]⟩]; exact h⟩
theorem Da {i j:Bool} (h:Q (.bl (i == j)) H):rEq (.bl i) (.bl j) H Q:=⟨rfl,by rw [show decide (V.bl i=V.bl j)=(i == j) by cases i <;> cases j <;> rfl]; exact h⟩
theorem Db {i j:Bool} (h:Q (.bl (!(i == j))) H):rNe (.bl i) (.bl j) H Q:=⟨rfl,by rw [show decide (V.bl i=V.bl j)=(i == j) by cases i <;> cases j <;> rfl]; exact h⟩
theorem Cd {t:TE} {R:Bool->Hp->Prop} (h:t σ H fun x H'=>∃ k,x=.bl k/\R k H'):bn t σ H R:=h
theorem DI {t:TE} {R:Bool->Hp->Prop} (h:t σ H fun x H'=>∃ k,x=.bl k/\R k H'):tB t σ H R:=h
theorem DJ {b:Bool} {R:Bool->Prop} (h:R b):∃ k,V.bl b=.bl k/\R k:=⟨b,rfl,h⟩
theorem Dc {t u:TT} {R:Bool->Hp->Prop} (h:t σ H fun c H1=>if c=true then u σ H1 R else R false H1):tG t u σ H R:=h
theorem DK {t u:TT} {R:Bool->Hp->Prop} (h:t σ H fun c H1=>if c=true then R true H1 else u σ H1 R):tOr t u σ H R:=h
theorem Dd {t:TT} {R:Bool->Hp->Prop} (h:t σ H fun c H1=>R (!c) H1):jK t σ H R:=h
theorem Ce {ta tb:TE} (h:ta σ H fun x H1=>∃ c,x=.bl c/\if c=true then tb σ H1 Q else Q (.bl false) H1):j6 ta tb σ H Q:=h
theorem De {ta tb:TE} (h:ta σ H fun x H1=>∃ c,x=.bl c/\if c=true then Q (.bl true) H1 else tb σ H1 Q):ze ta tb σ H Q:=h
theorem Cf {ta:TE} (h:ta σ H fun x H1=>∃ c,x=.bl c/\Q (.bl (!c)) H1):sW ta σ H Q:=h
theorem DL {t:TT} {ta tb:TE} (h:t σ H fun c H1=>if c=true then ta σ H1 Q else tb σ H1 Q):tIf t ta tb σ H Q:=h
theorem A3 {r r':R2} {ta tb tc:TE} (h:ta σ H fun x H1=>tb σ H1 fun y H2=>r x y H2 fun z H3=>∃ k,z=.bl k/\(if k=true then tc σ H3 fun w' H4=>r' y w' H4 Q else Q (.bl false) H3)):tO r r' ta tb tc σ H Q:=h
theorem AB {R:List V->Hp->Prop} (h:R [] H):ah σ H R:=h
theorem yf {ta:TE} {tr:TA} {R:List V->Hp->Prop} (h:ta σ H fun x H1=>tr σ H1 fun xs H2=>R (x :: xs) H2):ac ta tr σ H R:=h
theorem Cg {sp:Sp} {E:XK} {t:TA} (h:t σ H fun vs H1=>sp vs H1 Q E):az sp [] E t σ H Q:=by
 show t σ H fun vs H1=>sp (vs++[]) H1 Q E
 simpa only [List.append_nil] using h
theorem DM {r:List V->Hp->VK->Prop} {t:TA} (h:t σ H fun vs H1=>r vs H1 Q):tCB r t σ H Q:=h
theorem DN {T:String} {r:V->List V->Hp->VK->Prop} {to:TE} {t:TA} (h:to σ H fun x H1=>tyV K T x H1/\t σ H1 fun xs H2=>r x xs H2 Q):tBM K T r to t σ H Q:=h
theorem Df {T:String} {r:V->List V->Hp->VK->Prop} {to:TE} (h:to σ H fun x H1=>tyV K T x H1/\r x [] H1 Q):DE K T r to σ H Q:=h
theorem DO {r:V->List V->Hp->VK->Prop} {to:TE} {t:TA} (h:to σ H fun x H1=>(∃ a xs,x=.ref a/\H1 a=some (.tup xs))/\t σ H1 fun xs H2=>r x xs H2 Q):tBT r to t σ H Q:=h
theorem DP {r:V->Option Int->Option Int->Hp->VK->Prop} {te:TE} {tl th:TO} (h:te σ H fun x H1=>tl σ H1 fun l H2=>th σ H2 fun u H3=>r x l u H3 Q):tSl r te tl th σ H Q:=h
theorem zw {R:Option Int->Hp->Prop} (h:R none H):qc σ H R:=h
theorem Ch {t:TE} {R:Option Int->Hp->Prop} (h:t σ H fun x H1=>∃ i,x=.int i/\R (some i) H1):wM t σ H R:=h
theorem Dg {i:Int} {R:Int->Prop} (h:R i):∃ j,V.int i=.int j/\R j:=⟨i,rfl,h⟩
theorem Dh {wi:TI} {g:TG} {tb:TS} (h:wi σ H fun J H1=>∃ W:Nat->Nat->St->Hp->Prop,(∃ m,W 0 m σ H1)/\∀ i m σ H,W i m σ H->
  (J.stop i H/\D.nx σ H)\/(J.go i H/\∃ N:St->Hp->Prop,(∀ σ' H',N σ' H'->∃ m',m' < m/\W (i + 1) m' σ' H')/\∀ x H',J.yld i H x H'->g x σ H' fun σ2 H2=>tb { D with nx:=N,ct:=N,bk:=D.nx } σ2 H2)):dc wi g tb D σ H:=h
theorem Ci {wi:TI} {g:CF TG} {tt:CF TT} {te:CF TE} {ix:List (Option Nat)} (h:wi σ H fun J H1=>∀ p,H1 p=none->
  ∃ W:Nat->Nat->List V->Hp->Prop,(∃ m,W 0 m [] (upd H1 p (.lst [])))/\∀ C s' H' fp,b8 J (g C s' H' fp) (tt C s' H' fp) (te C s' H' fp) (sub ix σ) p Q W):cx wi g tt te ix σ H Q:=h
section
variable {R:It->Hp->Prop}
theorem A4 {tl:TE} (h:tl σ H fun x H1=>∃ a,x=.ref a/\(∃ xs,SqL K H1 a xs)/\R (Itl K a) H1):cO K tl σ H R:=h
theorem Cj {tl:TE} (h:tl σ H fun x H1=>∃ a,x=.ref a/\(∃ xs,SqT K H1 a xs)/\R (Itt K a) H1):tM K tl σ H R:=h
theorem A5 {ta:TA} (h:ta σ H fun vs H1=>∃ j:Int,vs=[.int j]/\-(2 ^ 62)<=j/\j < 2 ^ 62/\R (Itr 0 j.toNat) H1):gi ta σ H R:=h
theorem A6 {ta:TA} (h:ta σ H fun vs H1=>∃ i j:Int,vs=[.int i,.int j]/\(-(2 ^ 62)<=i/\i < 2 ^ 62/\-(2 ^ 62)<=j/\j < 2 ^ 62)/\R (Itr i (j - i).toNat) H1):C3 ta σ H R:=h
theorem A7 {S:Src} {ta:TA} (h:ta σ H fun vs H1=>∃ a xs,vs=[.ref a]/\S.Sq K H1 a xs/\R (Ite S K a) H1):gK S K ta σ H R:=h
theorem Ck {S1 S2:Src} {ta:TA} (h:ta σ H fun vs H1=>∃ a b xs ys,vs=[.ref a,.ref b]/\S1.Sq K H1 a xs/\S2.Sq K H1 b ys/\R (Itz S1 S2 K a b) H1):qf S1 S2 K ta σ H R:=h
end
noncomputable def Off (l:Addr) (H H':Hp):Prop:=∀ b,b≠l->H' b=H b
theorem gj {l:Addr} {o:HO}:Off l H (upd H l o):=fun b hb=>aF hb
theorem ak.off {H0 H':Hp} {l:Addr} (s:ak H0 H) (h:H0 l=none) (o:Off l H H'):ak H0 H':=fun b u q=>by rw [o b (aJ q h)]; exact s b u q
noncomputable def eY (H H':Hp):Prop:=∀ b xs,H b=some (.tup xs)->H' b=some (.tup xs)
theorem ak.keep {H':Hp} (s:ak H H'):eY H H':=fun b _ h=>s b _ h
theorem eY.trans {H1 H2:Hp} (a:eY H H1) (b:eY H1 H2):eY H H2:=fun c o h=>b c o (a c o h)
theorem Off.keep {H':Hp} {l:Addr} {xs:List V} (o:Off l H H') (e:H l=some (.lst xs)):eY H H':=fun b ys q=>by
 rw [o b (sV q e (by intro z; cases z))]
 exact q
theorem Cl {t:TA} (h:t σ H fun xs H1=>xs.length<=sizeLine/\∀ p,H1 p=none->Q (.ref p) (upd H1 p (.tup xs))):wJ t σ H Q:=h
theorem Cm {t:TA} (h:t σ H fun xs H1=>xs.length<=sizeLine/\∀ p,H1 p=none->Q (.ref p) (upd H1 p (.lst xs))):tP t σ H Q:=h
theorem fv {l:Addr} {xs:List V} {y:V} (e:H l=some (.lst xs)) (hz:xs.length < sizeLine) (h:∀ H',Off l H H'->H' l=some (.lst (xs++[y]))->Q .non H'):eo (.ref l) [y] H Q:=⟨l,xs,y,rfl,rfl,e,hz,h _ gj av⟩
theorem iZ {l:Addr} {xs:List V} (e:H l=some (.lst xs)):tyV K "list" (.ref l) H:=.inl ⟨rfl,xs,SqL.of e⟩
theorem aZ {l:Addr} {xs:List V} {i:Int} {v:V} (e:SqL K H l xs) (hv:atI xs i=some v) (h:Q v H):bE K (.ref l) (.int i) H Q:=⟨l,xs,i,v,rfl,rfl,e,hv,h⟩
theorem aY {l:Addr} {xs:List V} {i:Int} {v:V} (e:SqT K H l xs) (hv:atI xs i=some v) (h:Q v H):cD K (.ref l) (.int i) H Q:=⟨l,xs,i,v,rfl,rfl,e,hv,h⟩
end
theorem cC {p A B:Prop} [Decidable p] (h1:p->A) (h2:¬ p->B):if decide p=true then A else B:=by
 by_cases h:p
 ·rw [if_pos (decide_eq_true h)]; exact h1 h
 ·rw [if_neg (by rw [decide_eq_false h]; exact Bool.false_ne_true)]; exact h2 h
theorem jR {p A B:Prop} [Decidable p] (h1:¬ p->A) (h2:p->B):if (!decide p)=true then A else B:=by
 by_cases h:p
 ·rw [if_neg (by rw [decide_eq_true h]; exact Bool.false_ne_true)]; exact h2 h
 ·rw [if_pos (by rw [decide_eq_false h]; rfl)]; exact h1 h
theorem hG {p A B:Prop} [Decidable p] (h:p) (h1:A):if decide p=true then A else B:=cC (fun _=>h1) (fun n=>absurd h n)
theorem bI {p A B:Prop} [Decidable p] (h:¬ p) (h1:B):if decide p=true then A else B:=cC (fun n=>absurd n h) (fun _=>h1)
theorem AC {b:Bool} {A B:Prop} (h1:b=true->A) (h2:b=false->B):if b=true then A else B:=gH h1 h2
theorem Di {A B:Prop} (h:B):if (!true)=true then A else B:=by exact fY h
theorem Dj {A B:Prop} (h:A):if (!false)=true then A else B:=by exact jo h
theorem zx {σ:St} {H:Hp} {R:Bool->Hp->Prop} (h:R true H):cB σ H R:=h
theorem sY {B:(St->Hp->Prop)->Prop} {R:St->Hp->Prop} (h:B R):∃ N:St->Hp->Prop,(∀ σ' H',N σ' H'->R σ' H')/\B N:=⟨R,fun _ _ h=>h,h⟩
theorem sZ {c:TT} {tb:TS} {D:jm} {σ:St} {H:Hp} (W:Nat->St->Hp->Prop) (m:Nat) (h0:W m σ H) (h:∀ m σ H,W m σ H->c σ H fun b H1=>if b=true then ∃ N:St->Hp->Prop,(∀ σ' H',N σ' H'->∃ m',m' < m/\W m' σ' H')/\tb { D with nx:=N,ct:=N,bk:=D.nx } σ H1 else D.nx σ H1):
  jN c tb D σ H:=⟨W,⟨m,h0⟩,h⟩
noncomputable def fR (K:PySem.W.Frag):List V->Hp->VK->Prop:=fun xs H Q=>∃ p ys,xs=[.ref p]/\(SqL K H p ys\/SqT K H p ys)/\Q (.int ys.length) H
noncomputable def om (K:PySem.W.Frag):List V->Hp->VK->Prop:=fun xs H Q=>∃ (p:Addr) (ns:List Int),xs=[.ref p]/\SqL K H p (ns.map V.int)/\Q (.int ns.sum) H
noncomputable def DQ (K:PySem.W.Frag):List V->Hp->VK->Prop:=fun xs H Q=>∃ (p:Addr) (bs:List Bool),xs=[.ref p]/\SqL K H p (bs.map V.bl)/\Q (.bl (bs.all id)) H
noncomputable def qg (K:PySem.W.Frag):List V->Hp->VK->Prop:=fun xs H Q=>∃ (p:Addr) (ns:List Int),xs=[.ref p]/\SqL K H p (ns.map V.int)/\ns≠[]/\∀ M,M∈ns->(∀ a∈ns,a<=M)->Q (.int M) H
noncomputable def wP:List V->Hp->VK->Prop:=fun xs H Q=>∃ i j,xs=[.int i,.int j]/\Q (.int (if j < i then j else i)) H
noncomputable def AD:List V->Hp->VK->Prop:=fun xs H Q=>∃ i j,xs=[.int i,.int j]/\Q (.int (if j > i then j else i)) H
noncomputable def zy:List V->Hp->VK->Prop:=fun xs H Q=>(∃ i,xs=[.int i]/\Q (.int i) H)\/∃ k,xs=[.bl k]/\Q (.int (if k then 1 else 0)) H
noncomputable def Cn (K:PySem.W.Frag):List V->Hp->VK->Prop:=fun xs H Q=>∃ p ys,xs=[.ref p]/\((SqL K H p ys/\∀ l,H l=none->Q (.ref l) (upd H l (.tup ys)))\/(SqT K H p ys/\Q (.ref p) H))
section
variable {K:PySem.W.Frag} {H:Hp} {Q:VK}
theorem oU {l:Addr} {ys:List V} (e:SqL K H l ys) (h:Q (.int ys.length) H):fR K [.ref l] H Q:=⟨l,ys,rfl,.inl e,h⟩
theorem A8 {l:Addr} {ys:List V} (e:SqT K H l ys) (h:Q (.int ys.length) H):fR K [.ref l] H Q:=⟨l,ys,rfl,.inr e,h⟩
theorem wQ {l:Addr} {ns:List Int} (e:SqL K H l (ns.map V.int)) (h:Q (.int ns.sum) H):om K [.ref l] H Q:=⟨l,ns,rfl,e,h⟩
theorem Co {i j:Int} (h:Q (.int (if j < i then j else i)) H):wP [.int i,.int j] H Q:=⟨i,j,rfl,h⟩
theorem Cp {i j:Int} (h:Q (.int (if j > i then j else i)) H):AD [.int i,.int j] H Q:=⟨i,j,rfl,h⟩
theorem Cq {i:Int} (h:Q (.int i) H):zy [.int i] H Q:=.inl ⟨i,rfl,h⟩
theorem Cr {k:Bool} (h:Q (.int (if k then 1 else 0)) H):zy [.bl k] H Q:=.inr ⟨k,rfl,h⟩
end
noncomputable def New (H:Hp) (o:HO) (Q:Addr->Hp->Prop):Prop:=∀ p H',H p=none->ak H H'->H' p=some o->Q p H'
theorem New.upd {H:Hp} {o:HO} {Q:Addr->Hp->Prop} (h:New H o Q):∀ p,H p=none->Q p (upd H p o):=fun p hp=>h p _ hp (aP hp _) av
noncomputable def ci (t:TA):TE:=fun σ H Q=>t σ H fun xs H1=>xs.length<=sizeLine/\New H1 (.tup xs) fun p H2=>Q (.ref p) H2
noncomputable def dY (t:TA):TE:=fun σ H Q=>t σ H fun xs H1=>xs.length<=sizeLine/\New H1 (.lst xs) fun p H2=>Q (.ref p) H2
noncomputable def on:R2:=fun x y H Q=>∃ l b xs zs,x=.ref l/\y=.ref b/\H l=some (.lst xs)/\H b=some (.lst zs)/\xs.length + zs.length<=sizeLine/\New H (.lst (xs++zs)) fun p H2=>Q (.ref p) H2
noncomputable def wR:R2:=fun x y H Q=>∃ l k xs,x=.ref l/\y=.int k/\H l=some (.lst xs)/\-(2 ^ 63)<=k/\k < 2 ^ 63/\xs.length * k.toNat<=sizeLine/\New H (.lst (List.replicate k.toNat xs).flatten) fun p H2=>Q (.ref p) H2
noncomputable def no (K:PySem.W.Frag):List V->Hp->VK->Prop:=fun xs H Q=>∃ p ys,xs=[.ref p]/\SqL K H p ys/\New H (.tup ys) fun l H2=>Q (.ref l) H2
section
variable {σ:St} {H:Hp} {Q:VK} {K:PySem.W.Frag}
theorem Dk {t:TA} (h:t σ H fun xs H1=>xs.length<=sizeLine/\New H1 (.tup xs) fun p H2=>Q (.ref p) H2):ci t σ H Q:=h
theorem np {t:TA} (h:t σ H fun xs H1=>xs.length<=sizeLine/\New H1 (.lst xs) fun p H2=>Q (.ref p) H2):dY t σ H Q:=h
theorem oV {l b:Addr} {xs zs:List V} (h1:H l=some (.lst xs)) (h2:H b=some (.lst zs)) (hz:xs.length + zs.length<=sizeLine) (h:∀ p H',H p=none->ak H H'->H' p=some (.lst (xs++zs))->Q (.ref p) H'):on (.ref l) (.ref b) H Q:=⟨l,b,xs,zs,rfl,rfl,h1,h2,hz,h⟩
theorem wf {p:Addr} {ys:List V} (e:SqL K H p ys) (h:∀ l H',H l=none->ak H H'->H' l=some (.tup ys)->Q (.ref l) H'):no K [.ref p] H Q:=⟨p,ys,rfl,e,h⟩
end
section
variable {g:TG} {tb:TS} {NX:St->Hp->Prop} {RT:VK} {σ:St} {H:Hp} {K:PySem.W.Frag}
theorem iN {j:Int} (n:Nat) (hn:j.toNat=n) (hj:j<=1000000000) (hj0:-1000000000<=j) (Pv:Nat->St->Hp->Prop) (h0:Pv 0 σ H) (hs:∀ i σ H,i < n->Pv i σ H->g (.int i) σ H fun σ2 H2=>tb { nx:=Pv (i + 1),rt:=RT,bk:=NX,ct:=Pv (i + 1) } σ2 H2) (hd:∀ σ H,Pv n σ H->NX σ H):
  ∃ j':Int,[V.int j]=[.int j']/\-(2 ^ 62)<=j'/\j' < 2 ^ 62/\∃ W:Nat->Nat->St->Hp->Prop,(∃ m,W 0 m σ H)/\∀ i m σ H,W i m σ H->
   ((Itr 0 j'.toNat).stop i H/\NX σ H)\/((Itr 0 j'.toNat).go i H/\∃ N:St->Hp->Prop,(∀ σ' H',N σ' H'->∃ m',m' < m/\W (i + 1) m' σ' H')/\∀ x H',(Itr 0 j'.toNat).yld i H x H'->g x σ H' fun σ2 H2=>tb { nx:=N,rt:=RT,bk:=NX,ct:=N } σ2 H2):=by
 refine ⟨j,rfl,by omega,by omega,?_⟩
 subst hn
 exact mr (lo:=0) (D:={ nx:=NX,rt:=RT }) Pv h0 (fun i σ H hi p=>by rw [Int.zero_add]; exact hs i σ H hi p) hd
theorem iO {a:Addr} (xs:List V) (hx:SqL K H a xs) (Pv:Nat->St->Hp->Prop) (h0:Pv 0 σ H) (hl:∀ i σ H,i<=xs.length->Pv i σ H->SqL K H a xs) (hs:∀ i x σ H,xs[i]?=some x->Pv i σ H->g x σ H fun σ2 H2=>tb { nx:=Pv (i + 1),rt:=RT,bk:=NX,ct:=Pv (i + 1) } σ2 H2) (hd:∀ σ H,Pv xs.length σ H->NX σ H):
  ∃ a',V.ref a=.ref a'/\(∃ xs,SqL K H a' xs)/\∃ W:Nat->Nat->St->Hp->Prop,(∃ m,W 0 m σ H)/\∀ i m σ H,W i m σ H->
   ((Itl K a').stop i H/\NX σ H)\/((Itl K a').go i H/\∃ N:St->Hp->Prop,(∀ σ' H',N σ' H'->∃ m',m' < m/\W (i + 1) m' σ' H')/\∀ x H',(Itl K a').yld i H x H'->g x σ H' fun σ2 H2=>tb { nx:=N,rt:=RT,bk:=NX,ct:=N } σ2 H2):=
 ⟨a,rfl,⟨xs,hx⟩,n9 (D:={ nx:=NX,rt:=RT }) Pv h0 hl hs hd⟩
theorem Cs {a:Addr} (xs:List V) (hx:SqT K H a xs) (Pv:Nat->St->Hp->Prop) (h0:Pv 0 σ H) (hl:∀ i σ H,i<=xs.length->Pv i σ H->SqT K H a xs) (hs:∀ i x σ H,xs[i]?=some x->Pv i σ H->g x σ H fun σ2 H2=>tb { nx:=Pv (i + 1),rt:=RT,bk:=NX,ct:=Pv (i + 1) } σ2 H2) (hd:∀ σ H,Pv xs.length σ H->NX σ H):
  ∃ a',V.ref a=.ref a'/\(∃ xs,SqT K H a' xs)/\∃ W:Nat->Nat->St->Hp->Prop,(∃ m,W 0 m σ H)/\∀ i m σ H,W i m σ H->
   ((Itt K a').stop i H/\NX σ H)\/((Itt K a').go i H/\∃ N:St->Hp->Prop,(∀ σ' H',N σ' H'->∃ m',m' < m/\W (i + 1) m' σ' H')/\∀ x H',(Itt K a').yld i H x H'->g x σ H' fun σ2 H2=>tb { nx:=N,rt:=RT,bk:=NX,ct:=N } σ2 H2):=
 ⟨a,rfl,⟨xs,hx⟩,AN (D:={ nx:=NX,rt:=RT }) Pv h0 hl hs hd⟩
theorem jE {S:Src} {a:Addr} (xs:List V) (hx:S.Sq K H a xs) (Pv:Nat->St->Hp->Prop) (h0:Pv 0 σ H) (hl:∀ i σ H,i<=xs.length->Pv i σ H->S.Sq K H a xs)
  (hs:∀ i x T σ H H',xs[i]?=some x->Pv i σ H->H T=none->ak H H'->H' T=some (.tup [.int i,x])->g (.ref T) σ H' fun σ2 H2=>tb { nx:=Pv (i + 1),rt:=RT,bk:=NX,ct:=Pv (i + 1) } σ2 H2) (hd:∀ σ H,Pv xs.length σ H->NX σ H):
  ∃ a' xs',[V.ref a]=[.ref a']/\S.Sq K H a' xs'/\∃ W:Nat->Nat->St->Hp->Prop,(∃ m,W 0 m σ H)/\∀ i m σ H,W i m σ H->
   ((Ite S K a').stop i H/\NX σ H)\/((Ite S K a').go i H/\∃ N:St->Hp->Prop,(∀ σ' H',N σ' H'->∃ m',m' < m/\W (i + 1) m' σ' H')/\∀ x H',(Ite S K a').yld i H x H'->g x σ H' fun σ2 H2=>tb { nx:=N,rt:=RT,bk:=NX,ct:=N } σ2 H2):=
 ⟨a,xs,rfl,hx,tY (D:={ nx:=NX,rt:=RT }) Pv h0 hl (fun i x T σ H e p hT=>hs i x T σ H _ e p hT (aP hT _) av) hd⟩
end
theorem ub {α:Type} [DecidableEq α]:∀ {xs:List α} {m:α},m∈xs->∃ j:Nat,xs[j]?=some m/\∀ i:Nat,i < j->xs[i]?≠some m
 | x :: r,m,h=>by
  by_cases e:x=m
  ·exact ⟨0,by rw [e]; rfl,fun i hi=>absurd hi (by omega)⟩
  ·have hm:m∈r:=by
    rcases List.mem_cons.mp h with h | h
    ·exact absurd h.symm e
    ·exact h
   obtain ⟨j,h1,h2⟩:=ub hm
   refine ⟨j + 1,h1,fun i hi=>?_⟩
   cases i with
   | zero=>intro z; exact e (Option.some.inj z)
   | succ i=>exact h2 i (by omega)
theorem eJ {K:PySem.W.Frag} {i j:Nat} {a:Addr} {x y:V} {σ:St} {H:Hp} {R:St->Hp->Prop} (e:SqT K H a [x,y]) (h:R ((σ.set i (some x)).set j (some y)) H):eX K 2 (bt (ai i) (bt (ai j) eW)) (.ref a) σ H R:=
 ⟨a,[x,y],rfl,e,rfl,x,[y],rfl,y,[],rfl,rfl,h⟩
noncomputable def bi (H:Hp) (p:Addr) (R:Nat->List V->Hp->Prop) (i:Nat) (acc:List V) (H2:Hp):Prop:=ak H H2/\H2 p=some (.lst acc)/\acc.length<=i/\R i acc H2
theorem bi.put {H H4:Hp} {p:Addr} {R:Nat->List V->Hp->Prop} {i:Nat} {acc:List V} {y:V} (hp:H p=none) (st:∀ i acc H H',R i acc H->eY H H'->R i acc H') (s:ak H H4) (e:H4 p=some (.lst acc)) (l:acc.length<=i) (r:R (i + 1) (acc++[y]) H4):
  H4 p=some (.lst acc)/\bi H p R (i + 1) (acc++[y]) (upd H4 p (.lst (acc++[y]))):=
 ⟨e,s.upd hp _,av,by rw [List.length_append]; exact Nat.add_le_add_right l 1,st _ _ _ _ r (gj.keep e)⟩
theorem bi.skip {H H4:Hp} {p:Addr} {R:Nat->List V->Hp->Prop} {i:Nat} {acc:List V} (s:ak H H4) (e:H4 p=some (.lst acc)) (l:acc.length<=i) (r:R (i + 1) acc H4):bi H p R (i + 1) acc H4:=⟨s,e,by omega,r⟩
section
variable {g:CF TG} {tt:CF TT} {te:CF TE} {σ₀:St} {Q:VK} {H:Hp} {K:PySem.W.Frag}
theorem uc {j:Int} (n:Nat) (hn:j.toNat=n) (hj:j<=1000000) (hj0:-1000000<=j) (R:Nat->List V->Hp->Prop) (h0:∀ H',ak H H'->R 0 [] H')
  (hs:∀ p,H p=none->∀ C s' H' fp,∀ i acc H2,i < n->bi H p R i acc H2->g C s' H' fp (.int i) σ₀ H2 fun σ2 H3=>tt C s' H' fp σ2 H3 fun b H4=>if b=true then te C s' H' fp σ2 H4 fun y H5=>H5 p=some (.lst acc)/\bi H p R (i + 1) (acc++[y]) (upd H5 p (.lst (acc++[y]))) else bi H p R (i + 1) acc H4)
  (hd:∀ p acc H2,H p=none->ak H H2->H2 p=some (.lst acc)->R n acc H2->Q (.ref p) H2):
  ∃ j':Int,[V.int j]=[.int j']/\-(2 ^ 62)<=j'/\j' < 2 ^ 62/\∀ p,H p=none->∃ W:Nat->Nat->List V->Hp->Prop,(∃ m,W 0 m [] (upd H p (.lst [])))/\∀ C s' H' fp,b8 (Itr 0 j'.toNat) (g C s' H' fp) (tt C s' H' fp) (te C s' H' fp) σ₀ p Q W:=by
 refine ⟨j,rfl,by omega,by omega,fun p hp=>?_⟩
 subst hn
 exact oP (lo:=0) (bi H p R) ⟨aP hp _,av,Nat.le_refl _,h0 _ (aP hp _)⟩ (fun i acc H2 _ c=>⟨c.2.1,c.2.2.1⟩) (by rw [sizeLine_eq]; omega) (fun C s' H' fp i acc H2 hi c=>by rw [Int.zero_add]; exact hs p hp C s' H' fp i acc H2 hi c) fun acc H2 c=>hd p acc H2 hp c.1 c.2.1 c.2.2.2
theorem gm {a:Addr} (xs:List V) (hx:SqL K H a xs) (hz:xs.length<=1000000) (R:Nat->List V->Hp->Prop) (h0:∀ H',ak H H'->R 0 [] H')
  (hs:∀ p,H p=none->∀ C s' H' fp,∀ i x acc H2,xs[i]?=some x->bi H p R i acc H2->g C s' H' fp x σ₀ H2 fun σ2 H3=>tt C s' H' fp σ2 H3 fun b H4=>if b=true then te C s' H' fp σ2 H4 fun y H5=>H5 p=some (.lst acc)/\bi H p R (i + 1) (acc++[y]) (upd H5 p (.lst (acc++[y]))) else bi H p R (i + 1) acc H4)
  (hd:∀ p acc H2,H p=none->ak H H2->H2 p=some (.lst acc)->R xs.length acc H2->Q (.ref p) H2):
  ∃ a',V.ref a=.ref a'/\(∃ xs,SqL K H a' xs)/\∀ p,H p=none->∃ W:Nat->Nat->List V->Hp->Prop,(∃ m,W 0 m [] (upd H p (.lst [])))/\∀ C s' H' fp,b8 (Itl K a') (g C s' H' fp) (tt C s' H' fp) (te C s' H' fp) σ₀ p Q W:=
 ⟨a,rfl,⟨xs,hx⟩,fun p hp=>mD (bi H p R) ⟨aP hp _,av,Nat.le_refl _,h0 _ (aP hp _)⟩ (fun i acc H2 _ c=>⟨c.2.1,c.2.2.1⟩) (fun i acc H2 _ c=>c.1.seq hx) (by rw [sizeLine_eq]; omega) (fun C s' H' fp i x acc H2 hi c=>hs p hp C s' H' fp i x acc H2 hi c) fun acc H2 c=>hd p acc H2 hp c.1 c.2.1 c.2.2.2⟩
theorem Ct {a:Addr} (xs:List V) (hx:SqT K H a xs) (hz:xs.length<=1000000) (R:Nat->List V->Hp->Prop) (h0:∀ H',ak H H'->R 0 [] H')
  (hs:∀ p,H p=none->∀ C s' H' fp,∀ i x acc H2,xs[i]?=some x->bi H p R i acc H2->g C s' H' fp x σ₀ H2 fun σ2 H3=>tt C s' H' fp σ2 H3 fun b H4=>if b=true then te C s' H' fp σ2 H4 fun y H5=>H5 p=some (.lst acc)/\bi H p R (i + 1) (acc++[y]) (upd H5 p (.lst (acc++[y]))) else bi H p R (i + 1) acc H4)
  (hd:∀ p acc H2,H p=none->ak H H2->H2 p=some (.lst acc)->R xs.length acc H2->Q (.ref p) H2):
  ∃ a',V.ref a=.ref a'/\(∃ xs,SqT K H a' xs)/\∀ p,H p=none->∃ W:Nat->Nat->List V->Hp->Prop,(∃ m,W 0 m [] (upd H p (.lst [])))/\∀ C s' H' fp,b8 (Itt K a') (g C s' H' fp) (tt C s' H' fp) (te C s' H' fp) σ₀ p Q W:=
 ⟨a,rfl,⟨xs,hx⟩,fun p hp=>tW (bi H p R) ⟨aP hp _,av,Nat.le_refl _,h0 _ (aP hp _)⟩ (fun i acc H2 _ c=>⟨c.2.1,c.2.2.1⟩) (fun i acc H2 _ c=>c.1.tup hx) (by rw [sizeLine_eq]; omega) (fun C s' H' fp i x acc H2 hi c=>hs p hp C s' H' fp i x acc H2 hi c) fun acc H2 c=>hd p acc H2 hp c.1 c.2.1 c.2.2.2⟩
end
section
variable {g:TG} {tb:TS} {NX:St->Hp->Prop} {RT:VK} {σ:St} {H:Hp} {K:PySem.W.Frag}
theorem Cu {S1 S2:Src} {a b:Addr} (xs ys:List V) (hx:S1.Sq K H a xs) (hy:S2.Sq K H b ys) (Pv:Nat->St->Hp->Prop) (h0:Pv 0 σ H) (hl:∀ i σ H,Pv i σ H->S1.Sq K H a xs/\S2.Sq K H b ys)
  (hs:∀ i x y T σ H H',xs[i]?=some x->ys[i]?=some y->Pv i σ H->H T=none->ak H H'->H' T=some (.tup [x,y])->g (.ref T) σ H' fun σ2 H2=>tb { nx:=Pv (i + 1),rt:=RT,bk:=NX,ct:=Pv (i + 1) } σ2 H2) (hd:∀ σ H,Pv (min xs.length ys.length) σ H->NX σ H):
  ∃ a' b' xs' ys',[V.ref a,V.ref b]=[.ref a',.ref b']/\S1.Sq K H a' xs'/\S2.Sq K H b' ys'/\∃ W:Nat->Nat->St->Hp->Prop,(∃ m,W 0 m σ H)/\∀ i m σ H,W i m σ H->
   ((Itz S1 S2 K a' b').stop i H/\NX σ H)\/((Itz S1 S2 K a' b').go i H/\∃ N:St->Hp->Prop,(∀ σ' H',N σ' H'->∃ m',m' < m/\W (i + 1) m' σ' H')/\∀ x H',(Itz S1 S2 K a' b').yld i H x H'->g x σ H' fun σ2 H2=>tb { nx:=N,rt:=RT,bk:=NX,ct:=N } σ2 H2):=by
 refine ⟨a,b,xs,ys,rfl,hx,hy,ya (J:=Itz S1 S2 K a b) (n:=min xs.length ys.length) (D:={ nx:=NX,rt:=RT }) (Y:=fun i H x H1=>∃ T u v,H T=none/\x=.ref T/\H1=upd H T (.tup [u,v])/\xs[i]?=some u/\ys[i]?=some v) Pv h0 (fun i σ H hi w=>?_) (fun σ H w=>?_) (fun i σ H x H1 hi w y=>?_) (fun i x σ H H1 hi w y=>?_) hd⟩
 ·obtain ⟨q1,q2⟩:=hl i σ H w
  exact ⟨xs,ys,xs[i],ys[i],q1,q2,by simp [show i < xs.length by omega],by simp [show i < ys.length by omega]⟩
 ·obtain ⟨q1,q2⟩:=hl _ σ H w
  exact ⟨xs,ys,q1,q2,rfl⟩
 ·obtain ⟨T,u,v,e1,e2,e3,e4⟩:=y
  obtain ⟨q1,q2⟩:=hl _ σ H w
  obtain ⟨e5,e6⟩:=e4 xs ys q1 q2
  exact ⟨T,u,v,e1,e2,e3,e5,e6⟩
 ·obtain ⟨T,u,v,e1,rfl,rfl,e4,e5⟩:=y
  exact hs i u v T σ H _ e4 e5 w e1 (aP e1 _) av
end
section
variable {K:PySem.W.Frag} {H:Hp} {Q:VK} {a b:Addr} {ns ms:List Int}
theorem Dl (h1:SqT K H a (ns.map V.int)) (h2:SqT K H b (ms.map V.int)) (h:Q (.bl (decide (ns=ms))) H):qe (SqT K) false (.ref a) (.ref b) H Q:=⟨a,b,_,_,_,rfl,rfl,h1,h2,x9 ns ms,by rw [wO]; exact h⟩
theorem oW {x:V} {T:String} {t:Value} {c:Bool} (ty:fq K H x t) (e:PySem.W.kitOne K t (.type T)=some c) (h:Q (.bl c) H):oh K [x,.ty T] H Q:=⟨x,T,t,c,rfl,ty,e,h⟩
end
section
variable {g:CF TG} {tt:CF TT} {te:CF TE} {σ₀:St} {Q:VK} {H:Hp} {K:PySem.W.Frag}
theorem ud {S1 S2:Src} {a b:Addr} (xs ys:List V) (hx:S1.Sq K H a xs) (hy:S2.Sq K H b ys) (kx:∀ H',ak H H'->S1.Sq K H' a xs) (ky:∀ H',ak H H'->S2.Sq K H' b ys) (hz:xs.length<=1000000) (R:Nat->List V->Hp->Prop) (h0:∀ H',ak H H'->R 0 [] H')
  (hs:∀ p,H p=none->∀ C s' H' fp,∀ i x y T acc H2 H3,xs[i]?=some x->ys[i]?=some y->bi H p R i acc H2->H2 T=none->ak H2 H3->H3 T=some (.tup [x,y])->H3 p=some (.lst acc)->g C s' H' fp (.ref T) σ₀ H3 fun σ2 H3=>tt C s' H' fp σ2 H3 fun b H4=>if b=true then te C s' H' fp σ2 H4 fun y H5=>H5 p=some (.lst acc)/\bi H p R (i + 1) (acc++[y]) (upd H5 p (.lst (acc++[y]))) else bi H p R (i + 1) acc H4)
  (hd:∀ p acc H2,H p=none->ak H H2->H2 p=some (.lst acc)->R (min xs.length ys.length) acc H2->Q (.ref p) H2):
  ∃ a' b' xs' ys',[V.ref a,V.ref b]=[.ref a',.ref b']/\S1.Sq K H a' xs'/\S2.Sq K H b' ys'/\∀ p,H p=none->∃ W:Nat->Nat->List V->Hp->Prop,(∃ m,W 0 m [] (upd H p (.lst [])))/\∀ C s' H' fp,b8 (Itz S1 S2 K a' b') (g C s' H' fp) (tt C s' H' fp) (te C s' H' fp) σ₀ p Q W:=by
 refine ⟨a,b,xs,ys,rfl,hx,hy,fun p hp=>kB (n:=min xs.length ys.length) (Y:=fun i H x H1=>∃ T u v,H T=none/\x=.ref T/\H1=upd H T (.tup [u,v])/\xs[i]?=some u/\ys[i]?=some v) (bi H p R)
  ⟨aP hp _,av,Nat.le_refl _,h0 _ (aP hp _)⟩ (fun i acc H2 _ c=>⟨c.2.1,c.2.2.1⟩) (by rw [sizeLine_eq]; omega) (fun i acc H2 hi c=>?_) (fun acc H2 c=>?_) (fun i acc H2 x H3 hi c y=>?_) (fun C s' H' fp i x acc H2 H3 hi c y=>?_) fun acc H2 c=>hd p acc H2 hp c.1 c.2.1 c.2.2.2⟩
 ·exact ⟨xs,ys,xs[i],ys[i],kx _ c.1,ky _ c.1,by simp [show i < xs.length by omega],by simp [show i < ys.length by omega]⟩
 ·exact ⟨xs,ys,kx _ c.1,ky _ c.1,rfl⟩
 ·obtain ⟨T,u,v,e1,e2,e3,e4⟩:=y
  obtain ⟨e5,e6⟩:=e4 xs ys (kx _ c.1) (ky _ c.1)
  exact ⟨T,u,v,e1,e2,e3,e5,e6⟩
 ·obtain ⟨T,u,v,e1,rfl,rfl,e4,e5⟩:=y
  exact hs p hp C s' H' fp i u v T acc H2 _ e4 e5 c e1 (aP e1 _) av (by rw [aF (aJ c.2.1 e1)]; exact c.2.1)
noncomputable def zz (K:PySem.W.Frag):V->Option Int->Option Int->Hp->VK->Prop:=fun x lo hi H Q=>∃ a xs,x=.ref a/\SqT K H a xs/\¬ (HT.sIx xs.length 0 lo=0/\HT.sIx xs.length xs.length hi=xs.length)/\New H (.tup (mv xs lo hi)) fun p H2=>Q (.ref p) H2
theorem Dm {a:Addr} {xs:List V} {lo hi:Option Int} (e:SqT K H a xs) (hn:¬ (HT.sIx xs.length 0 lo=0/\HT.sIx xs.length xs.length hi=xs.length)) (h:∀ p H',H p=none->ak H H'->H' p=some (.tup (mv xs lo hi))->Q (.ref p) H'):zz K (.ref a) lo hi H Q:=⟨a,xs,rfl,e,hn,h⟩
theorem zA (x:V) (xs:List V):mv (x :: xs) (some 1) none=xs:=by
 unfold mv
 have e:HT.sIx (x :: xs).length 0 (some 1)=min 1 (x :: xs).length:=rfl
 rw [e,show min 1 (x :: xs).length=1 by simp]
 show ((x :: xs).drop 1).take ((x :: xs).length - 1)=xs
 rw [List.take_of_length_le (by simp)]
 rfl
theorem vq (x:V) (xs:List V):¬ (HT.sIx (x :: xs).length 0 (some 1)=0/\HT.sIx (x :: xs).length (x :: xs).length none=(x :: xs).length):=fun h=>by
 have e:HT.sIx (x :: xs).length 0 (some 1)=min 1 (x :: xs).length:=rfl
 rw [e,show min 1 (x :: xs).length=1 by simp] at h
 exact absurd h.1 (by decide)
theorem Dn {x y:Str} (h:Q (.bl (decide (x=y))) H):rEq (.str x) (.str y) H Q:=⟨rfl,by rw [show decide (V.str x=V.str y)=decide (x=y) from decide_eq_decide.mpr ⟨fun e=>by injection e,fun e=>by rw [e]⟩]; exact h⟩
theorem Do {x y:Str} (h:Q (.bl (!decide (x=y))) H):rNe (.str x) (.str y) H Q:=⟨rfl,by rw [show decide (V.str x=V.str y)=decide (x=y) from decide_eq_decide.mpr ⟨fun e=>by injection e,fun e=>by rw [e]⟩]; exact h⟩
end
noncomputable def mG (K:PySem.W.Frag) (a:Addr) (xs:List V):Prop:=∃ (o:Obj) (its:Array Value) (n:Nat),K.lookup a=some o/\o.cls=.type "tuple"/\o.data=.seq its n/\its.size<=sizeLine/\aE xs its.toList
section
variable {H:Hp} {Q:VK} {K:PySem.W.Frag}
end
theorem yg (xs:List V) (z:Int) {m:Nat} (hl:xs.length=m) (hm:0 < m):∃ x,atI xs (z % (m:Int))=some x/\x∈xs:=by
 have m1:=Int.emod_nonneg z (b:=(m:Int)) (by omega)
 have m2:=Int.emod_lt_of_pos z (b:=(m:Int)) (by omega)
 have hk:(z % (m:Int)).toNat < xs.length:=by omega
 refine ⟨xs[(z % (m:Int)).toNat],?_,List.getElem_mem hk⟩
 have e:z % (m:Int)=(((z % (m:Int)).toNat:Nat):Int):=by omega
 have q:atI xs (((z % (m:Int)).toNat:Nat):Int)=some xs[(z % (m:Int)).toNat]:=bG (List.getElem?_eq_getElem hk)
 rw [<-e] at q
 exact q
noncomputable def Dp:R2:=fun x y H Q=>∃ a b,x=.bl a/\y=.bl b/\Q (.bl (!(a == b))) H
theorem Cv {a b:Bool} {H:Hp} {Q:VK} (h:Q (.bl (!(a == b))) H):Dp (.bl a) (.bl b) H Q:=⟨a,b,rfl,rfl,h⟩
end L2
end
local macro_rules | `(tactic| walk_at "rb1")=>`(tactic| first
 | ((with_reducible refine' L2.ly (v:=?v) ?e ?h); (case e=>exact rfl))
 | (with_reducible first | refine L2.ye ?_ | refine L2.lx ?_ | refine L2.C7 ?_ | refine L2.BZ ?_ | refine L2.Ca ?_ | refine L2.A2 ?_ | refine L2.Cb ?_ | refine L2.jP ?_ | refine L2.Cc ?_ | refine L2.r_c ?_ | refine L2.oj ?_ | refine L2.DG ?_ | refine L2.DH ?_ | refine L2.r_U ?_ | refine L2.C8 ?_ | refine L2.C9 ?_ | refine L2.Dn ?_ | refine L2.Do ?_ | refine L2.Da ?_ | refine L2.Db ?_ | refine L2.Cv ?_ | refine L2.Cd ?_ | refine L2.DI ?_ | refine L2.DJ ?_ | refine L2.Dg ?_ | refine L2.Dc ?_ | refine L2.DK ?_ | refine L2.Dd ?_ | refine L2.Ce ?_ | refine L2.De ?_ | refine L2.Cf ?_ | refine L2.DL ?_ | refine L2.A3 ?_ | refine L2.AB ?_ | refine L2.yf ?_ | refine L2.Cg ?_ | refine L2.DM ?_ | refine L2.DN ?_ | refine L2.Df ?_ | refine L2.DO ?_ | refine L2.DP ?_ | refine L2.zw ?_ | refine L2.Ch ?_ | refine L2.Dh ?_ | refine L2.Ci ?_ | refine L2.A4 ?_ | refine L2.Cj ?_ | refine L2.A5 ?_ | refine L2.A6 ?_ | refine L2.A7 ?_ | refine L2.Ck ?_ | refine L2.Cl ?_ | refine L2.Cm ?_ | refine L2.Dk ?_ | refine L2.np ?_ | refine L2.Co ?_ | refine L2.Cp ?_ | refine L2.Cq ?_ | refine L2.Cr ?_ | refine L2.jo ?_ | refine L2.fY ?_ | refine L2.Di ?_ | refine L2.Dj ?_ | refine L2.zx ?_)
 | ((with_reducible refine L2.r_I ?_ ?_); (first | (show (0:Int) < _; omega) | (show (0:Int) < _; decide) | exact ⟨by decide,by decide,by decide⟩ | exact And.intro (by omega) (by omega) | exact (PySem.IntMulOk.of_right (PySem.intBits_le_64 (by omega) (by omega))) | exact (PySem.IntMulOk.of_left (PySem.intBits_le_64 (by omega) (by omega)))))
 | ((with_reducible refine' L2.oU (ys:=?y) ?e ?h); (case e=>first | assumption | exact L2.SqL.of (by assumption)))
 | ((with_reducible refine' L2.A8 (ys:=?y) ?e ?h); (case e=>first | assumption | exact L2.SqT.of (by assumption)))
 | dsimp only [List.set_cons_zero,List.set_cons_succ,L2.sub,List.map_cons,List.map_nil,List.getElem?_cons_zero,List.getElem?_cons_succ])
local macro_rules | `(tactic| walk_at "rd")=>`(tactic| repeat (first | (with_reducible first | refine L2.ft ?_ | refine L2.AA ?_) | walk_at "rb1"))
local macro_rules | `(tactic| walk_at "rs")=>`(tactic| repeat (first | (with_reducible refine L2.AA ?_) | walk_at "rb1"))
local macro_rules | `(tactic| walk_at "ra")=>`(tactic| repeat (walk_at "rb1"))
section
namespace L2
open PySem PyProof.Rows
noncomputable abbrev IA:=Option Int
noncomputable abbrev IK:=Sum IA (List IA)
noncomputable abbrev MK:=Sum IA (List IK)
noncomputable def iaV:V->Option IA
 | .non=>some none
 | .bl b=>some (some (if b then 1 else 0))
 | .int i=>some (some i)
 | _=>none
noncomputable def j8 (H:Hp) (x:V):IK->Prop
 | .inl a=>iaV x=some a
 | .inr as=>∃ c ys,x=.ref c/\H c=some (.tup ys)/\ys.map iaV=as.map some
noncomputable def cL (H:Hp) (x:V):MK->Prop
 | .inl a=>iaV x=some a
 | .inr is=>∃ c xs,x=.ref c/\H c=some (.tup xs)/\Paired (j8 H) xs is
noncomputable def gn:MK->Bool
 | .inl _=>false
 | .inr _=>true
theorem j8.keep {H H':Hp} {x:V} {k:IK} (h:j8 H x k) (kp:eY H H'):j8 H' x k:=by
 cases k with
 | inl a=>exact h
 | inr as=>obtain ⟨c,ys,e,q,r⟩:=h; exact ⟨c,ys,e,kp _ _ q,r⟩
theorem cL.keep {H H':Hp} {x:V} {k:MK} (h:cL H x k) (kp:eY H H'):cL H' x k:=by
 cases k with
 | inl a=>exact h
 | inr as=>obtain ⟨c,xs,e,q,r⟩:=h; exact ⟨c,xs,e,kp _ _ q,Paired.mapP r fun _ _ z=>j8.keep z kp⟩
theorem yh {H H':Hp} {xs:List V} {ks:List MK} (h:Paired (cL H) xs ks) (kp:eY H H'):Paired (cL H') xs ks:=Paired.mapP h fun _ _ z=>cL.keep z kp
theorem fo {α β:Type} {F:α->β->Prop}:∀ {xs:List α} {ys:List β} {i:Nat} {x:α},Paired F xs ys->xs[i]?=some x->∃ y,ys[i]?=some y/\F x y
 | _,_,_,_,.nil,e=>by simp at e
 | _,_,0,_,.cons r _,e=>by simp at e; subst e; exact ⟨_,rfl,r⟩
 | _,_,i + 1,x,.cons _ t,e=>by
  obtain ⟨u,h1,h2⟩:=fo (i:=i) (x:=x) t (by simpa using e)
  exact ⟨u,by simpa using h1,h2⟩
theorem oX (H:Hp):∀ ns:List Int,Paired (j8 H) (ns.map V.int) (ns.map fun n=>(Sum.inl (some n):IK))
 | []=>.nil
 | n :: r=>.cons rfl (oX H r)
theorem A9 {H:Hp} {c:Addr} {ns:List Int} (e:H c=some (.tup (ns.map V.int))):cL H (.ref c) (.inr (ns.map fun n=>(Sum.inl (some n):IK))):=⟨c,_,rfl,e,oX H ns⟩
theorem Off.keepD {H H':Hp} {l:Addr} (o:Off l H H') (h:∀ xs,H l≠some (.tup xs)):eY H H':=fun b ys q=>by
 rw [o b (fun z=>by subst z; exact h _ q)]
 exact q
noncomputable def cW {α:Type} [DecidableEq α] (ks:List α):List Nat:=ks.map fun k=>ks.idxOf k
theorem gq {α:Type} [DecidableEq α] (ks:List α):(cW ks).length=ks.length:=List.length_map _
theorem wT {α:Type} [DecidableEq α] {ks:List α} {i:Nat} {k:α} (h:k∈ks.take i):(ks.take i).idxOf k=ks.idxOf k:=by
 have:=List.idxOf_append (l₁:=ks.take i) (l₂:=ks.drop i) (a:=k)
 rw [List.take_append_drop,if_pos h] at this
 exact this.symm
theorem rH {α:Type} [DecidableEq α] {ks:List α} {i:Nat} {k:α} (hk:ks[i]?=some k) (h:k∉ks.take i):ks.idxOf k=i:=by
 obtain ⟨hi,e⟩:=List.getElem?_eq_some_iff.mp hk
 have e1:ks=ks.take i++(k :: ks.drop (i + 1)):=by
  rw [<-e,List.getElem_cons_drop,List.take_append_drop]
 have:=List.idxOf_append (l₁:=ks.take i) (l₂:=k :: ks.drop (i + 1)) (a:=k)
 rw [<-e1,if_neg h,List.idxOf_cons_self,List.length_take] at this
 omega
theorem eK {α:Type} {ks:List α} {i:Nat} {k:α} (hk:ks[i]?=some k):ks.take (i + 1)=ks.take i++[k]:=by
 rw [List.take_add_one,hk]; rfl
theorem wU {α:Type} [DecidableEq α] {ks:List α} {i:Nat} {z:Nat} (h:(cW ks)[i]?=some z):∃ k,ks[i]?=some k/\z=ks.idxOf k/\z<=i:=by
 unfold cW at h
 rw [List.getElem?_map] at h
 cases e:ks[i]? with
 | none=>rw [e] at h; cases h
 | some k=>
  rw [e] at h
  refine ⟨k,rfl,(Option.some.inj h).symm,?_⟩
  rw [<-Option.some.inj h]
  show ks.idxOf k<=i
  by_cases q:k∈ks.take i
  ·have:=List.idxOf_lt_length_of_mem q
   rw [wT q,List.length_take] at this
   omega
  ·rw [rH e q]; exact Nat.le_refl _
end L2
end
section
namespace L2
open PySem PySem.Spec PyProof.Rows
section
variable {κ:Type} [DecidableEq κ]
noncomputable def fS (kvs:List (κ×V)) (k:κ):Option V:=(kvs.find? fun kv=>decide (kv.1=k)).map (·.2)
noncomputable def mH (kvs:List (κ×V)) (k:κ) (v:V):List (κ×V):=
 if (kvs.any fun kv=>decide (kv.1=k))=true then kvs.map (fun kv=>if kv.1=k then (kv.1,v) else kv) else kvs++[(k,v)]
theorem eQ {p:κ×V} {r:List (κ×V)} {k:κ} (e:p.1=k):fS (p :: r) k=some p.2:=by simp [fS,List.find?_cons,e]
theorem eR {p:κ×V} {r:List (κ×V)} {k:κ} (e:¬ p.1=k):fS (p :: r) k=fS r k:=by simp [fS,List.find?_cons,e]
theorem oo (k:κ):∀ kvs:List (κ×V),(kvs.any fun kv=>decide (kv.1=k))=(fS kvs k).isSome
 | []=>rfl
 | p :: r=>by
  rw [List.any_cons]
  by_cases e:p.1=k
  ·simp only [eQ e,decide_eq_true e,Bool.true_or,Option.isSome_some]
  ·rw [eR e,decide_eq_false e,Bool.false_or]; exact oo k r
theorem ue (k j:κ) (y:V):∀ kvs:List (κ×V),fS (kvs.map fun kv=>if kv.1=k then (kv.1,y) else kv) j=(fS kvs j).map fun x=>if j=k then y else x
 | []=>rfl
 | p :: r=>by
  have ih:=ue k j y r
  rw [List.map_cons]
  by_cases h:p.1=k
  ·rw [if_pos h]
   by_cases e:p.1=j
   ·rw [eQ (p:=(p.1,y)) e,eQ e,Option.map_some,if_pos (e.symm.trans h)]
   ·rw [eR (p:=(p.1,y)) e,eR e,ih]
  ·rw [if_neg h]
   by_cases e:p.1=j
   ·rw [eQ (p:=p) e,eQ e,Option.map_some,if_neg (fun z=>h (e.trans z))]
   ·rw [eR (p:=p) e,eR e,ih]
theorem rJ (k j:κ) (y:V):∀ kvs:List (κ×V),fS kvs k=none->fS (kvs++[(k,y)]) j=if j=k then some y else fS kvs j
 | [],_=>by
  by_cases e:k=j
  ·rw [if_pos e.symm]; exact eQ (p:=(k,y)) e
  ·rw [if_neg (fun z=>e z.symm)]; exact eR (p:=(k,y)) e
 | p :: r,hn=>by
  rw [List.cons_append]
  have hk:¬ p.1=k:=fun z=>by rw [eQ z] at hn; cases hn
  rw [eR hk] at hn
  have ih:=rJ k j y r hn
  by_cases e:p.1=j
  ·rw [eQ e,eQ e,if_neg (fun z=>hk (e.trans z))]
  ·rw [eR e,eR e,ih]
theorem zB (kvs:List (κ×V)) (k j:κ) (y:V):fS (mH kvs k y) j=if j=k then some y else fS kvs j:=by
 unfold mH
 by_cases a:(kvs.any fun kv=>decide (kv.1=k))=true
 ·rw [if_pos a,ue]
  rw [oo] at a
  by_cases e:j=k
  ·obtain ⟨x,hx⟩:=Option.isSome_iff_exists.mp a
   rw [if_pos e,e,hx,Option.map_some,if_pos rfl]
  ·rw [if_neg e]
   cases fS kvs j with
   | none=>rfl
   | some x=>rw [Option.map_some,if_neg e]
 ·rw [if_neg a]
  refine rJ k j y kvs ?_
  rw [oo] at a
  cases q:fS kvs k with
  | none=>rfl
  | some x=>rw [q] at a; exact (a rfl).elim
theorem nQ (kvs:List (κ×V)) (k:κ) (v:V):(mH kvs k v).length<=kvs.length + 1:=by
 unfold mH
 split
 ·rw [List.length_map]; omega
 ·rw [List.length_append,List.length_cons,List.length_nil]; omega
theorem jJ.isSome_eq {o:Option V} {u:Option Value} (r:jJ o u):o.isSome=u.isSome:=by
 cases o with
 | none=>cases u with
  | none=>rfl
  | some _=>exact (show False from r).elim
 | some _=>cases u with
  | none=>exact (show False from r).elim
  | some _=>rfl
theorem KV.val {kvs:List (κ×V)} {vs:List (κ×Value)} (r:KV kvs vs) (k:κ):jJ (fS kvs k) (valueAt vs k):=by
 unfold KV at r
 induction r with
 | nil=>exact True.intro
 | @cons p q ps qs h t ih=>
  obtain ⟨h1,h2⟩:=h
  by_cases e:p.1=k
  ·have e':q.1=k:=h1.symm.trans e
   have b:valueAt (q :: qs) k=some q.2:=by simp [valueAt,List.find?_cons,e']
   rw [eQ e,b]; exact h2
  ·have e':¬ q.1=k:=fun z=>e (h1.trans z)
   have b:valueAt (q :: qs) k=valueAt qs k:=by simp [valueAt,List.find?_cons,e']
   rw [eR e,b]; exact ih
theorem KV.any {kvs:List (κ×V)} {vs:List (κ×Value)} (r:KV kvs vs) (k:κ):(kvs.any fun kv=>decide (kv.1=k))=vs.any fun kv=>decide (kv.1=k):=by
 unfold KV at r
 induction r with
 | nil=>rfl
 | cons h t ih=>rw [List.any_cons,List.any_cons,ih,h.1]
theorem KV.repl {kvs:List (κ×V)} {vs:List (κ×Value)} (r:KV kvs vs) (k:κ) {y:V} {u:Value} (ry:aM y u):
  KV (kvs.map fun kv=>if kv.1=k then (kv.1,y) else kv) (vs.map fun kv=>if kv.1=k then (kv.1,u) else kv):=by
 unfold KV at r ⊢
 induction r with
 | nil=>exact .nil
 | @cons p q ps qs h t ih=>
  rw [List.map_cons,List.map_cons]
  refine .cons ?_ ih
  obtain ⟨h1,h2⟩:=h
  by_cases e:p.1=k
  ·rw [if_pos e,if_pos (h1.symm.trans e)]; exact ⟨h1,ry⟩
  ·rw [if_neg e,if_neg (fun z=>e (h1.trans z))]; exact ⟨h1,h2⟩
theorem KV.put {kvs:List (κ×V)} {vs:List (κ×Value)} (r:KV kvs vs) (k:κ) {y:V} {u:Value} (ry:aM y u):KV (mH kvs k y) (stored vs k u):=by
 unfold mH stored
 rw [r.any k]
 by_cases e:(vs.any fun kv=>decide (kv.1=k))=true
 ·rw [if_pos e,if_pos e]; exact r.repl k ry
 ·rw [if_neg e,if_neg e]; exact Paired.snoc r ⟨rfl,ry⟩
theorem KV.length {kvs:List (κ×V)} {vs:List (κ×Value)} (r:KV kvs vs):kvs.length=vs.length:=Paired.length r
end
section
variable {P:Program} {w:World} {H:Hp} {h:Heap} {a:Addr}
end
section
variable {X:Cx} {pins:List (Addr×Obj)} {σ:St} {H:Hp} {s:Shared} {a:Addr} {y v:V} {u r:Value} {o:Option V} {A:Around} {E:Value->Shared->Prop}
theorem Inv.big (I:Inv X pins σ H s):sysModules < s.heap.objs.size:=by
 have h:mainGlobals < s.heap.objs.size:=(I.mod.glob.keeps I.bk).lt
 exact Nat.lt_trans (by decide) h
theorem wg {h':Heap} {t':Nat} {ob:HO} (I:Inv X pins σ H s) (mu:Mut (H a)) (hs:Heap.SameBut a s.heap h') (he:∃ q,h'.get? a=some q) (new:bZ X.prog X.w (upd H a ob) h' a ob):
  Inv X pins σ (upd H a ob) { s with heap:=h',toks:=t' }:=
 I.write (x:=a) (e:=a) mu (.inl rfl) (fun b q hb z=>(hs.2 b hb).trans z) he new
end
section
variable {X:Cx} {pins:List (Addr×Obj)} {σ:St} {H:Hp} {s:Shared} {a:Addr} {kvs:List (Key×V)} {k:Key} {u:Value} {A:Around} {E:Value->Shared->Prop}
end
noncomputable def Cw (i:Expr):Prop:=∀ ov iv,subscripted i false ov iv=operate [ov,iv] (getItem ov iv)
theorem Ba {prog:Program} {w:World} {A:Around} {E:Value->Shared->Prop} {s:Shared} {env:Env} {value slice:Expr} {pos:Pos} {T id:String} {Q:Value->Shared->Prop}
  (hl:typeLookup (.type T) "__getitem__"=pure (some (.builtin id))) (hs:Cw slice)
  (h:wpAny (model prog w) A (eval value env) (fun o s₁=>wpAny (model prog w) A (eval slice env) (fun i s₂=>s₂.TypeIs o T/\wpAny (model prog w) A (getItem o i) Q E s₂) E s₁) E s):
  wpAny (model prog w) A (eval (.Subscript value slice pos) env) Q E s:=by
 refine Subscript_ (wpAny_mono h (fun o s₁ h₁=>wpAny_mono h₁ (fun i s₂ h₂=>?_) fun _ _ x=>x) fun _ _ x=>x)
 obtain ⟨hT,h₂⟩:=h₂
 unfold subscriptTail
 refine wpAny_bind ?_
 rw [getitemInPython_of_ne hT.not_modules]
 refine wpAny_bind (wpAny_specialOf hT hl ?_)
 have fin:wpAny (model prog w) A (subscripted slice false o i) (fun r s₃=>wpAny (model prog w) A (letTemporaryGo value o r >>= fun _=>pure r) Q E s₃) E s₂:=by
  rw [hs o i]
  exact wpAny_operating (wpAny_mono h₂ (fun r s₃ h₃=>wpAny_bind (wpAny_letTemporaryGo (wpAny_pure h₃))) fun _ _ x=>x)
 first
  | exact wpAny_pure (wpAny_bind fin)
  | exact wpAny_bind (wpAny_pure (wpAny_bind fin))
  | exact wpAny_bind fin
section
variable {X:Cx} {o i e value:Expr} {pos pos' tpos:Pos} {td ty tv:TE}
end
section
variable {X:Cx} {pos:Pos}
end
structure M1 (X:Cx) (o:Expr) (m:Str) (apos:Pos) (e:Expr) (cpos:Pos):Prop where
 base:attributeBase o m X.env (eval o X.env)=eval o X.env
 few:((backTo cpos (starEach [e] X.env)).all (fun x=>!x.1) && (backToKw cpos (keywordEach [] X.env)).all (fun x=>x.1.isSome)
  && decide (([e]:List Expr).length + ([]:List Keyword).length + (if ([]:List Keyword).isEmpty then 0 else 1) < 30))=true
 line:(apos.endLine == cpos.line)=true
 trees:backTo cpos (starEach [e] X.env)=[(false,eval e X.env)]
structure M2 (X:Cx) (o:Expr) (m:Str) (apos:Pos) (e f:Expr) (cpos:Pos):Prop where
 base:attributeBase o m X.env (eval o X.env)=eval o X.env
 few:((backTo cpos (starEach [e,f] X.env)).all (fun x=>!x.1) && (backToKw cpos (keywordEach [] X.env)).all (fun x=>x.1.isSome)
  && decide (([e,f]:List Expr).length + ([]:List Keyword).length + (if ([]:List Keyword).isEmpty then 0 else 1) < 30))=true
 line:(apos.endLine == cpos.line)=true
 trees:backTo cpos (starEach [e,f] X.env)=[(false,eval e X.env),(false,eval f X.env)]
section
variable {X:Cx} {pins:List (Addr×Obj)} {σ:St} {H:Hp} {s:Shared} {a:Addr} {y d:V} {u r:Value} {o:Option V} {A:Around} {E:Value->Shared->Prop}
end
section
variable {X:Cx} {o e f:Expr} {apos cpos:Pos} {td ty tx:TE}
end
section
variable {X:Cx} {pins:List (Addr×Obj)} {σ:St} {H:Hp} {s:Shared} {a:Addr} {kvs:List (Key×V)} {A:Around} {E:Value->Shared->Prop}
end
section
variable {X:Cx} {pins:List (Addr×Obj)} {σ:St} {H:Hp} {s:Shared} {a:Addr} {y:V} {u:Value} {A:Around} {E:Value->Shared->Prop}
end
end L2
end
section
namespace L2
open PySem PySem.Spec PyProof.Rows
section
variable {prog:Program} {w:World} {A:Around} {E:Value->Shared->Prop} {s:Shared}
theorem nG {b:Bool} {Q:Int->Shared->Prop} (h:Q (hashInt (if b then 1 else 0)) { s with toks:=s.toks + 1 }):wpAny (model prog w) A (pyHash (.bool b)) Q E s:=by
 have hr:=rawHash_range (if b then 1 else 0)
 unfold pyHash
 have hv:[Value.bool b].any Value.onHeap=false:=rfl
 refine wpAny_bind ?_
 rw [cRoomFor,if_neg (by rw [hv]; exact Bool.false_ne_true)]; refine wpAny_pure ?_
 have hT:s.TypeIs (.bool b) "bool":=rfl
 refine wpAny_bind (wpAny_specialOf hT PySem.F.slot_bool_hash.lookup ?_)
 show wpAny _ _ (if (some (Value.builtin "int.__hash__") == some Value.none)=true then _ else _) Q E s
 rw [if_neg (by rw [beq_builtin_none]; exact Bool.false_ne_true)]
 refine wpAny_bind (wpAny_specialOf hT PySem.F.slot_bool_hash.lookup ?_)
 show wpAny _ _ (callSpecialIfBoundUnlessNone? (.bool b) "__hash__" _ >>= _) Q E s
 refine wpAny_bind (wpAny_callSpecialIfBoundUnlessNone?_slot hT PySem.F.slot_bool_hash (wpAny_call_entry PySem.F.slot_bool_hash hT entry_int_hash ?_ (args_int_hash _)))
 cases b with
 | true=>
  refine (show wpAny _ _ (do ret (<-mkInt (rawHash 1))) _ _ s from wpAny_ret_mkInt ?_)
  show wpAny _ _ (if (decide (-(2:Int) ^ 63<=rawHash 1) && decide (rawHash 1 < 2 ^ 63))=true then _ else _) Q E _
  rw [if_pos (by decide)]
  exact wpAny_pure h
 | false=>
  refine (show wpAny _ _ (do ret (<-mkInt (rawHash 0))) _ _ s from wpAny_ret_mkInt ?_)
  show wpAny _ _ (if (decide (-(2:Int) ^ 63<=rawHash 0) && decide (rawHash 0 < 2 ^ 63))=true then _ else _) Q E _
  rw [if_pos (by decide)]
  exact wpAny_pure h
theorem nH {Q:Int->Shared->Prop} (h:Q 4238894112 { s with toks:=s.toks + 1 }):wpAny (model prog w) A (pyHash .none) Q E s:=by
 unfold pyHash
 have hv:[Value.none].any Value.onHeap=false:=rfl
 refine wpAny_bind ?_
 rw [cRoomFor,if_neg (by rw [hv]; exact Bool.false_ne_true)]; refine wpAny_pure ?_
 have hT:s.TypeIs .none "NoneType":=rfl
 refine wpAny_bind (wpAny_specialOf hT PySem.F.slot_NoneType_hash.lookup ?_)
 show wpAny _ _ (if (some (Value.builtin "NoneType.__hash__") == some Value.none)=true then _ else _) Q E s
 rw [if_neg (by rw [beq_builtin_none]; exact Bool.false_ne_true)]
 refine wpAny_bind (wpAny_specialOf hT PySem.F.slot_NoneType_hash.lookup ?_)
 show wpAny _ _ (callSpecialIfBoundUnlessNone? .none "__hash__" _ >>= _) Q E s
 refine wpAny_bind (wpAny_callSpecialIfBoundUnlessNone?_slot hT PySem.F.slot_NoneType_hash (wpAny_call_entry PySem.F.slot_NoneType_hash hT PySem.F.entry_NoneType_hash ?_ (PySem.F.args_NoneType_hash_1 _)))
 refine (show wpAny _ _ (do ret (<-mkInt 4238894112)) _ _ s from wpAny_ret_mkInt ?_)
 show wpAny _ _ (if (decide (-(2:Int) ^ 63<=4238894112) && decide ((4238894112:Int) < 2 ^ 63))=true then _ else _) Q E _
 rw [if_pos (by decide)]
 exact wpAny_pure h
end
noncomputable def uf:IA->Int
 | none=>4238894112
 | some i=>hashInt i
noncomputable def lz:IA->Value->Bool
 | none,.none=>true
 | some i,.int j _=>i == j
 | some i,.bool b=>i == (if b then 1 else 0)
 | _,_=>false
theorem dZ {k:IA} {v:Value} (h:lz k v=true):(k=none/\v=.none)\/(∃ i t,k=some i/\v=.int i t)\/∃ b,k=some (if b then 1 else 0)/\v=.bool b:=by
 rcases k with _ | i <;> cases v <;> (delta lz at h; simp at h)
 ·exact .inl ⟨rfl,rfl⟩
 ·subst h; exact .inr (.inr ⟨_,rfl,rfl⟩)
 ·subst h; exact .inr (.inl ⟨_,_,rfl,rfl⟩)
noncomputable def df (prog:Program) (w:World):PySem.KeyKind prog w IA where
 is:=lz
 hash:=uf
 inj:=fun v a b ha hb=>by
  rcases dZ ha with ⟨rfl,rfl⟩ | ⟨i,t,rfl,rfl⟩ | ⟨c,rfl,rfl⟩ <;> rcases dZ hb with ⟨rfl,e⟩ | ⟨j,u,rfl,e⟩ | ⟨d,rfl,e⟩ <;> first | rfl | (cases e; rfl) | cases e
 byValue:=fun k v h=>by
  rcases dZ h with ⟨rfl,rfl⟩ | ⟨i,t,rfl,rfl⟩ | ⟨c,rfl,rfl⟩ <;> rfl
 pyHash:=fun hv h=>by
  rcases dZ hv with ⟨rfl,rfl⟩ | ⟨i,t,rfl,rfl⟩ | ⟨c,rfl,rfl⟩
  ·exact nH h
  ·exact wpAny_pyHash_int h
  ·exact nG h
 eqBool:=fun {A E s a b u v Q} hu hv h=>by
  rcases dZ hu with ⟨rfl,rfl⟩ | ⟨i,t,rfl,rfl⟩ | ⟨c,rfl,rfl⟩ <;> rcases dZ hv with ⟨rfl,rfl⟩ | ⟨j,u,rfl,rfl⟩ | ⟨d,rfl,rfl⟩
  ·exact SeqAt.EqAt.same _ _ _ _ _ (by simpa using h)
  ·exact SeqAt.EqAt.none_int _ _ _ _ _ _ (by simpa using h)
  ·exact SeqAt.EqAt.none_bool _ _ _ _ _ (by simpa using h)
  ·exact SeqAt.EqAt.int_none _ _ _ _ _ _ (by simpa using h)
  ·exact SeqAt.EqAt.int_int _ _ _ _ _ _ _ _ (by simpa [Bool.beq_eq_decide_eq] using h)
  ·exact SeqAt.EqAt.int_bool _ _ _ _ _ _ _ (by simpa [Bool.beq_eq_decide_eq] using h)
  ·exact SeqAt.EqAt.bool_none _ _ _ _ _ (by simpa using h)
  ·exact SeqAt.EqAt.bool_int _ _ _ _ _ _ _ (by simpa [Bool.beq_eq_decide_eq] using h)
  ·refine SeqAt.EqAt.bool_bool _ _ _ _ _ _ ?_
   cases c <;> cases d <;> simpa using h
 «strs»:=fun k x t v h=>by
  rcases dZ h with ⟨rfl,e⟩ | ⟨i,u,rfl,e⟩ | ⟨c,rfl,e⟩ <;> cases e
noncomputable def jS:IK->Int
 | .inl a=>uf a
 | .inr as=>reduceHash (Builtin.Tuple.tupleHashOf (as.map uf))
noncomputable def tf (is:List IK):Int:=reduceHash (Builtin.Tuple.tupleHashOf (is.map jS))
noncomputable def kC:IK->Nat
 | .inl _=>1
 | .inr as=>as.length + 1
section
variable (prog:Program) (w:World)
noncomputable def dg (h:Heap):IK->Value->Prop
 | .inl a,v=>lz a v=true
 | .inr as,v=>∃ b,v=.ref b/\IsTupleKey (df prog w) h as b
noncomputable def gF (h:Heap) (is:List IK) (a:Addr):Prop:=∃ o items n,h.get? a=some o/\o.cls=.type "tuple"/\o.data=.seq items n/\Paired (dg prog w h) is items.toList
end
section
variable {prog:Program} {w:World}
theorem dg.inj {h:Heap} {x y:IK} {v:Value} (hx:dg prog w h x v) (hy:dg prog w h y v):x=y:=by
 cases x with
 | inl a=>cases y with
  | inl b=>rw [(df prog w).inj v a b hx hy]
  | inr bs=>
   obtain ⟨c,rfl,_⟩:=hy
   rcases dZ hx with ⟨_,e⟩ | ⟨_,_,_,e⟩ | ⟨_,_,e⟩ <;> cases e
 | inr as=>cases y with
  | inl b=>
   obtain ⟨c,rfl,_⟩:=hx
   rcases dZ hy with ⟨_,e⟩ | ⟨_,_,_,e⟩ | ⟨_,_,e⟩ <;> cases e
  | inr bs=>
   obtain ⟨c,rfl,h1⟩:=hx
   obtain ⟨d,e,h2⟩:=hy
   cases e
   rw [h1.inj h2]
theorem yi {h:Heap} {xs ys:List IK} {vs:List Value} (p:Paired (dg prog w h) xs vs):Paired (dg prog w h) ys vs->xs=ys:=by
 induction p generalizing ys with
 | nil=>intro q; cases q; rfl
 | cons a t ih=>intro q; cases q with
  | cons b u=>rw [a.inj b,ih u]
theorem gF.inj {h:Heap} {a:Addr} {x y:List IK} (hx:gF prog w h x a) (hy:gF prog w h y a):x=y:=by
 obtain ⟨o,items,n,ho,_,hd,hi⟩:=hx
 obtain ⟨o',items',n',ho',_,hd',hi'⟩:=hy
 obtain rfl:o=o':=Option.some.inj (ho.symm.trans ho')
 rw [hd] at hd'
 injection hd' with h1 _
 subst h1
 exact yi hi hi'
theorem dg.keeps {h h':Heap} {k:IK} {v:Value} {d:Addr} {o:Obj} {es ep} (x:dg prog w h k v) (ho:h.get? d=some o) (hd:o.data=.dict es ep) (hs:Heap.SameBut d h h'):dg prog w h' k v:=by
 cases k with
 | inl a=>exact x
 | inr as=>obtain ⟨b,e,q⟩:=x; exact ⟨b,e,q.keeps ho hd hs⟩
theorem gF.keeps {h h':Heap} {ks:List IK} {a d:Addr} {o:Obj} {es ep} (x:gF prog w h ks a) (ho:h.get? d=some o) (hd:o.data=.dict es ep) (hs:Heap.SameBut d h h'):gF prog w h' ks a:=by
 obtain ⟨o',items,n,ho',hc,hd',hi⟩:=x
 have hne:a≠d:=by
  rintro rfl
  obtain rfl:o'=o:=Option.some.inj (ho'.symm.trans ho)
  rw [hd] at hd'; exact nomatch hd'
 exact ⟨o',items,n,(hs.2 a hne).trans ho',hc,hd',Paired.mapP hi fun _ _ z=>z.keeps ho hd hs⟩
theorem gF.typeIs {s:Shared} {ks:List IK} {a:Addr} (x:gF prog w s.heap ks a):s.TypeIs (.ref a) "tuple":=let ⟨o,_,_,ho,hc,_⟩:=x; ⟨o,ho,hc⟩
theorem oY {h:Heap} {ks:List IA} {a:Addr} (x:IsTupleKey (df prog w) h ks a):∃ items,h.IsTuple a items:=let ⟨o,items,n,h1,h2,h3,_⟩:=x; ⟨items,o,h1,h2,n,h3⟩
variable {A:Around} {E:Value->Shared->Prop} {s:Shared}
theorem yj {k:IK} {v:Value} {Q:Int->Shared->Prop} (hu:A.units < cLine) (hk:dg prog w s.heap k v) (h:Q (jS k) { s with toks:=s.toks + kC k }):wpAny (model prog w) A (pyHash v) Q E s:=by
 cases k with
 | inl a=>exact (df prog w).pyHash (k:=a) hk h
 | inr as=>
  obtain ⟨b,rfl,q⟩:=hk
  exact wpAny_pyHash_tuple (knd:=df prog w) hu q h
theorem zC {a:IA} {v:Value} {b:Addr} {items:Array Value} {Q:Bool->Shared->Prop} (hu:A.units < cLine) (hk:lz a v=true) (ht:s.heap.IsTuple b items) (h:Q false s):wpAny (model prog w) A (PySem.eqBool v (.ref b)) Q E s:=by
 rcases dZ hk with ⟨rfl,rfl⟩ | ⟨i,t,rfl,rfl⟩ | ⟨c,rfl,rfl⟩
 ·exact SeqAt.EqAt.none_tuple ht hu _ _ _ _ h
 ·exact SeqAt.EqAt.int_tuple _ _ ht hu _ _ _ _ h
 ·exact SeqAt.EqAt.bool_tuple _ ht hu _ _ _ _ h
theorem zD {a:IA} {v:Value} {b:Addr} {items:Array Value} {Q:Bool->Shared->Prop} (hu:A.units < cLine) (hk:lz a v=true) (ht:s.heap.IsTuple b items) (h:Q false s):wpAny (model prog w) A (PySem.eqBool (.ref b) v) Q E s:=by
 rcases dZ hk with ⟨rfl,rfl⟩ | ⟨i,t,rfl,rfl⟩ | ⟨c,rfl,rfl⟩
 ·exact SeqAt.EqAt.tuple_none ht hu _ _ _ _ h
 ·exact SeqAt.EqAt.tuple_int _ _ ht hu _ _ _ _ h
 ·exact SeqAt.EqAt.tuple_bool _ ht hu _ _ _ _ h
theorem Bb {x y:IK} {u v:Value} {Q:Bool->Shared->Prop} (hu:A.units < cLine) (hx:dg prog w s.heap x u) (hy:dg prog w s.heap y v) (h:Q (decide (x=y)) s):wpAny (model prog w) A (PySem.eqBool u v) Q E s:=by
 cases x with
 | inl a=>cases y with
  | inl b=>
   refine (df prog w).eqBool (a:=a) (b:=b) hx hy ?_
   rw [show decide (a=b)=decide ((Sum.inl a:IK)=Sum.inl b) from decide_eq_decide.mpr ⟨fun e=>by rw [e],fun e=>Sum.inl.inj e⟩]
   exact h
  | inr bs=>
   obtain ⟨c,rfl,q⟩:=hy
   obtain ⟨items,ht⟩:=oY q
   refine zC hu hx ht ?_
   rw [decide_eq_false (fun e=>nomatch e)] at h
   exact h
 | inr as=>cases y with
  | inl b=>
   obtain ⟨c,rfl,q⟩:=hx
   obtain ⟨items,ht⟩:=oY q
   refine zD hu hy ht ?_
   rw [decide_eq_false (fun e=>nomatch e)] at h
   exact h
  | inr bs=>
   obtain ⟨c,rfl,q⟩:=hx
   obtain ⟨d,rfl,q'⟩:=hy
   refine wpAny_eqBool_tuple (knd:=df prog w) hu q q' ?_
   rw [show decide (as=bs)=decide ((Sum.inr as:IK)=Sum.inr bs) from decide_eq_decide.mpr ⟨fun e=>by rw [e],fun e=>Sum.inr.inj e⟩]
   exact h
noncomputable def ug (ks:List IK):Nat:=(ks.map kC).sum + 1
theorem yk {ks:List IK} {a:Addr} {Q:Int->Shared->Prop} (hu:A.units + 1 < cLine) (hk:gF prog w s.heap ks a) (h:Q (tf ks) { s with toks:=s.toks + ug ks }):
  wpAny (model prog w) A (pyHash (.ref a)) Q E s:=by
 have hT:=hk.typeIs
 obtain ⟨o,items,n,ho,_,hd,hi⟩:=hk
 have hu0:A.units < cLine:=by omega
 unfold pyHash
 first | unfold pyHashByItsType | skip
 first | refine wpAny_bind (wpAny_cRoomFor_or (.inr hu0) ?_) | skip
 refine wpAny_bind (wpAny_specialOf hT F.slot_tuple_hash.lookup ?_)
 show wpAny _ _ (if (some (Value.builtin "tuple.__hash__") == some Value.none)=true then _ else _) Q E s
 rw [if_neg (by rw [beq_builtin_none]; exact Bool.false_ne_true)]
 refine wpAny_bind (wpAny_specialOf hT F.slot_tuple_hash.lookup ?_)
 show wpAny _ _ (callSpecialIfBoundUnlessNone? (.ref a) "__hash__" _ >>= _) Q E s
 refine wpAny_bind (wpAny_callSpecialIfBoundUnlessNone?_slot hT F.slot_tuple_hash (wpAny_call_entry F.slot_tuple_hash hT F.entry_tuple_hash ?_ (F.args_tuple_hash_1 _)))
 show wpAny _ _ (Builtin.Tuple.tupleItemsOf (.ref a) >>= _) _ _ s
 refine wpAny_bind (wpAny_tupleItemsOf ho hd ?_)
 refine wpAny_bind ?_
 rw [<-Array.forIn_toList]
 refine wpAny_forIn_list _
  (fun dh (b:Array Int) s'=>∃ done left,ks=done++left/\Paired (dg prog w s.heap) left dh/\b.toList=done.map jS/\s'={ s with toks:=s.toks + (done.map kC).sum })
  _ ?_ ?_ _ _ ⟨[],ks,rfl,hi,rfl,rfl⟩
 ·rintro x dh b s' ⟨done,left,rfl,hl,hb,rfl⟩
  cases hl with
  | @cons k _ ks' _ h1 hl'=>
   refine wpAny_bind (yj (k:=k) hu h1 ?_)
   have e:(done.map kC).sum + kC k=((done++[k]).map kC).sum:=by simp
   first
    | exact wpAny_pure ⟨done++[k],ks',by simp,hl',by simp [hb],by rw [<-e]; simp [Nat.add_assoc]⟩
    | exact wpAny_bind (wpAny_pure (wpAny_pure ⟨done++[k],ks',by simp,hl',by simp [hb],by rw [<-e]; simp [Nat.add_assoc]⟩))
 ·rintro b s' ⟨done,left,rfl,hl,hb,rfl⟩
  cases hl
  rw [List.append_nil] at h
  show wpAny _ _ (retInt (Builtin.Tuple.tupleHashOf b.toList)) _ _ _
  rw [hb]
  refine wpAny_ret_mkInt ?_
  show wpAny _ _ (if (decide (-(2:Int) ^ 63<=Builtin.Tuple.tupleHashOf (done.map jS)) && decide (Builtin.Tuple.tupleHashOf (done.map jS) < 2 ^ 63))=true then _ else _) Q E _
  unfold tf reduceHash ug at h
  by_cases hr:(decide (-(2:Int) ^ 63<=Builtin.Tuple.tupleHashOf (done.map jS)) && decide (Builtin.Tuple.tupleHashOf (done.map jS) < 2 ^ 63))=true
  ·rw [if_pos hr]
   rw [if_pos hr] at h
   exact wpAny_pure (by simpa [Nat.add_assoc] using h)
  ·rw [if_neg hr]
   rw [if_neg hr] at h
   exact wpAny_bind (wpAny_rule (wpAny_pure (by simpa [Nat.add_assoc] using h)))
theorem wV {x y:List IK} {a b:Addr} {P:Fin->Shared->Prop} (hu:A.units < cLine) (hx:gF prog w s.heap x a) (hy:gF prog w s.heap y b) (h:P (.done (.ret (.bool (decide (x=y))))) s):
  wpAny (model prog w) A (Builtin.«tuple.__eq__» ⟨[.ref a,.ref b],[]⟩) P E s:=by
 have hTb:=hy.typeIs
 obtain ⟨oa,xs,na,hoa,_,hda,hia⟩:=hx
 obtain ⟨ob,ys,nb,hob,_,hdb,hib⟩:=hy
 show wpAny _ _ (isInstance (.ref b) (.type "tuple") >>= _) _ _ s
 refine wpAny_bind (wpAny_isInstance hTb isSubtype_tuple_tuple ?_)
 simp only [Bool.not_true,Bool.false_eq_true,if_false]
 refine wpAny_bind (wpAny_tupleItemsOf hoa hda ?_)
 refine wpAny_bind (wpAny_tupleItemsOf hob hdb ?_)
 refine wpAny_bind ?_
 refine wpAny_forIn_list _
  (fun dh r s'=>r.1=none/\s'=s/\∃ x' y' xs' ys',dh=List.zip xs' ys'/\Paired (dg prog w s.heap) x' xs'/\Paired (dg prog w s.heap) y' ys'/\decide (x'=y')=decide (x=y)/\(xs'.length == ys'.length)=(xs.size == ys.size))
  _ ?_ ?_ _ _ ⟨rfl,rfl,x,y,xs.toList,ys.toList,rfl,hia,hib,rfl,by simp⟩
 ·rintro ⟨u,v⟩ dh r s' ⟨hr,rfl,x',y',xs',ys',hz,hx',hy',hdec,hlen⟩
  cases hx' with
  | nil=>simp at hz
  | @cons k1 u' x'' xs'' h1 hx''=>
   cases hy' with
   | nil=>simp at hz
   | @cons k2 v' y'' ys'' h2 hy''=>
    simp only [List.zip_cons_cons,List.cons.injEq,Prod.mk.injEq] at hz
    obtain ⟨⟨rfl,rfl⟩,rfl⟩:=hz
    refine wpAny_bind (Bb (x:=k1) (y:=k2) hu h1 h2 ?_)
    by_cases hk:k1=k2
    ·subst hk
     rw [decide_eq_true rfl]
     simp only [Bool.not_true,Bool.false_eq_true,if_false]
     refine wpAny_pure ⟨rfl,rfl,x'',y'',xs'',ys'',rfl,hx'',hy'',?_,by simpa using hlen⟩
     rw [<-hdec]
     by_cases hxy:x''=y''
     ·simp [hxy]
     ·simp [hxy]
    ·rw [decide_eq_false hk]
     simp only [Bool.not_false,if_true]
     have hf:decide (x=y)=false:=by rw [<-hdec]; simp [hk]
     rw [hf] at h
     exact wpAny_bind (wpAny_pure (wpAny_pure (wpAny_pure h)))
 ·rintro ⟨r1,r2⟩ s' ⟨hr,rfl,x',y',xs',ys',hz,hx',hy',hdec,hlen⟩
  simp only at hr
  subst hr
  refine wpAny_pure ?_
  have hfin:(xs.size == ys.size)=decide (x=y):=by
   rw [<-hdec,<-hlen]
   cases hx' with
   | nil=>
    cases hy' with
    | nil=>simp
    | cons _ _=>simp
   | cons _ _=>
    cases hy' with
    | nil=>simp
    | cons _ _=>simp at hz
  show P (.done (.ret (.bool (xs.size == ys.size)))) s'
  rw [hfin]; exact h
theorem yl {x y:List IK} {a b:Addr} {Q:Bool->Shared->Prop} (hu:A.units + 1 < cLine) (hx:gF prog w s.heap x a) (hy:gF prog w s.heap y b) (h:Q (decide (x=y)) s):
  wpAny (model prog w) A (eqBool (.ref a) (.ref b)) Q E s:=by
 unfold eqBool
 try with_reducible refine wpAny_holding ?_
 show wpAny _ _ (if (Value.ref a == Value.ref b)=true then _ else _) Q E s
 by_cases hab:(Value.ref a == Value.ref b)=true
 ·rw [if_pos hab]
  have e:a=b:=by have:=eq_of_beq hab; injection this
  subst e
  obtain rfl:=hx.inj hy
  exact wpAny_bind (wpAny_rule (wpAny_pure (by simpa using h)))
 ·rw [if_neg hab]
  exact wpAny_bind (wpAny_richCompare_same_room (op:=.Eq) hx.typeIs hy.typeIs F.slot_tuple_eq
   (wpAny_call_entry F.slot_tuple_eq hx.typeIs F.entry_tuple_eq (wV hu hx hy ⟨_,rfl,(fun e=>nomatch e),wpAny_truthy_bool h⟩) (F.args_tuple_eq_2 _ _)) (by omega))
theorem vt {n:Nat} {ks:List IA} {a:Addr} {Q:Bool->Shared->Prop} (hk:IsTupleKey (df prog w) s.heap ks a) (h:Q true s):wpAny (model prog w) A (eqIsQuiet (n + 1) (.ref a)) Q E s:=by
 have hT:=hk.typeIs
 obtain ⟨o,items,_,ho,_,hd,hi⟩:=hk
 unfold eqIsQuiet
 refine wpAny_bind (wpAny_specialOf hT F.slot_tuple_eq.lookup ?_)
 show wpAny _ _ (isInstance (.ref a) (.type "tuple") >>= _) _ _ s
 refine wpAny_bind (wpAny_isInstance hT isSubtype_tuple_tuple ?_)
 simp only [Bool.not_true,Bool.false_eq_true,if_false]
 refine wpAny_bind (wpAny_seqItems ho hd ?_)
 refine wpAny_bind ?_
 show wpAny _ _ (forIn items _ _) _ _ s
 rw [<-Array.forIn_toList]
 refine wpAny_forIn_list _ (fun dh r s'=>r.1=none/\s'=s/\∀ v∈dh,carriedByValue v=true) _ ?_ ?_ _ _ ⟨rfl,rfl,hi.byValue⟩
 ·rintro v dh r s' ⟨hr,rfl,hall⟩
  rw [eqIsQuiet_byValue _ (hall v List.mem_cons_self)]
  refine wpAny_bind (wpAny_pure ?_)
  simp only [Bool.not_true,Bool.false_eq_true,if_false]
  exact wpAny_pure ⟨rfl,rfl,fun u hu'=>hall u (List.mem_cons_of_mem _ hu')⟩
 ·rintro ⟨r1,r2⟩ s' ⟨hr,rfl,_⟩
  simp only at hr
  subst hr
  exact wpAny_pure h
theorem zE {ks:List IK} {a:Addr} {Q:Bool->Shared->Prop} (hk:gF prog w s.heap ks a) (h:Q true s):wpAny (model prog w) A (eqIsQuiet 8 (.ref a)) Q E s:=by
 have hT:=hk.typeIs
 obtain ⟨o,items,n,ho,_,hd,hi⟩:=hk
 unfold eqIsQuiet
 refine wpAny_bind (wpAny_specialOf hT F.slot_tuple_eq.lookup ?_)
 show wpAny _ _ (isInstance (.ref a) (.type "tuple") >>= _) _ _ s
 refine wpAny_bind (wpAny_isInstance hT isSubtype_tuple_tuple ?_)
 simp only [Bool.not_true,Bool.false_eq_true,if_false]
 refine wpAny_bind (wpAny_seqItems ho hd ?_)
 refine wpAny_bind ?_
 show wpAny _ _ (forIn items _ _) _ _ s
 rw [<-Array.forIn_toList]
 refine wpAny_forIn_list _ (fun dh r s'=>r.1=none/\s'=s/\∃ ks,Paired (dg prog w s.heap) ks dh) _ ?_ ?_ _ _ ⟨rfl,rfl,ks,hi⟩
 ·rintro v dh r s' ⟨hr,rfl,ks,hall⟩
  cases hall with
  | @cons k _ ks' _ h1 hl=>
   refine wpAny_bind ?_
   have fin:wpAny (model prog w) A (eqIsQuiet 7 v) (fun b s2=>b=true/\s2=s') E s':=by
    cases k with
    | inl a'=>rw [eqIsQuiet_byValue _ ((df prog w).byValue _ _ h1)]; exact wpAny_pure ⟨rfl,rfl⟩
    | inr as=>obtain ⟨b,rfl,q⟩:=h1; exact vt (n:=6) q ⟨rfl,rfl⟩
   refine wpAny_mono fin (fun b s2 ⟨e1,e2⟩=>?_) fun _ _ x=>x
   subst e1 e2
   simp only [Bool.not_true,Bool.false_eq_true,if_false]
   exact wpAny_pure ⟨rfl,rfl,ks',hl⟩
 ·rintro ⟨r1,r2⟩ s' ⟨hr,rfl,_⟩
  simp only at hr
  subst hr
  exact wpAny_pure h
end
noncomputable def kD (prog:Program) (w:World):HeapKind prog w (List IK) where
 is:=gF prog w
 hash:=tf
 draws:=ug
 room:=fun A=>A.units + 1 < cLine
 inj:=fun hx hy=>hx.inj hy
 keeps:=fun x ho hd hs=>x.keeps ho hd hs
 pyHash:=fun hu hk h=>yk hu hk h
 eqBool:=fun hu hx hy h=>yl hu hx hy h
 quiet:=fun hk h=>zE hk h
noncomputable def DA (a:Addr) (kvs:List (IA×V)) (h:Heap):Prop:=kvs.length<=sizeLine/\(a == sysModules)=false/\∃ (P:Program) (w:World) (vs:List (IA×Value)),KV kvs vs/\h.DictOf (df P w) a vs
noncomputable def ZX:List (List IK×Addr×V)->List (List IK×Addr×Value)->Prop:=Paired fun z x=>z.1=x.1/\z.2.1=x.2.1/\aM z.2.2 x.2.2
noncomputable def DB (a:Addr) (zs:List (List IK×Addr×V)) (h:Heap):Prop:=zs.length<=sizeLine/\(a == sysModules)=false/\∃ xs:List (List IK×Addr×Value),ZX zs xs/\
 ∃ o es ep,h.get? a=some o/\o.ExactDict/\o.data=.dict es ep/\es.toList=xs.map (fun x=>⟨tf x.1,.ref x.2.1,x.2.2⟩)/\(xs.map (·.1)).Nodup
noncomputable def dA (a:Addr) (kvs:List (IA×V)):HO:=.ext (DA a kvs)
noncomputable def dB (a:Addr) (zs:List (List IK×Addr×V)):HO:=.ext (DB a zs)
noncomputable def atZ (zs:List (List IK×Addr×V)) (k:List IK):Option V:=(zs.find? fun p=>decide (p.1=k)).map (·.2.2)
noncomputable def Dx (H:Hp) (a:Addr) (s:Bool) (f:MK->Option V) (n:Nat):Prop:=
 (s=false/\∃ kvs,H a=some (dA a kvs)/\(∀ k,fS kvs k=f (.inl k))/\kvs.length<=n)\/
 (s=true/\∃ zs,H a=some (dB a zs)/\(∀ z∈zs,cL H (.ref z.2.1) (.inr z.1))/\(∀ k,atZ zs k=f (.inr k))/\zs.length<=n)
section
variable {H H':Hp} {a b:Addr} {s:Bool} {f g:MK->Option V} {n m:Nat}
theorem Dx.ext (h:Dx H a s f n):∃ φ,H a=some (.ext φ):=by
 rcases h with ⟨_,kvs,e,_⟩ | ⟨_,zs,e,_⟩
 ·exact ⟨_,e⟩
 ·exact ⟨_,e⟩
theorem Dx.keep (h:Dx H a s f n) (e:H' a=H a) (kp:eY H H'):Dx H' a s f n:=by
 rcases h with ⟨hs,kvs,h1,h2⟩ | ⟨hs,zs,h1,h2,h3⟩
 ·exact .inl ⟨hs,kvs,e.trans h1,h2⟩
 ·exact .inr ⟨hs,zs,e.trans h1,fun z hz=>(h2 z hz).keep kp,h3⟩
theorem Dx.same (h:Dx H a s f n) (q:ak H H'):Dx H' a s f n:=by
 obtain ⟨φ,h1⟩:=h.ext
 exact h.keep ((q _ _ h1).trans h1.symm) q.keep
theorem Dx.ne_lst {xs:List V} (h:Dx H a s f n) (e:H b=some (.lst xs)):b≠a:=by
 obtain ⟨φ,h1⟩:=h.ext
 exact sV e h1 (fun z=>nomatch z)
theorem Dx.ne_tup {xs:List V} (h:Dx H a s f n) (e:H b=some (.tup xs)):b≠a:=by
 obtain ⟨φ,h1⟩:=h.ext
 exact sV e h1 (fun z=>nomatch z)
theorem Dx.le (h:Dx H a s f n) (e:n<=m):Dx H a s f m:=by
 rcases h with ⟨hs,kvs,h1,h2,h3⟩ | ⟨hs,zs,h1,h2,h3,h4⟩
 ·exact .inl ⟨hs,kvs,h1,h2,Nat.le_trans h3 e⟩
 ·exact .inr ⟨hs,zs,h1,h2,h3,Nat.le_trans h4 e⟩
theorem Dx.congr (h:Dx H a s f n) (e:∀ k,f k=g k):Dx H a s g n:=by
 rcases h with ⟨hs,kvs,h1,h2,h3⟩ | ⟨hs,zs,h1,h2,h3,h4⟩
 ·exact .inl ⟨hs,kvs,h1,fun k=>(h2 k).trans (e _),h3⟩
 ·exact .inr ⟨hs,zs,h1,h2,fun k=>(h3 k).trans (e _),h4⟩
end
end L2
end
section
namespace L2
open PySem PyProof.Rows
theorem Dx.off {H H':Hp} {a l:Addr} {s:Bool} {f:MK->Option V} {n:Nat} {xs:List V} (h:Dx H a s f n) (e:H l=some (.lst xs)) (o:Off l H H'):Dx H' a s f n:=
 h.keep (o a (h.ne_lst e).symm) (o.keep e)
theorem Dx.offK {H H':Hp} {a:Addr} {s:Bool} {f:MK->Option V} {n:Nat} (h:Dx H a s f n) (o:Off a H H'):eY H H':=o.keepD fun xs e=>h.ne_tup e rfl
noncomputable def uh:TE:=fun _ H Q=>∃ s,∀ p H',H p=none->ak H H'->Dx H' p s (fun _=>none) 0->Q (.ref p) H'
theorem Bc {σ:St} {H:Hp} {Q:VK} (s:Bool) (h:∀ p H',H p=none->ak H H'->Dx H' p s (fun _=>none) 0->Q (.ref p) H'):uh σ H Q:=⟨s,h⟩
noncomputable def zF (neg:Bool):R2:=fun y x H Q=>∃ a s f n k,x=.ref a/\Dx H a s f n/\cL H y k/\gn k=s/\Q (.bl (if neg then (f k).isNone else (f k).isSome)) H
noncomputable def wW:R2:=fun x y H Q=>∃ a s f n k v,x=.ref a/\Dx H a s f n/\cL H y k/\gn k=s/\f k=some v/\Q v H
noncomputable def lA (f:MK->Option V) (k:MK) (v:V):MK->Option V:=fun j=>if j=k then some v else f j
noncomputable def wX:tL:=fun o i v H R=>∃ a s f n k,o=.ref a/\Dx H a s f n/\cL H i k/\gn k=s/\n < sizeLine/\∀ H',Off a H H'->Dx H' a s (lA f k v) (n + 1)->R H'
section
variable {σ:St} {H:Hp} {Q:VK} {a:Addr} {s:Bool} {f:MK->Option V} {n:Nat} {k:MK} {y v:V}
theorem zG (d:Dx H a s f n) (hk:cL H y k) (hs:gn k=s) (h:Q (.bl (f k).isNone) H):zF true y (.ref a) H Q:=⟨a,s,f,n,k,rfl,d,hk,hs,h⟩
theorem Cy (d:Dx H a s f n) (hk:cL H y k) (hs:gn k=s) (e:f k=some v) (h:Q v H):wW (.ref a) y H Q:=⟨a,s,f,n,k,v,rfl,d,hk,hs,e,h⟩
theorem Cz {R:Hp->Prop} (d:Dx H a s f n) (hk:cL H y k) (hs:gn k=s) (hn:n < sizeLine) (h:∀ H',Off a H H'->Dx H' a s (lA f k v) (n + 1)->R H'):wX (.ref a) y v H R:=⟨a,s,f,n,k,rfl,d,hk,hs,hn,h⟩
end
section
variable {α:Type} [DecidableEq α] {ks:List α} {i:Nat} {k:α}
noncomputable def fZ (ks:List α) (i:Nat):α->Option V:=fun k=>if k∈ks.take i then some (.int (ks.idxOf k:Nat)) else none
theorem wY (hk:ks[i]?=some k) (h:k∈ks.take i) (j:α):fZ ks i j=fZ ks (i + 1) j:=by
 unfold fZ
 rw [eK hk]
 by_cases q:j∈ks.take i
 ·rw [if_pos q,if_pos (List.mem_append_left _ q)]
 ·rw [if_neg q,if_neg]
  intro z
  rcases List.mem_append.mp z with z | z
  ·exact q z
  ·rw [List.mem_singleton.mp z] at q; exact q h
theorem wZ (hk:ks[i]?=some k) (h:k∉ks.take i) (j:α):(if j=k then some (V.int (i:Nat)) else fZ ks i j)=fZ ks (i + 1) j:=by
 unfold fZ
 rw [eK hk]
 by_cases q:j=k
 ·subst q
  rw [if_pos rfl,if_pos (by simp),rH hk h]
 ·rw [if_neg q]
  by_cases z:j∈ks.take i
  ·rw [if_pos z,if_pos (List.mem_append_left _ z)]
  ·rw [if_neg z,if_neg]
   intro w
   rcases List.mem_append.mp w with w | w
   ·exact z w
   ·exact q (List.mem_singleton.mp w)
theorem rK (h:k∈ks.take i):fZ ks i k=some (.int (ks.idxOf k:Nat)):=if_pos h
theorem vv (h:k∉ks.take i):fZ ks i k=none:=if_neg h
theorem vx (hk:ks[i]?=some k):k∈ks.take (i + 1):=by rw [eK hk]; simp
theorem vz (k:α):none=fZ ks 0 k:=(if_neg (by simp)).symm
theorem ui (hk:ks[i]?=some k):(cW ks).take (i + 1)=(cW ks).take i++[ks.idxOf k]:=eK (by unfold cW; rw [List.getElem?_map,hk]; rfl)
end
end L2
end
section
namespace KM
noncomputable def aQ:Nat->Nat
 | 0=>1
 | n + 1=>aQ n * (n + 1)
noncomputable def bD:Nat->Nat->Nat
 | _,0=>1
 | 0,_ + 1=>0
 | n + 1,k + 1=>bD n k + bD n (k + 1)
theorem ga:∀ n,0 < aQ n
 | 0=>by decide
 | n + 1=>Nat.mul_pos (ga n) (Nat.succ_pos n)
theorem i0 (n:Nat):bD n 0=1:=by cases n <;> rfl
theorem j9:∀ (n k:Nat),n < k->bD n k=0
 | _,0,h=>absurd h (Nat.not_lt_zero _)
 | 0,_ + 1,_=>rfl
 | n + 1,k + 1,h=>by rw [bD,j9 n k (by omega),j9 n (k + 1) (by omega)]
theorem nR:∀ n,bD n n=1
 | 0=>rfl
 | n + 1=>by rw [bD,nR n,j9 n (n + 1) (by omega)]
theorem gI:∀ (n k:Nat),k<=n->bD n k * (aQ k * aQ (n - k))=aQ n
 | n,0,_=>by rw [i0,aQ,Nat.sub_zero,Nat.one_mul,Nat.one_mul]
 | 0,_ + 1,h=>absurd h (by omega)
 | n + 1,k + 1,h=>by
  rw [bD,Nat.add_mul]
  by_cases hk:k=n
  ·subst hk
   rw [nR,j9 k (k + 1) (by omega),Nat.sub_self]
   simp [aQ]
  ·have hk':k + 1<=n:=by omega
   have e1:=gI n k (by omega)
   have e2:=gI n (k + 1) hk'
   have s1:n + 1 - (k + 1)=n - k:=by omega
   have s2:n - k=(n - (k + 1)) + 1:=by omega
   rw [s1]
   have a1:bD n k * (aQ (k + 1) * aQ (n - k))=(k + 1) * aQ n:=by
    rw [<-e1,aQ]
    simp only [Nat.mul_assoc,Nat.mul_comm,Nat.mul_left_comm]
   have a2:bD n (k + 1) * (aQ (k + 1) * aQ (n - k))=(n - k) * aQ n:=by
    have s3:aQ (n - k)=aQ (n - (k + 1)) * (n - k):=by
     rw [s2,aQ,<-s2]
    rw [<-e2,s3]
    simp only [Nat.mul_assoc,Nat.mul_comm,Nat.mul_left_comm]
   rw [a1,a2,<-Nat.add_mul,aQ,Nat.mul_comm]
   congr 1
   omega
theorem vA (n k:Nat) (h:k + 1<=n):bD n k * (n - k) / (k + 1)=bD n (k + 1):=by
 have e1:=gI n k (by omega)
 have e2:=gI n (k + 1) h
 have s2:n - k=(n - (k + 1)) + 1:=by omega
 have p:0 < aQ k * aQ (n - (k + 1)):=Nat.mul_pos (ga _) (ga _)
 have q:bD n k * (n - k)=bD n (k + 1) * (k + 1):=by
  have:bD n k * (n - k) * (aQ k * aQ (n - (k + 1)))=bD n (k + 1) * (k + 1) * (aQ k * aQ (n - (k + 1))):=by
   have l:bD n k * (n - k) * (aQ k * aQ (n - (k + 1)))=aQ n:=by
    rw [<-e1,show aQ (n - k)=aQ (n - (k + 1)) * (n - k) by rw [s2,aQ,<-s2]]
    simp only [Nat.mul_assoc,Nat.mul_comm,Nat.mul_left_comm]
   have r:bD n (k + 1) * (k + 1) * (aQ k * aQ (n - (k + 1)))=aQ n:=by
    rw [<-e2,aQ]
    simp only [Nat.mul_assoc,Nat.mul_comm,Nat.mul_left_comm]
   rw [l,r]
  exact Nat.eq_of_mul_eq_mul_right p this
 rw [q,Nat.mul_div_cancel _ (Nat.succ_pos k)]
noncomputable def dC:Nat->List Nat->Nat
 | _,[]=>1
 | n,s :: r=>bD n s * dC (n - s) r
theorem oZ:∀ (ss:List Nat) (n:Nat),ss.sum<=n->dC n ss * ((ss.map aQ).foldr (· * ·) 1 * aQ (n - ss.sum))=aQ n
 | [],n,_=>by simp [dC]
 | s :: r,n,h=>by
  rw [List.sum_cons] at h
  have ih:=oZ r (n - s) (by omega)
  have c:=gI n s (by omega)
  rw [dC,List.map_cons,List.foldr_cons,List.sum_cons,<-c,<-ih,Nat.sub_sub]
  simp only [Nat.mul_assoc,Nat.mul_comm,Nat.mul_left_comm]
end KM
end
section
namespace KM
noncomputable def nq (room:List Nat) (w:List Nat):List Nat:=(List.range room.length).filter fun j=>decide (w.count j < room.getD j 0)
noncomputable def eS (room:List Nat) (ws:List (List Nat)):List (List Nat):=ws.flatMap fun w=>(nq room w).map fun j=>w++[j]
noncomputable def de (room:List Nat):Nat->List (List Nat)
 | 0=>[[]]
 | i + 1=>eS room (de room i)
noncomputable def words:Nat->List Nat->Nat
 | 0,_=>1
 | n + 1,r=>(((List.range r.length).filter fun j=>decide (0 < r.getD j 0)).map fun j=>words n (r.set j (r.getD j 0 - 1))).sum
noncomputable def left (room w:List Nat):List Nat:=(List.range room.length).map fun j=>room.getD j 0 - w.count j
theorem jT (room w:List Nat):(left room w).length=room.length:=by unfold left; rw [List.length_map,List.length_range]
theorem uj (room w:List Nat) (j:Nat) (h:j < room.length):(left room w).getD j 0=room.getD j 0 - w.count j:=by
 unfold left
 rw [List.getD_eq_getElem?_getD,List.getElem?_map,List.getElem?_range h]
 rfl
theorem ym (room w:List Nat) (j:Nat) (h:j < room.length):left room (w++[j])=(left room w).set j ((left room w).getD j 0 - 1):=by
 apply List.ext_getElem?
 intro k
 by_cases hk:k < room.length
 ·have e1:(left room (w++[j]))[k]?=some (room.getD k 0 - (w++[j]).count k):=by
   unfold left
   rw [List.getElem?_map,List.getElem?_range hk]
   rfl
  rw [e1,List.getElem?_set,uj room w j h,jT]
  by_cases hjk:j=k
  ·subst hjk
   rw [if_pos rfl,if_pos h,List.count_append]
   simp
   omega
  ·rw [if_neg hjk]
   unfold left
   rw [List.getElem?_map,List.getElem?_range hk,List.count_append]
   simp [List.count_cons,hjk]
 ·rw [List.getElem?_eq_none (by rw [jT]; omega),List.getElem?_eq_none (by rw [List.length_set,jT]; omega)]
theorem w5 (room w:List Nat):nq room w=(List.range (left room w).length).filter fun j=>decide (0 < (left room w).getD j 0):=by
 unfold nq
 rw [jT]
 apply List.filter_congr
 intro j hj
 rw [List.mem_range] at hj
 rw [uj room w j hj]
 by_cases h:w.count j < room.getD j 0
 ·simp [h]
  omega
 ·simp [h]
  omega
noncomputable def nu (room:List Nat):Nat->List (List Nat)->List (List Nat)
 | 0,ws=>ws
 | n + 1,ws=>nu room n (eS room ws)
theorem kq (room:List Nat):∀ n i,nu room n (de room i)=de room (i + n)
 | 0,i=>rfl
 | n + 1,i=>by
  rw [nu,show eS room (de room i)=de room (i + 1) from rfl,kq room n (i + 1)]
  congr 1
  omega
theorem ka (f:List Nat->Nat) (room:List Nat):∀ ws:List (List Nat),((eS room ws).map f).sum=(ws.map fun w=>((nq room w).map fun j=>f (w++[j])).sum).sum
 | []=>rfl
 | w :: r=>by
  have ih:=ka f room r
  unfold eS at ih ⊢
  rw [List.flatMap_cons,List.map_append,List.sum_append,ih,List.map_cons,List.sum_cons,List.map_map]
  rfl
theorem mI (room:List Nat):∀ (n:Nat) (ws:List (List Nat)),(nu room n ws).length=(ws.map fun w=>words n (left room w)).sum
 | 0,ws=>by
  rw [nu]
  induction ws with
  | nil=>rfl
  | cons w r ih=>rw [List.length_cons,ih,List.map_cons,List.sum_cons,words]; omega
 | n + 1,ws=>by
  rw [nu,mI room n,ka]
  congr 1
  apply List.map_congr_left
  intro w _
  rw [words,w5]
  congr 1
  apply List.map_congr_left
  intro j hj
  have hj':=List.mem_filter.mp hj
  rw [List.mem_range,jT] at hj'
  rw [ym room w j hj'.1]
noncomputable def cQ (r:List Nat):Nat:=(r.map aQ).foldr (· * ·) 1
theorem gr (a:Nat) (r:List Nat):cQ (a :: r)=aQ a * cQ r:=rfl
theorem rL:∀ r,0 < cQ r
 | []=>by decide
 | a :: r=>Nat.mul_pos (ga a) (rL r)
theorem rM:∀ (r:List Nat) (j:Nat),j < r.length->0 < r.getD j 0->cQ r=cQ (r.set j (r.getD j 0 - 1)) * r.getD j 0
 | [],j,h,_=>absurd h (by simp)
 | a :: r,0,_,h=>by
  have h':0 < a:=h
  show cQ (a :: r)=cQ ((a - 1) :: r) * a
  rw [gr,gr]
  obtain ⟨b,rfl⟩:∃ b,a=b + 1:=⟨a - 1,by omega⟩
  rw [show b + 1 - 1=b by omega,aQ]
  simp only [Nat.mul_assoc,Nat.mul_comm,Nat.mul_left_comm]
 | a :: r,j + 1,h,hp=>by
  have ih:=rM r j (by simpa using h) hp
  show cQ (a :: r)=cQ (a :: r.set j (r.getD j 0 - 1)) * r.getD j 0
  rw [gr,gr,ih]
  simp only [Nat.mul_assoc,Nat.mul_comm,Nat.mul_left_comm]
theorem qh:∀ (r:List Nat) (j:Nat),j < r.length->0 < r.getD j 0->(r.set j (r.getD j 0 - 1)).sum + 1=r.sum
 | [],j,h,_=>absurd h (by simp)
 | a :: r,0,_,h=>by
  have h':0 < a:=h
  show ((a - 1) :: r).sum + 1=(a :: r).sum
  rw [List.sum_cons,List.sum_cons]
  omega
 | a :: r,j + 1,h,hp=>by
  have ih:=qh r j (by simpa using h) hp
  show (a :: r.set j (r.getD j 0 - 1)).sum + 1=(a :: r).sum
  rw [List.sum_cons,List.sum_cons]
  omega
theorem qi (c:Nat) (f:Nat->Nat):∀ l:List Nat,(l.map f).sum * c=(l.map fun j=>f j * c).sum
 | []=>by simp
 | a :: r=>by rw [List.map_cons,List.sum_cons,Nat.add_mul,qi c f r,List.map_cons,List.sum_cons]
theorem uk (r:List Nat):(((List.range r.length).filter fun j=>decide (0 < r.getD j 0)).map fun j=>r.getD j 0).sum=r.sum:=by
 have go:∀ (l:List Nat) (g:Nat->Nat),((l.filter fun j=>decide (0 < g j)).map g).sum=(l.map g).sum:=by
  intro l g
  induction l with
  | nil=>rfl
  | cons a t ih=>
   rw [List.filter_cons]
   by_cases h:0 < g a
   ·rw [if_pos (by simpa using h),List.map_cons,List.sum_cons,ih,List.map_cons,List.sum_cons]
   ·rw [if_neg (by simpa using h),ih,List.map_cons,List.sum_cons]
    omega
 rw [go]
 congr 1
 apply List.ext_getElem?
 intro k
 rw [List.getElem?_map]
 by_cases hk:k < r.length
 ·rw [List.getElem?_range hk,List.getElem?_eq_getElem hk]
  show some (r.getD k 0)=some r[k]
  rw [List.getD_eq_getElem?_getD,List.getElem?_eq_getElem hk]
  rfl
 ·rw [List.getElem?_eq_none (by simpa using hk),List.getElem?_eq_none (by simpa using hk)]
  rfl
theorem lB:∀ (n:Nat) (r:List Nat),r.sum=n->words n r * cQ r=aQ n
 | 0,r,h=>by
  have:cQ r=1:=by
   induction r with
   | nil=>rfl
   | cons a t ih=>
    rw [List.sum_cons] at h
    have ha:a=0:=by omega
    subst ha
    rw [gr,ih (by omega)]
    rfl
  rw [words,this]
  rfl
 | n + 1,r,h=>by
  rw [words,qi]
  have e:((List.range r.length).filter fun j=>decide (0 < r.getD j 0)).map (fun j=>words n (r.set j (r.getD j 0 - 1)) * cQ r)=((List.range r.length).filter fun j=>decide (0 < r.getD j 0)).map (fun j=>r.getD j 0 * aQ n):=by
   apply List.map_congr_left
   intro j hj
   have hj':=List.mem_filter.mp hj
   rw [List.mem_range] at hj'
   have hp:0 < r.getD j 0:=of_decide_eq_true hj'.2
   rw [rM r j hj'.1 hp,<-Nat.mul_assoc,lB n _ (by have:=qh r j hj'.1 hp; omega),Nat.mul_comm]
  rw [e,<-qi,uk,h,aQ,Nat.mul_comm]
theorem zH (room:List Nat):left room []=room:=by
 apply List.ext_getElem?
 intro k
 unfold left
 rw [List.getElem?_map]
 by_cases hk:k < room.length
 ·rw [List.getElem?_range hk,List.getElem?_eq_getElem hk]
  show some (room.getD k 0 - ([]:List Nat).count k)=some room[k]
  rw [List.getD_eq_getElem?_getD,List.getElem?_eq_getElem hk]
  simp
 ·rw [List.getElem?_eq_none (by simpa using hk),List.getElem?_eq_none (by simpa using hk)]
  rfl
theorem rN (room:List Nat):(de room room.sum).length * cQ room=aQ room.sum:=by
 have e:=kq room room.sum 0
 rw [Nat.zero_add] at e
 rw [<-e,mI]
 show (List.map (fun w=>words room.sum (left room w)) [[]]).sum * cQ room=aQ room.sum
 rw [List.map_cons,List.map_nil,List.sum_cons,List.sum_nil,zH,Nat.add_zero]
 exact lB _ _ rfl
structure AE (room:List Nat) (i:Nat) (w:List Nat):Prop where
 len:w.length=i
 all:∀ j∈w,j < room.length
 cnt:∀ j,j < room.length->w.count j<=room.getD j 0
theorem i3 (room:List Nat):∀ i,∀ w∈de room i,AE room i w
 | 0,w,h=>by
  have:w=[]:=by simpa [de] using h
  subst this
  exact ⟨rfl,fun _ h=>(nomatch h),fun j _=>by simp⟩
 | i + 1,w,h=>by
  rw [de,eS,List.mem_flatMap] at h
  obtain ⟨v,hv,h⟩:=h
  obtain ⟨j,hj,rfl⟩:=List.mem_map.mp h
  have b:=i3 room i v hv
  have hj':=List.mem_filter.mp hj
  rw [List.mem_range] at hj'
  have hc:v.count j < room.getD j 0:=of_decide_eq_true hj'.2
  refine ⟨by rw [List.length_append,b.len]; rfl,fun k hk=>?_,fun k hk=>?_⟩
  ·rcases List.mem_append.mp hk with hk | hk
   ·exact b.all k hk
   ·rw [List.mem_singleton] at hk
    omega
  ·rw [List.count_append]
   by_cases e:j=k
   ·subst e
    rw [List.count_singleton_self]
    omega
   ·have:=b.cnt k hk
    rw [List.count_singleton,if_neg (by simpa using e)]
    omega
theorem o0:∀ (n:Nat) (w:List Nat),(∀ j∈w,j < n)->((List.range n).map fun j=>w.count j).sum=w.length
 | n,[] , _=>by
  have:((List.range n).map fun j=>([]:List Nat).count j)=(List.range n).map fun _=>0:=by simp
  rw [this]
  have go:∀ m,((List.range m).map fun _=>0).sum=0:=by
   intro m
   induction m with
   | zero=>rfl
   | succ m ih=>rw [List.range_succ,List.map_append,List.sum_append,ih]; rfl
  exact go n
 | n,a :: w,h=>by
  have ih:=o0 n w fun j hj=>h j (List.mem_cons_of_mem _ hj)
  have ha:a < n:=h a List.mem_cons_self
  rw [List.length_cons,<-ih]
  clear ih h
  have go:∀ m,((List.range m).map fun j=>(a :: w).count j).sum=((List.range m).map fun j=>w.count j).sum + (if a < m then 1 else 0):=by
   intro m
   induction m with
   | zero=>simp
   | succ m ih=>
    rw [List.range_succ,List.map_append,List.sum_append,List.map_append,List.sum_append,ih]
    simp only [List.map_cons,List.map_nil,List.sum_cons,List.sum_nil,List.count_cons]
    by_cases e:a=m
    ·subst e
     rw [if_neg (Nat.lt_irrefl a),if_pos (Nat.lt_succ_self a),if_pos (beq_self_eq_true a)]
     omega
    ·rw [if_neg (show ¬ (a == m)=true by simpa using e)]
     by_cases hl:a < m
     ·rw [if_pos hl,if_pos (show a < m + 1 by omega)]
      omega
     ·rw [if_neg hl,if_neg (show ¬ a < m + 1 by omega)]
      omega
  rw [go,if_pos ha]
theorem w6 (room:List Nat):(List.range room.length).map (fun j=>room.getD j 0)=room:=by
 apply List.ext_getElem?
 intro k
 rw [List.getElem?_map]
 by_cases hk:k < room.length
 ·rw [List.getElem?_range hk,List.getElem?_eq_getElem hk]
  show some (room.getD k 0)=some room[k]
  rw [List.getD_eq_getElem?_getD,List.getElem?_eq_getElem hk]
  rfl
 ·rw [List.getElem?_eq_none (by simpa using hk),List.getElem?_eq_none (by simpa using hk)]
  rfl
end KM
end
section
namespace KM
theorem yo (n k:Nat):bD n k<=2 ^ n:=by
 induction n generalizing k with
 | zero=>cases k <;> simp [bD]
 | succ n ih=>
  cases k with
  | zero=>rw [i0]; exact Nat.one_le_two_pow
  | succ k=>
   rw [bD,Nat.pow_succ]
   have:=ih k
   have:=ih (k + 1)
   omega
theorem ul {n i:Nat} (h:i + 1<=n):((bD n i:Nat):Int) * ((n:Int) - (0 + (i:Int))) / (0 + (i:Int) + 1)=((bD n (i + 1):Nat):Int):=by
 have e1:(n:Int) - (0 + (i:Int))=((n - i:Nat):Int):=by omega
 have e2:(0 + (i:Int) + 1)=((i + 1:Nat):Int):=by omega
 rw [e1,e2,<-Int.natCast_mul,<-Int.natCast_ediv,vA n i h]
theorem nS (n:Nat) (ss:List Nat) (h:ss.sum<=n):dC n ss * cQ (ss++[n - ss.sum])=aQ n:=by
 have e:cQ (ss++[n - ss.sum])=(ss.map aQ).foldr (· * ·) 1 * aQ (n - ss.sum):=by
  generalize n - ss.sum=k
  induction ss with
  | nil=>simp [cQ]
  | cons a r ih=>
   have hr:r.sum<=n:=by rw [List.sum_cons] at h; omega
   show aQ a * cQ (r++[k])=aQ a * (r.map aQ).foldr (· * ·) 1 * aQ k
   rw [ih hr,Nat.mul_assoc]
 rw [e]
 exact oZ ss n h
theorem nU {n:Nat} {ss:List Nat} (h:ss.sum<=n):(de (ss++[n - ss.sum]) n).length=dC n ss:=by
 have e1:=nS n ss h
 have hs:(ss++[n - ss.sum]).sum=n:=by
  rw [List.sum_append,List.sum_cons,List.sum_nil]
  omega
 have e2:=rN (ss++[n - ss.sum])
 rw [hs] at e2
 exact Nat.eq_of_mul_eq_mul_right (rL _) (e2.trans e1.symm)
theorem words_pos (n:Nat) (r:List Nat) (h:r.sum=n):0 < words n r:=by
 have e:=lB n r h
 have f:=ga n
 rcases Nat.eq_zero_or_pos (words n r) with z | z
 ·rw [z,Nat.zero_mul] at e
  omega
 ·exact z
theorem zI {room w:List Nat} {i:Nat} (h:AE room i w):(left room w).sum + i=room.sum:=by
 have go:∀ m,m<=room.length->((List.range m).map fun j=>room.getD j 0 - w.count j).sum + ((List.range m).map fun j=>w.count j).sum=((List.range m).map fun j=>room.getD j 0).sum:=by
  intro m
  induction m with
  | zero=>intro _; rfl
  | succ m ih=>
   intro hm
   have:=ih (by omega)
   have:=h.cnt m (by omega)
   simp only [List.range_succ,List.map_append,List.sum_append,List.map_cons,List.map_nil,List.sum_cons,List.sum_nil] at *
   omega
 have e:=go room.length (Nat.le_refl _)
 rw [o0 room.length w h.all,w6,h.len] at e
 exact e
theorem zJ {room:List Nat} {i:Nat} (h:i<=room.sum):(de room i).length<=(de room room.sum).length:=by
 have e:=kq room (room.sum - i) i
 rw [show i + (room.sum - i)=room.sum by omega] at e
 rw [<-e,mI]
 have hb:=i3 room i
 generalize de room i=ws at hb
 induction ws with
 | nil=>exact Nat.zero_le _
 | cons w r ih=>
  rw [List.map_cons,List.sum_cons,List.length_cons]
  have:=ih fun v hv=>hb v (List.mem_cons_of_mem _ hv)
  have:=words_pos (room.sum - i) (left room w) (by have:=zI (hb w List.mem_cons_self); omega)
  omega
theorem CA:∀ (rs:List Nat) (m:Nat),rs.foldl (fun f s=>f / aQ s) (m * cQ rs)=m
 | [],m=>by simp [cQ]
 | a :: r,m=>by
  rw [List.foldl_cons,gr]
  have e:m * (aQ a * cQ r) / aQ a=m * cQ r:=by
   rw [<-Nat.mul_assoc,Nat.mul_comm m,Nat.mul_assoc,Nat.mul_div_cancel_left _ (ga a)]
  rw [e]
  exact CA r m
noncomputable def eZ (room w:List Nat) (k:Nat):List Nat:=(List.range k).filter fun j=>decide (w.count j < room.getD j 0)
theorem nV (room w:List Nat):eZ room w room.length=nq room w:=rfl
theorem um (room w:List Nat) (k:Nat):eZ room w (k + 1)=eZ room w k++(if w.count k < room.getD k 0 then [k] else []):=by
 unfold eZ
 rw [List.range_succ,List.filter_append]
 by_cases h:w.count k < room.getD k 0
 ·rw [if_pos h,List.filter_cons_of_pos (by simpa using h)]
  rfl
 ·rw [if_neg h,List.filter_cons_of_neg (by simpa using h)]
  rfl
theorem yp (room:List Nat) (ws:List (List Nat)) (i:Nat) (w:List Nat) (h:ws[i]?=some w):eS room (ws.take (i + 1))=eS room (ws.take i)++(nq room w).map fun j=>w++[j]:=by
 unfold eS
 rw [List.take_add_one,h,List.flatMap_append]
 simp
theorem uo (room:List Nat) (ws:List (List Nat)) (i:Nat):(eS room (ws.take i)).length<=(eS room ws).length:=by
 have:eS room ws=eS room (ws.take i)++eS room (ws.drop i):=by
  unfold eS
  rw [<-List.flatMap_append,List.take_append_drop]
 rw [this,List.length_append]
 omega
end KM
end
section
namespace L2
open PySem PyProof.Rows
noncomputable def yq:V->Bool
 | .int _=>true
 | _=>false
noncomputable def cX:V->Int->Int->Bool
 | .int i,lo,hi=>decide (lo<=i) && decide (i<=hi)
 | _,_,_=>false
noncomputable def gL (K:PySem.W.Frag) (H:Hp) (x:V):Prop:=∃ t b1 b2,fq K H x t/\PySem.W.kitOne K t (.type "int")=some b1/\PySem.W.kitOne K t (.type "bool")=some b2/\(b1 && !b2)=yq x
theorem gL.int {K:PySem.W.Frag} {H:Hp} (i:Int):gL K H (.int i):=⟨_,_,_,.int i,vm K,tX K,rfl⟩
theorem yr {K:PySem.W.Frag} {H H':Hp} {x:V} {t:Value} (h:fq K H x t) (s:ak H H'):fq K H' x t:=by
 cases h with
 | non=>exact .non
 | bl b=>exact .bl b
 | int i=>exact .int i
 | str x=>exact .str x
 | flt x=>exact .flt x
 | lst e=>exact .lst (s _ _ e)
 | frz e=>exact .frz (s _ _ e)
 | tup e=>exact .tup (s _ _ e)
 | dK e=>exact .dK (s _ _ e)
 | dT e=>exact .dT (s _ _ e)
 | ins e cl ha hn htk hm=>exact .ins (s _ _ e) cl ha hn htk hm
theorem gL.same {K:PySem.W.Frag} {H H':Hp} {x:V} (h:gL K H x) (s:ak H H'):gL K H' x:=by
 obtain ⟨t,b1,b2,ty,r⟩:=h
 exact ⟨t,b1,b2,yr ty s,r⟩
noncomputable def Bd (K:PySem.W.Frag):Sp:=fun vs H Q _=>∃ x,vs=[x]/\gL K H x/\Q (.bl (yq x)) H
noncomputable abbrev fL (K:PySem.W.Frag):Sp:=Bd K
noncomputable def o9 (K:PySem.W.Frag):TS:=(aV (j6 (tCB (oh K) (ac (ab 0) (ac (tC (.ty "int")) ah))) (sW (tCB (oh K) (ac (ab 0) (ac (tC (.ty "bool")) ah))))))
theorem uq {K:PySem.W.Frag} {vs:List V} {H:Hp} {Q:VK} {E:XK} (h:fL K vs H Q E):vs.length=1:=by
 obtain ⟨x,rfl,_⟩:=h
 rfl
theorem vB {K:PySem.W.Frag} {vs:List V} {H:Hp} {Q:VK} {E:XK} (h:fL K vs H Q E):o9 K { nx:=fun _ H'=>Q .non H',rt:=Q } (start ["thing"] vs) H:=by
 obtain ⟨x,rfl,⟨t,b1,b2,ty,k1,k2,e⟩,q⟩:=h
 refine ⟨_,rfl,_,_,_,_,rfl,ty,k1,_,rfl,gH (fun c=>?_) (fun c=>?_)⟩
 ·subst c
  refine ⟨_,rfl,_,_,_,_,rfl,ty,k2,_,rfl,?_⟩
  rw [<-e,Bool.true_and] at q
  exact q
 ·subst c
  rw [<-e,Bool.false_and] at q
  exact q
noncomputable def zK (K:PySem.W.Frag):Sp:=fun vs H Q _=>∃ x lo hi,vs=[x,.int lo,.int hi]/\gL K H x/\Q (.bl (cX x lo hi)) H
noncomputable abbrev du (K:PySem.W.Frag):Sp:=zK K
noncomputable def nW (K:PySem.W.Frag):TS:=(aV (j6 (az (fL K) [] E0 (ac (ab 0) ah)) (tO (rI0 fun i j=>.bl (decide (i<=j))) (rI0 fun i j=>.bl (decide (i<=j))) (ab 1) (ab 0) (ab 2))))
theorem rX {K:PySem.W.Frag} {vs:List V} {H:Hp} {Q:VK} {E:XK} (h:du K vs H Q E):vs.length=3:=by
 obtain ⟨x,lo,hi,rfl,_⟩:=h
 rfl
theorem ur {K:PySem.W.Frag} {vs:List V} {H:Hp} {Q:VK} {E:XK} (h:du K vs H Q E):nW K { nx:=fun _ H'=>Q .non H',rt:=Q } (start ["thing","least","most"] vs) H:=by
 obtain ⟨x,lo,hi,rfl,pl,q⟩:=h
 refine ⟨_,rfl,x,rfl,pl,_,rfl,gH (fun c=>?_) (fun c=>?_)⟩
 ·cases x with
  | int i=>
   refine ⟨_,rfl,_,rfl,_,_,rfl,rfl,_,rfl,gH (fun d=>?_) (fun d=>?_)⟩
   ·refine ⟨_,rfl,_,_,rfl,rfl,?_⟩
    have q':Q (.bl (decide (lo<=i) && decide (i<=hi))) H:=q
    rw [d,Bool.true_and] at q'
    exact q'
   ·have q':Q (.bl (decide (lo<=i) && decide (i<=hi))) H:=q
    rw [d,Bool.false_and] at q'
    exact q'
  | _=>cases c
 ·cases x with
  | int i=>cases c
  | _=>exact q
noncomputable def kr (zs:List V):Int:=(zs.map fun z=>match z with | .int i=>i | _=>0).sum
noncomputable def AF (x:V) (zs:List V):Bool:=match x with
 | .int c=>(decide (0<=c) && decide (c<=12)) && (decide (1<=zs.length) && decide (zs.length<=5)) && zs.all (fun z=>cX z 0 c) && decide (kr zs<=c)
 | _=>false
theorem qj {zs:List V} {lo hi:Int} (h:zs.all (fun z=>cX z lo hi)=true):∃ ns:List Int,zs=ns.map V.int/\kr zs=ns.sum:=by
 induction zs with
 | nil=>exact ⟨[],rfl,rfl⟩
 | cons z r ih=>
  rw [List.all_cons,Bool.and_eq_true] at h
  obtain ⟨ns,e,es⟩:=ih h.2
  cases z with
  | int i=>
   refine ⟨i :: ns,by rw [e]; rfl,?_⟩
   show i + kr r=(i :: ns).sum
   rw [es,List.sum_cons]
  | _=>exact absurd h.1 Bool.false_ne_true
noncomputable def AG (K:PySem.W.Frag) (H:Hp) (y:V) (zs:Option (List V)):Prop:=match zs with
 | some zs=>∃ a,y=.ref a/\(H a=some (.lst zs)\/∃ o,H a=some (.frz o (.lst zs)))/\zs.length<=1000/\∀ z∈zs,gL K H z
 | none=>∃ t,fq K H y t/\PySem.W.kitOne K t (.type "list")=some false
noncomputable def pb (x:V):Option (List V)->Bool
 | some zs=>AF x zs
 | none=>false
noncomputable def CB (K:PySem.W.Frag):Sp:=fun vs H Q _=>∃ x y zs,vs=[x,y]/\gL K H x/\AG K H y zs/\∀ H',ak H H'->Q (.bl (pb x zs)) H'
noncomputable abbrev gu (K:PySem.W.Frag):Sp:=CB K
noncomputable def rO (K:PySem.W.Frag):TS:=(au (cu (jK (tB (az (du K) [] E0 (ac (ab 0) (ac (tC (.int 0)) (ac (tC (.int 12)) ah)))))) (aV (tC (.bl false))) bK)
 (au (cu (tOr (jK (tB (tCB (oh K) (ac (ab 1) (ac (tC (.ty "list")) ah))))) (jK (tB (az (du K) [] E0 (ac (tCB (fR K) (ac (ab 1) ah)) (ac (tC (.int 1)) (ac (tC (.int 5)) ah))))))) (aV (tC (.bl false))) bK)
 (aV (j6 (tCB (DQ K) (ac (cx (cO K (ab 1)) (fun _ _ _ _=>(ai 0)) (fun _ _ _ _=>cB) (fun _ _ _ _=>(az (du K) [] E0 (ac (ab 0) (ac (tC (.int 0)) (ac (ab 1) ah))))) [none,some 0]) ah)) (tOp (rI0 fun i j=>.bl (decide (i<=j))) (tCB (om K) (ac (ab 1) ah)) (ab 0))))))
theorem vC {K:PySem.W.Frag} {vs:List V} {H:Hp} {Q:VK} {E:XK} (h:gu K vs H Q E):vs.length=2:=by
 obtain ⟨x,y,zs,rfl,_⟩:=h
 rfl
theorem w9 {K:PySem.W.Frag} {vs:List V} {H:Hp} {Q:VK} {E:XK} (h:gu K vs H Q E):rO K { nx:=fun _ H'=>Q .non H',rt:=Q } (start ["cards","sizes"] vs) H:=by
 obtain ⟨x,y,zs,rfl,px,hz,q⟩:=h
 refine ⟨_,rfl,x,0,12,rfl,px,_,rfl,gH (fun c=>?_) (fun c=>?_)⟩
 ·
  have e:pb x zs=false:=by
   have c':cX x 0 12=false:=by simpa using c
   cases zs with
   | none=>rfl
   | some zs=>
    cases x with
    | int i=>
     show ((decide (0<=i) && decide (i<=12)) && (decide (1<=zs.length) && decide (zs.length<=5)) && zs.all (fun z=>cX z 0 i) && decide (kr zs<=i))=false
     rw [show (decide (0<=i) && decide (i<=12))=false from c']
     rfl
    | _=>rfl
  have:=q H (ak.refl H)
  rw [e] at this
  exact this
 ·have c':cX x 0 12=true:=by simpa using c
  cases x with
  | int i=>
   cases zs with
   | none=>
    obtain ⟨t,ty,k⟩:=hz
    refine ⟨_,rfl,_,_,_,_,rfl,ty,k,_,rfl,jo (jo ?_)⟩
    exact q H (ak.refl H)
   | some zs=>
    obtain ⟨a,rfl,ha,hlen,hp⟩:=hz
    have hS:SqL K H a zs:=ha.elim (fun h=>.inl (.inl h)) (fun h=>.inl (.inr h))
    have ty:fq K H (.ref a) (.type "list"):=ha.elim (fun h=>.lst h) (fun ⟨o,h⟩=>.frz h)
    refine ⟨_,rfl,_,_,_,_,rfl,ty,vn K,_,rfl,fY ?_⟩
    refine ⟨_,rfl,a,_,rfl,.inl hS,_,1,5,rfl,gL.int _,_,rfl,gH (fun d=>?_) (fun d=>?_)⟩
    ·have e:pb (.int i) (some zs)=false:=by
      have d0:cX (.int (zs.length:Int)) 1 5=false:=by simpa using d
      have d':(decide ((1:Int)<=(zs.length:Int)) && decide ((zs.length:Int)<=5))=false:=d0
      show ((decide (0<=i) && decide (i<=12)) && (decide (1<=zs.length) && decide (zs.length<=5)) && zs.all (fun z=>cX z 0 i) && decide (kr zs<=i))=false
      have e1:decide (1<=zs.length)=decide ((1:Int)<=(zs.length:Int)):=decide_eq_decide.mpr (by omega)
      have e2:decide (zs.length<=5)=decide ((zs.length:Int)<=5):=decide_eq_decide.mpr (by omega)
      rw [e1,e2,d',Bool.and_false]
      rfl
     have:=q H (ak.refl H)
     rw [e] at this
     exact this
    ·have d0:cX (.int (zs.length:Int)) 1 5=true:=by simpa using d
     have d':(decide ((1:Int)<=(zs.length:Int)) && decide ((zs.length:Int)<=5))=true:=d0
     have e0:pb (.int i) (some zs)=(zs.all (fun z=>cX z 0 i) && decide (kr zs<=i)):=by
      show ((decide (0<=i) && decide (i<=12)) && (decide (1<=zs.length) && decide (zs.length<=5)) && zs.all (fun z=>cX z 0 i) && decide (kr zs<=i))=_
      have e1:decide (1<=zs.length)=decide ((1:Int)<=(zs.length:Int)):=decide_eq_decide.mpr (by omega)
      have e2:decide (zs.length<=5)=decide ((zs.length:Int)<=5):=decide_eq_decide.mpr (by omega)
      rw [e1,e2,d',show (decide (0<=i) && decide (i<=12))=true from c',Bool.true_and,Bool.true_and]
     rw [e0] at q
     refine ⟨_,rfl,a,rfl,⟨_,hS⟩,fun p hp'=>mD (K:=K) (a:=a) (xs:=zs) (fun k acc H2=>acc=((zs.take k).map fun z=>cX z 0 i).map V.bl/\ak H H2/\H2 p=some (.lst acc)) ⟨rfl,aP hp' _,av⟩ ?_ ?_ (small hlen) ?_ ?_⟩
     ·rintro k acc H2 hk ⟨rfl,s2,e2⟩
      exact ⟨e2,by rw [List.length_map,List.length_map,List.length_take]; omega⟩
     ·rintro k acc H2 hk ⟨rfl,s2,e2⟩
      exact s2.seq hS
     ·rintro _ _ _ _ k z acc H2 hzk ⟨rfl,s2,e2⟩
      refine ⟨_,rfl,_,rfl,z,0,i,rfl,(hp z (List.mem_of_getElem? hzk)).same s2,e2,?_,s2.upd hp' _,av⟩
      rw [List.take_add_one,hzk,List.map_append,List.map_append]
      rfl
     ·rintro acc H2 ⟨rfl,s2,e2⟩
      rw [List.take_length] at e2
      refine ⟨p,_,rfl,SqL.of e2,_,rfl,?_⟩
      have ea:(zs.map fun z=>cX z 0 i).all id=zs.all fun z=>cX z 0 i:=by
       rw [List.all_map]
       rfl
      rw [ea]
      refine gH (fun g=>?_) (fun g=>?_)
      ·obtain ⟨ns,en,es⟩:=qj g
       rw [g,Bool.true_and,es] at q
       refine ⟨_,rfl,a,ns,rfl,by rw [<-en]; exact s2.seq hS,_,rfl,_,_,rfl,rfl,?_⟩
       exact q H2 s2
      ·rw [g,Bool.false_and] at q
       exact q H2 s2
  | _=>exact absurd c' Bool.false_ne_true
noncomputable def yt:Sp:=fun vs H Q _=>∃ n k:Nat,vs=[.int n,.int k]/\k<=n/\n<=50/\Q (.int (KM.bD n k:Nat)) H
noncomputable abbrev gv (K:PySem.W.Frag):Sp:=yt
noncomputable def rP (K:PySem.W.Frag):TS:=(au (ay (tC (.int 1)) (ai 2))
 (au (dc (gi (ac (ab 1) ah)) (ai 3) (ay (tOp (rI fW fun i j=>.int (i / j)) (tOp (rI IntMulOk fun i j=>.int (i * j)) (ab 2) (tOp (rI0 fun i j=>.int (i - j)) (ab 0) (ab 3))) (tOp (rI0 fun i j=>.int (i + j)) (ab 3) (tC (.int 1)))) (ai 2)))
 (aV (ab 2))))
theorem vD {K:PySem.W.Frag} {vs:List V} {H:Hp} {Q:VK} {E:XK} (h:gv K vs H Q E):vs.length=2:=by
 obtain ⟨n,k,rfl,_⟩:=h
 rfl
theorem xa {K:PySem.W.Frag} {vs:List V} {H:Hp} {Q:VK} {E:XK} (h:gv K vs H Q E):rP K { nx:=fun _ H'=>Q .non H',rt:=Q } (start ["many","taken","ways","step"] vs) H:=by
 obtain ⟨n,k,rfl,hk,hn,q⟩:=h
 refine ⟨_,rfl,_,rfl,by omega,by omega,mr (lo:=0) (n:=((k:Nat):Int).toNat) (fun i σ H2=>∃ st,σ=[some (.int n),some (.int k),some (.int (KM.bD n i:Nat)),st]/\H2=H) ⟨none,by rw [KM.i0]; rfl,rfl⟩ ?_ ?_⟩
 ·rintro i σ H2 hi ⟨st,rfl,rfl⟩
  have hi':i + 1<=n:=by omega
  refine ⟨_,rfl,_,rfl,_,rfl,_,_,rfl,rfl,_,_,rfl,rfl,.of_right (intBits_le_64 (by omega) (by omega)),_,rfl,_,_,rfl,rfl,_,_,rfl,rfl,⟨by omega,by omega⟩,?_⟩
  dsimp only
  rw [KM.ul hi']
  exact ⟨_,rfl,rfl⟩
 ·rintro σ H2 ⟨st,rfl,rfl⟩
  refine ⟨_,rfl,?_⟩
  rw [show ((k:Nat):Int).toNat=k by omega]
  exact q
structure ut (c:Nat) (ss:List Nat):Prop where
 c12:c<=12
 l1:1<=ss.length
 l5:ss.length<=5
 sum:ss.sum<=c
noncomputable def ap (ss:List Nat):List V:=ss.map fun (s:Nat)=>V.int ((s:Nat):Int)
theorem dP (ss:List Nat):ap ss=(ss.map fun (s:Nat)=>((s:Nat):Int)).map V.int:=by unfold ap; rw [List.map_map]; rfl
theorem aB (ss:List Nat):(ap ss).length=ss.length:=List.length_map _
theorem gY:∀ ss:List Nat,(ss.map fun (s:Nat)=>((s:Nat):Int)).sum=((ss.sum:Nat):Int)
 | []=>rfl
 | a :: r=>by rw [List.map_cons,List.sum_cons,List.sum_cons,gY r]; omega
theorem ie:∀ {ss:List Nat} {s:Nat},s∈ss->s<=ss.sum
 | a :: r,s,h=>by
  rw [List.sum_cons]
  rcases List.mem_cons.mp h with rfl | h
  ·omega
  ·have:=ie h
   omega
theorem zL {c:Nat} {ss:List Nat} (p:ut c ss):AF (.int c) (ap ss)=true:=by
 have h1:=p.c12
 have h2:=p.l1
 have h3:=p.l5
 have h4:=p.sum
 show ((decide ((0:Int)<=(c:Int)) && decide ((c:Int)<=12)) && (decide (1<=(ap ss).length) && decide ((ap ss).length<=5)) && (ap ss).all (fun z=>cX z 0 c) && decide (kr (ap ss)<=c))=true
 have e1:(ap ss).all (fun z=>cX z 0 c)=true:=by
  unfold ap
  rw [List.all_map,List.all_eq_true]
  intro s hs
  have:=ie hs
  show (decide ((0:Int)<=(s:Int)) && decide ((s:Int)<=(c:Int)))=true
  rw [decide_eq_true (by omega),decide_eq_true (by omega)]
  rfl
 have e2:kr (ap ss)=((ss.sum:Nat):Int):=by
  rw [<-gY]
  unfold kr ap
  rw [List.map_map]
  rfl
 rw [e1,e2,aB,decide_eq_true (by omega),decide_eq_true (by omega),decide_eq_true h2,decide_eq_true h3,decide_eq_true (by omega)]
 rfl
theorem zM {K:PySem.W.Frag} {H:Hp} {a:Addr} {ss:List Nat} (h:H a=some (.lst (ap ss))) (hl:ss.length<=1000):AG K H (.ref a) (some (ap ss)):=
 ⟨a,rfl,.inl h,by rw [aB]; exact hl,fun z hz=>by
  obtain ⟨s,_,rfl⟩:=List.mem_map.mp hz
  exact gL.int _⟩
noncomputable def Dq (K:PySem.W.Frag):Sp:=fun vs H Q _=>∃ (c:Nat) (a:Addr) (ss:List Nat),vs=[.int c,.ref a]/\H a=some (.lst (ap ss))/\ut c ss/\∀ H',ak H H'->Q (.int (KM.dC c ss:Nat)) H'
noncomputable abbrev fM (K:PySem.W.Frag):Sp:=Dq K
noncomputable def pc (K:PySem.W.Frag):TS:=(au (cu (jK (tB (az (gu K) [] E0 (ac (ab 0) (ac (ab 1) ah))))) tJ bK)
 (au (ay (tC (.int 1)) (ai 2))
 (au (ay (ab 0) (ai 3))
 (au (dc (cO K (ab 1)) (ai 4) (au (ay (tOp (rI IntMulOk fun i j=>.int (i * j)) (ab 2) (az (gv K) [] E0 (ac (ab 3) (ac (ab 4) ah)))) (ai 2))
 (ay (tOp (rI0 fun i j=>.int (i - j)) (ab 3) (ab 4)) (ai 3))))
 (aV (ab 2))))))
theorem uu {K:PySem.W.Frag} {vs:List V} {H:Hp} {Q:VK} {E:XK} (h:fM K vs H Q E):vs.length=2:=by
 obtain ⟨c,a,ss,rfl,_⟩:=h
 rfl
theorem vE {K:PySem.W.Frag} {vs:List V} {H:Hp} {Q:VK} {E:XK} (h:fM K vs H Q E):pc K { nx:=fun _ H'=>Q .non H',rt:=Q } (start ["cards","sizes","many","left","size"] vs) H:=by
 obtain ⟨c,a,ss,rfl,ha,p,q⟩:=h
 have h12:=p.c12
 have h5:=p.l5
 refine ⟨_,rfl,_,rfl,_,_,some (ap ss),rfl,gL.int _,zM ha (by omega),fun H1 s1=>⟨_,rfl,?_⟩⟩
 rw [show pb (.int c) (some (ap ss))=true from zL p]
 refine fY ?_
 refine ⟨_,rfl,?_⟩
 refine ⟨_,rfl,a,rfl,⟨_,SqL.of (s1 _ _ ha)⟩,n9 (K:=K) (a:=a) (xs:=ap ss) (fun i σ H2=>∃ (m l:Nat) (st:Option V),σ=[some (.int c),some (.ref a),some (.int m),some (.int l),st]/\H2=H1/\m * KM.dC l (ss.drop i)=KM.dC c ss/\(ss.drop i).sum<=l/\l<=12)
  ⟨1,c,none,rfl,rfl,by rw [Nat.one_mul]; rfl,p.sum,h12⟩ (fun i σ H2 _ ⟨_,_,_,_,e,_⟩=>by subst e; exact SqL.of (s1 _ _ ha)) ?_ ?_⟩
 ·rintro i x σ H2 hx ⟨m,l,st,rfl,rfl,hm,hs,hl⟩
  obtain ⟨z,hz,rfl⟩:∃ z:Nat,ss[i]?=some z/\x=.int (z:Int):=by
   unfold ap at hx
   rw [List.getElem?_map] at hx
   cases e:ss[i]? with
   | none=>rw [e] at hx; cases hx
   | some z=>rw [e] at hx; exact ⟨z,rfl,(Option.some.inj hx).symm⟩
  have hd:ss.drop i=z :: ss.drop (i + 1):=by
   obtain ⟨h1,h2⟩:=List.getElem?_eq_some_iff.mp hz
   rw [List.drop_eq_getElem_cons h1,h2]
  rw [hd,List.sum_cons] at hs
  rw [hd,KM.dC] at hm
  have hle:=KM.yo l z
  have h2:(2:Nat) ^ l<=2 ^ 12:=Nat.pow_le_pow_right (by decide) hl
  refine ⟨_,rfl,_,rfl,_,rfl,l,z,rfl,by omega,by omega,_,_,rfl,rfl,.of_right (intBits_le_64 (by omega) (by omega)),?_⟩
  refine ⟨_,rfl,_,rfl,_,_,rfl,rfl,m * KM.bD l z,l - z,some (.int (z:Int)),?_,rfl,by rw [Nat.mul_assoc]; exact hm,by omega,by omega⟩
  have e1:((m:Nat):Int) * ((KM.bD l z:Nat):Int)=((m * KM.bD l z:Nat):Int):=(Int.natCast_mul _ _).symm
  have e2:((l:Nat):Int) - ((z:Nat):Int)=((l - z:Nat):Int):=by omega
  dsimp only
  rw [e1,e2]
  rfl
 ·rintro σ H2 ⟨m,l,st,rfl,rfl,hm,hs,hl⟩
  refine ⟨_,rfl,?_⟩
  rw [aB,List.drop_length,KM.dC,Nat.mul_one] at hm
  rw [hm]
  exact q _ s1
noncomputable def cY (H:Hp) (p:Addr) (ws:List (List Nat)):Prop:=∃ rs:List Addr,H p=some (.lst (rs.map V.ref))/\Paired (fun (a:Addr) (w:List Nat)=>H a=some (.tup (ap w))) rs ws
theorem i4 {H H':Hp} {rs:List Addr} {ws:List (List Nat)} (h:Paired (fun (a:Addr) (w:List Nat)=>H a=some (.tup (ap w))) rs ws) (s:∀ a xs,H a=some (.tup xs)->H' a=some (.tup xs)):Paired (fun (a:Addr) (w:List Nat)=>H' a=some (.tup (ap w))) rs ws:=
 Paired.mapP h fun a w e=>s _ _ e
theorem jB {α β:Type} {F:α->β->Prop}:∀ {l:List α} {m:List β} {i:Nat} {a:α},Paired F l m->l[i]?=some a->∃ b,m[i]?=some b/\F a b
 | _,_,_,_,.nil,h=>by simp at h
 | _,_,0,_,.cons r _,h=>by simp at h; subst h; exact ⟨_,rfl,r⟩
 | _,_,i + 1,a,.cons _ t,h=>by
  obtain ⟨b,h1,h2⟩:=jB (i:=i) (a:=a) t (by simpa using h)
  exact ⟨b,by simpa using h1,h2⟩
theorem lC {α β:Type} {F:α->β->Prop}:∀ {l:List α} {m:List β} {l':List α} {m':List β},Paired F l m->Paired F l' m'->Paired F (l++l') (m++m')
 | _,_,_,_,.nil,h=>h
 | _,_,_,_,.cons r t,h=>.cons r (lC t h)
theorem xb (w:List Nat) (j:Nat):(ap w).countP (fun z=>eqV z (.int (j:Int)))=w.count j:=by
 unfold ap
 rw [List.countP_map,List.count_eq_countP]
 congr 1
 funext k
 show ((k:Int) == (j:Int))=(k == j)
 by_cases h:k=j
 ·subst h; simp
 ·rw [beq_eq_false_iff_ne.mpr h,beq_eq_false_iff_ne.mpr (by omega)]
theorem yu (w:List Nat):(ap w).all cP=true:=by unfold ap; rw [List.all_map]; simp [cP]
noncomputable def CC (K:PySem.W.Frag):Sp:=fun vs H Q _=>∃ (b r:Addr) (ws:List (List Nat)) (room:List Nat),vs=[.ref b,.ref r]/\cY H b ws/\H r=some (.lst (ap room))/\room.length<=6/\(KM.eS room ws).length<=2000/\(∀ w∈ws,w.length<=12)/\
 ∀ (p:Addr) (H':Hp),ak H H'->H p=none->cY H' p (KM.eS room ws)->Q (.ref p) H'
noncomputable abbrev dj (K:PySem.W.Frag):Sp:=CC K
noncomputable def kb (K:PySem.W.Frag):TS:=(au (ay (tP ah) (ai 2))
 (au (dc (cO K (ab 0)) (ai 3) (dc (gK bu K (ac (ab 1) ah)) (eX K 2 (bt (ai 4) (bt (ai 5) eW))) (cu (bn (tOp (rI0 fun i j=>.bl (decide (i < j))) (tBT we (ab 3) (ac (ab 4) ah)) (ab 5))) (gh (tBM K "list" eo (ab 2) (ac (tOp (Az K) (ab 3) (wJ (ac (ab 4) ah))) ah))) bK)))
 (aV (ab 2))))
theorem nI {K:PySem.W.Frag} {vs:List V} {H:Hp} {Q:VK} {E:XK} (h:dj K vs H Q E):vs.length=2:=by
 obtain ⟨b,r,ws,room,rfl,_⟩:=h
 rfl
theorem oq {K:PySem.W.Frag} {vs:List V} {H:Hp} {Q:VK} {E:XK} (h:dj K vs H Q E):kb K { nx:=fun _ H'=>Q .non H',rt:=Q } (start ["begun","room","longer","deal","who","most"] vs) H:=by
 obtain ⟨b,r,ws,room,rfl,⟨rs,hb,hp⟩,hrm,h6,h2000,h12,q⟩:=h
 refine ⟨(by show 0<=sizeLine; decide),fun l hl=>?_⟩
 have sl:ak H (upd H l (.lst [])):=aP hl _
 have hrl:ws.length=rs.length:=hp.length.symm
 refine ⟨_,rfl,b,rfl,⟨_,SqL.of (sl _ _ hb)⟩,n9 (K:=K) (a:=b) (xs:=rs.map V.ref)
  (fun i σ H2=>∃ d wh mo:Option V,σ=[some (.ref b),some (.ref r),some (.ref l),d,wh,mo]/\ak H H2/\cY H2 l (KM.eS room (ws.take i)))
  ⟨none,none,none,rfl,sl,[],by rw [av]; rfl,.nil⟩ (fun i σ H2 _ ⟨_,_,_,_,s2,_⟩=>SqL.of (s2 _ _ hb)) ?_ ?_⟩
 ·rintro i x σ H2 hx ⟨d,wh,mo,rfl,s2,D2⟩
  obtain ⟨a,ea,rfl⟩:∃ a,rs[i]?=some a/\x=.ref a:=by
   rw [List.getElem?_map] at hx
   cases e:rs[i]? with
   | none=>rw [e] at hx; cases hx
   | some a=>rw [e] at hx; exact ⟨a,rfl,(Option.some.inj hx).symm⟩
  obtain ⟨u,hu,ha⟩:=jB hp ea
  have hu12:=h12 u (List.mem_of_getElem? hu)
  have gt:=KM.yp room ws i u hu
  have gle:=KM.uo room ws (i + 1)
  refine ⟨_,rfl,r,_,rfl,SqL.of (s2 _ _ hrm),tY (S:=bu) (K:=K) (a:=r) (xs:=ap room)
   (fun j σ H3=>∃ wh mo:Option V,σ=[some (.ref b),some (.ref r),some (.ref l),some (.ref a),wh,mo]/\ak H H3/\cY H3 l (KM.eS room (ws.take i)++(KM.eZ room u j).map fun k=>u++[k]))
   ⟨wh,mo,rfl,s2,by simpa [KM.eZ] using D2⟩ (fun j σ H3 _ ⟨_,_,_,s3,_⟩=>SqL.of (s3 _ _ hrm)) ?_ ?_⟩
  ·rintro j x T σ H3 hxj ⟨wh',mo',rfl,s3,qs,hq,pq⟩ hT
   obtain ⟨m,hm,rfl⟩:∃ m:Nat,room[j]?=some m/\x=.int (m:Int):=by
    unfold ap at hxj
    rw [List.getElem?_map] at hxj
    cases e:room[j]? with
    | none=>rw [e] at hxj; cases hxj
    | some z=>rw [e] at hxj; exact ⟨z,rfl,(Option.some.inj hxj).symm⟩
   have hmD:room.getD j 0=m:=by rw [List.getD_eq_getElem?_getD,hm]; rfl
   have hjl:j < room.length:=(List.getElem?_eq_some_iff.mp hm).1
   have nT:H T=none:=s3.free hT
   have s4:ak H (upd H3 T (.tup [.int (j:Int),.int (m:Int)])):=s3.upd nT _
   have a4:(upd H3 T (.tup [.int (j:Int),.int (m:Int)])) a=some (.tup (ap u)):=s4 _ _ ha
   have nlT:l≠T:=aJ hq hT
   have q4:(upd H3 T (.tup [.int (j:Int),.int (m:Int)])) l=some (.lst (qs.map V.ref)):=by rw [aF nlT]; exact hq
   have p4:Paired (fun (a:Addr) (w:List Nat)=>(upd H3 T (.tup [.int (j:Int),.int (m:Int)])) a=some (.tup (ap w))) qs (KM.eS room (ws.take i)++(KM.eZ room u j).map fun k=>u++[k]):=
    i4 pq fun a xs e=>by rw [aF (aJ e hT)]; exact e
   have hqlen:qs.length<=2000:=by
    have e1:=pq.length
    rw [List.length_append,List.length_map] at e1
    rw [gt,List.length_append,List.length_map,<-KM.nV] at gle
    have e3:(KM.eZ room u j).length<=(KM.eZ room u room.length).length:=by
     unfold KM.eZ
     have:(List.range j).Sublist (List.range room.length):=List.range_sublist.mpr (by omega)
     exact (this.filter _).length_le
    omega
   have t4:(upd H3 T (.tup [.int (j:Int),.int (m:Int)])) T=some (.tup [.int (j:Int),.int (m:Int)]):=av
   generalize upd H3 T (.tup [.int (j:Int),.int (m:Int)])=H4 at s4 a4 q4 p4 t4
   have ns:=KM.um room u j
   rw [hmD] at ns
   refine ⟨T,_,rfl,SqT.of t4,rfl,_,_,rfl,_,_,rfl,rfl,?_⟩
   refine ⟨_,rfl,⟨a,_,rfl,a4⟩,_,rfl,a,_,_,rfl,rfl,a4,rfl,yu u,_,rfl,_,_,rfl,rfl,_,rfl,?_⟩
   rw [xb]
   refine gH (fun c=>?_) (fun c=>?_)
   ·have c':u.count j < m:=by have:=of_decide_eq_true c; omega
    rw [if_pos c'] at ns
    have fin:∀ (d:Addr) (H5:Hp),ak H4 H5->H5 d=some (.tup (ap (u++[j])))->∃ (l':Addr) (xs:List V) (y:V),V.ref l=.ref l'/\[V.ref d]=[y]/\H5 l'=some (.lst xs)/\xs.length < sizeLine/\
      ∃ wh mo:Option V,([some (.ref b),some (.ref r),some (.ref l),some (.ref a),some (.int (j:Int)),some (.int (m:Int))]:L2.St)=[some (.ref b),some (.ref r),some (.ref l),some (.ref a),wh,mo]/\ak H (upd H5 l' (.lst (xs++[y])))/\
       cY (upd H5 l' (.lst (xs++[y]))) l (KM.eS room (ws.take i)++(KM.eZ room u (j + 1)).map fun k=>u++[k]):=by
     intro d H5 s5 e5
     refine ⟨l,_,_,rfl,rfl,s5 _ _ q4,Nat.lt_of_le_of_lt (by rw [List.length_map]; exact hqlen) (by decide),_,_,rfl,(s4.trans s5).upd hl _,qs++[d],by rw [av,List.map_append]; rfl,?_⟩
     have keep:∀ (c:Addr) (xs:List V),H5 c=some (.tup xs)->upd H5 l (.lst (qs.map V.ref++[V.ref d])) c=some (.tup xs):=fun c xs e=>by
      rw [aF (sV e (s5 _ _ q4) (by intro z; cases z))]
      exact e
     rw [ns,List.map_append,<-List.append_assoc]
     exact lC (i4 (i4 p4 fun c xs e=>s5 _ _ e) keep) (.cons (keep _ _ e5) .nil)
    refine ⟨_,rfl,.inl ⟨rfl,_,SqL.of q4⟩,_,rfl,_,rfl,(by show 1<=sizeLine; decide),fun t ht=>?_⟩
    have st:ak H4 (upd H4 t (.tup [.int (j:Int)])):=aP ht _
    have ej:ap (u++[j])=ap u++[.int (j:Int)]:=by unfold ap; rw [List.map_append]; rfl
    refine ⟨a,t,ap u,[.int (j:Int)],rfl,rfl,SqT.of (st _ _ a4),SqT.of av,small (by rw [aB]; show u.length + 1<=1000; omega),fun e0=>?_,fun _ e0=>(nomatch e0),fun _ _ p hp'=>?_⟩
    ·exact fin t _ st (by rw [av,ej,e0]; rfl)
    ·exact fin p _ (st.trans (aP hp' _)) (by rw [av,ej])
   ·have c':¬ u.count j < m:=by have:=of_decide_eq_false c; omega
    rw [if_neg c',List.append_nil] at ns
    exact ⟨_,_,rfl,s4,qs,q4,by rw [ns]; exact p4⟩
  ·rintro σ H3 ⟨wh',mo',rfl,s3,D3⟩
   rw [aB,KM.nV,<-gt] at D3
   exact ⟨_,_,_,rfl,s3,D3⟩
 ·rintro σ H2 ⟨d,wh,mo,rfl,s2,D2⟩
  refine ⟨_,rfl,?_⟩
  rw [List.length_map,<-hrl,List.take_length] at D2
  exact q l H2 s2 hl D2
noncomputable def Be (K:PySem.W.Frag):Sp:=fun vs H Q _=>∃ (c:Nat) (a:Addr) (ss:List Nat),vs=[.int c,.ref a]/\H a=some (.lst (ap ss))/\ut c ss/\KM.dC c ss<=2000/\
 ∀ (p:Addr) (H':Hp),ak H H'->H p=none->cY H' p (KM.de (ss++[c - ss.sum]) c)->Q (.ref p) H'
theorem dv (ss:List Nat) (c:Nat):ap ss++[.int (c:Int)]=ap (ss++[c]):=by unfold ap; rw [List.map_append]; rfl
noncomputable abbrev fN (K:PySem.W.Frag):Sp:=Be K
noncomputable def pd (K:PySem.W.Frag):TS:=(au (cu (bn (tOp (rI0 fun i j=>.bl (decide (j < i))) (az (fM K) [] E0 (ac (ab 0) (ac (ab 1) ah))) (tC (.int 2000)))) tJ bK)
 (au (ay (tOp BT (ab 1) (tP (ac (tOp (rI0 fun i j=>.int (i - j)) (ab 0) (tCB (om K) (ac (ab 1) ah))) ah))) (ai 2))
 (au (ay (tP (ac (wJ ah) ah)) (ai 3))
 (au (dc (gi (ac (ab 0) ah)) (ai 4) (ay (az (dj K) [] E0 (ac (ab 3) (ac (ab 2) ah))) (ai 3)))
 (aV (ab 3))))))
theorem uv {K:PySem.W.Frag} {vs:List V} {H:Hp} {Q:VK} {E:XK} (h:fN K vs H Q E):vs.length=2:=by
 obtain ⟨c,a,ss,rfl,_⟩:=h
 rfl
theorem vF {K:PySem.W.Frag} {vs:List V} {H:Hp} {Q:VK} {E:XK} (h:fN K vs H Q E):pd K { nx:=fun _ H'=>Q .non H',rt:=Q } (start ["cards","sizes","room","begun","card"] vs) H:=by
 obtain ⟨c,a,ss,rfl,ha,p,hm,q⟩:=h
 have h12:=p.c12
 have h5:=p.l5
 have hsum:=p.sum
 refine ⟨_,rfl,_,rfl,c,a,ss,rfl,ha,p,fun H1 s1=>?_⟩
 refine ⟨_,_,rfl,rfl,_,rfl,gH (fun k=>?_) (fun _=>?_)⟩
 ·have k':(2000:Int) < ((KM.dC c ss:Nat):Int):=of_decide_eq_true k
  omega
 have a1:=s1 _ _ ha
 refine ⟨_,rfl,_,rfl,_,rfl,a,_,rfl,by rw [<-dP]; exact SqL.of a1,_,_,rfl,rfl,(by show 1<=sizeLine; decide),fun l hl=>?_⟩
 have s2:ak H (upd H1 l (.lst [.int ((c:Int) - (ss.map fun (s:Nat)=>((s:Nat):Int)).sum)])):=s1.trans (aP hl _)
 have e2:(upd H1 l (.lst [.int ((c:Int) - (ss.map fun (s:Nat)=>((s:Nat):Int)).sum)])) l=some (.lst [.int ((c:Int) - (ss.map fun (s:Nat)=>((s:Nat):Int)).sum)]):=av
 rw [show (c:Int) - (ss.map fun (s:Nat)=>((s:Nat):Int)).sum=((c - ss.sum:Nat):Int) by rw [gY]; omega] at s2 e2
 dsimp only
 rw [show (c:Int) - (ss.map fun (s:Nat)=>((s:Nat):Int)).sum=((c - ss.sum:Nat):Int) by rw [gY]; omega]
 generalize upd H1 l (.lst [.int ((c - ss.sum:Nat):Int)])=H2 at s2 e2
 refine ⟨a,l,_,_,rfl,rfl,s2 _ _ ha,e2,small (by rw [aB]; show ss.length + 1<=1000; omega),fun rm hrm=>?_⟩
 rw [dv]
 have hRs:(ss++[c - ss.sum]).sum=c:=by rw [List.sum_append,List.sum_cons,List.sum_nil]; omega
 have hRl:(ss++[c - ss.sum]).length<=6:=by rw [List.length_append]; show ss.length + 1<=6; omega
 have hlev:=KM.nU hsum
 have s3:ak H (upd H2 rm (.lst (ap (ss++[c - ss.sum])))):=s2.trans (aP hrm _)
 have e3:(upd H2 rm (.lst (ap (ss++[c - ss.sum])))) rm=some (.lst (ap (ss++[c - ss.sum]))):=av
 generalize ss++[c - ss.sum]=R at *
 generalize upd H2 rm (.lst (ap R))=H3 at s3 e3
 refine ⟨(by show 0<=sizeLine; decide),fun t ht=>⟨(by show 1<=sizeLine; decide),fun b hb=>?_⟩⟩
 have s4:ak H3 (upd (upd H3 t (.tup [])) b (.lst [.ref t])):=(aP ht _).trans (aP hb _)
 have D4:cY (upd (upd H3 t (.tup [])) b (.lst [.ref t])) b (KM.de R 0):=⟨[t],av,.cons (by rw [aF (aJ (av (o:=HO.tup [])) hb)]; exact av) .nil⟩
 have f4:H b=none:=by
  have:H3 b=none:=(aP ht _).free hb
  exact s3.free this
 generalize upd (upd H3 t (.tup [])) b (.lst [.ref t])=H4 at s4 D4
 refine ⟨_,rfl,_,rfl,by omega,by omega,mr (lo:=0) (n:=((c:Nat):Int).toNat) (fun i σ H5=>∃ (b:Addr) (st:Option V),σ=[some (.int c),some (.ref a),some (.ref rm),some (.ref b),st]/\ak H3 H5/\H b=none/\cY H5 b (KM.de R i)) ⟨b,none,rfl,s4,f4,D4⟩ ?_ ?_⟩
 ·rintro i σ H5 hi ⟨b',st,rfl,s5,f5,D5⟩
  have hi':i + 1<=c:=by omega
  refine ⟨_,rfl,_,rfl,b',rm,_,R,rfl,D5,s5 _ _ e3,hRl,?_,fun u hu=>?_,fun p' H6 s6 f6 D6=>?_⟩
  ·have h1:=KM.zJ (room:=R) (i:=i + 1) (by omega)
   rw [hRs,hlev] at h1
   exact Nat.le_trans h1 hm
  ·have:=(KM.i3 R i u hu).len
   omega
  ·exact ⟨p',_,rfl,s5.trans s6,(s3.trans s5).free f6,D6⟩
 ·rintro σ H5 ⟨b',st,rfl,s5,f5,D5⟩
  refine ⟨_,rfl,?_⟩
  rw [show ((c:Nat):Int).toNat=c by omega] at D5
  exact q b' H5 (s3.trans s5) f5 D5
noncomputable def lD (xs:List Int) (w:Int) (i:Nat):List Int:=((List.range i).filter fun j=>decide (xs[j]?=some w)).map fun (j:Nat)=>((j:Nat):Int)
theorem rQ (xs:List Int) (w:Int) (i:Nat):lD xs w (i + 1)=lD xs w i++(if xs[i]?=some w then [(i:Int)] else []):=by
 unfold lD
 rw [List.range_succ,List.filter_append,List.map_append]
 by_cases h:xs[i]?=some w
 ·rw [if_pos h,List.filter_cons_of_pos (by simpa using h)]
  rfl
 ·rw [if_neg h,List.filter_cons_of_neg (by simpa using h)]
  rfl
theorem zN (xs:List Int) (w:Int) (i:Nat):(lD xs w i).length<=i:=by
 unfold lD
 rw [List.length_map]
 have h:=List.length_filter_le (fun j=>decide (xs[j]?=some w)) (List.range i)
 rw [List.length_range] at h
 exact h
noncomputable def Bf (K:PySem.W.Frag):Sp:=fun vs H Q _=>∃ (d:Addr) (xs:List Int) (v:Int),vs=[.ref d,.int v]/\SqT K H d (xs.map V.int)/\xs.length<=1000/\
 ∀ (r:Addr) (H':Hp),ak H H'->H' r=some (.tup ((lD xs v xs.length).map V.int))->Q (.ref r) H'
theorem yv {xs:List Int} {i:Nat} {x:V} (h:(xs.map V.int)[i]?=some x):∃ z,xs[i]?=some z/\x=.int z:=by
 rw [List.getElem?_map] at h
 cases e:xs[i]? with
 | none=>rw [e] at h; cases h
 | some z=>rw [e] at h; exact ⟨z,rfl,(Option.some.inj h).symm⟩
noncomputable abbrev fO (K:PySem.W.Frag):Sp:=Bf K
noncomputable def pe (K:PySem.W.Frag):TS:=(aV (tCB (Cn K) (ac (cx (gK mE K (ac (ab 0) ah)) (fun _ _ _ _=>(eX K 2 (bt (ai 0) (bt (ai 1) eW)))) (fun _ _ _ _=>(bn (tOp rEq (ab 1) (ab 2)))) (fun _ _ _ _=>(ab 0)) [none,none,some 1]) ah)))
theorem uw {K:PySem.W.Frag} {vs:List V} {H:Hp} {Q:VK} {E:XK} (h:fO K vs H Q E):vs.length=2:=by
 obtain ⟨d,xs,v,rfl,_⟩:=h
 rfl
theorem vG {K:PySem.W.Frag} {vs:List V} {H:Hp} {Q:VK} {E:XK} (h:fO K vs H Q E):pe K { nx:=fun _ H'=>Q .non H',rt:=Q } (start ["deal","who"] vs) H:=by
 obtain ⟨d,xs,v,rfl,hd,hlen,q⟩:=h
 have hl:(xs.map V.int).length=xs.length:=List.length_map _
 refine ⟨_,rfl,d,_,rfl,hd,fun p hp=>rF (S:=mE) (K:=K) (a:=d) (xs:=xs.map V.int) (fun i acc H2=>acc=(lD xs v i).map V.int/\ak H H2/\H2 p=some (.lst acc)) ⟨rfl,aP hp _,av⟩ ?_ ?_ ?_ ?_ ?_⟩
 ·rintro i acc H2 hi ⟨rfl,s2,e2⟩
  exact ⟨e2,by rw [List.length_map]; exact zN _ _ _⟩
 ·rintro i acc H2 hi ⟨rfl,s2,e2⟩
  exact s2.tup hd
 ·rw [hl]
  exact small hlen
 ·rintro _ _ _ _ i x T acc H2 hx ⟨rfl,s2,e2⟩ hT
  obtain ⟨z,hz,rfl⟩:=yv hx
  have nTp:p≠T:=aJ e2 hT
  have nT:H T=none:=s2.free hT
  refine ⟨T,_,rfl,SqT.of av,rfl,_,_,rfl,_,_,rfl,rfl,_,rfl,_,rfl,rfl,_,rfl,?_⟩
  have eu:=rQ xs v i
  refine gH (fun c=>?_) (fun c=>?_)
  ·have c':z=v:=by
    have:=of_decide_eq_true c
    injection this
   subst c'
   rw [if_pos hz] at eu
   refine ⟨_,rfl,by rw [aF nTp]; exact e2,?_,(s2.upd nT _).upd hp _,av⟩
   rw [eu,List.map_append]
   rfl
  ·have c':¬ xs[i]?=some v:=by
    rw [hz]
    intro e
    have:=of_decide_eq_false c
    exact this (by rw [Option.some.inj e])
   rw [if_neg c',List.append_nil] at eu
   exact ⟨by rw [eu],s2.upd nT _,by rw [aF nTp]; exact e2⟩
 ·rintro acc H2 ⟨rfl,s2,e2⟩
  rw [hl] at e2
  exact ⟨p,_,rfl,.inl ⟨SqL.of e2,fun t ht=>q t _ (s2.trans (aP ht _)) av⟩⟩
theorem iP {ss:List Nat} {i:Nat} {x:V} (hx:(ap ss)[i]?=some x):∃ z:Nat,ss[i]?=some z/\x=.int (z:Int):=by
 unfold ap at hx
 rw [List.getElem?_map] at hx
 cases e:ss[i]? with
 | none=>rw [e] at hx; cases hx
 | some z=>rw [e] at hx; exact ⟨z,rfl,(Option.some.inj hx).symm⟩
end L2
end
section
namespace L2
open PySem PyProof.Rows
noncomputable abbrev aK (K:PySem.W.Frag):Sp:=BY K
noncomputable def i5 (K:PySem.W.Frag):TS:=(au (cu (bn (tOp (rI0 fun i j=>.bl (decide (i < j))) (ab 1) (tCB (fR K) (ac (ab 0) ah)))) (aV (tOp (bE K) (ab 0) (ab 1))) bK)
 (au (ay (tOp (rI0 fun i j=>.int (i + j)) (tOp (rI IntMulOk fun i j=>.int (i * j)) (ab 1) (tC (.int 7919))) (tC (.int 5))) (ai 2))
 (au (cu (bn (tOp (rI0 fun i j=>.bl (decide (j < i))) (tCB (fR K) (ac (ab 0) ah)) (tC (.int 0)))) (ay (tOp (rI0 fun i j=>.int (i + j)) (tOp (rI IntMulOk fun i j=>.int (i * j)) (tOp (bE K) (ab 0) (tOp (rI (fun _ j=>0 < j) fun i j=>.int (i % j)) (tOp (rI IntMulOk fun i j=>.int (i * j)) (ab 1) (tC (.int 7))) (tCB (fR K) (ac (ab 0) ah)))) (tC (.int 48271))) (tOp (rI IntMulOk fun i j=>.int (i * j)) (ab 1) (tC (.int 7919)))) (ai 2)) bK)
 (au (ay (tOp (rI (fun _ j=>0 < j) fun i j=>.int (i % j)) (tOp (rI IntMulOk fun i j=>.int (i * j)) (ab 2) (ab 2)) (tC (.int 2147483629))) (ai 2))
 (aV (tOp (rI (fun _ j=>0 < j) fun i j=>.int (i % j)) (tOp (rI IntMulOk fun i j=>.int (i * j)) (tOp (rI0 fun i j=>.int (i + j)) (ab 2) (ab 1)) (tOp (rI0 fun i j=>.int (i + j)) (ab 2) (tC (.int 69621)))) (tC (.int 2147483587))))))))
theorem rY {K:PySem.W.Frag} {vs:List V} {H:Hp} {Q:VK} {E:XK} (h:aK K vs H Q E):vs.length=2:=by
 obtain ⟨a,ns,k,rfl,⟨hS,h63,hbits⟩,h0,h1,q⟩:=h
 rfl
theorem ux {K : PySem.W.Frag} {vs : List V} {H : Hp} {Q : VK} {E : XK} (h : aK K vs H Q E) : i5 K { nx := fun _ H' => Q .non H', rt := Q } (start ["_law_script", "_law_k", "_law_number"] vs) H := by
  obtain ⟨a, ns, k, rfl, ⟨hS, h63, hbits⟩, h0, h1, q⟩ := h
  show i5 K _ [some _, some _, none] _
  unfold i5
  have hl : (ns.map V.int).length = ns.length := List.length_map _
  walk_at "rd"
  rw [hl]
  refine cC (fun c => ?_) (fun c => ?_)
  · walk_at "rd"
    refine aZ hS (tZ h0 c) ?_
    have e : cz ns k = ns.getD k.toNat 0 := by unfold cz; rw [if_pos c]
    rw [e] at q
    exact q
  · refine ye ?_
    dsimp only
    refine ft ?_
    walk_at "rs"
    refine nk fun NX hNX => ?_
    have last : ∀ n0 : Int, Builtin.Int.intBits n0 ≤ 1048600 → cz ns k = ((n0 * n0 % 2147483629) + k) * ((n0 * n0 % 2147483629) + 69621) % 2147483587 → NX [some (.ref a), some (.int k), some (.int n0)] H := by
      intro n0 hb e
      refine hNX _ _ ?_
      have z1 : 0 ≤ n0 * n0 % 2147483629 := Int.emod_nonneg _ (by decide)
      have z2 : n0 * n0 % 2147483629 < 2147483629 := Int.emod_lt_of_pos _ (by decide)
      refine ft ?_
      refine lx ?_
      refine oj ?_
      refine oj ?_
      refine ly rfl ?_
      refine ly rfl ?_
      refine r_I (.of_le hb hb (by decide)) ?_
      walk_at "rd"
      rw [e] at q
      exact q
    walk_at "rs"
    rw [hl]
    refine cC (fun d => ?_) (fun d => ?_)
    · have m1 : 0 ≤ k * 7 % (ns.length : Int) := Int.emod_nonneg _ (by omega)
      have m2 : k * 7 % (ns.length : Int) < (ns.length : Int) := Int.emod_lt_of_pos _ d
      walk_at "rs"
      rw [hl]
      refine aZ hS (tZ m1 m2) ?_
      walk_at "rs"
      refine last _ ?_ ?_
      · have b1 := yb hbits (k * 7 % (ns.length : Int)).toNat
        have b2 : Builtin.Int.intBits (48271 : Int) ≤ 16 := by decide
        have b3 : Builtin.Int.intBits k ≤ 20 := intBits_le_iff.mpr (by have : (2 : Nat) ^ 20 = 1048576 := by decide
                                                                       omega)
        have b4 : Builtin.Int.intBits (7919 : Int) ≤ 13 := by decide
        exact Nat.le_trans (intBits_add_le (intBits_mul_le b1 b2) (intBits_mul_le b3 b4)) (by decide)
      · unfold cz
        rw [if_neg c, if_pos d]
    · walk_at "rs"
      refine last _ ?_ ?_
      · have b3 : Builtin.Int.intBits k ≤ 20 := intBits_le_iff.mpr (by have : (2 : Nat) ^ 20 = 1048576 := by decide
                                                                       omega)
        have b4 : Builtin.Int.intBits (7919 : Int) ≤ 13 := by decide
        have b5 : Builtin.Int.intBits (5 : Int) ≤ 3 := by decide
        exact Nat.le_trans (intBits_add_le (intBits_mul_le b3 b4) b5) (by decide)
      · unfold cz
        rw [if_neg c, if_neg d]
noncomputable def cR (_:PySem.W.Frag):Sp:=fun vs H Q _=>∃ n:Nat,vs=[.int n]/\n<=12/\Q (.int (KM.aQ n:Nat)) H
noncomputable def gx (K:PySem.W.Frag):TS:=(au (ay (tC (.int 1)) (ai 1))
 (au (dc (gi (ac (ab 0) ah)) (ai 2) (ay (tOp (rI IntMulOk fun i j=>.int (i * j)) (ab 1) (tOp (rI0 fun i j=>.int (i + j)) (ab 2) (tC (.int 1)))) (ai 1)))
 (aV (ab 1))))
theorem KM.fact_le {n m : Nat} (h : n ≤ m) : KM.aQ n ≤ KM.aQ m := by
  induction m with
  | zero => have : n = 0 := by omega
            subst this; exact Nat.le_refl _
  | succ m ih =>
    by_cases e : n = m + 1
    · subst e; exact Nat.le_refl _
    · have := ih (by omega)
      rw [KM.aQ]
      exact Nat.le_trans this (Nat.le_mul_of_pos_right _ (Nat.succ_pos m))
theorem yw {n:Nat} (h:n<=12):KM.aQ n<=479001600:=Nat.le_trans (KM.fact_le h) (by decide)
theorem ou {K:PySem.W.Frag} {vs:List V} {H:Hp} {Q:VK} {E:XK} (h:cR K vs H Q E):vs.length=1:=by
 obtain ⟨n,rfl,hn,q⟩:=h
 rfl
theorem pf {K:PySem.W.Frag} {vs:List V} {H:Hp} {Q:VK} {E:XK} (h:cR K vs H Q E):gx K { nx:=fun _ H'=>Q .non H',rt:=Q } (start ["_law_many","_law_found","_law_k"] vs) H:=by
 obtain ⟨n,rfl,hn,q⟩:=h
 show gx K _ [some _,none,none] _
 unfold gx
 walk_at "rd"
 refine iN n (by omega) (by omega) (by omega) (fun i σ H2=>∃ st,σ=[some (.int n),some (.int (KM.aQ i:Nat)),st]/\H2=H) ⟨none,rfl,rfl⟩ ?_ ?_
 ·rintro i σ H2 hi ⟨st,rfl,rfl⟩
  have:=yw (n:=i) (by omega)
  walk_at "rd"
  refine ⟨some (.int i),?_,rfl⟩
  rw [KM.aQ,Int.natCast_mul,show ((i:Int) + 1)=((i + 1:Nat):Int) by omega]
 ·rintro σ H2 ⟨st,rfl,rfl⟩
  walk_at "rd"
  exact q
noncomputable def dI (_:PySem.W.Frag):Sp:=fun vs H Q _=>∃ (c:Nat) (a:Addr) (ss:List Nat),vs=[.int c,.ref a]/\H a=some (.lst (ap ss))/\ss.sum<=c/\c<=12/\ss.length<=100/\∀ H',ak H H'->Q (.int (KM.dC c ss:Nat)) H'
noncomputable def ig (K:PySem.W.Frag):TS:=(au (ay (az (cR K) [] E0 (ac (ab 0) ah)) (ai 2))
 (au (dc (cO K (tOp on (ab 1) (dY (ac (tOp (rI0 fun i j=>.int (i - j)) (ab 0) (tCB (om K) (ac (ab 1) ah))) ah)))) (ai 3) (ay (tOp (rI fW fun i j=>.int (i / j)) (ab 2) (az (cR K) [] E0 (ac (ab 3) ah))) (ai 2)))
 (aV (ab 2))))
theorem qk {K:PySem.W.Frag} {vs:List V} {H:Hp} {Q:VK} {E:XK} (h:dI K vs H Q E):vs.length=2:=by
 obtain ⟨c,a,ss,rfl,ha,hs,hc,hl,q⟩:=h
 rfl
theorem rZ {K:PySem.W.Frag} {vs:List V} {H:Hp} {Q:VK} {E:XK} (h:dI K vs H Q E):ig K { nx:=fun _ H'=>Q .non H',rt:=Q } (start ["_law_cards","_law_sizes","_law_found","_law_many"] vs) H:=by
 obtain ⟨c,a,ss,rfl,ha,hs,hc,hl,q⟩:=h
 show ig K _ [some _,some _,none,none] _
 unfold ig
 walk_at "rd"
 refine ⟨c,rfl,hc,?_⟩
 walk_at "rd"
 refine wQ (ns:=ss.map fun (s:Nat)=>((s:Nat):Int)) (SqL.of (by rw [<-dP]; exact ha)) ?_
 walk_at "rd"
 rw [gY,show (c:Int) - ((ss.sum:Nat):Int)=((c - ss.sum:Nat):Int) by omega]
 refine ⟨by simp [sizeLine_eq],fun b H1 hb s1 e1=>oV (s1 _ _ ha) e1 (by rw [aB,sizeLine_eq]; simp; omega) fun p H2 hp s2 e2=>?_⟩
 rw [dv] at e2
 generalize hR:ss++[c - ss.sum]=R at e2
 have hRs:R.sum=c:=by rw [<-hR,List.sum_append,List.sum_cons,List.sum_nil]; omega
 have hpf:KM.dC c ss * KM.cQ R=KM.aQ c:=by rw [<-hR]; exact KM.nS c ss hs
 have hdv:R.foldl (fun f s=>f / KM.aQ s) (KM.aQ c)=KM.dC c ss:=by rw [<-hpf]; exact KM.CA R _
 have s12:=s1.trans s2
 refine iO (ap R) (SqL.of e2) (fun i σ H3=>∃ st,σ=[some (.int c),some (.ref a),some (.int (((R.take i).foldl (fun f s=>f / KM.aQ s) (KM.aQ c):Nat):Int)),st]/\H3=H2) ⟨none,rfl,rfl⟩ (fun i σ H3 _ ⟨_,_,e⟩=>by subst e; exact SqL.of e2) ?_ ?_
 ·rintro i x σ H3 hx ⟨st,rfl,rfl⟩
  obtain ⟨z,hz,rfl⟩:=iP hx
  have hz12:z<=12:=by
   have:=ie (List.mem_of_getElem? hz)
   omega
  walk_at "rd"
  refine ⟨z,rfl,hz12,?_⟩
  have h1:=KM.ga z
  have h2:=yw hz12
  walk_at "rd"
  refine ⟨some (.int z),?_,rfl⟩
  rw [List.take_add_one,hz,List.foldl_append,<-Int.natCast_ediv]
  rfl
 ·rintro σ H3 ⟨st,rfl,rfl⟩
  walk_at "rd"
  rw [aB,List.take_length,hdv]
  exact q _ s12
noncomputable def fb (K:PySem.W.Frag):Sp:=fun vs H Q _=>∃ (a:Addr) (ns:List Int) (at_ most:Int),vs=[.ref a,.int at_,.int most]/\dX K H a ns/\0<=at_/\at_<=1000/\1<=most/\
 ∀ (c:Nat) (ss:List Nat) (p q:Addr) (H':Hp),ak H H'->H p=none->H q=none->H' p=some (.tup [.int c,.ref q])->H' q=some (.lst (ap ss))->ut c ss->((KM.dC c ss:Nat):Int)<=most->Q (.ref p) H'
theorem ph:∀ ss:List Nat,ss.sum<=0->KM.dC 0 ss=1
 | [],_=>rfl
 | a :: r,h=>by
  rw [List.sum_cons] at h
  have ha:a=0:=by omega
  subst ha
  rw [KM.dC,KM.i0,ph r (by omega)]
theorem oy (ss:List Nat) (j m:Nat):(ap ss).set j (.int (m:Int))=ap (ss.set j m):=by
 unfold ap
 rw [List.map_set]
theorem zO {ss:List Nat} {M:Int} (h:M∈ss.map fun (s:Nat)=>((s:Nat):Int)):∃ m:Nat,m∈ss/\M=(m:Int):=by
 obtain ⟨m,hm,e⟩:=List.mem_map.mp h
 exact ⟨m,hm,e.symm⟩
theorem zP {ss:List Nat} {j m:Nat} (h:ss[j]?=some m) (hm:0 < m):(ss.set j (m - 1)).sum + 1=ss.sum:=by
 obtain ⟨h1,h2⟩:=List.getElem?_eq_some_iff.mp h
 have e:ss.getD j 0=m:=by rw [List.getD_eq_getElem?_getD,h]; rfl
 have:=KM.qh ss j h1 (by rw [e]; exact hm)
 rw [e] at this
 exact this
noncomputable def wj (K:PySem.W.Frag):TS:=(au (jN (bn (tOp (rI0 fun i j=>.bl (decide (j < i))) (az (dI K) [] E0 (ac (ab 3) (ac (ab 4) ah))) (ab 2))) (au (cu (bn (tOp (rI0 fun i j=>.bl (decide (j < i))) (tCB (qg K) (ac (ab 4) ah)) (tOp (rI0 fun i j=>.int (i - j)) (ab 3) (tCB (om K) (ac (ab 4) ah))))) (ay (tOp (rI0 fun i j=>.int (i - j)) (tCB (qg K) (ac (ab 4) ah)) (tC (.int 1))) (jM (ab 4) (tBM K "list" ua (ab 4) (ac (tCB (qg K) (ac (ab 4) ah)) ah)) iY)) bK)
 (ay (tOp (rI0 fun i j=>.int (i - j)) (ab 3) (tC (.int 1))) (ai 3))))
 (aV (ci (ac (ab 3) (ac (ab 4) ah)))))
theorem yx {K:PySem.W.Frag} {H0 H:Hp} {Q:VK} {NX:St->Hp->Prop} {x y:V} {most:Int} {c:Nat} {q:Addr} {ss:List Nat} {dh:St} (s0:ak H0 H) (hq0:H0 q=none) (hq:H q=some (.lst (ap ss))) (h1:1<=ss.length) (h5:ss.length<=5) (hs:ss.sum<=c) (hc:c<=12) (hm:1<=most)
  (g:∀ (c:Nat) (ss:List Nat) (p q:Addr) (H':Hp),ak H0 H'->H0 p=none->H0 q=none->H' p=some (.tup [.int c,.ref q])->H' q=some (.lst (ap ss))->ut c ss->((KM.dC c ss:Nat):Int)<=most->Q (.ref p) H'):
  wj K { nx:=NX,rt:=Q } (some x :: some y :: some (.int most) :: some (.int c) :: some (.ref q) :: dh) H:=by
 unfold wj
 refine ft ?_
 refine sZ (fun m σ H2=>∃ (c:Nat) (ss:List Nat),σ=(some x :: some y :: some (.int most) :: some (.int c) :: some (.ref q) :: dh)/\ak H0 H2/\H2 q=some (.lst (ap ss))/\1<=ss.length/\ss.length<=5/\ss.sum<=c/\c<=12/\m=c) c ⟨c,ss,rfl,s0,hq,h1,h5,hs,hc,rfl⟩ ?_
 clear s0 hq h1 h5 hs hc
 rintro m σ H2 ⟨c,ss,rfl,s0,hq,h1,h5,hs,hc,hmc⟩
 have hmc':=hmc.symm
 subst hmc'
 walk_at "rd"
 refine ⟨c,q,ss,rfl,hq,hs,hc,by omega,fun H3 s3=>?_⟩
 have s3':=s0.trans s3
 have hq3:=s3 _ _ hq
 have hS:SqL K H3 q ((ss.map fun (s:Nat)=>((s:Nat):Int)).map V.int):=by rw [<-dP]; exact SqL.of hq3
 walk_at "rd"
 refine cC (fun hgt=>?_) (fun hle=>?_)
 ·have hc1:1<=c:=by
   rcases Nat.eq_zero_or_pos c with z | z
   ·subst z
    rw [ph ss hs] at hgt
    omega
   ·exact z
  refine sY ?_
  walk_at "rd"
  have hne:(ss.map fun (s:Nat)=>((s:Nat):Int))≠[]:=by
   intro z
   have:=congrArg List.length z
   rw [List.length_map] at this
   simp at this
   subst this
   simp at h1
  refine ⟨q,_,rfl,hS,hne,fun M hM hmax=>?_⟩
  obtain ⟨mx,hmx,rfl⟩:=zO hM
  have hle:=ie hmx
  walk_at "rd"
  refine wQ hS ?_
  walk_at "rd"
  rw [gY]
  refine cC (fun hbig=>?_) (fun hsm=>?_)
  ·walk_at "rd"
   refine ⟨q,_,rfl,hS,hne,fun M2 hM2 hmax2=>?_⟩
   obtain rfl:M2=((mx:Nat):Int):=Int.le_antisymm (hmax M2 hM2) (hmax2 _ hM)
   walk_at "rd"
   refine ⟨iZ hq3,?_⟩
   walk_at "rd"
   refine ⟨q,_,rfl,hS,hne,fun M3 hM3 hmax3=>?_⟩
   obtain rfl:M3=((mx:Nat):Int):=Int.le_antisymm (hmax M3 hM3) (hmax3 _ hM)
   obtain ⟨j,hj,hfirst⟩:=ub hM
   have hj':ss[j]?=some mx:=by
    rw [List.getElem?_map] at hj
    cases e:ss[j]? with
    | none=>rw [e] at hj; cases hj
    | some z=>rw [e] at hj; have hzz:((z:Nat):Int)=(mx:Int):=Option.some.inj hj; rw [show z=mx by omega]
   have hjl:j < ss.length:=(List.getElem?_eq_some_iff.mp hj').1
   walk_at "rd"
   refine ⟨q,_,_,j,rfl,rfl,by rw [<-dP]; exact hq3,hj,hfirst,by omega,?_⟩
   walk_at "rd"
   refine jQ hq3 (j:=j) (by unfold ixN; rw [aB,if_pos (by omega),if_pos (by omega)]; simp) ?_
   walk_at "rd"
   have hss:=zP hj' (by omega)
   refine ⟨c - 1,by omega,c - 1,ss.set j (mx - 1),?_,s3'.upd hq0 _,?_,by rw [List.length_set]; exact h1,by rw [List.length_set]; exact h5,by omega,by omega,rfl⟩
   ·rw [show (c:Int) - 1=((c - 1:Nat):Int) by omega]
   ·rw [av,show ((mx:Nat):Int) - 1=((mx - 1:Nat):Int) by omega,oy]
  ·walk_at "rd"
   refine ⟨c - 1,by omega,c - 1,ss,?_,s3',hq3,h1,h5,?_,by omega,rfl⟩
   ·rw [show (c:Int) - 1=((c - 1:Nat):Int) by omega]
   ·by_cases e:ss.sum=c
    ·have z:mx=0:=by omega
     have all0:∀ s∈ss,s=0:=fun s hs'=>by
      have:=hmax _ (List.mem_map_of_mem (f:=fun (s:Nat)=>((s:Nat):Int)) hs')
      have:(s:Int)<=(mx:Int):=this
      omega
     have:ss.sum=0:=by
      clear hmax hM hq hq3 hS hne hgt hsm hmx hle h1 h5 hs e
      induction ss with
      | nil=>rfl
      | cons b r ih=>rw [List.sum_cons,all0 b List.mem_cons_self,ih fun s hs=>all0 s (List.mem_cons_of_mem _ hs)]
     omega
    ·omega
 ·walk_at "rd"
  exact ⟨by simp [sizeLine_eq],fun p H4 hp s4 e4=>g c ss p q H4 (s3'.trans s4) (s3'.free hp) hq0 e4 (s4 _ _ hq3) ⟨hc,h1,h5,hs⟩ (by omega)⟩
end L2
end
section
namespace L2
open PySem PyProof.Rows
noncomputable def eA (_:PySem.W.Frag):Sp:=fun vs H Q _=>∃ (b k:Int),vs=[.int b,.int k]/\0<=b/\b<=1000000000/\0<=k/\k<=100000/\∀ z:Int,0<=z->z<=1000000007->Q (.int z) H
noncomputable def ii (K:PySem.W.Frag):TS:=(au (ay (tOp (rI (fun _ j=>0 < j) fun i j=>.int (i % j)) (tOp (rI IntMulOk fun i j=>.int (i * j)) (tOp (rI0 fun i j=>.int (i + j)) (tOp (rI0 fun i j=>.int (i + j)) (ab 0) (tOp (rI IntMulOk fun i j=>.int (i * j)) (ab 1) (tC (.int 104729)))) (tC (.int 7))) (tC (.int 48271))) (tC (.int 2147483629))) (ai 2))
 (au (ay (tOp (rI (fun _ j=>0 < j) fun i j=>.int (i % j)) (tOp (rI0 fun i j=>.int (i + j)) (tOp (rI IntMulOk fun i j=>.int (i * j)) (ab 2) (ab 2)) (tOp (rI IntMulOk fun i j=>.int (i * j)) (ab 1) (tC (.int 7919)))) (tC (.int 2147483587))) (ai 2))
 (aV (tOp (rI fW fun i j=>.int (i / j)) (tOp (rI (fun _ j=>0 < j) fun i j=>.int (i % j)) (tOp (rI IntMulOk fun i j=>.int (i * j)) (ab 2) (tC (.int 69621))) (tC (.int 1000000007))) (tC (.int 11))))))
theorem ql {K:PySem.W.Frag} {vs:List V} {H:Hp} {Q:VK} {E:XK} (h:eA K vs H Q E):vs.length=2:=by
 obtain ⟨b,k,rfl,b0,b1,k0,k1,q⟩:=h
 rfl
theorem r0 {K:PySem.W.Frag} {vs:List V} {H:Hp} {Q:VK} {E:XK} (h:eA K vs H Q E):ii K { nx:=fun _ H'=>Q .non H',rt:=Q } (start ["_law_base","_law_k","_law_number"] vs) H:=by
 obtain ⟨b,k,rfl,b0,b1,k0,k1,q⟩:=h
 show ii K _ [some _,some _,none] _
 unfold ii
 walk_at "rd"
 exact q _ (by omega) (by omega)
end L2
end
section
namespace L2
open PySem PyProof.Rows
noncomputable def eB (K:PySem.W.Frag):Sp:=fun vs H Q _=>∃ (a:Addr) (xs:List V) (ks:List MK) (s:Bool),vs=[.ref a]/\H a=some (.lst xs)/\Paired (cL H) xs ks/\(∀ k∈ks,gn k=s)/\ks.length<=100000/\
 ∀ p H',H p=none->ak H H'->H' p=some (.lst (ap (cW ks)))->Q (.ref p) H'
noncomputable def ij (K:PySem.W.Frag):TS:=(au (ay uh (ai 1))
 (au (ay (dY ah) (ai 2))
 (au (dc (gK bu K (ac (ab 0) ah)) (eX K 2 (bt (ai 3) (bt (ai 4) eW))) (au (cu (bn (tOp (zF true) (ab 4) (ab 1))) (ay (ab 3) (jM (ab 1) (ab 4) wX)) bK)
 (gh (tBM K "list" eo (ab 2) (ac (tOp wW (ab 1) (ab 4)) ah)))))
 (aV (ab 2)))))
theorem qm {K:PySem.W.Frag} {vs:List V} {H:Hp} {Q:VK} {E:XK} (h:eB K vs H Q E):vs.length=1:=by
 obtain ⟨a,xs,ks,s,rfl,e,hk,hs,hl,q⟩:=h
 rfl
theorem r6 {K:PySem.W.Frag} {vs:List V} {H:Hp} {Q:VK} {E:XK} (h:eB K vs H Q E):ij K { nx:=fun _ H'=>Q .non H',rt:=Q } (start ["_law_signs","_law_first","_law_found","_law_place","_law_sign"] vs) H:=by
 obtain ⟨a,xs,ks,s,rfl,e,hk,hs,hl,q⟩:=h
 show ij K _ [some _,none,none,none,none] _
 unfold ij
 have hlen:xs.length=ks.length:=Paired.length hk
 walk_at "rd"
 refine Bc s fun d H1 hd s1 dx1=>?_
 walk_at "rd"
 refine ⟨by simp [sizeLine_eq],fun f H2 hf s2 e2=>?_⟩
 walk_at "rd"
 refine jE (S:=bu) xs (SqL.of (s2 _ _ (s1 _ _ e))) (fun i σ H3=>∃ (u v:Option V),σ=[some (.ref a),some (.ref d),some (.ref f),u,v]/\ak H H3/\Dx H3 d s (fZ ks i) i/\H3 f=some (.lst (ap ((cW ks).take i)))) ?_ ?_ ?_ ?_
 ·exact ⟨none,none,rfl,s1.trans s2,(dx1.congr vz).same s2,e2⟩
 ·rintro i σ H3 hi ⟨u,v,rfl,s3,dx3,e3⟩
  exact SqL.of (s3 _ _ e)
 ·rintro i x T σ H3 H4 hx ⟨u,v,rfl,s3,dx3,e3⟩ hT s4 eT
  obtain ⟨k,hki,hkv⟩:=fo hk hx
  have hks:=hs k (List.mem_of_getElem? hki)
  have hi:i < ks.length:=(List.getElem?_eq_some_iff.mp hki).1
  refine eJ (SqT.of eT) ?_
  have hkv4:=hkv.keep (s3.trans s4).keep
  have dx4:=dx3.same s4
  have e4:=s4 _ _ e3
  have s34:=s3.trans s4
  have hfd:=dx4.ne_lst e4
  have hdH:H d=none:=hd
  have hfH:H f=none:=s1.free hf
  refine nk fun NX hNX=>?_
  have key:∀ H5,ak H H5->Dx H5 d s (fZ ks (i + 1)) (i + 1)->H5 f=some (.lst (ap ((cW ks).take i)))->cL H5 x k->NX [some (.ref a),some (.ref d),some (.ref f),some (.int (i:Nat)),some x] H5:=by
   intro H5 s5 dx5 e5 hk5
   refine hNX _ _ ?_
   walk_at "rd"
   refine ⟨iZ e5,?_⟩
   walk_at "rd"
   refine Cy dx5 hk5 hks (rK (vx hki)) ?_
   walk_at "rd"
   refine fv e5 (by rw [aB,List.length_take,gq,sizeLine_eq]; omega) fun H6 o6 e6=>?_
   refine ⟨_,_,rfl,s5.off hfH o6,dx5.off e5 o6,?_⟩
   rw [e6,ui hki,dv]
  walk_at "rd"
  refine zG dx4 hkv4 hks ?_
  walk_at "rd"
  by_cases hm:k∈ks.take i
  ·rw [rK hm]
   refine fY ?_
   exact key H4 s34 ((dx4.congr (wY hki hm)).le (Nat.le_succ i)) e4 hkv4
  ·rw [vv hm]
   refine jo ?_
   walk_at "rd"
   refine Cz dx4 hkv4 hks (by rw [sizeLine_eq]; omega) fun H5 o5 dx5=>?_
   have kp:=dx4.offK o5
   exact key H5 (s34.off hdH o5) (dx5.congr (wZ hki hm)) (by rw [o5 _ hfd]; exact e4) (hkv4.keep kp)
 ·rintro σ H3 ⟨u,v,rfl,s3,dx3,e3⟩
  walk_at "rd"
  refine q _ _ (s1.free hf) s3 ?_
  rw [e3,List.take_of_length_le (by rw [gq,hlen]; exact Nat.le_refl _)]
end L2
end
section
namespace L2
open PySem PyProof.Rows
theorem d4 {ss:List Nat} {j z:Nat} (h:ss[j]?=some z):atI (ap ss) (j:Int)=some (.int (z:Int)):=bG (by unfold ap; rw [List.getElem?_map,h]; rfl)
theorem qo {z:Int} {m:Nat} (hm:0 < m):∃ j:Nat,z % (m:Int)=(j:Int)/\j < m:=by
 have m1:=Int.emod_nonneg z (b:=(m:Int)) (by omega)
 have m2:=Int.emod_lt_of_pos z (b:=(m:Int)) (by omega)
 exact ⟨(z % (m:Int)).toNat,by omega,by omega⟩
end L2
end
section
namespace L2
open PySem PyProof.Rows
noncomputable def Dr:V->Bool
 | .non=>true
 | .bl _=>true
 | .int _=>true
 | _=>false
inductive lE (K:PySem.W.Frag) (H:Hp):Nat->V->V->Prop where
 | flat {n:Nat} {x:V} (h:Dr x=true):lE K H n x x
 | lst {n:Nat} {a b:Addr} {xs ys:List V} (e1:SqL K H a xs) (e2:SqL K H b ys) (hl:xs.length=ys.length) (h:∀ (i:Nat) (x y:V),xs[i]?=some x->ys[i]?=some y->lE K H n x y):lE K H (n + 1) (.ref a) (.ref b)
 | tup {n:Nat} {a b:Addr} {xs ys:List V} (e1:SqT K H a xs) (e2:SqT K H b ys) (hl:xs.length=ys.length) (h:∀ (i:Nat) (x y:V),xs[i]?=some x->ys[i]?=some y->lE K H n x y):lE K H (n + 1) (.ref a) (.ref b)
section
variable {K:PySem.W.Frag} {H:Hp} {Q:VK}
theorem AH {a:Addr} {x:V} {xs:List V} {c:Bool} (e:SqL K H a xs) (fx:cP x=true) (fs:xs.all cP=true) (hc:inV x xs=c) (h:Q (.bl c) H):rIn K false x (.ref a) H Q:=⟨a,xs,rfl,.inl e,fx,fs,by rw [<-hc] at h; exact h⟩
theorem uz {a:Addr} {x:V} {xs:List V} {c:Bool} (e:SqL K H a xs) (fx:cP x=true) (fs:xs.all cP=true) (hc:inV x xs=c) (h:Q (.bl (!c)) H):rIn K true x (.ref a) H Q:=⟨a,xs,rfl,.inl e,fx,fs,by rw [<-hc] at h; exact h⟩
noncomputable def xc:R2:=fun x y H Q=>∃ a b,x=.bl a/\y=.bl b/\Q (.bl (a == b)) H
theorem AI {a b:Bool} (h:Q (.bl (a == b)) H):xc (.bl a) (.bl b) H Q:=⟨a,b,rfl,rfl,h⟩
end
section
variable {g:CF TG} {tt:CF TT} {te:CF TE} {σ₀:St} {Q:VK} {H:Hp} {K:PySem.W.Frag}
theorem wl {S:Src} {a:Addr} (xs:List V) (hx:S.Sq K H a xs) (kx:∀ H',ak H H'->S.Sq K H' a xs) (hz:xs.length<=1000000) (R:Nat->List V->Hp->Prop) (h0:∀ H',ak H H'->R 0 [] H')
  (hs:∀ p,H p=none->∀ C s' H' fp,∀ i x T acc H2 H3,xs[i]?=some x->bi H p R i acc H2->H2 T=none->ak H2 H3->H3 T=some (.tup [.int i,x])->H3 p=some (.lst acc)->g C s' H' fp (.ref T) σ₀ H3 fun σ2 H4=>tt C s' H' fp σ2 H4 fun b H5=>if b=true then te C s' H' fp σ2 H5 fun y H6=>H6 p=some (.lst acc)/\bi H p R (i + 1) (acc++[y]) (upd H6 p (.lst (acc++[y]))) else bi H p R (i + 1) acc H5)
  (hd:∀ p acc H2,H p=none->ak H H2->H2 p=some (.lst acc)->R xs.length acc H2->Q (.ref p) H2):
  ∃ a' xs',[V.ref a]=[.ref a']/\S.Sq K H a' xs'/\∀ p,H p=none->∃ W:Nat->Nat->List V->Hp->Prop,(∃ m,W 0 m [] (upd H p (.lst [])))/\∀ C s' H' fp,b8 (Ite S K a') (g C s' H' fp) (tt C s' H' fp) (te C s' H' fp) σ₀ p Q W:=
 ⟨a,xs,rfl,hx,fun p hp=>rF (bi H p R) ⟨aP hp _,av,Nat.le_refl _,h0 _ (aP hp _)⟩ (fun i acc H2 _ c=>⟨c.2.1,c.2.2.1⟩) (fun i acc H2 _ c=>kx _ c.1) (by rw [sizeLine_eq]; omega)
  (fun C s' H' fp i x T acc H2 hi c hT=>hs p hp C s' H' fp i x T acc H2 _ hi c hT (aP hT _) av (by rw [aF (aJ c.2.1 hT)]; exact c.2.1)) fun acc H2 c=>hd p acc H2 hp c.1 c.2.1 c.2.2.2⟩
end
end L2
end
section
namespace L2
open PySem PyProof.Rows
noncomputable def tj (w:List Nat) (h:Int):List Int:=lD (w.map fun (s:Nat)=>((s:Nat):Int)) h w.length
theorem cY.to' {H H':Hp} {p:Addr} {ws:List (List Nat)} (d:cY H p ws) (k:eY H H') (e:∀ rs:List Addr,H p=some (.lst (rs.map V.ref))->H' p=some (.lst (rs.map V.ref))):cY H' p ws:=by
 obtain ⟨rs,h1,h2⟩:=d
 exact ⟨rs,e rs h1,i4 h2 fun a xs e=>k _ _ e⟩
theorem cY.same' {H H':Hp} {p:Addr} {ws:List (List Nat)} (d:cY H p ws) (s:ak H H'):cY H' p ws:=d.to' s.keep fun rs e=>s _ _ e
theorem yy {H:Hp} {xs:List V} {ks:List MK} {x:V} {k:MK} (h:Paired (cL H) xs ks) (q:cL H x k):Paired (cL H) (xs++[x]) (ks++[k]):=by
 induction h with
 | nil=>exact .cons q .nil
 | cons r _ ih=>exact .cons r ih
end L2
end
section
namespace L2
open PySem PyProof.Rows
noncomputable def AJ:List V->Hp->VK->Prop:=fun xs H Q=>∃ n:Nat,xs=[.int (n:Int)]/\n<=1000000/\New H (.rng 0 (n:Int)) fun p H2=>Q (.ref p) H2
noncomputable def tm:List V->Hp->VK->Prop:=fun xs H Q=>∃ (p:Addr) (n:Nat),xs=[.ref p]/\H p=some (.rng 0 (n:Int))/\n<=1000000/\New H (.lst ((List.range n).map fun (i:Nat)=>V.int ((i:Nat):Int))) fun p H2=>Q (.ref p) H2
noncomputable def AK (ta:TA):TE:=tCB tm (ac (tCB AJ ta) ah)
theorem Ds {H:Hp} {Q:VK} {n:Nat} (hn:n<=1000000) (h:New H (.lst ((List.range n).map fun (i:Nat)=>V.int ((i:Nat):Int))) fun p H2=>Q (.ref p) H2):New H (.rng 0 (n:Int)) fun p H2=>tm [.ref p] H2 Q:=
 fun p H' _ s e=>⟨p,n,rfl,e,hn,fun l H2 hl s2 e2=>h l H2 (s.free hl) (s.trans s2) e2⟩
noncomputable def xf (K:PySem.W.Frag) (ta:TA):TE:=fun σ H Q=>ta σ H fun vs H1=>∃ a xs,vs=[.ref a]/\SqL K H1 a xs/\New H1 (.lst xs.reverse) fun p H2=>Q (.ref p) H2
section
variable {σ:St} {H:Hp} {Q:VK} {K:PySem.W.Frag}
theorem CD {ta:TA} (h:ta σ H fun vs H1=>∃ n:Nat,vs=[.int (n:Int)]/\n<=1000000/\New H1 (.rng 0 (n:Int)) fun p H2=>tm [.ref p] H2 Q):AK ta σ H Q:=h
theorem CG {ta:TA} (h:ta σ H fun vs H1=>∃ a xs,vs=[.ref a]/\SqL K H1 a xs/\New H1 (.lst xs.reverse) fun p H2=>Q (.ref p) H2):xf K ta σ H Q:=h
end
end L2
end
section
namespace KF
noncomputable def eM (ps:List Nat):Prop:=∀ x y:Nat,ps[x]?=some y->y<=x
inductive bv (ps:List Nat):Nat->Nat->Prop where
 | stop {x:Nat} (h:ps[x]?=some x):bv ps x x
 | step {x y r:Nat} (h:ps[x]?=some y) (hl:y < x) (t:bv ps y r):bv ps x r
theorem bv.inj {ps:List Nat} {x r r':Nat} (a:bv ps x r) (b:bv ps x r'):r=r':=by
 induction a with
 | stop h=>cases b with
  | stop _=>rfl
  | step h' hl _=>rw [h] at h'; cases h'; omega
 | step h hl _ ih=>cases b with
  | stop h'=>rw [h] at h'; cases h'; omega
  | step h' _ t=>rw [h] at h'; cases h'; exact ih t
theorem eM.root {ps:List Nat} (f:eM ps):∀ x,x < ps.length->∃ r,bv ps x r:=by
 intro x
 induction x using Nat.strongRecOn with
 | ind x ih=>
  intro hx
  have e:=List.getElem?_eq_getElem hx
  have hy:=f x _ e
  rcases Nat.lt_or_eq_of_le hy with h | h
  ·obtain ⟨r,hr⟩:=ih _ h (by omega)
   exact ⟨r,.step e h hr⟩
  ·rw [h] at e
   exact ⟨x,.stop e⟩
theorem bv.le {ps:List Nat} {x r:Nat} (a:bv ps x r):r<=x:=by
 induction a with
 | stop _=>exact Nat.le_refl _
 | step _ hl _ ih=>omega
theorem bv.self {ps:List Nat} {x r:Nat} (a:bv ps x r):ps[r]?=some r:=by
 induction a with
 | stop h=>exact h
 | step _ _ _ ih=>exact ih
theorem bv.lt {ps:List Nat} {x r:Nat} (a:bv ps x r):x < ps.length:=by
 cases a with
 | stop h=>exact (List.getElem?_eq_some_iff.mp h).1
 | step h _ _=>exact (List.getElem?_eq_some_iff.mp h).1
theorem eM.range (n:Nat):eM (List.range n):=fun x y h=>by
 obtain ⟨h1,h2⟩:=List.getElem?_eq_some_iff.mp h
 rw [List.getElem_range] at h2
 omega
theorem bv.range {n x:Nat} (h:x < n):bv (List.range n) x x:=.stop (by rw [List.getElem?_range h])
theorem CI {ps:List Nat} {e g y z:Nat} (h:(ps.set e g)[y]?=some z):(y=e/\z=g)\/(y≠e/\ps[y]?=some z):=by
 rw [List.getElem?_set] at h
 by_cases q:e=y
 ·rw [if_pos q] at h
  split at h
  ·cases h; exact .inl ⟨q.symm,rfl⟩
  ·cases h
 ·rw [if_neg q] at h
  exact .inr ⟨fun z=>q z.symm,h⟩
theorem kE {ps:List Nat} {e g y:Nat} (h:y≠e):(ps.set e g)[y]?=ps[y]?:=by
 rw [List.getElem?_set,if_neg (fun z=>h z.symm)]
theorem jj {ps:List Nat} {e g:Nat} (h:e < ps.length):(ps.set e g)[e]?=some g:=by
 rw [List.getElem?_set,if_pos rfl,if_pos h]
theorem eM.set {ps:List Nat} (f:eM ps) {e g:Nat} (h:g<=e):eM (ps.set e g):=fun x y q=>by
 rcases CI q with ⟨rfl,rfl⟩ | ⟨_,q⟩
 ·exact h
 ·exact f x y q
theorem bv.halve {ps:List Nat} (f:eM ps) {e p g:Nat} (h1:ps[e]?=some p) (h2:ps[p]?=some g) {y r:Nat} (a:bv ps y r):bv (ps.set e g) y r:=by
 have he:e < ps.length:=(List.getElem?_eq_some_iff.mp h1).1
 induction a with
 | @stop x h=>
  by_cases q:x=e
  ·subst q
   rw [h] at h1
   cases h1
   rw [h] at h2
   cases h2
   exact .stop (jj he)
  ·exact .stop (by rw [kE q]; exact h)
 | @step x y r h hl t ih=>
  by_cases q:x=e
  ·subst q
   rw [h] at h1
   cases h1
   have e1:(ps.set x g)[p]?=some g:=by rw [kE (by omega)]; exact h2
   cases ih with
   | stop h'=>
    rw [e1] at h'
    cases h'
    exact .step (jj he) hl (.stop e1)
   | step h' hl' t'=>
    rw [e1] at h'
    cases h'
    exact .step (jj he) (by omega) t'
  ·exact .step (by rw [kE q]; exact h) hl ih
theorem bv.link {ps:List Nat} {M m:Nat} (hM:ps[M]?=some M) (hm:ps[m]?=some m) (hle:m<=M) {y r:Nat} (a:bv ps y r):bv (ps.set M m) y (if r=M then m else r):=by
 have hMl:M < ps.length:=(List.getElem?_eq_some_iff.mp hM).1
 induction a with
 | @stop x h=>
  by_cases q:x=M
  ·subst q
   rw [if_pos rfl]
   rcases Nat.lt_or_eq_of_le hle with l | l
   ·exact .step (jj hMl) l (.stop (by rw [kE (by omega)]; exact hm))
   ·subst l
    exact .stop (jj hMl)
  ·rw [if_neg q]
   exact .stop (by rw [kE q]; exact h)
 | @step x y r h hl t ih=>
  have q:x≠M:=by
   intro q
   subst q
   rw [h] at hM
   cases hM
   omega
  exact .step (by rw [kE q]; exact h) hl ih
inductive dN (P:Nat->Nat->Prop):Nat->Nat->Prop where
 | refl (x:Nat):dN P x x
 | one {x y:Nat} (h:P x y):dN P x y
 | symm {x y:Nat} (h:dN P x y):dN P y x
 | trans {x y z:Nat} (h:dN P x y) (t:dN P y z):dN P x z
theorem dN.mono {P P':Nat->Nat->Prop} (h:∀ x y,P x y->P' x y) {x y:Nat} (c:dN P x y):dN P' x y:=by
 induction c with
 | refl x=>exact .refl x
 | one q=>exact .one (h _ _ q)
 | symm _ ih=>exact .symm ih
 | trans _ _ a b=>exact .trans a b
noncomputable def gM (n:Nat) (vs:List (List Nat)) (x y:Nat):Prop:=∃ v∈vs,x < n/\v[x]?=some y
structure mJ (n:Nat) (P:Nat->Nat->Prop) (r:List Nat):Prop where
 len:r.length=n
 le:∀ i x:Nat,r[i]?=some x->x<=i
 conn:∀ i x:Nat,r[i]?=some x->dN P i x
 same:∀ i j:Nat,i < n->j < n->dN P i j->r[i]?=r[j]?
structure fw (n:Nat) (P:Nat->Nat->Prop) (ps:List Nat):Prop where
 len:ps.length=n
 forest:eM ps
 conn:∀ x r,bv ps x r->dN P x r
 same:∀ x y,P x y->∃ r,bv ps x r/\bv ps y r
theorem fw.join {n:Nat} {P:Nat->Nat->Prop} {ps r:List Nat} (t:fw n P ps) (hl:r.length=n) (hr:∀ i x:Nat,r[i]?=some x->bv ps i x):mJ n P r where
 len:=hl
 le:=fun i x h=>(hr i x h).le
 conn:=fun i x h=>t.conn _ _ (hr i x h)
 same:=by
  have key:∀ i j,dN P i j->∀ x,(bv ps i x↔bv ps j x):=by
   intro i j c
   induction c with
   | refl x=>intro x; exact Iff.rfl
   | one q=>
    intro x
    obtain ⟨r,h1,h2⟩:=t.same _ _ q
    exact ⟨fun a=>by rw [a.inj h1]; exact h2,fun a=>by rw [a.inj h2]; exact h1⟩
   | symm _ ih=>intro x; exact (ih x).symm
   | trans _ _ a b=>intro x; exact (a x).trans (b x)
  intro i j hi hj c
  have e1:=List.getElem?_eq_getElem (l:=r) (i:=i) (by rw [hl]; exact hi)
  have e2:=List.getElem?_eq_getElem (l:=r) (i:=j) (by rw [hl]; exact hj)
  have q1:=(key i j c _).mp (hr _ _ e1)
  rw [e1,e2,q1.inj (hr _ _ e2)]
theorem fw.start (n:Nat):fw n (fun _ _=>False) (List.range n) where
 len:=List.length_range
 forest:=eM.range n
 conn:=fun x r h=>by
  have hx:x < n:=by have:=h.lt; rw [List.length_range] at this; exact this
  rw [h.inj (bv.range hx)]
  exact .refl x
 same:=fun _ _ h=>h.elim
theorem fw.moved {n:Nat} {P:Nat->Nat->Prop} {ps ps':List Nat} (t:fw n P ps) (f:eM ps') (hl:ps'.length=n) (h:∀ y r,bv ps y r->bv ps' y r):fw n P ps' where
 len:=hl
 forest:=f
 conn:=fun x r a=>by
  obtain ⟨r',b⟩:=t.forest.root x (by rw [t.len,<-hl]; exact a.lt)
  rw [a.inj (h _ _ b)]
  exact t.conn _ _ b
 same:=fun x y q=>by
  obtain ⟨r,h1,h2⟩:=t.same x y q
  exact ⟨r,h _ _ h1,h _ _ h2⟩
theorem fw.link {n:Nat} {P P':Nat->Nat->Prop} {ps:List Nat} {a b ra rb M m:Nat} (t:fw n P ps) (ha:bv ps a ra) (hb:bv ps b rb) (hM:(M=ra/\m=rb)\/(M=rb/\m=ra)) (hle:m<=M)
  (h1:∀ x y,P x y->P' x y) (h2:∀ x y,P' x y->P x y\/(x=a/\y=b)) (h3:P' a b):fw n P' (ps.set M m):=by
 have sM:ps[M]?=some M:=by
  rcases hM with ⟨rfl,_⟩ | ⟨rfl,_⟩
  ·exact ha.self
  ·exact hb.self
 have sm:ps[m]?=some m:=by
  rcases hM with ⟨_,rfl⟩ | ⟨_,rfl⟩
  ·exact hb.self
  ·exact ha.self
 have cMm:dN P' M m:=by
  have c1:dN P' a ra:=(t.conn _ _ ha).mono h1
  have c2:dN P' b rb:=(t.conn _ _ hb).mono h1
  rcases hM with ⟨rfl,rfl⟩ | ⟨rfl,rfl⟩
  ·exact .trans (.symm c1) (.trans (.one h3) c2)
  ·exact .trans (.symm c2) (.trans (.symm (.one h3)) c1)
 have rt:∀ {y r:Nat},bv ps y r->bv (ps.set M m) y (if r=M then m else r):=fun q=>bv.link sM sm hle q
 refine ⟨by rw [List.length_set]; exact t.len,t.forest.set hle,fun x r q=>?_,fun x y q=>?_⟩
 ·obtain ⟨r',h⟩:=t.forest.root x (by have:=q.lt; rw [List.length_set] at this; exact this)
  rw [q.inj (rt h)]
  have c:dN P' x r':=(t.conn _ _ h).mono h1
  split
  ·rename_i e
   rw [e] at c
   exact .trans c cMm
  ·exact c
 ·rcases h2 x y q with q | ⟨rfl,rfl⟩
  ·obtain ⟨r,q1,q2⟩:=t.same x y q
   exact ⟨_,rt q1,rt q2⟩
  ·refine ⟨m,?_,?_⟩
   ·have:=rt ha
    rcases hM with ⟨e1,e2⟩ | ⟨e1,e2⟩
    ·rw [if_pos e1.symm] at this; exact this
    ·by_cases z:ra=M
     ·rw [if_pos z] at this; exact this
     ·rw [if_neg z,<-e2] at this; exact this
   ·have:=rt hb
    rcases hM with ⟨e1,e2⟩ | ⟨e1,e2⟩
    ·by_cases z:rb=M
     ·rw [if_pos z] at this; exact this
     ·rw [if_neg z,<-e2] at this; exact this
    ·rw [if_pos e1.symm] at this; exact this
end KF
end
section
namespace L2
open PySem PyProof.Rows
open KF
section
variable {g:CF TG} {tt:CF TT} {te:CF TE} {σ₀:St} {Q:VK} {H:Hp} {K:PySem.W.Frag}
theorem yz {j:Int} (n:Nat) (hn:j.toNat=n) (hj:j<=1000000) (hj0:-1000000<=j) (R:Addr->Nat->List V->Hp->Prop) (h0:∀ p H',H p=none->ak H H'->H' p=some (.lst [])->R p 0 [] H')
  (hp:∀ p i acc H',R p i acc H'->H' p=some (.lst acc)/\acc.length<=i)
  (hs:∀ p,H p=none->∀ C s' H' fp,∀ i acc H2,i < n->R p i acc H2->g C s' H' fp (.int i) σ₀ H2 fun σ2 H3=>tt C s' H' fp σ2 H3 fun b H4=>if b=true then te C s' H' fp σ2 H4 fun y H5=>H5 p=some (.lst acc)/\R p (i + 1) (acc++[y]) (upd H5 p (.lst (acc++[y]))) else R p (i + 1) acc H4)
  (hd:∀ p acc H2,H p=none->R p n acc H2->Q (.ref p) H2):
  ∃ j':Int,[V.int j]=[.int j']/\-(2 ^ 62)<=j'/\j' < 2 ^ 62/\∀ p,H p=none->∃ W:Nat->Nat->List V->Hp->Prop,(∃ m,W 0 m [] (upd H p (.lst [])))/\∀ C s' H' fp,b8 (Itr 0 j'.toNat) (g C s' H' fp) (tt C s' H' fp) (te C s' H' fp) σ₀ p Q W:=by
 refine ⟨j,rfl,by omega,by omega,fun p hpn=>?_⟩
 subst hn
 exact oP (lo:=0) (R p) (h0 p _ hpn (aP hpn _) av) (fun i acc H2 _ c=>hp p i acc H2 c) (by rw [sizeLine_eq]; omega) (fun C s' H' fp i acc H2 hi c=>by rw [Int.zero_add]; exact hs p hpn C s' H' fp i acc H2 hi c) fun acc H2 c=>hd p acc H2 hpn c
end
theorem qp {n j:Nat} (h:j < n):ixN n (j:Int)=some j:=by unfold ixN; rw [if_pos (by omega),if_pos (by omega)]; simp
theorem xg (n:Nat):(List.range n).map (fun (i:Nat)=>V.int ((i:Nat):Int))=ap (List.range n):=rfl
noncomputable def eN (_:PySem.W.Frag):Sp:=fun vs H Q _=>∃ (p:Addr) (ps:List Nat) (x r:Nat),vs=[.ref p,.int (x:Int)]/\H p=some (.lst (ap ps))/\eM ps/\bv ps x r/\
 ∀ H' ps',Off p H H'->H' p=some (.lst (ap ps'))->ps'.length=ps.length->eM ps'->(∀ y s,bv ps y s->bv ps' y s)->Q (.int (r:Int)) H'
noncomputable def lF (K:PySem.W.Frag):TS:=(au (ay (ab 1) (ai 2))
 (au (jN (bn (tOp rNe (tOp (bE K) (ab 0) (ab 2)) (ab 2))) (au (ay (tOp (bE K) (ab 0) (tOp (bE K) (ab 0) (ab 2))) (jM (ab 0) (ab 2) iY))
 (ay (tOp (bE K) (ab 0) (ab 2)) (ai 2))))
 (aV (ab 2))))
theorem zQ {p:Addr} {H:Hp}:Off p H H:=fun _ _=>rfl
theorem mK {p:Addr} {H H1 H2:Hp} (a:Off p H H1) (b:Off p H1 H2):Off p H H2:=fun c hc=>(b c hc).trans (a c hc)
theorem xh {K:PySem.W.Frag} {vs:List V} {H:Hp} {Q:VK} {E:XK} (h:eN K vs H Q E):vs.length=2:=by
 obtain ⟨p,ps,x,r,rfl,e,hf,hr,q⟩:=h
 rfl
theorem yA {K:PySem.W.Frag} {vs:List V} {H:Hp} {Q:VK} {E:XK} (h:eN K vs H Q E):lF K { nx:=fun _ H'=>Q .non H',rt:=Q } (start ["points","thing","end"] vs) H:=by
 obtain ⟨p,ps,x,r,rfl,e,hf,hr,q⟩:=h
 show lF K _ [some _,some _,none] _
 unfold lF
 walk_at "rd"
 refine sZ (fun m σ H1=>∃ (ps':List Nat),σ=[some (.ref p),some (.int (x:Int)),some (.int (m:Int))]/\Off p H H1/\H1 p=some (.lst (ap ps'))/\ps'.length=ps.length/\eM ps'/\(∀ y s,bv ps y s->bv ps' y s)/\bv ps' m r) x ⟨ps,rfl,zQ,e,rfl,hf,fun _ _ h=>h,hr⟩ ?_
 rintro m σ H1 ⟨ps',rfl,o1,e1,hl,hf1,hk,hr1⟩
 have hm:=hr1.lt
 obtain ⟨y,hy⟩:∃ y,ps'[m]?=some y:=⟨_,List.getElem?_eq_getElem hm⟩
 walk_at "rd"
 refine aZ (SqL.of e1) (d4 hy) ?_
 walk_at "rd"
 refine jR (fun c=>?_) (fun c=>?_)
 ·have hym:y < m:=by have:=hf1 m y hy; omega
  obtain ⟨g,hg⟩:∃ g,ps'[y]?=some g:=⟨_,List.getElem?_eq_getElem (by omega)⟩
  have hgy:=hf1 y g hg
  refine sY ?_
  walk_at "rd"
  refine aZ (SqL.of e1) (d4 hy) ?_
  walk_at "rd"
  refine aZ (SqL.of e1) (d4 hg) ?_
  walk_at "rd"
  refine jQ e1 (qp (by rw [aB]; exact hm)) ?_
  rw [oy]
  walk_at "rd"
  refine aZ (SqL.of av) (d4 (z:=g) (jj hm)) ?_
  walk_at "rd"
  refine ⟨g,by omega,ps'.set m g,rfl,mK o1 gj,av,by rw [List.length_set]; exact hl,hf1.set (by omega),fun a s h=>bv.halve hf1 hy hg (hk a s h),?_⟩
  have:=bv.halve hf1 hy hg hr1
  cases this with
  | stop h=>
   rw [jj hm] at h
   cases h
   omega
  | step h _ t=>
   rw [jj hm] at h
   cases h
   exact t
 ·have:y=m:=by omega
  subst this
  walk_at "rd"
  have er:y=r:=(bv.stop hy).inj hr1
  rw [er]
  exact q H1 ps' o1 e1 hl hf1 hk
noncomputable def jF (_:PySem.W.Frag):Sp:=fun vs H Q _=>∃ (p:Addr) (ps:List Nat) (n:Nat) (P P':Nat->Nat->Prop) (a b:Nat),vs=[.ref p,.int (a:Int),.int (b:Int)]/\H p=some (.lst (ap ps))/\fw n P ps/\a < n/\b < n/\
 (∀ x y,P x y->P' x y)/\(∀ x y,P' x y->P x y\/(x=a/\y=b))/\P' a b/\∀ H' ps',Off p H H'->H' p=some (.lst (ap ps'))->fw n P' ps'->Q .non H'
noncomputable def pi (K:PySem.W.Frag):TS:=(au (ay (az (eN K) [] E0 (ac (ab 0) (ac (ab 1) ah))) (ai 3))
 (au (ay (az (eN K) [] E0 (ac (ab 0) (ac (ab 2) ah))) (ai 4))
 (ay (tCB wP (ac (ab 3) (ac (ab 4) ah))) (jM (ab 0) (tCB AD (ac (ab 3) (ac (ab 4) ah))) iY))))
theorem zR {K:PySem.W.Frag} {vs:List V} {H:Hp} {Q:VK} {E:XK} (h:jF K vs H Q E):vs.length=3:=by
 obtain ⟨p,ps,n,P,P',a,b,rfl,e,ht,ha,hb,h1,h2,h3,q⟩:=h
 rfl
theorem Bg {K:PySem.W.Frag} {vs:List V} {H:Hp} {Q:VK} {E:XK} (h:jF K vs H Q E):pi K { nx:=fun _ H'=>Q .non H',rt:=Q } (start ["points","one","other","first","second"] vs) H:=by
 obtain ⟨p,ps,n,P,P',a,b,rfl,e,ht,ha,hb,h1,h2,h3,q⟩:=h
 show pi K _ [some _,some _,some _,none,none] _
 unfold pi
 obtain ⟨ra,hra⟩:=ht.forest.root a (by rw [ht.len]; exact ha)
 walk_at "rd"
 refine ⟨p,ps,a,ra,rfl,e,ht.forest,hra,fun H1 ps1 o1 e1 l1 f1 k1=>?_⟩
 have ht1:=ht.moved f1 (by rw [l1]; exact ht.len) k1
 obtain ⟨rb,hrb⟩:=ht1.forest.root b (by rw [ht1.len]; exact hb)
 walk_at "rd"
 refine ⟨p,ps1,b,rb,rfl,e1,f1,hrb,fun H2 ps2 o2 e2 l2 f2 k2=>?_⟩
 have ht2:=ht1.moved f2 (by rw [l2]; exact ht1.len) k2
 have hra2:=k2 _ _ (k1 _ _ hra)
 have hrb2:=k2 _ _ hrb
 walk_at "rd"
 have la:=hra2.le
 have lb:=hrb2.le
 obtain ⟨M,m,hM,hm,hd,hle⟩:∃ M m:Nat,(if (rb:Int) > (ra:Int) then (rb:Int) else (ra:Int))=(M:Int)/\(if (rb:Int) < (ra:Int) then (rb:Int) else (ra:Int))=(m:Int)/\((M=ra/\m=rb)\/(M=rb/\m=ra))/\m<=M:=by
  by_cases c:rb < ra
  ·exact ⟨ra,rb,by rw [if_neg (by omega)],by rw [if_pos (by omega)],.inl ⟨rfl,rfl⟩,by omega⟩
  ·by_cases d:ra < rb
   ·exact ⟨rb,ra,by rw [if_pos (by omega)],by rw [if_neg (by omega)],.inr ⟨rfl,rfl⟩,by omega⟩
   ·exact ⟨ra,ra,by rw [if_neg (by omega)],by rw [if_neg (by omega)],.inr ⟨by omega,rfl⟩,Nat.le_refl _⟩
 rw [hm,hM]
 have hMl:M < ps2.length:=by
  rw [ht2.len]
  rcases hd with ⟨rfl,_⟩ | ⟨rfl,_⟩ <;> omega
 refine jQ e2 (qp (by rw [aB]; exact hMl)) ?_
 rw [oy]
 exact q _ _ (mK (mK o1 o2) gj) av (ht2.link hra2 hrb2 hd hle h1 h2 h3)
noncomputable def cj (H:Hp) (a:Addr) (vs:List (List Nat)):Prop:=∃ rs:List Addr,H a=some (.lst (rs.map V.ref))/\Paired (fun (r:Addr) (v:List Nat)=>H r=some (.lst (ap v))) rs vs
theorem cj.same {H H':Hp} {a:Addr} {vs:List (List Nat)} (h:cj H a vs) (s:ak H H'):cj H' a vs:=by
 obtain ⟨rs,e,r⟩:=h
 exact ⟨rs,s _ _ e,Paired.mapP r fun _ _ q=>s _ _ q⟩
noncomputable def Within (n:Nat) (v:List Nat):Prop:=v.length=n/\∀ x∈v,x < n
theorem jG {rs:List Addr} {i:Nat} {x:V} (hx:(rs.map V.ref)[i]?=some x):∃ a,rs[i]?=some a/\x=.ref a:=by
 rw [List.getElem?_map] at hx
 cases e:rs[i]? with
 | none=>rw [e] at hx; cases hx
 | some z=>rw [e] at hx; exact ⟨z,rfl,(Option.some.inj hx).symm⟩
noncomputable def hJ (_:PySem.W.Frag):Sp:=fun vs H Q _=>∃ (n:Nat) (a:Addr) (ws:List (List Nat)),vs=[.int (n:Int),.ref a]/\cj H a ws/\(∀ v∈ws,Within n v)/\n<=100000/\
 ∀ r p H',mJ n (gM n ws) r->H p=none->ak H H'->H' p=some (.lst (ap r))->Q (.ref p) H'
noncomputable def lG (K:PySem.W.Frag):TS:=(au (ay (AK (ac (ab 0) ah)) (ai 2))
 (au (dc (cO K (ab 1)) (ai 3) (dc (gK bu K (ac (ab 3) ah)) (eX K 2 (bt (ai 4) (bt (ai 5) eW))) (gh (az (jF K) [] E0 (ac (ab 2) (ac (ab 4) (ac (ab 5) ah)))))))
 (aV (cx (gi (ac (ab 0) ah)) (fun _ _ _ _=>(ai 0)) (fun _ _ _ _=>cB) (fun _ _ _ _=>(az (eN K) [] E0 (ac (ab 1) (ac (ab 0) ah)))) [none,some 2]))))
theorem xi {n:Nat} {ws:List (List Nat)} {i:Nat} {v:List Nat} (hv:ws[i]?=some v) {x y:Nat}:gM n (ws.take (i + 1)) x y↔gM n (ws.take i) x y\/(x < n/\v[x]?=some y):=by
 unfold gM
 rw [eK hv]
 constructor
 ·rintro ⟨w,hw,h1,h2⟩
  rcases List.mem_append.mp hw with hw | hw
  ·exact .inl ⟨w,hw,h1,h2⟩
  ·rw [List.mem_singleton.mp hw] at h2; exact .inr ⟨h1,h2⟩
 ·rintro (⟨w,hw,h1,h2⟩ | ⟨h1,h2⟩)
  ·exact ⟨w,List.mem_append_left _ hw,h1,h2⟩
  ·exact ⟨v,List.mem_append_right _ (List.mem_singleton.mpr rfl),h1,h2⟩
theorem _root_.KF.fw.congr {n:Nat} {P P':Nat->Nat->Prop} {ps:List Nat} (t:fw n P ps) (h:∀ x y,P x y↔P' x y):fw n P' ps:=by
 have e:P=P':=by funext x y; exact propext (h x y)
 rw [<-e]; exact t
theorem xj {K:PySem.W.Frag} {vs:List V} {H:Hp} {Q:VK} {E:XK} (h:hJ K vs H Q E):vs.length=2:=by
 obtain ⟨n,a,ws,rfl,hV,hw,hn,q⟩:=h
 rfl
theorem yB {K:PySem.W.Frag} {vs:List V} {H:Hp} {Q:VK} {E:XK} (h:hJ K vs H Q E):lG K { nx:=fun _ H'=>Q .non H',rt:=Q } (start ["many","views","points","view","thing","least"] vs) H:=by
 obtain ⟨n,a,ws,rfl,hV,hw,hn,q⟩:=h
 show lG K _ [some _,some _,none,none,none,none] _
 unfold lG
 obtain ⟨rs,ea,hr⟩:=id hV
 have hlr:rs.length=ws.length:=Paired.length hr
 walk_at "rd"
 refine CD ?_
 walk_at "rd"
 refine ⟨n,rfl,by omega,Ds (by omega) fun p H1 hp s1 e1=>?_⟩
 rw [xg] at e1
 walk_at "rd"
 refine iO (rs.map V.ref) (SqL.of (s1 _ _ ea)) (fun i σ H2=>∃ (u1 u2 u3:Option V) (ps:List Nat),σ=[some (.int (n:Int)),some (.ref a),some (.ref p),u1,u2,u3]/\ak H H2/\H2 p=some (.lst (ap ps))/\fw n (gM n (ws.take i)) ps) ?_ ?_ ?_ ?_
 ·refine ⟨_,_,_,_,rfl,s1,e1,(fw.start n).congr fun x y=>⟨fun h=>h.elim,fun ⟨w,hw,_⟩=>by simp at hw⟩⟩
 ·rintro i σ H2 hi ⟨u1,u2,u3,ps,rfl,s2,e2,t2⟩
  exact SqL.of (s2 _ _ ea)
 ·rintro i x σ H2 hx ⟨u1,u2,u3,ps,rfl,s2,e2,t2⟩
  obtain ⟨b,hb,rfl⟩:=jG hx
  obtain ⟨v,hv,ev⟩:=fo hr hb
  obtain ⟨hvl,hvx⟩:=hw v (List.mem_of_getElem? hv)
  walk_at "rd"
  refine jE (S:=bu) (ap v) (SqL.of (s2 _ _ ev)) (fun j σ H3=>∃ (u2 u3:Option V) (ps:List Nat),σ=[some (.int (n:Int)),some (.ref a),some (.ref p),some (.ref b),u2,u3]/\ak H H3/\H3 p=some (.lst (ap ps))/\fw n (fun x y=>gM n (ws.take i) x y\/(x < j/\v[x]?=some y)) ps) ?_ ?_ ?_ ?_
  ·exact ⟨_,_,ps,rfl,s2,e2,t2.congr fun x y=>⟨.inl,fun h=>h.elim (fun h=>h) fun h=>absurd h.1 (by omega)⟩⟩
  ·rintro j σ H3 hj ⟨u2,u3,ps,rfl,s3,e3,t3⟩
   exact SqL.of (s3 _ _ ev)
  ·rintro j x T σ H3 H4 hx ⟨u2,u3,ps,rfl,s3,e3,t3⟩ hT s4 eT
   obtain ⟨z,hz,rfl⟩:=iP hx
   have hjl:j < v.length:=(List.getElem?_eq_some_iff.mp hz).1
   refine eJ (SqT.of eT) ?_
   walk_at "rd"
   refine ⟨p,ps,n,_,(fun x y=>gM n (ws.take i) x y\/(x < j + 1/\v[x]?=some y)),j,z,rfl,s4 _ _ e3,t3,by omega,hvx z (List.mem_of_getElem? hz),?_,?_,.inr ⟨by omega,hz⟩,fun H5 ps5 o5 e5 t5=>?_⟩
   ·rintro x y (h | h)
    ·exact .inl h
    ·exact .inr ⟨by omega,h.2⟩
   ·rintro x y (h | ⟨h1,h2⟩)
    ·exact .inl (.inl h)
    ·by_cases c:x=j
     ·subst c
      rw [hz] at h2
      cases h2
      exact .inr ⟨rfl,rfl⟩
     ·exact .inl (.inr ⟨by omega,h2⟩)
   ·exact ⟨_,_,ps5,rfl,(s3.trans s4).off hp o5,e5,t5⟩
  ·rintro σ H3 ⟨u2,u3,ps,rfl,s3,e3,t3⟩
   rw [aB] at t3
   exact ⟨_,_,_,ps,rfl,s3,e3,t3.congr fun x y=>by rw [xi hv,hvl]⟩
 ·rintro σ H2 ⟨u1,u2,u3,ps,rfl,s2,e2,t2⟩
  rw [List.length_map,hlr,List.take_length] at t2
  walk_at "rd"
  refine yz n (by omega) (by omega) (by omega) (fun l i acc H3=>∃ (ps' rr:List Nat),acc=ap rr/\rr.length=i/\H3 l=some (.lst acc)/\l≠p/\H l=none/\ak H H3/\H3 p=some (.lst (ap ps'))/\fw n (gM n ws) ps'/\(∀ y s,bv ps y s->bv ps' y s)/\∀ k x:Nat,rr[k]?=some x->bv ps k x) ?_ ?_ ?_ ?_
  ·intro l H3 hl s3 e3
   exact ⟨ps,[],rfl,rfl,e3,(aJ e2 hl).symm,s2.free hl,s2.trans s3,s3 _ _ e2,t2,fun _ _ h=>h,fun k x h=>by simp at h⟩
  ·rintro l i acc H3 ⟨ps',rr,rfl,hl,e3,_⟩
   exact ⟨e3,by rw [aB]; omega⟩
  ·rintro l hl C s' H' fp i acc H3 hi ⟨ps',rr,rfl,hlr',e3,nl,hlH,s3,ep3,t3,k3,g3⟩
   obtain ⟨r,hr⟩:=t2.forest.root i (by rw [t2.len]; exact hi)
   walk_at "rd"
   refine ⟨p,ps',i,r,rfl,ep3,t3.forest,k3 _ _ hr,fun H4 ps4 o4 e4 l4 f4 k4=>?_⟩
   refine ⟨by rw [o4 l nl]; exact e3,ps4,rr++[r],dv rr r,by simp [hlr'],av,nl,hlH,(s3.off hp o4).off hlH gj,by rw [aF nl.symm]; exact e4,t3.moved f4 (by rw [l4]; exact t3.len) k4,fun y s h=>k4 _ _ (k3 _ _ h),fun k x h=>?_⟩
   rw [List.getElem?_append] at h
   by_cases c:k < rr.length
   ·rw [if_pos c] at h
    exact g3 k x h
   ·rw [if_neg c] at h
    have hk:k=i:=by
     by_cases d:k - rr.length=0
     ·omega
     ·rw [List.getElem?_eq_none (by simp; omega)] at h; cases h
    subst hk
    rw [<-hlr',Nat.sub_self] at h
    cases h
    exact hr
  ·rintro l acc H3 hl ⟨ps',rr,rfl,hlr',e3,nl,hlH,s3,ep3,t3,k3,g3⟩
   exact q rr l H3 (t2.join hlr' g3) hlH s3 e3
end L2
end
section
namespace L2
open PySem PyProof.Rows
section
variable {g:CF TG} {tt:CF TT} {te:CF TE} {σ₀:St} {Q:VK} {H:Hp} {K:PySem.W.Frag}
end
theorem lH {H:Hp} {a:Addr} {fs:List (List Nat)} (h:cj H a fs):∃ rs:List Addr,H a=some (.lst (rs.map V.ref))/\rs.length=fs.length/\∀ (i:Nat) (r:Addr),rs[i]?=some r->∃ v,fs[i]?=some v/\H r=some (.lst (ap v)):=by
 obtain ⟨rs,e,p⟩:=h
 exact ⟨rs,e,Paired.length p,fun i r hr=>fo p hr⟩
end L2
end
section
namespace L2
open PySem PyProof.Rows
set_option genInjectivity false in
inductive Sy where
 | holds (w c:Nat) | sees (h:Nat) | not (s:Sy) | and (s t:Sy) | or (s t:Sy) | knows (h:Nat) (s:Sy) | all (g:List Nat) (s:Sy) | common (g:List Nat) (s:Sy)
namespace Sy
noncomputable def words:Sy->Nat
 | .holds _ _=>1 | .sees _=>1 | .not s=>s.words + 1 | .and s t=>s.words + t.words + 1 | .or s t=>s.words + t.words + 1 | .knows _ s=>s.words + 1 | .all _ s=>s.words + 1 | .common _ s=>s.words + 1
noncomputable def subs:Sy->List Sy
 | .holds _ _=>[] | .sees _=>[] | .not s=>[s] | .and s t=>[s,t] | .or s t=>[s,t] | .knows _ s=>[s] | .all _ s=>[s] | .common _ s=>[s]
noncomputable def word:Sy->Str
 | .holds _ _=>"holds" | .sees _=>"sees" | .not _=>"not" | .and _ _=>"and" | .or _ _=>"or" | .knows _ _=>"knows" | .all _ _=>"all" | .common _ _=>"common"
noncomputable def plain:Sy->Bool
 | .holds _ _=>true | .not _=>true | .and _ _=>true | .or _ _=>true | _=>false
noncomputable def Ok (cards hands:Nat):Sy->Prop
 | .holds w c=>w<=hands/\c < cards | .sees h=>h < hands | .not s=>s.Ok cards hands | .and s t=>s.Ok cards hands/\t.Ok cards hands | .or s t=>s.Ok cards hands/\t.Ok cards hands
 | .knows h s=>h < hands/\s.Ok cards hands | .all g s=>(g.Pairwise (· < ·)/\∀ k∈g,k < hands)/\s.Ok cards hands | .common g s=>(g.Pairwise (· < ·)/\∀ k∈g,k < hands)/\s.Ok cards hands
theorem words_pos (s:Sy):1<=s.words:=by cases s <;> simp [words]
theorem words_subs (s:Sy):s.words=1 + (s.subs.map words).sum:=by cases s <;> simp [words,subs] <;> omega
theorem sub_words {s t:Sy} (h:t∈s.subs):t.words + 1<=s.words:=by
 rw [words_subs s]
 have:=ie (List.mem_map_of_mem (f:=words) h)
 omega
end Sy
noncomputable def aL (H:Hp):V->Sy->Prop
 | v,.holds w c=>∃ a,v=.ref a/\H a=some (.tup [.str "holds",.int w,.int c])
 | v,.sees h=>∃ a,v=.ref a/\H a=some (.tup [.str "sees",.int h])
 | v,.not s=>∃ a x,v=.ref a/\H a=some (.tup [.str "not",x])/\aL H x s
 | v,.and s t=>∃ a x y,v=.ref a/\H a=some (.tup [.str "and",x,y])/\aL H x s/\aL H y t
 | v,.or s t=>∃ a x y,v=.ref a/\H a=some (.tup [.str "or",x,y])/\aL H x s/\aL H y t
 | v,.knows h s=>∃ a x,v=.ref a/\H a=some (.tup [.str "knows",.int h,x])/\aL H x s
 | v,.all g s=>∃ a b x,v=.ref a/\H a=some (.tup [.str "all",.ref b,x])/\H b=some (.tup (ap g))/\aL H x s
 | v,.common g s=>∃ a b x,v=.ref a/\H a=some (.tup [.str "common",.ref b,x])/\H b=some (.tup (ap g))/\aL H x s
theorem aL.keep {H H':Hp} (k:eY H H'):∀ {s:Sy} {v:V},aL H v s->aL H' v s
 | .holds _ _,_,⟨a,e,h⟩=>⟨a,e,k _ _ h⟩
 | .sees _,_,⟨a,e,h⟩=>⟨a,e,k _ _ h⟩
 | .not _,_,⟨a,x,e,h,r⟩=>⟨a,x,e,k _ _ h,aL.keep k r⟩
 | .and _ _,_,⟨a,x,y,e,h,r,q⟩=>⟨a,x,y,e,k _ _ h,aL.keep k r,aL.keep k q⟩
 | .or _ _,_,⟨a,x,y,e,h,r,q⟩=>⟨a,x,y,e,k _ _ h,aL.keep k r,aL.keep k q⟩
 | .knows _ _,_,⟨a,x,e,h,r⟩=>⟨a,x,e,k _ _ h,aL.keep k r⟩
 | .all _ _,_,⟨a,b,x,e,h,i,r⟩=>⟨a,b,x,e,k _ _ h,k _ _ i,aL.keep k r⟩
 | .common _ _,_,⟨a,b,x,e,h,i,r⟩=>⟨a,b,x,e,k _ _ h,k _ _ i,aL.keep k r⟩
noncomputable def lI (H:Hp) (xs:List V) (ss:List Sy):Prop:=Paired (aL H) xs ss
theorem lI.keep {H H':Hp} (k:eY H H') {xs:List V} {ss:List Sy} (h:lI H xs ss):lI H' xs ss:=Paired.mapP h fun _ _ r=>r.keep k
set_option genInjectivity false in
structure Glo where
 forms:Addr
 cw:Addr
 f1:Addr
 f2:Addr
 f3:Addr
 f4:Addr
 f5:Addr
 f6:Addr
 f7:Addr
 f8:Addr
structure DX (K:PySem.W.Frag) (G:Glo):Prop where
 t1:mG K G.f1 [.str "holder",.str "card"]
 t2:mG K G.f2 [.str "saying"]
 t3:mG K G.f3 [.str "saying",.str "saying"]
 t4:mG K G.f4 [.str "saying",.str "saying"]
 t5:mG K G.f5 [.str "hand",.str "saying"]
 t6:mG K G.f6 [.str "hands",.str "saying"]
 t7:mG K G.f7 [.str "hands",.str "saying"]
 t8:mG K G.f8 [.str "hand"]
theorem wm (x:V) (xs:List V):atI (x :: xs) 0=some x:=by
 have:atI (x :: xs) ((0:Nat):Int)=some x:=bG rfl
 exact this
theorem rR {H:Hp} {xs:List V} {ss:List Sy} {i:Nat} {x:V} (h:lI H xs ss) (e:xs[i]?=some x):∃ s,ss[i]?=some s/\aL H x s:=jB h e
theorem kc {H:Hp} {xs:List V} {ss:List Sy} (h:lI H xs ss):xs.length=ss.length:=by
 induction h with
 | nil=>rfl
 | cons _ _ ih=>rw [List.length_cons,List.length_cons,ih]
end L2
end
section
namespace L2
open PySem
noncomputable def CJ (t1 t2:String):Bool:=t1 == t2 || (t1 == "bool" && t2 == "int")
noncomputable def yC:List String:=["NoneType","bool","int","str","tuple","list","dict"]
noncomputable def wn:List String:=["bool","int","str","tuple","list"]
theorem zS (K:PySem.W.Frag) (t:String):PySem.W.kitOne K (.type t) (.type t)=some true:=by unfold PySem.W.kitOne; rw [if_pos (beq_self_eq_true _)]
theorem CK {K:PySem.W.Frag} {t1 t2:String} {b:Bool} (h:(if (Value.type t1 == Value.type t2)=true then some true else if PySem.W.kitMeta t2=true then (fastBuiltinMro t1).map (·.contains (.type t2)) else none)=some b):PySem.W.kitOne K (.type t1) (.type t2)=some b:=h
theorem wo (K:PySem.W.Frag):∀ t1∈yC,∀ t2∈wn,PySem.W.kitOne K (.type t1) (.type t2)=some (CJ t1 t2):=by
 have go:∀ t1∈yC,∀ t2∈wn,(if (Value.type t1 == Value.type t2)=true then some true else if PySem.W.kitMeta t2=true then (fastBuiltinMro t1).map (·.contains (.type t2)) else none)=some (CJ t1 t2):=by decide +kernel
 exact fun t1 h1 t2 h2=>CK (go t1 h1 t2 h2)
end L2
end
section
namespace L2
open PySem PyProof.Rows
open KF
open Classical in
noncomputable def blV (n:Nat) (P:Nat->Prop):List V:=(List.range n).map fun i=>V.bl (decide (P i))
theorem cdf {p:Prop} (h:¬ p):false=@decide p (Classical.propDecidable p):=(@decide_eq_false p (Classical.propDecidable p) h).symm
theorem cdt {p:Prop} (h:p):true=@decide p (Classical.propDecidable p):=(@decide_eq_true p (Classical.propDecidable p) h).symm
theorem cde {p q:Prop} [i:Decidable p] (h:p↔q):decide p=@decide q (Classical.propDecidable q):=@decide_eq_decide p q i (Classical.propDecidable q) |>.mpr h
section
open Classical
variable {n i:Nat} {P P':Nat->Prop}
theorem dk (n:Nat) (P:Nat->Prop):(blV n P).length=n:=by unfold blV; simp
theorem kF (h:i < n):(blV n P)[i]?=some (.bl (decide (P i))):=by unfold blV; rw [List.getElem?_map,List.getElem?_range h]; rfl
theorem CL (h:i < n):atI (blV n P) (i:Int)=some (.bl (decide (P i))):=bG (kF h)
theorem kG {x:V} (h:(blV n P)[i]?=some x):i < n/\x=.bl (decide (P i)):=by
 have hi:i < n:=by have:=(List.getElem?_eq_some_iff.mp h).1; rw [dk] at this; exact this
 rw [kF hi] at h
 exact ⟨hi,(Option.some.inj h).symm⟩
theorem mL (h:∀ i,i < n->(P i↔P' i)):blV n P=blV n P':=by
 unfold blV
 refine List.map_congr_left fun i hi=>?_
 rw [show P i=P' i from propext (h i (List.mem_range.mp hi))]
theorem fz (n:Nat) (P:Nat->Prop):blV (n + 1) P=blV n P++[.bl (decide (P n))]:=by unfold blV; rw [List.range_succ,List.map_append]; rfl
theorem Bh (h:i < n) {b:Bool} (hb:∀ j,j < n->j≠i->(P j↔P' j)) (hi:b=decide (P' i)):(blV n P).set i (.bl b)=blV n P':=by
 refine List.ext_getElem? fun k=>?_
 rw [List.getElem?_set,dk]
 by_cases e:i=k
 ·subst e
  rw [if_pos rfl,if_pos h,kF h,hi]
 ·rw [if_neg e]
  by_cases hk:k < n
  ·rw [kF hk,kF hk,show P k=P' k from propext (hb k hk (fun z=>e z.symm))]
  ·rw [List.getElem?_eq_none (by rw [dk]; omega),List.getElem?_eq_none (by rw [dk]; omega)]
theorem uA (n:Nat) (h:∀ i,P i):(List.replicate n [V.bl true]).flatten=blV n P:=by
 induction n with
 | zero=>rfl
 | succ n ih=>
  rw [fz,<-ih,List.replicate_succ',List.flatten_append,decide_eq_true (h n)]
  simp
end
noncomputable def hU (_:PySem.W.Frag):Sp:=fun vs H Q _=>∃ (a b:Addr) (n:Nat) (P P':Nat->Prop),vs=[.ref a,.ref b]/\H a=some (.lst (blV n P))/\H b=some (.lst (blV n P'))/\n<=100000/\
 ∀ p H',H p=none->ak H H'->H' p=some (.lst (blV n fun i=>P i/\P' i))->Q (.ref p) H'
noncomputable def pj (K:PySem.W.Frag):TS:=(aV (cx (qf bu bu K (ac (ab 0) (ac (ab 1) ah))) (fun _ _ _ _=>(eX K 2 (bt (ai 0) (bt (ai 1) eW)))) (fun _ _ _ _=>cB) (fun _ _ _ _=>(j6 (ab 0) (ab 1))) [none,none]))
section
open Classical
theorem zT {K:PySem.W.Frag} {vs:List V} {H:Hp} {Q:VK} {E:XK} (h:hU K vs H Q E):vs.length=2:=by
 obtain ⟨a,b,n,P,P',rfl,ea,eb,hn,q⟩:=h
 rfl
theorem Bi {K:PySem.W.Frag} {vs:List V} {H:Hp} {Q:VK} {E:XK} (h:hU K vs H Q E):pj K { nx:=fun _ H'=>Q .non H',rt:=Q } (start ["ones","others"] vs) H:=by
 obtain ⟨a,b,n,P,P',rfl,ea,eb,hn,q⟩:=h
 show pj K _ [some _,some _] _
 unfold pj
 walk_at "rd"
 refine ud (S1:=bu) (S2:=bu) _ _ (SqL.of ea) (SqL.of eb) (fun H' s=>s.seq (SqL.of ea)) (fun H' s=>s.seq (SqL.of eb)) (by rw [dk]; omega) (fun i acc _=>acc=blV i fun i=>P i/\P' i) (fun _ _=>rfl) ?_ ?_
 ·rintro p hp C s' H' fp i x y T acc H2 H3 hx hy ⟨s2,e2,l2,rfl⟩ hT s3 e3 e4
  obtain ⟨hi,rfl⟩:=kG hx
  obtain ⟨_,rfl⟩:=kG hy
  walk_at "rd"
  refine eJ (SqT.of e3) ?_
  walk_at "rd"
  by_cases h:P i
  ·rw [decide_eq_true h]
   refine jo ?_
   walk_at "rd"
   refine bi.put hp (fun _ _ _ _ r _=>r) (s2.trans s3) e4 l2 ?_
   rw [fz]
   congr 3
   exact decide_eq_decide.mpr ⟨fun q=>⟨h,q⟩,fun q=>q.2⟩
  ·rw [decide_eq_false h]
   refine fY ?_
   refine bi.put hp (fun _ _ _ _ r _=>r) (s2.trans s3) e4 l2 ?_
   rw [fz]
   congr 3
   exact cdf fun q=>h q.1
 ·rintro p acc H2 hp s2 e2 rfl
  rw [dk,dk,Nat.min_self] at e2
  exact q _ _ hp s2 e2
end
noncomputable def hW (_:PySem.W.Frag):Sp:=fun vs H Q _=>∃ (a b:Addr) (n:Nat) (P P':Nat->Prop),vs=[.ref a,.ref b]/\H a=some (.lst (blV n P))/\H b=some (.lst (blV n P'))/\n<=100000/\
 ∀ p H',H p=none->ak H H'->H' p=some (.lst (blV n fun i=>P i\/P' i))->Q (.ref p) H'
noncomputable def lJ (K:PySem.W.Frag):TS:=(aV (cx (qf bu bu K (ac (ab 0) (ac (ab 1) ah))) (fun _ _ _ _=>(eX K 2 (bt (ai 0) (bt (ai 1) eW)))) (fun _ _ _ _=>cB) (fun _ _ _ _=>(ze (ab 0) (ab 1))) [none,none]))
section
open Classical
theorem xk {K:PySem.W.Frag} {vs:List V} {H:Hp} {Q:VK} {E:XK} (h:hW K vs H Q E):vs.length=2:=by
 obtain ⟨a,b,n,P,P',rfl,ea,eb,hn,q⟩:=h
 rfl
theorem yD {K:PySem.W.Frag} {vs:List V} {H:Hp} {Q:VK} {E:XK} (h:hW K vs H Q E):lJ K { nx:=fun _ H'=>Q .non H',rt:=Q } (start ["ones","others"] vs) H:=by
 obtain ⟨a,b,n,P,P',rfl,ea,eb,hn,q⟩:=h
 show lJ K _ [some _,some _] _
 unfold lJ
 walk_at "rd"
 refine ud (S1:=bu) (S2:=bu) _ _ (SqL.of ea) (SqL.of eb) (fun H' s=>s.seq (SqL.of ea)) (fun H' s=>s.seq (SqL.of eb)) (by rw [dk]; omega) (fun i acc _=>acc=blV i fun i=>P i\/P' i) (fun _ _=>rfl) ?_ ?_
 ·rintro p hp C s' H' fp i x y T acc H2 H3 hx hy ⟨s2,e2,l2,rfl⟩ hT s3 e3 e4
  obtain ⟨hi,rfl⟩:=kG hx
  obtain ⟨_,rfl⟩:=kG hy
  walk_at "rd"
  refine eJ (SqT.of e3) ?_
  walk_at "rd"
  by_cases h:P i
  ·rw [decide_eq_true h]
   refine jo ?_
   refine bi.put hp (fun _ _ _ _ r _=>r) (s2.trans s3) e4 l2 ?_
   rw [fz]
   congr 3
   exact cdt (.inl h)
  ·rw [decide_eq_false h]
   refine fY ?_
   walk_at "rd"
   refine bi.put hp (fun _ _ _ _ r _=>r) (s2.trans s3) e4 l2 ?_
   rw [fz]
   congr 3
   exact decide_eq_decide.mpr ⟨.inr,fun q=>q.resolve_left h⟩
 ·rintro p acc H2 hp s2 e2 rfl
  rw [dk,dk,Nat.min_self] at e2
  exact q _ _ hp s2 e2
end
noncomputable def KN (n:Nat) (v:List Nat) (P:Nat->Prop) (i:Nat):Prop:=∀ j,j < n->v.getD j 0=v.getD i 0->P j
theorem gy {n:Nat} {v:List Nat} (h:Within n v) {i:Nat} (hi:i < n):v[i]?=some (v.getD i 0)/\v.getD i 0 < n:=by
 have hl:i < v.length:=by rw [h.1]; exact hi
 have e:v[i]?=some (v.getD i 0):=by rw [List.getD_eq_getElem?_getD,List.getElem?_eq_getElem hl]; rfl
 exact ⟨e,h.2 _ (List.mem_of_getElem? e)⟩
noncomputable def d5 (_:PySem.W.Frag):Sp:=fun vs H Q _=>∃ (a b:Addr) (n:Nat) (v:List Nat) (P:Nat->Prop),vs=[.ref a,.ref b]/\H a=some (.lst (ap v))/\H b=some (.lst (blV n P))/\Within n v/\n<=100000/\
 ∀ p H',H p=none->ak H H'->H' p=some (.lst (blV n (KN n v P)))->Q (.ref p) H'
noncomputable def ny (K:PySem.W.Frag):TS:=(au (ay (tOp wR (dY (ac (tC (.bl true)) ah)) (tCB (fR K) (ac (ab 0) ah))) (ai 2))
 (au (dc (qf bu bu K (ac (ab 0) (ac (ab 1) ah))) (eX K 2 (bt (ai 3) (bt (ai 4) eW))) (cu (jK (tB (ab 4))) (ay (tC (.bl false)) (jM (ab 2) (ab 3) iY)) bK))
 (aV (cx (cO K (ab 0)) (fun _ _ _ _=>(ai 0)) (fun _ _ _ _=>cB) (fun _ _ _ _=>(tOp (bE K) (ab 1) (ab 0))) [none,some 2]))))
section
open Classical
theorem yE {K:PySem.W.Frag} {vs:List V} {H:Hp} {Q:VK} {E:XK} (h:d5 K vs H Q E):vs.length=2:=by
 obtain ⟨a,b,n,v,P,rfl,ea,eb,hv,hn,q⟩:=h
 rfl
theorem zU {K:PySem.W.Frag} {vs:List V} {H:Hp} {Q:VK} {E:XK} (h:d5 K vs H Q E):ny K { nx:=fun _ H'=>Q .non H',rt:=Q } (start ["view","truths","sure","least","truth"] vs) H:=by
 obtain ⟨a,b,n,v,P,rfl,ea,eb,hv,hn,q⟩:=h
 show ny K _ [some _,some _,none,none,none] _
 unfold ny
 have hvl:=hv.1
 walk_at "rd"
 refine ⟨by simp [sizeLine_eq],fun l H1 hl s1 e1=>?_⟩
 walk_at "rd"
 refine oU (SqL.of (s1 _ _ ea)) ?_
 walk_at "rd"
 rw [aB,hvl]
 refine ⟨l,(n:Int),[.bl true],rfl,rfl,e1,by omega,by omega,by rw [sizeLine_eq]; simp; omega,fun p H2 hp s2 e2=>?_⟩
 rw [Int.toNat_natCast,uA (P:=fun x=>∀ j,j < 0->v.getD j 0=x->P j) n (fun _ j h=>absurd h (by omega))] at e2
 have s02:=s1.trans s2
 have hpH:H p=none:=s1.free hp
 walk_at "rd"
 refine Cu (S1:=bu) (S2:=bu) (ap v) (blV n P) (SqL.of (s02 _ _ ea)) (SqL.of (s02 _ _ eb)) (fun i σ H3=>∃ (u1 u2:Option V),σ=[some (.ref a),some (.ref b),some (.ref p),u1,u2]/\ak H H3/\H3 p=some (.lst (blV n fun x=>∀ j,j < i->v.getD j 0=x->P j))) ?_ ?_ ?_ ?_
 ·exact ⟨_,_,rfl,s02,e2⟩
 ·rintro i σ H3 ⟨u1,u2,rfl,s3,e3⟩
  exact ⟨SqL.of (s3 _ _ ea),SqL.of (s3 _ _ eb)⟩
 ·rintro i x y T σ H3 H4 hx hy ⟨u1,u2,rfl,s3,e3⟩ hT s4 eT
  obtain ⟨hi,rfl⟩:=kG hy
  obtain ⟨z,hz,rfl⟩:=iP hx
  obtain ⟨hz',hzn⟩:=gy hv hi
  rw [hz] at hz'
  have ez:z=v.getD i 0:=Option.some.inj hz'
  refine eJ (SqT.of eT) ?_
  walk_at "rd"
  by_cases h:P i
  ·rw [decide_eq_true h]
   walk_at "rd"
   refine ⟨_,_,rfl,s3.trans s4,?_⟩
   rw [s4 _ _ e3]
   congr 2
   refine mL fun x _=>⟨fun f j hj e=>?_,fun f j hj e=>f j (by omega) e⟩
   by_cases c:j=i
   ·rw [c]; exact h
   ·exact f j (by omega) e
  ·rw [decide_eq_false h]
   walk_at "rd"
   refine jQ (s4 _ _ e3) (qp (by rw [dk,ez]; exact hzn)) ?_
   refine ⟨_,_,rfl,(s3.trans s4).off hpH gj,?_⟩
   rw [av]
   congr 2
   refine Bh (by rw [ez]; exact hzn) (fun x _ hxz=>⟨fun f j hj e=>?_,fun f j hj e=>f j (by omega) e⟩) ?_
   ·by_cases c:j=i
    ·subst c
     exact absurd (e.symm.trans ez.symm) hxz
    ·exact f j (by omega) e
   ·exact cdf fun f=>h (f i (by omega) ez.symm)
 ·rintro σ H3 ⟨u1,u2,rfl,s3,e3⟩
  rw [aB,dk,hvl,Nat.min_self] at e3
  walk_at "rd"
  refine gm (ap v) (SqL.of (s3 _ _ ea)) (by rw [aB]; omega) (fun i acc _=>acc=blV i (KN n v P)) (fun _ _=>rfl) ?_ ?_
  ·rintro r hr C s' H' fp i x acc H4 hx ⟨s4,e4,l4,rfl⟩
   obtain ⟨z,hz,rfl⟩:=iP hx
   have hi:i < n:=by have:=(List.getElem?_eq_some_iff.mp hz).1; omega
   obtain ⟨hz',hzn⟩:=gy hv hi
   rw [hz] at hz'
   have ez:z=v.getD i 0:=Option.some.inj hz'
   walk_at "rd"
   refine aZ (SqL.of (s4 _ _ e3)) (CL (by rw [ez]; exact hzn)) ?_
   refine bi.put hr (fun _ _ _ _ r _=>r) s4 e4 l4 ?_
   rw [fz]
   congr 3
   rw [ez]
   rfl
  ·rintro r acc H4 hr s4 e4 rfl
   rw [aB,hvl] at e4
   exact q _ _ (s3.free hr) (s3.trans s4) e4
end
noncomputable def dD (_:PySem.W.Frag):Sp:=fun vs H Q _=>∃ (a b:Addr) (n:Nat) (ws:List (List Nat)) (P:Nat->Prop),vs=[.ref a,.ref b]/\cj H a ws/\H b=some (.lst (blV n P))/\(∀ v∈ws,Within n v)/\n<=100000/\
 ∀ p H',H p=none->ak H H'->H' p=some (.lst (blV n fun i=>∀ v∈ws,KN n v P i))->Q (.ref p) H'
noncomputable def gz (K:PySem.W.Frag):TS:=(au (ay (tOp wR (dY (ac (tC (.bl true)) ah)) (tCB (fR K) (ac (ab 1) ah))) (ai 2))
 (au (dc (cO K (ab 0)) (ai 3) (ay (az (hU K) [] E0 (ac (ab 2) (ac (az (d5 K) [] E0 (ac (ab 3) (ac (ab 1) ah))) ah))) (ai 2)))
 (aV (ab 2))))
theorem oz {K:PySem.W.Frag} {vs:List V} {H:Hp} {Q:VK} {E:XK} (h:dD K vs H Q E):vs.length=2:=by
 obtain ⟨a,b,n,ws,P,rfl,hV,eb,hw,hn,q⟩:=h
 rfl
theorem pp {K:PySem.W.Frag} {vs:List V} {H:Hp} {Q:VK} {E:XK} (h:dD K vs H Q E):gz K { nx:=fun _ H'=>Q .non H',rt:=Q } (start ["views","truths","answers","view"] vs) H:=by
 obtain ⟨a,b,n,ws,P,rfl,hV,eb,hw,hn,q⟩:=h
 show gz K _ [some _,some _,none,none] _
 unfold gz
 obtain ⟨rs,ea,hlr,hr⟩:=lH hV
 walk_at "rd"
 refine ⟨by simp [sizeLine_eq],fun l H1 hl s1 e1=>?_⟩
 walk_at "rd"
 refine oU (SqL.of (s1 _ _ eb)) ?_
 walk_at "rd"
 rw [dk]
 refine ⟨l,(n:Int),[.bl true],rfl,rfl,e1,by omega,by omega,by rw [sizeLine_eq]; simp; omega,fun p H2 hp s2 e2=>?_⟩
 rw [Int.toNat_natCast,uA (P:=fun i=>∀ v∈ws.take 0,KN n v P i) n (fun _ v h=>by simp at h)] at e2
 have s02:=s1.trans s2
 have hpH:H p=none:=s1.free hp
 walk_at "rd"
 refine iO (rs.map V.ref) (SqL.of (s02 _ _ ea)) (fun i σ H3=>∃ (u1:Option V) (p:Addr),σ=[some (.ref a),some (.ref b),some (.ref p),u1]/\H p=none/\ak H H3/\H3 p=some (.lst (blV n fun k=>∀ v∈ws.take i,KN n v P k))) ?_ ?_ ?_ ?_
 ·exact ⟨_,p,rfl,hpH,s02,e2⟩
 ·rintro i σ H3 _ ⟨u1,p,rfl,hp,s3,e3⟩
  exact SqL.of (s3 _ _ ea)
 ·rintro i x σ H3 hx ⟨u1,p,rfl,hp,s3,e3⟩
  obtain ⟨c,hc,rfl⟩:=jG hx
  obtain ⟨v,hv,ev⟩:=hr i c hc
  walk_at "rd"
  refine ⟨c,b,n,v,P,rfl,s3 _ _ ev,s3 _ _ eb,hw v (List.mem_of_getElem? hv),hn,fun k H4 hk s4 e4=>?_⟩
  walk_at "rd"
  refine ⟨p,k,n,_,_,rfl,s4 _ _ e3,e4,hn,fun k2 H5 hk2 s5 e5=>?_⟩
  have s35:=s4.trans s5
  refine ⟨_,k2,rfl,s3.free (s4.free hk2),s3.trans s35,?_⟩
  rw [e5]
  congr 2
  refine mL fun i _=>?_
  rw [eK hv]
  exact ⟨fun h w hw=>(List.mem_append.mp hw).elim (h.1 w) fun z=>by rw [List.mem_singleton.mp z]; exact h.2,fun h=>⟨fun w hw=>h w (List.mem_append_left _ hw),h v (by simp)⟩⟩
 ·rintro σ H3 ⟨u1,p,rfl,hp,s3,e3⟩
  rw [List.length_map,hlr,List.take_length] at e3
  walk_at "rd"
  exact q _ _ hp s3 e3
noncomputable def Bj (H:Hp) (a:Addr) (ps:List (List Int)):Prop:=∃ rs:List Addr,H a=some (.lst (rs.map V.ref))/\Paired (fun (r:Addr) (xs:List Int)=>H r=some (.tup (xs.map V.int))) rs ps
noncomputable def xl (n:Nat) (ps:List (List Int)) (v:List Nat) (j:Nat):Prop:=ps.getD j []=ps.getD (v.getD j 0) []
noncomputable def jH (_:PySem.W.Frag):Sp:=fun vs H Q _=>∃ (a b:Addr) (n:Nat) (v:List Nat) (ps:List (List Int)),vs=[.ref a,.ref b]/\Bj H a ps/\ps.length=n/\H b=some (.lst (ap v))/\Within n v/\n<=100000/\
 ∀ p H',H p=none->ak H H'->H' p=some (.lst (blV n (KN n v (xl n ps v))))->Q (.ref p) H'
theorem rS {H:Hp} {rs:List Addr} {ps:List (List Int)} (h:Paired (fun (r:Addr) (xs:List Int)=>H r=some (.tup (xs.map V.int))) rs ps) {i:Nat} (hi:i < ps.length):∃ r,rs[i]?=some r/\H r=some (.tup ((ps.getD i []).map V.int)):=by
 have hl:=Paired.length h
 obtain ⟨r,hr⟩:∃ r,rs[i]?=some r:=⟨_,List.getElem?_eq_getElem (by omega)⟩
 obtain ⟨xs,hx,e⟩:=fo h hr
 refine ⟨r,hr,?_⟩
 rw [List.getD_eq_getElem?_getD,hx]
 exact e
noncomputable def pz (K:PySem.W.Frag):TS:=(aV (az (d5 K) [] E0 (ac (ab 1) (ac (cx (qf bu bu K (ac (ab 0) (ac (ab 1) ah))) (fun _ _ _ _=>(eX K 2 (bt (ai 0) (bt (ai 1) eW)))) (fun _ _ _ _=>cB) (fun _ _ _ _=>(tOp (qe (SqT K) false) (ab 0) (tOp (bE K) (ab 2) (ab 1)))) [none,none,some 0]) ah))))
section
open Classical
theorem zV {K:PySem.W.Frag} {vs:List V} {H:Hp} {Q:VK} {E:XK} (h:jH K vs H Q E):vs.length=2:=by
 obtain ⟨a,b,n,v,ps,rfl,⟨rs,ea,hr⟩,hpl,eb,hv,hn,q⟩:=h
 rfl
theorem Bk {K:PySem.W.Frag} {vs:List V} {H:Hp} {Q:VK} {E:XK} (h:jH K vs H Q E):pz K { nx:=fun _ H'=>Q .non H',rt:=Q } (start ["piles","view"] vs) H:=by
 obtain ⟨a,b,n,v,ps,rfl,⟨rs,ea,hr⟩,hpl,eb,hv,hn,q⟩:=h
 show pz K _ [some _,some _] _
 unfold pz
 have hlr:rs.length=ps.length:=Paired.length hr
 have hvl:=hv.1
 walk_at "rd"
 refine ud (S1:=bu) (S2:=bu) (rs.map V.ref) (ap v) (SqL.of ea) (SqL.of eb) (fun H' s=>s.seq (SqL.of ea)) (fun H' s=>s.seq (SqL.of eb)) (by rw [List.length_map]; omega) (fun i acc _=>acc=blV i (xl n ps v)) (fun _ _=>rfl) ?_ ?_
 ·rintro p hp C s' H' fp i x y T acc H2 H3 hx hy ⟨s2,e2,l2,rfl⟩ hT s3 e3 e4
  obtain ⟨c,hc,rfl⟩:=jG hx
  obtain ⟨z,hz,rfl⟩:=iP hy
  have hi:i < n:=by have:=(List.getElem?_eq_some_iff.mp hz).1; omega
  obtain ⟨hz',hzn⟩:=gy hv hi
  rw [hz] at hz'
  have ez:z=v.getD i 0:=Option.some.inj hz'
  obtain ⟨c',hc',ec⟩:=rS hr (i:=i) (by omega)
  rw [hc] at hc'
  cases hc'
  obtain ⟨d,hd,ed⟩:=rS hr (i:=z) (by omega)
  have s23:=s2.trans s3
  walk_at "rd"
  refine eJ (SqT.of e3) ?_
  walk_at "rd"
  refine aZ (SqL.of (s23 _ _ ea)) (v:=.ref d) (bG (by rw [List.getElem?_map,hd]; rfl)) ?_
  walk_at "rd"
  refine Dl (SqT.of (s23 _ _ ec)) (SqT.of (s23 _ _ ed)) ?_
  refine bi.put hp (fun _ _ _ _ r _=>r) s23 e4 l2 ?_
  rw [fz]
  congr 3
  rw [ez]
  exact cde Iff.rfl
 ·rintro p acc H2 hp s2 e2 rfl
  rw [List.length_map,aB,hlr,hpl,hvl,Nat.min_self] at e2
  walk_at "rd"
  exact ⟨b,p,n,v,_,rfl,s2 _ _ eb,e2,hv,hn,fun r H3 hr s3 e3=>q r H3 (s2.free hr) (s2.trans s3) e3⟩
end
end L2
end
section
namespace L2
open PySem PyProof.Rows
open KF
noncomputable def TR (n:Nat) (ws vs:List (List Nat)):Sy->Nat->Prop
 | .holds w c,i=>(ws.getD i []).getD c 0=w
 | .sees h,i=>KN n (vs.getD h []) (xl n (ws.map fun w=>tj w (vs.length:Nat)) (vs.getD h [])) i
 | .not s,i=>¬ TR n ws vs s i
 | .and s t,i=>TR n ws vs s i/\TR n ws vs t i
 | .or s t,i=>TR n ws vs s i\/TR n ws vs t i
 | .knows h s,i=>KN n (vs.getD h []) (TR n ws vs s) i
 | .all g s,i=>∀ v∈g.map (fun h=>vs.getD h []),KN n v (TR n ws vs s) i
 | .common g s,i=>∀ j,j < n->dN (gM n (g.map fun h=>vs.getD h [])) i j->TR n ws vs s j
theorem pA {n:Nat} {P:Nat->Nat->Prop} {r:List Nat} (h:mJ n P r) {i j:Nat} (hi:i < n) (hj:j < n):r.getD j 0=r.getD i 0↔dN P i j:=by
 have ei:r[i]?=some (r.getD i 0):=by rw [List.getD_eq_getElem?_getD,List.getElem?_eq_getElem (by rw [h.len]; exact hi)]; rfl
 have ej:r[j]?=some (r.getD j 0):=by rw [List.getD_eq_getElem?_getD,List.getElem?_eq_getElem (by rw [h.len]; exact hj)]; rfl
 constructor
 ·intro e
  have c1:=h.conn _ _ ei
  have c2:=h.conn _ _ ej
  rw [e] at c2
  exact .trans c1 (.symm c2)
 ·intro c
  have:=h.same i j hi hj c
  rw [ei,ej] at this
  exact (Option.some.inj this).symm
theorem vH {n:Nat} {P:Nat->Nat->Prop} {r:List Nat} (h:mJ n P r):Within n r:=⟨h.len,fun x hx=>by
 obtain ⟨i,hi⟩:=List.mem_iff_getElem?.mp hx
 have:=h.le i x hi
 have:=(List.getElem?_eq_some_iff.mp hi).1
 rw [h.len] at this
 omega⟩
theorem Bl {n:Nat} {P:Nat->Nat->Prop} {r:List Nat} (h:mJ n P r) {F:Nat->Prop} {i:Nat} (hi:i < n):KN n r F i↔∀ j,j < n->dN P i j->F j:=
 ⟨fun k j hj c=>k j hj ((pA h hi hj).mpr c),fun k j hj e=>k j hj ((pA h hi hj).mp e)⟩
theorem pB:∀ {g:List Nat} {m:Nat},g.Pairwise (· < ·)->(∀ k∈g,k < m)->g.length<=m:=by
 intro g m hp hk
 have go:∀ (l:List Nat) (lo:Nat),l.Pairwise (· < ·)->(∀ k∈l,lo<=k/\k < m)->l.length + lo<=m\/l=[]:=by
  intro l
  induction l with
  | nil=>intro _ _ _; exact .inr rfl
  | cons x r ih=>
   intro lo hp hk
   obtain ⟨h1,h2⟩:=List.pairwise_cons.mp hp
   have hx:=hk x (List.mem_cons_self ..)
   rcases ih (x + 1) h2 (fun k hkr=>⟨h1 k hkr,(hk k (List.mem_cons_of_mem _ hkr)).2⟩) with h | h
   ·left; rw [List.length_cons]; omega
   ·left; rw [h]; simp; omega
 rcases go g 0 hp (fun k h=>⟨Nat.zero_le _,hk k h⟩) with h | h
 ·omega
 ·rw [h]; simp
structure pD (H:Hp) (a b:Addr) (c n:Nat) (ws vs:List (List Nat)):Prop where
 deals:cY H a ws
 len:ws.length=n
 cards:∀ w∈ws,w.length=c
 small:n<=100000
 few:c<=1000
 views:cj H b vs
 win:∀ v∈vs,Within n v
 hands:vs.length<=1000
theorem pD.same {H H':Hp} {a b:Addr} {c n:Nat} {ws vs:List (List Nat)} (t:pD H a b c n ws vs) (s:ak H H'):pD H' a b c n ws vs:=⟨t.deals.same' s,t.len,t.cards,t.small,t.few,t.views.same s,t.win,t.hands⟩
theorem nA {ws:List (List Nat)} {i:Nat} {w:List Nat} (h:ws[i]?=some w):ws.getD i []=w:=by rw [List.getD_eq_getElem?_getD,h]; rfl
theorem iQ {H:Hp} {b:Addr} {vs:List (List Nat)} (h:cj H b vs) {k:Nat} (hk:k < vs.length):∃ (rs:List Addr) (r:Addr),H b=some (.lst (rs.map V.ref))/\atI (rs.map V.ref) (k:Int)=some (.ref r)/\H r=some (.lst (ap (vs.getD k [])))/\vs.getD k []∈vs:=by
 obtain ⟨rs,e,hl,hr⟩:=lH h
 obtain ⟨r,hrk⟩:∃ r,rs[k]?=some r:=⟨_,List.getElem?_eq_getElem (by omega)⟩
 obtain ⟨v,hv,ev⟩:=hr k r hrk
 refine ⟨rs,r,e,bG (by rw [List.getElem?_map,hrk]; rfl),?_,?_⟩
 ·rw [nA hv]; exact ev
 ·rw [nA hv]; exact List.mem_of_getElem? hv
noncomputable def bw (_:PySem.W.Frag) (m:Nat):Sp:=fun vals H Q _=>∃ (a b:Addr) (x:V) (c n:Nat) (ws vs:List (List Nat)) (s:Sy),vals=[.ref a,.ref b,x]/\pD H a b c n ws vs/\aL H x s/\s.Ok c vs.length/\s.words<=m/\
 ∀ p H',H p=none->ak H H'->H' p=some (.lst (blV n (TR n ws vs s)))->Q (.ref p) H'
noncomputable def i6 (K:PySem.W.Frag) (n:Nat):TS:=(au (ay (tOp (cD K) (ab 2) (tC (.int 0))) (ai 3))
 (au (cu (bn (tOp rEq (ab 3) (tC (.str "holds")))) (aV (cx (cO K (ab 0)) (fun _ _ _ _=>(ai 0)) (fun _ _ _ _=>cB) (fun _ _ _ _=>(tOp rEq (tOp (cD K) (ab 0) (tOp (cD K) (ab 1) (tC (.int 2)))) (tOp (cD K) (ab 1) (tC (.int 1))))) [none,some 2])) bK)
 (au (cu (bn (tOp rEq (ab 3) (tC (.str "sees")))) (aV (az (jH K) [] E0 (ac (cx (cO K (ab 0)) (fun _ _ _ _=>(ai 0)) (fun _ _ _ _=>cB) (fun _ _ _ _=>(az (fO K) [] E0 (ac (ab 0) (ac (tCB (fR K) (ac (ab 1) ah)) ah)))) [none,some 1]) (ac (tOp (bE K) (ab 1) (tOp (cD K) (ab 2) (tC (.int 1)))) ah)))) bK)
 (au (cu (bn (tOp rEq (ab 3) (tC (.str "not")))) (aV (cx (cO K (az (bw K n) [] E0 (ac (ab 0) (ac (ab 1) (ac (tOp (cD K) (ab 2) (tC (.int 1))) ah))))) (fun _ _ _ _=>(ai 0)) (fun _ _ _ _=>cB) (fun _ _ _ _=>(sW (ab 0))) [none])) bK)
 (au (cu (bn (tOp rEq (ab 3) (tC (.str "and")))) (aV (az (hU K) [] E0 (ac (az (bw K n) [] E0 (ac (ab 0) (ac (ab 1) (ac (tOp (cD K) (ab 2) (tC (.int 1))) ah)))) (ac (az (bw K n) [] E0 (ac (ab 0) (ac (ab 1) (ac (tOp (cD K) (ab 2) (tC (.int 2))) ah)))) ah)))) bK)
 (au (cu (bn (tOp rEq (ab 3) (tC (.str "or")))) (aV (az (hW K) [] E0 (ac (az (bw K n) [] E0 (ac (ab 0) (ac (ab 1) (ac (tOp (cD K) (ab 2) (tC (.int 1))) ah)))) (ac (az (bw K n) [] E0 (ac (ab 0) (ac (ab 1) (ac (tOp (cD K) (ab 2) (tC (.int 2))) ah)))) ah)))) bK)
 (au (ay (az (bw K n) [] E0 (ac (ab 0) (ac (ab 1) (ac (tOp (cD K) (ab 2) (tC (.int 2))) ah)))) (ai 4))
 (au (cu (bn (tOp rEq (ab 3) (tC (.str "knows")))) (aV (az (d5 K) [] E0 (ac (tOp (bE K) (ab 1) (tOp (cD K) (ab 2) (tC (.int 1)))) (ac (ab 4) ah)))) bK)
 (au (ay (cx (tM K (tOp (cD K) (ab 2) (tC (.int 1)))) (fun _ _ _ _=>(ai 0)) (fun _ _ _ _=>cB) (fun _ _ _ _=>(tOp (bE K) (ab 1) (ab 0))) [none,some 1]) (ai 5))
 (au (cu (bn (tOp rEq (ab 3) (tC (.str "all")))) (aV (az (dD K) [] E0 (ac (ab 5) (ac (ab 4) ah)))) bK)
 (aV (az (d5 K) [] E0 (ac (az (hJ K) [] E0 (ac (tCB (fR K) (ac (ab 0) ah)) (ac (ab 5) ah))) (ac (ab 4) ah))))))))))))))
noncomputable abbrev vI:List Str:=["deals","views","S","word","inner","some"]
theorem r9 {K:PySem.W.Frag} {n:Nat} {vs:List V} {H:Hp} {Q:VK} {E:XK} (h:bw K n vs H Q E):vs.length=3:=by
 obtain ⟨a,b,x,c,n,ws,vs,s,rfl,_⟩:=h
 rfl
theorem mM {K:PySem.W.Frag} {vs:List V} {H:Hp} {Q:VK} {E:XK} (h:bw K 0 vs H Q E):False:=by
 obtain ⟨a,b,x,c,n,ws,vs,s,rfl,_,_,_,h,_⟩:=h
 have:=s.words_pos
 omega
theorem xm {H:Hp} {rs:List Addr} {ps:List (List Int)} {r:Addr} {xs:List Int} (h:Paired (fun (r:Addr) (xs:List Int)=>H r=some (.tup (xs.map V.int))) rs ps) (e:H r=some (.tup (xs.map V.int))):Paired (fun (r:Addr) (xs:List Int)=>H r=some (.tup (xs.map V.int))) (rs++[r]) (ps++[xs]):=by
 induction h with
 | nil=>exact .cons e .nil
 | cons a _ ih=>exact .cons a ih
theorem xn {H:Hp} {rs:List Addr} {vs:List (List Nat)} {r:Addr} {v:List Nat} (h:Paired (fun (r:Addr) (v:List Nat)=>H r=some (.lst (ap v))) rs vs) (e:H r=some (.lst (ap v))):Paired (fun (r:Addr) (v:List Nat)=>H r=some (.lst (ap v))) (rs++[r]) (vs++[v]):=by
 induction h with
 | nil=>exact .cons e .nil
 | cons a _ ih=>exact .cons a ih
theorem yF {K:PySem.W.Frag} {H:Hp} {b e:Addr} {g:List Nat} {vs:List (List Nat)} {Q:VK} {σ₀:St} {gg:CF TG} {tt:CF TT} {te:CF TE} (hV:cj H b vs) (hg:∀ k∈g,k < vs.length) (hgl:g.length<=1000) (eg:H e=some (.tup (ap g)))
  (hs:∀ C s' H' fp (k:Nat) (rs:List Addr) (r:Addr) H2 (R:V->Hp->Prop) (N:Hp->Prop),H2 b=some (.lst (rs.map V.ref))->atI (rs.map V.ref) (k:Int)=some (.ref r)->R (.ref r) H2->gg C s' H' fp (.int (k:Int)) σ₀ H2 fun σ2 H3=>tt C s' H' fp σ2 H3 fun c H4=>if c=true then te C s' H' fp σ2 H4 fun y H5=>R y H5 else N H4)
  (q:∀ p H',H p=none->ak H H'->cj H' p (g.map fun h=>vs.getD h [])->Q (.ref p) H'):
  ∃ a',V.ref e=.ref a'/\(∃ xs,SqT K H a' xs)/\∀ p,H p=none->∃ W:Nat->Nat->List V->Hp->Prop,(∃ m,W 0 m [] (upd H p (.lst [])))/\∀ C s' H' fp,b8 (Itt K a') (gg C s' H' fp) (tt C s' H' fp) (te C s' H' fp) σ₀ p Q W:=by
 obtain ⟨rs,eb,hl,hr⟩:=lH hV
 refine ⟨e,rfl,⟨_,SqT.of eg⟩,fun p hp=>tW (xs:=ap g) (fun i acc H2=>ak H H2/\H2 p=some (.lst acc)/\acc.length<=i/\∃ ts:List Addr,acc=ts.map V.ref/\Paired (fun (r:Addr) (v:List Nat)=>H r=some (.lst (ap v))) ts ((g.take i).map fun h=>vs.getD h [])) ⟨aP hp _,av,Nat.le_refl _,[],rfl,.nil⟩ (fun i acc H2 _ c=>⟨c.2.1,c.2.2.1⟩) (fun i acc H2 _ c=>c.1.tup (SqT.of eg)) (by rw [aB,sizeLine_eq]; omega) (fun C s' H' fp i x acc H2 hx c=>?_) fun acc H2 c=>?_⟩
 ·obtain ⟨k,hk,rfl⟩:=iP hx
  have hkm:=hg k (List.mem_of_getElem? hk)
  obtain ⟨r,hrk⟩:∃ r,rs[k]?=some r:=⟨_,List.getElem?_eq_getElem (by omega)⟩
  obtain ⟨v,hv,ev⟩:=hr k r hrk
  obtain ⟨s2,e2,l2,ts,rfl,ht⟩:=c
  refine hs C s' H' fp k rs r H2 _ _ (s2 _ _ eb) (bG (by rw [List.getElem?_map,hrk]; rfl)) ⟨e2,s2.upd hp _,av,by simp at l2 ⊢; omega,ts++[r],by simp,?_⟩
  rw [eK hk,List.map_append]
  exact xn ht (by show H r=some (.lst (ap (vs.getD k []))); rw [nA hv]; exact ev)
 ·obtain ⟨s2,e2,l2,ts,rfl,ht⟩:=c
  rw [aB,List.take_length] at ht
  exact q p H2 hp s2 ⟨ts,e2,Paired.mapP ht fun r v h=>s2 _ _ h⟩
section
open Classical
theorem uB {K:PySem.W.Frag} {m:Nat} {vals:List V} {H:Hp} {Q:VK} {E:XK} (h:bw K (m + 1) vals H Q E):i6 K m { nx:=fun _ H'=>Q .non H',rt:=Q } (start vI vals) H:=by
 obtain ⟨a,b,x,c,n,ws,vs,s,rfl,T,hS,hok,hw,q⟩:=h
 show i6 K m _ [some _,some _,some _,none,none,none] _
 unfold i6
 obtain ⟨rs,ea,hr⟩:=id T.deals
 have hlr:rs.length=ws.length:=Paired.length hr
 have hn:=T.small
 have hlen:=T.len
 cases s with
 | holds w k=>
  obtain ⟨t,rfl,et⟩:=hS
  obtain ⟨hwh,hkc⟩:=hok
  walk_at "rd"
  refine aY (SqT.of et) (i:=0) rfl ?_
  walk_at "rd"
  refine hG rfl ?_
  walk_at "rd"
  refine gm (rs.map V.ref) (SqL.of ea) (by rw [List.length_map]; omega) (fun i acc _=>acc=blV i (TR n ws vs (.holds w k))) (fun _ _=>rfl) ?_ ?_
  ·rintro p hp C s' H' fp i x acc H2 hx ⟨s2,e2,l2,rfl⟩
   obtain ⟨d,hd,rfl⟩:=jG hx
   obtain ⟨u,hu,eu⟩:=fo hr hd
   have huc:=T.cards u (List.mem_of_getElem? hu)
   have e1:u[k]?=some (u.getD k 0):=by rw [List.getD_eq_getElem?_getD,List.getElem?_eq_getElem (by omega)]; rfl
   walk_at "rd"
   refine aY (SqT.of (s2 _ _ et)) (i:=2) rfl ?_
   walk_at "rd"
   refine aY (SqT.of (s2 _ _ eu)) (d4 e1) ?_
   walk_at "rd"
   refine aY (SqT.of (s2 _ _ et)) (i:=1) rfl ?_
   walk_at "rd"
   refine bi.put hp (fun _ _ _ _ r _=>r) s2 e2 l2 ?_
   rw [fz]
   congr 3
   refine cde ?_
   show _↔(ws.getD i []).getD k 0=w
   rw [nA hu]
   omega
  ·rintro p acc H2 hp s2 e2 rfl
   rw [List.length_map,hlr,hlen] at e2
   exact q _ _ hp s2 e2
 | sees k=>
  obtain ⟨t,rfl,et⟩:=hS
  have hk:k < vs.length:=hok
  walk_at "rd"
  refine aY (SqT.of et) (i:=0) rfl ?_
  walk_at "rd"
  refine bI (by decide) ?_
  walk_at "rd"
  refine hG rfl ?_
  walk_at "rd"
  obtain ⟨vrs,evb,hvl,_⟩:=lH T.views
  refine gm (rs.map V.ref) (SqL.of ea) (by rw [List.length_map]; omega) (fun i acc H2=>∃ ts:List Addr,acc=ts.map V.ref/\Paired (fun (r:Addr) (xs:List Int)=>H2 r=some (.tup (xs.map V.int))) ts ((ws.take i).map fun w=>tj w (vs.length:Nat))) (fun _ _=>⟨[],rfl,.nil⟩) ?_ ?_
  ·rintro p hp C s' H' fp i x acc H2 hx ⟨s2,e2,l2,ts,rfl,ht⟩
   obtain ⟨d,hd,rfl⟩:=jG hx
   obtain ⟨u,hu,eu⟩:=fo hr hd
   have huc:=T.cards u (List.mem_of_getElem? hu)
   have:=T.few
   walk_at "rd"
   refine oU (SqL.of (s2 _ _ evb)) ?_
   walk_at "rd"
   rw [List.length_map,hvl]
   refine ⟨d,u.map fun (s:Nat)=>((s:Nat):Int),(vs.length:Nat),rfl,by rw [<-dP]; exact SqT.of (s2 _ _ eu),by rw [List.length_map]; omega,fun r H3 s3 e3=>?_⟩
   rw [List.length_map] at e3
   refine bi.put hp (fun _ _ _ _ ⟨ts,e,r⟩ k=>⟨ts,e,Paired.mapP r fun _ _ z=>k _ _ z⟩) (s2.trans s3) (s3 _ _ e2) l2 ⟨ts++[r],by simp,?_⟩
   rw [eK hu,List.map_append]
   exact xm (Paired.mapP ht fun _ _ z=>s3 _ _ z) e3
  ·rintro p acc H2 hp s2 e2 ⟨ts,rfl,ht⟩
   rw [List.length_map,hlr,List.take_length] at ht
   walk_at "rd"
   refine aY (SqT.of (s2 _ _ et)) (i:=1) rfl ?_
   walk_at "rd"
   obtain ⟨vr,r,e1,e3,e4,e5⟩:=iQ (T.views.same s2) hk
   refine aZ (SqL.of e1) e3 ?_
   walk_at "rd"
   exact ⟨p,r,n,vs.getD k [],_,rfl,⟨ts,e2,ht⟩,by rw [List.length_map]; exact hlen,e4,T.win _ e5,hn,fun p2 H3 hp2 s3 e6=>q p2 H3 (s2.free hp2) (s2.trans s3) e6⟩
 | not s=>
  obtain ⟨t,y,rfl,et,hy⟩:=hS
  have hw':s.words<=m:=by simp only [Sy.words] at hw; omega
  walk_at "rd"
  refine aY (SqT.of et) (i:=0) rfl ?_
  walk_at "rd"
  refine bI (by decide) ?_
  walk_at "rd"
  refine bI (by decide) ?_
  walk_at "rd"
  refine hG rfl ?_
  walk_at "rd"
  refine aY (SqT.of et) (i:=1) rfl ?_
  walk_at "rd"
  refine ⟨a,b,y,c,n,ws,vs,s,rfl,T,hy,hok,hw',fun l H1 hl s1 e1=>?_⟩
  walk_at "rd"
  refine gm _ (SqL.of e1) (by rw [dk]; omega) (fun i acc _=>acc=blV i (TR n ws vs (.not s))) (fun _ _=>rfl) ?_ ?_
  ·rintro p hp C s' H' fp i x acc H2 hx ⟨s2,e2,l2,rfl⟩
   obtain ⟨hi,rfl⟩:=kG hx
   walk_at "rd"
   refine bi.put hp (fun _ _ _ _ r _=>r) s2 e2 l2 ?_
   rw [fz]
   congr 3
   by_cases z:TR n ws vs s i
   ·rw [decide_eq_true z]; exact cdf fun h=>h z
   ·rw [decide_eq_false z]; exact cdt z
  ·rintro p acc H2 hp s2 e2 rfl
   rw [dk] at e2
   exact q _ _ (s1.free hp) (s1.trans s2) e2
 | and s t=>
  obtain ⟨u,y,z,rfl,et,hy,hz⟩:=hS
  have hw1:s.words<=m:=by simp only [Sy.words] at hw; omega
  have hw2:t.words<=m:=by simp only [Sy.words] at hw; omega
  walk_at "rd"
  refine aY (SqT.of et) (i:=0) rfl ?_
  walk_at "rd"
  refine bI (by decide) ?_
  walk_at "rd"
  refine bI (by decide) ?_
  walk_at "rd"
  refine bI (by decide) ?_
  walk_at "rd"
  refine hG rfl ?_
  walk_at "rd"
  refine aY (SqT.of et) (i:=1) rfl ?_
  walk_at "rd"
  refine ⟨a,b,y,c,n,ws,vs,s,rfl,T,hy,hok.1,hw1,fun l H1 hl s1 e1=>?_⟩
  walk_at "rd"
  refine aY (SqT.of (s1 _ _ et)) (i:=2) rfl ?_
  walk_at "rd"
  refine ⟨a,b,z,c,n,ws,vs,t,rfl,T.same s1,hz.keep s1.keep,hok.2,hw2,fun l2 H2 hl2 s2 e2=>?_⟩
  walk_at "rd"
  exact ⟨l,l2,n,_,_,rfl,s2 _ _ e1,e2,hn,fun p H3 hp s3 e3=>q p H3 (s1.free (s2.free hp)) ((s1.trans s2).trans s3) e3⟩
 | or s t=>
  obtain ⟨u,y,z,rfl,et,hy,hz⟩:=hS
  have hw1:s.words<=m:=by simp only [Sy.words] at hw; omega
  have hw2:t.words<=m:=by simp only [Sy.words] at hw; omega
  walk_at "rd"
  refine aY (SqT.of et) (i:=0) rfl ?_
  walk_at "rd"
  refine bI (by decide) ?_
  walk_at "rd"
  refine bI (by decide) ?_
  walk_at "rd"
  refine bI (by decide) ?_
  walk_at "rd"
  refine bI (by decide) ?_
  walk_at "rd"
  refine hG rfl ?_
  walk_at "rd"
  refine aY (SqT.of et) (i:=1) rfl ?_
  walk_at "rd"
  refine ⟨a,b,y,c,n,ws,vs,s,rfl,T,hy,hok.1,hw1,fun l H1 hl s1 e1=>?_⟩
  walk_at "rd"
  refine aY (SqT.of (s1 _ _ et)) (i:=2) rfl ?_
  walk_at "rd"
  refine ⟨a,b,z,c,n,ws,vs,t,rfl,T.same s1,hz.keep s1.keep,hok.2,hw2,fun l2 H2 hl2 s2 e2=>?_⟩
  walk_at "rd"
  exact ⟨l,l2,n,_,_,rfl,s2 _ _ e1,e2,hn,fun p H3 hp s3 e3=>q p H3 (s1.free (s2.free hp)) ((s1.trans s2).trans s3) e3⟩
 | knows k s=>
  obtain ⟨t,y,rfl,et,hy⟩:=hS
  have hw':s.words<=m:=by simp only [Sy.words] at hw; omega
  walk_at "rd"
  refine aY (SqT.of et) (i:=0) rfl ?_
  walk_at "rd"
  refine bI (by decide) ?_
  walk_at "rd"
  refine bI (by decide) ?_
  walk_at "rd"
  refine bI (by decide) ?_
  walk_at "rd"
  refine bI (by decide) ?_
  walk_at "rd"
  refine bI (by decide) ?_
  walk_at "rd"
  refine aY (SqT.of et) (i:=2) rfl ?_
  walk_at "rd"
  refine ⟨a,b,y,c,n,ws,vs,s,rfl,T,hy,hok.2,hw',fun l H1 hl s1 e1=>?_⟩
  walk_at "rd"
  refine hG rfl ?_
  walk_at "rd"
  refine aY (SqT.of (s1 _ _ et)) (i:=1) rfl ?_
  walk_at "rd"
  obtain ⟨vr,r,e2,e3,e4,e5⟩:=iQ (T.views.same s1) hok.1
  refine aZ (SqL.of e2) e3 ?_
  walk_at "rd"
  exact ⟨r,l,n,vs.getD k [],_,rfl,e4,e1,T.win _ e5,hn,fun p2 H3 hp2 s3 e6=>q p2 H3 (s1.free hp2) (s1.trans s3) e6⟩
 | all g s=>
  obtain ⟨t,u,y,rfl,et,eu,hy⟩:=hS
  have hw':s.words<=m:=by simp only [Sy.words] at hw; omega
  obtain ⟨⟨hpw,hg⟩,hok'⟩:=hok
  walk_at "rd"
  refine aY (SqT.of et) (i:=0) rfl ?_
  walk_at "rd"
  refine bI (by decide) ?_
  walk_at "rd"
  refine bI (by decide) ?_
  walk_at "rd"
  refine bI (by decide) ?_
  walk_at "rd"
  refine bI (by decide) ?_
  walk_at "rd"
  refine bI (by decide) ?_
  walk_at "rd"
  refine aY (SqT.of et) (i:=2) rfl ?_
  walk_at "rd"
  refine ⟨a,b,y,c,n,ws,vs,s,rfl,T,hy,hok',hw',fun l H1 hl s1 e1=>?_⟩
  walk_at "rd"
  refine bI (by decide) ?_
  walk_at "rd"
  refine aY (SqT.of (s1 _ _ et)) (i:=1) rfl ?_
  refine yF (T.views.same s1) hg (Nat.le_trans (pB hpw hg) T.hands) (s1 _ _ eu) ?_ ?_
  ·intro C s' H' fp k rs r H2 R N e2 e3 hR
   walk_at "rd"
   exact aZ (SqL.of e2) e3 hR
  ·intro p H2 hp s2 V2
   walk_at "rd"
   refine hG rfl ?_
   walk_at "rd"
   refine ⟨p,l,n,_,_,rfl,V2,s2 _ _ e1,?_,hn,fun p2 H3 hp2 s3 e6=>q p2 H3 (s1.free (s2.free hp2)) ((s1.trans s2).trans s3) e6⟩
   intro v hv
   obtain ⟨k,hk,rfl⟩:=List.mem_map.mp hv
   obtain ⟨_,_,_,_,_,e5⟩:=iQ T.views (hg k hk)
   exact T.win _ e5
 | common g s=>
  obtain ⟨t,u,y,rfl,et,eu,hy⟩:=hS
  have hw':s.words<=m:=by simp only [Sy.words] at hw; omega
  obtain ⟨⟨hpw,hg⟩,hok'⟩:=hok
  walk_at "rd"
  refine aY (SqT.of et) (i:=0) rfl ?_
  walk_at "rd"
  refine bI (by decide) ?_
  walk_at "rd"
  refine bI (by decide) ?_
  walk_at "rd"
  refine bI (by decide) ?_
  walk_at "rd"
  refine bI (by decide) ?_
  walk_at "rd"
  refine bI (by decide) ?_
  walk_at "rd"
  refine aY (SqT.of et) (i:=2) rfl ?_
  walk_at "rd"
  refine ⟨a,b,y,c,n,ws,vs,s,rfl,T,hy,hok',hw',fun l H1 hl s1 e1=>?_⟩
  walk_at "rd"
  refine bI (by decide) ?_
  walk_at "rd"
  refine aY (SqT.of (s1 _ _ et)) (i:=1) rfl ?_
  refine yF (T.views.same s1) hg (Nat.le_trans (pB hpw hg) T.hands) (s1 _ _ eu) ?_ ?_
  ·intro C s' H' fp k rs r H2 R N e2 e3 hR
   walk_at "rd"
   exact aZ (SqL.of e2) e3 hR
  ·intro p H2 hp s2 V2
   have s12:=s1.trans s2
   have hwin:∀ v∈g.map (fun h=>vs.getD h []),Within n v:=by
    intro v hv
    obtain ⟨k,hk,rfl⟩:=List.mem_map.mp hv
    obtain ⟨_,_,_,_,_,e5⟩:=iQ T.views (hg k hk)
    exact T.win _ e5
   walk_at "rd"
   refine bI (by decide) ?_
   walk_at "rd"
   refine oU (SqL.of (s12 _ _ ea)) ?_
   walk_at "rd"
   rw [List.length_map,hlr,hlen]
   refine ⟨n,p,_,rfl,V2,hwin,hn,fun r j H3 hj hjn s3 e3=>?_⟩
   walk_at "rd"
   refine ⟨j,l,n,r,_,rfl,e3,s3 _ _ (s2 _ _ e1),vH hj,hn,fun p2 H4 hp2 s4 e4=>q p2 H4 (s1.free (s2.free (s3.free hp2))) ((s12.trans s3).trans s4) ?_⟩
   rw [e4]
   congr 2
   exact mL fun i hi=>Bl hj hi
end
end L2
end
section
namespace L2
open PySem PyProof.Rows
noncomputable def GE (P:Hp->V->Prop) (σ:St) (H0:Hp) (te:TE):Prop:=∀ H,ak H0 H->∀ Q:VK,(∀ x H',ak H H'->P H' x->Q x H')->te σ H Q
noncomputable def GA (P:Hp->V->Prop) (σ:St) (H0:Hp) (n:Nat) (ta:TA):Prop:=∀ H,ak H0 H->∀ R:List V->Hp->Prop,(∀ xs H',ak H H'->xs.length=n->(∀ x∈xs,P H' x)->R xs H')->ta σ H R
theorem GA.nil {P:Hp->V->Prop} {σ:St} {H0:Hp}:GA P σ H0 0 ah:=fun H s R q=>AB (q [] H (ak.refl _) rfl fun _ h=>(nomatch h))
theorem GA.cons {P:Hp->V->Prop} (st:∀ H H' x,ak H H'->P H x->P H' x) {σ:St} {H0:Hp} {n:Nat} {te:TE} {tr:TA} (b:GE P σ H0 te) (t:GA P σ H0 n tr):GA P σ H0 (n + 1) (ac te tr):=fun H s R q=>
 yf (b H s _ fun x H1 s1 px=>t H1 (s.trans s1) _ fun xs H2 s2 hl hb=>q (x :: xs) H2 (s1.trans s2) (by rw [List.length_cons,hl]) fun y hy=>by
  rcases List.mem_cons.mp hy with rfl | hy
  ·exact st _ _ _ s2 px
  ·exact hb y hy)
theorem mN {P:Hp->V->Prop} (st:∀ H H' x,ak H H'->P H x->P H' x) {σ:St} {H0 H:Hp} {n:Nat} {ta:TA} {R:List V->Hp->Prop} (s:ak H0 H) (b:GA P σ H0 n ta) (q:∀ xs H',ak H H'->xs.length=n->(∀ x∈xs,P H' x)->R xs H'):ta σ H R:=b H s R q
theorem lK (z:Int) {m:Int} (h:0 < m):∃ k:Nat,z % m=(k:Int)/\(k:Int) < m:=by
 have m1:=Int.emod_nonneg z (b:=m) (by omega)
 have m2:=Int.emod_lt_of_pos z h
 exact ⟨(z % m).toNat,by omega,by omega⟩
end L2
end
section
namespace L2
open PySem PyProof.Rows
noncomputable def i8 (K:PySem.W.Frag):TS:=(au (ay (tOp (rI (fun _ j=>0 < j) fun i j=>.int (i % j)) (az (aK K) [] E0 (ac (ab 0) (ac (ab 1) ah))) (tC (.int 8))) (ai 3))
 (au (cu (bn (tOp rEq (tOp (rI (fun _ j=>0 < j) fun i j=>.int (i % j)) (tOp (rI fW fun i j=>.int (i / j)) (az (aK K) [] E0 (ac (ab 0) (ac (ab 1) ah))) (tC (.int 8))) (tC (.int 16))) (tC (.int 5)))) (ay (tOp (rI0 fun i j=>.int (i + j)) (tC (.int 8)) (tOp (rI (fun _ j=>0 < j) fun i j=>.int (i % j)) (tOp (rI fW fun i j=>.int (i / j)) (az (aK K) [] E0 (ac (ab 0) (ac (ab 1) ah))) (tC (.int 128))) (tC (.int 5)))) (ai 3)) bK)
 (au (ay (dY ah) (ai 4))
 (au (dc (gi (ac (tOp (rI0 fun i j=>.int (i + j)) (tC (.int 1)) (tOp (rI (fun _ j=>0 < j) fun i j=>.int (i % j)) (az (aK K) [] E0 (ac (ab 0) (ac (tOp (rI0 fun i j=>.int (i + j)) (ab 1) (tC (.int 1))) ah))) (tC (.int 5)))) ah)) (ai 5) (gh (tBM K "list" eo (ab 4) (ac (tOp (rI (fun _ j=>0 < j) fun i j=>.int (i % j)) (az (aK K) [] E0 (ac (ab 0) (ac (tOp (rI0 fun i j=>.int (i + j)) (tOp (rI0 fun i j=>.int (i + j)) (ab 1) (tC (.int 2))) (ab 5)) ah))) (tOp (rI0 fun i j=>.int (i + j)) (tCB wP (ac (tC (.int 4)) (ac (tOp (rI0 fun i j=>.int (i - j)) (ab 3) (tCB (om K) (ac (ab 4) ah))) ah))) (tC (.int 1)))) ah))))
 (au (jN (bn (tOp (rI0 fun i j=>.bl (decide (j < i))) (az (dI K) [] E0 (ac (ab 3) (ac (ab 4) ah))) (ab 2))) (au (cu (bn (tOp (rI0 fun i j=>.bl (decide (j < i))) (tCB (qg K) (ac (ab 4) ah)) (tOp (rI0 fun i j=>.int (i - j)) (ab 3) (tCB (om K) (ac (ab 4) ah))))) (ay (tOp (rI0 fun i j=>.int (i - j)) (tCB (qg K) (ac (ab 4) ah)) (tC (.int 1))) (jM (ab 4) (tBM K "list" ua (ab 4) (ac (tCB (qg K) (ac (ab 4) ah)) ah)) iY)) bK)
 (ay (tOp (rI0 fun i j=>.int (i - j)) (ab 3) (tC (.int 1))) (ai 3))))
 (aV (ci (ac (ab 3) (ac (ab 4) ah)))))))))
theorem sd {K:PySem.W.Frag} {vs:List V} {H:Hp} {Q:VK} {E:XK} (h:fb K vs H Q E):vs.length=3:=by
 obtain ⟨a,ns,at_,most,rfl,hSc,ha0,ha1,hm,g⟩:=h
 rfl
theorem uC {K:PySem.W.Frag} {vs:List V} {H:Hp} {Q:VK} {E:XK} (h:fb K vs H Q E):i8 K { nx:=fun _ H'=>Q .non H',rt:=Q } (start ["_law_script","_law_at","_law_most","_law_cards","_law_sizes","_law_k"] vs) H:=by
 obtain ⟨a,ns,at_,most,rfl,hSc,ha0,ha1,hm,g⟩:=h
 show i8 K _ [some _,some _,some _,none,none,none] _
 unfold i8
 refine ft ?_
 walk_at "rs"
 refine ⟨a,ns,at_,rfl,hSc,ha0,by omega,?_⟩
 walk_at "rs"
 refine nk fun NX hNX=>?_
 have key:∀ c:Nat,c<=12->NX [some (.ref a),some (.int at_),some (.int most),some (.int c),none,none] H:=by
  intro c hc
  refine hNX _ _ ?_
  refine ft ?_
  walk_at "rs"
  refine ⟨by simp [sizeLine_eq],fun q H1 hq s1 e1=>?_⟩
  walk_at "rs"
  refine nk fun NX hNX=>?_
  have hSc1:=hSc.same s1
  walk_at "rs"
  refine ⟨a,ns,at_ + 1,rfl,hSc1,by omega,by omega,?_⟩
  walk_at "rs"
  refine iN (1 + cz ns (at_ + 1) % 5).toNat rfl (by omega) (by omega) (fun i σ H2=>∃ (ss:List Nat) (st:Option V),σ=[some (.ref a),some (.int at_),some (.int most),some (.int c),some (.ref q),st]/\ak H H2/\H2 q=some (.lst (ap ss))/\ss.length=i/\ss.sum<=c) ⟨[],none,rfl,s1,e1,rfl,Nat.zero_le _⟩ ?_ ?_
  ·rintro i σ H2 hi ⟨ss,st,rfl,s2,e2,hl,hs⟩
   have hSc2:=hSc.same s2
   walk_at "rd"
   refine ⟨iZ e2,?_⟩
   walk_at "rd"
   refine ⟨a,ns,at_ + 2 + (i:Int),rfl,hSc2,by omega,by omega,?_⟩
   walk_at "rd"
   refine wQ (ns:=ss.map fun (s:Nat)=>((s:Nat):Int)) (by rw [<-dP]; exact SqL.of e2) ?_
   walk_at "rd"
   rw [gY]
   obtain ⟨lst,hlst,hlst2⟩:∃ l:Nat,(if (c:Int) - ((ss.sum:Nat):Int) < 4 then (c:Int) - ((ss.sum:Nat):Int) else 4)=(l:Int)/\l<=c - ss.sum:=by
    by_cases h:(c:Int) - ((ss.sum:Nat):Int) < 4
    ·exact ⟨c - ss.sum,by rw [if_pos h]; omega,Nat.le_refl _⟩
    ·exact ⟨4,by rw [if_neg h]; rfl,by omega⟩
   rw [hlst]
   walk_at "rd"
   obtain ⟨z,hz,hz2⟩:∃ z:Nat,cz ns (at_ + 2 + (i:Int)) % ((lst:Int) + 1)=(z:Int)/\z<=lst:=by
    have m1:=Int.emod_nonneg (cz ns (at_ + 2 + (i:Int))) (b:=(lst:Int) + 1) (by omega)
    have m2:=Int.emod_lt_of_pos (cz ns (at_ + 2 + (i:Int))) (b:=(lst:Int) + 1) (by omega)
    exact ⟨(cz ns (at_ + 2 + (i:Int)) % ((lst:Int) + 1)).toNat,by omega,by omega⟩
   rw [hz]
   refine fv e2 (by rw [aB,sizeLine_eq]; omega) fun H4 o4 e4=>?_
   rw [dv] at e4
   refine ⟨ss++[z],_,rfl,s2.off hq o4,e4,by rw [List.length_append,hl]; rfl,?_⟩
   rw [List.sum_append,List.sum_cons,List.sum_nil]
   omega
  ·rintro σ H2 ⟨ss,st,rfl,s2,e2,hl,hs⟩
   exact hNX _ _ (yx s2 hq e2 (by omega) (by omega) hs hc hm g)
 walk_at "rs"
 refine ⟨a,ns,at_,rfl,hSc,ha0,by omega,?_⟩
 walk_at "rs"
 refine cC (fun hb=>?_) (fun hb=>?_)
 ·walk_at "rs"
  refine ⟨a,ns,at_,rfl,hSc,ha0,by omega,?_⟩
  walk_at "rs"
  have:=key (8 + cz ns at_ / 128 % 5).toNat (by omega)
  rw [show (((8 + cz ns at_ / 128 % 5).toNat:Nat):Int)=8 + cz ns at_ / 128 % 5 by omega] at this
  exact this
 ·walk_at "rs"
  have:=key (cz ns at_ % 8).toNat (by omega)
  rw [show (((cz ns at_ % 8).toNat:Nat):Int)=cz ns at_ % 8 by omega] at this
  exact this
end L2
end
section
namespace L2
open PySem PyProof.Rows
open KF
section
open Classical
end
noncomputable def Rep (n:Nat) (v:List Nat):Prop:=∀ i,i < n->v.getD (v.getD i 0) 0=v.getD i 0
theorem yG {α:Type} [DecidableEq α] {ks:List α} {n:Nat} (h:ks.length=n):Within n (cW ks)/\Rep n (cW ks):=by
 refine ⟨⟨by rw [gq]; exact h,fun x hx=>?_⟩,fun i hi=>?_⟩
 ·obtain ⟨i,hi⟩:=List.mem_iff_getElem?.mp hx
  obtain ⟨_,_,_,hle⟩:=wU hi
  have:=(List.getElem?_eq_some_iff.mp hi).1
  rw [gq] at this
  omega
 ·obtain ⟨k,hk⟩:∃ k,ks[i]?=some k:=⟨_,List.getElem?_eq_getElem (by omega)⟩
  have hm:=List.mem_of_getElem? hk
  have e1:(cW ks).getD i 0=ks.idxOf k:=by unfold cW; rw [List.getD_eq_getElem?_getD,List.getElem?_map,hk]; rfl
  have e2:ks[ks.idxOf k]?=some k:=by rw [List.getElem?_eq_getElem (List.idxOf_lt_length_of_mem hm),List.getElem_idxOf]
  have e3:(cW ks).getD (ks.idxOf k) 0=ks.idxOf k:=by unfold cW; rw [List.getD_eq_getElem?_getD,List.getElem?_map,e2]; rfl
  rw [e1,e3]
noncomputable def eC (K:PySem.W.Frag):Sp:=fun vals H Q _=>∃ (a b:Addr) (ns:List Int) (at_:Int) (h:Nat) (ws:List (List Nat)),vals=[.ref a,.int at_,.ref b,.int (h:Int)]/\dX K H a ns/\0<=at_/\at_<=1000/\h<=5/\cY H b ws/\(∀ w∈ws,w.length<=1000)/\ws.length<=2000/\
 ∀ (fs:List (List Nat)) p H',fs.length=h->(∀ v∈fs,Within ws.length v/\Rep ws.length v)->H p=none->ak H H'->cj H' p fs->Q (.ref p) H'
noncomputable def ik (K:PySem.W.Frag):TS:=(au (ay (dY ah) (ai 4))
 (au (dc (gi (ac (ab 3) ah)) (ai 5) (au (ay (tOp (rI (fun _ j=>0 < j) fun i j=>.int (i % j)) (az (aK K) [] E0 (ac (ab 0) (ac (tOp (rI0 fun i j=>.int (i + j)) (ab 1) (ab 5)) ah))) (tC (.int 3))) (ai 6))
 (au (ay (tOp (rI (fun _ j=>0 < j) fun i j=>.int (i % j)) (tOp (rI fW fun i j=>.int (i / j)) (az (aK K) [] E0 (ac (ab 0) (ac (tOp (rI0 fun i j=>.int (i + j)) (ab 1) (ab 5)) ah))) (tC (.int 3))) (tOp (rI BK fun i j=>.int (i ^ j.toNat)) (tC (.int 10)) (tC (.int 9)))) (ai 7))
 (au (ay (dY ah) (ai 8))
 (au (dc (gK bu K (ac (ab 2) ah)) (eX K 2 (bt (ai 9) (bt (ai 10) eW))) (au (ay (az (eA K) [] E0 (ac (ab 7) (ac (ab 9) ah))) (ai 11))
 (au (ay (tCB (no K) (ac (cx (gK mE K (ac (ab 10) ah)) (fun _ _ _ _=>(eX K 2 (bt (ai 0) (bt (ai 1) eW)))) (fun _ _ _ _=>(bn (tOp rEq (ab 1) (ab 2)))) (fun _ _ _ _=>(ab 0)) [none,none,some 5]) ah)) (ai 12))
 (gh (tBM K "list" eo (ab 8) (ac (tOp (bE K) (dY (ac (ab 12) (ac (ci (ac (ab 12) (ac (tOp (rI (fun _ j=>0 < j) fun i j=>.int (i % j)) (ab 11) (tC (.int 2))) ah))) (ac (tOp (rI (fun _ j=>0 < j) fun i j=>.int (i % j)) (ab 11) (tOp (rI0 fun i j=>.int (i + j)) (tC (.int 1)) (tOp (rI (fun _ j=>0 < j) fun i j=>.int (i % j)) (ab 7) (tC (.int 9))))) ah)))) (ab 6)) ah))))))
 (gh (tBM K "list" eo (ab 4) (ac (az (eB K) [] E0 (ac (ab 8) ah)) ah))))))))
 (aV (ab 4))))
theorem yH {K:PySem.W.Frag} {H:Hp} {d:Addr} {w:List Nat} {h:Int} {Q:VK} (e:H d=some (.tup (ap w))) (hl:w.length<=1000) (q:∀ p H',H p=none->ak H H'->H' p=some (.lst ((tj w h).map V.int))->Q (.ref p) H'):
  ∃ a' xs',[V.ref d]=[.ref a']/\mE.Sq K H a' xs'/\∀ p,H p=none->∃ W:Nat->Nat->List V->Hp->Prop,(∃ m,W 0 m [] (upd H p (.lst [])))/\∀ (C:Addr) (s':Shared) (H':Hp) (fp:List Addr),b8 (Ite mE K a') (eX K 2 (bt (ai 0) (bt (ai 1) eW))) (bn (tOp rEq (ab 1) (ab 2))) (ab 0) [none,none,some (.int h)] p Q W:=by
 rw [dP] at e
 refine wl (g:=fun _ _ _ _=>eX K 2 (bt (ai 0) (bt (ai 1) eW))) (tt:=fun _ _ _ _=>bn (tOp rEq (ab 1) (ab 2))) (te:=fun _ _ _ _=>ab 0) (S:=mE) _ (SqT.of e) (fun H' s=>s.tup (SqT.of e)) (by rw [List.length_map,List.length_map]; omega) (fun i acc _=>acc=(lD (w.map fun (s:Nat)=>((s:Nat):Int)) h i).map V.int) (fun H' _=>rfl) ?_ ?_
 ·rintro r hr C s' H' fp i x T acc H2 H3 hx ⟨s2,e2,l2,rfl⟩ hT s3 e3 e4
  obtain ⟨z,hz,rfl⟩:=yv hx
  refine eJ (SqT.of e3) ?_
  walk_at "rd"
  have eu:=rQ (w.map fun (s:Nat)=>((s:Nat):Int)) h i
  refine cC (fun c=>?_) (fun c=>?_)
  ·walk_at "rd"
   refine bi.put hr (fun _ _ _ _ r _=>r) (s2.trans s3) e4 l2 ?_
   rw [eu,if_pos (by rw [hz,c]),List.map_append]
   rfl
  ·refine bi.skip (s2.trans s3) e4 l2 ?_
   rw [eu,if_neg (by rw [hz]; intro z; exact c (Option.some.inj z)),List.append_nil]
 ·rintro p acc H2 hp s2 e2 rfl
  rw [List.length_map,List.length_map] at e2
  exact q _ _ hp s2 e2
theorem zW {H:Hp} {c d:Addr} {ns:List Int} {z:Int} (e:H c=some (.tup [.ref d,.int z])) (ed:H d=some (.tup (ns.map V.int))):cL H (.ref c) (.inr [.inr (ns.map some),.inl (some z)]):=
 ⟨c,_,rfl,e,.cons ⟨d,_,rfl,ed,by rw [List.map_map,List.map_map]; rfl⟩ (.cons rfl .nil)⟩
theorem vJ {H:Hp} {w r:Addr} {rs:List Addr} {fs:List (List Nat)} {u:List Nat} (h:Paired (fun (r:Addr) (v:List Nat)=>H r=some (.lst (ap v))/\r≠w) rs fs) (h1:H r=some (.lst (ap u))) (h2:r≠w):Paired (fun (r:Addr) (v:List Nat)=>H r=some (.lst (ap v))/\r≠w) (rs++[r]) (fs++[u]):=by
 induction h with
 | nil=>exact .cons ⟨h1,h2⟩ .nil
 | cons h _ ih=>exact .cons h ih
theorem qq {K:PySem.W.Frag} {vs:List V} {H:Hp} {Q:VK} {E:XK} (h:eC K vs H Q E):vs.length=4:=by
 obtain ⟨a,b,ns,at_,h,ws,rfl,hSc,h0,h1,h5,hD,hw,hl,q⟩:=h
 rfl
theorem se {K:PySem.W.Frag} {vs:List V} {H:Hp} {Q:VK} {E:XK} (h:eC K vs H Q E):ik K { nx:=fun _ H'=>Q .non H',rt:=Q } (start ["_law_script","_law_at","_law_deals","_law_hands","_law_views_here","_law_hand","_law_way","_law_base","_law_signs","_law_place","_law_deal","_law_number","_law_own"] vs) H:=by
 obtain ⟨a,b,ns,at_,h,ws,rfl,hSc,h0,h1,h5,hD,hw,hl,q⟩:=h
 show ik K _ [some _,some _,some _,some _,none,none,none,none,none,none,none,none,none] _
 unfold ik
 obtain ⟨rs,eb,hr⟩:=id hD
 have hlr:rs.length=ws.length:=Paired.length hr
 walk_at "rd"
 refine ⟨by simp [sizeLine_eq],fun w H1 hw1 s1 e1=>?_⟩
 walk_at "rd"
 refine iN h (by omega) (by omega) (by omega) (fun i σ H2=>∃ (u1 u2 u3 u4 u5 u6 u7 u8:Option V) (ts:List Addr) (fs:List (List Nat)),σ=[some (.ref a),some (.int at_),some (.ref b),some (.int (h:Int)),some (.ref w),u1,u2,u3,u4,u5,u6,u7,u8]/\ak H H2/\H2 w=some (.lst (ts.map V.ref))/\fs.length=i/\Paired (fun (r:Addr) (v:List Nat)=>H2 r=some (.lst (ap v))/\r≠w) ts fs/\∀ v∈fs,Within ws.length v/\Rep ws.length v) ?_ ?_ ?_
 ·exact ⟨_,_,_,_,_,_,_,_,[],[],rfl,s1,e1,rfl,.nil,fun v hv=>by simp at hv⟩
 ·rintro i σ H2 hi ⟨u1,u2,u3,u4,u5,u6,u7,u8,ts,fs,rfl,s2,e2,l2,p2,g2⟩
  have hSc2:=hSc.same s2
  walk_at "rd"
  refine ⟨a,ns,at_ + (i:Int),rfl,hSc2,by omega,by omega,?_⟩
  walk_at "rd"
  refine ⟨a,ns,at_ + (i:Int),rfl,hSc2,by omega,by omega,?_⟩
  walk_at "rd"
  obtain ⟨bs,hbs,hbs1⟩:=qo (z:=cz ns (at_ + (i:Int)) / 3) (m:=1000000000) (by decide)
  rw [show (10:Int) ^ (9:Int).toNat=((1000000000:Nat):Int) by decide,hbs]
  refine ⟨by simp [sizeLine_eq],fun sg H3 hsg s3 e3=>?_⟩
  have hsgH:H sg=none:=s2.free hsg
  have nsw:sg≠w:=(aJ e2 hsg).symm
  generalize hway:cz ns (at_ + (i:Int))=cl
  walk_at "rd"
  refine jE (S:=bu) (rs.map V.ref) (SqL.of (s3 _ _ (s2 _ _ eb))) (fun j σ H4=>∃ (u5 u6 u7 u8:Option V) (xs:List V) (ks:List MK),σ=[some (.ref a),some (.int at_),some (.ref b),some (.int (h:Int)),some (.ref w),some (.int (i:Int)),some (.int (cl % 3)),some (.int (bs:Int)),some (.ref sg),u5,u6,u7,u8]/\ak H2 H4/\H4 sg=some (.lst xs)/\Paired (cL H4) xs ks/\ks.length=j/\∀ k∈ks,gn k=!decide (cl % 3=2)) ?_ ?_ ?_ ?_
  ·exact ⟨_,_,_,_,[],[],rfl,s3,e3,.nil,rfl,fun k hk=>by simp at hk⟩
  ·rintro j σ H4 hj ⟨u5,u6,u7,u8,xs,ks,rfl,s4,_⟩
   exact SqL.of (s4 _ _ (s2 _ _ eb))
  ·rintro j x T σ H4 H5 hx ⟨u5,u6,u7,u8,xs,ks,rfl,s4,e4,k4,l4,so4⟩ hT s5 eT
   obtain ⟨d,hd,rfl⟩:=jG hx
   obtain ⟨u,hu,eu⟩:=fo hr hd
   have hj:j < ws.length:=(List.getElem?_eq_some_iff.mp hu).1
   have hul:=hw u (List.mem_of_getElem? hu)
   refine eJ (SqT.of eT) ?_
   walk_at "rd"
   refine ⟨(bs:Int),(j:Int),rfl,by omega,by omega,by omega,by omega,fun z z0 z1=>?_⟩
   walk_at "rd"
   refine yH (h:=(i:Int)) (s5 _ _ (s4 _ _ (s2 _ _ eu))) hul fun l H6 hl6 s6 e6=>?_
   walk_at "rd"
   refine wf (SqL.of e6) fun o H7 ho s7 e7=>?_
   have e47:=s7 _ _ (s6 _ _ (s5 _ _ e4))
   walk_at "rd"
   refine ⟨iZ e47,?_⟩
   walk_at "rd"
   refine ⟨by simp [sizeLine_eq],fun o2 H8 ho2 s8 e8=>?_⟩
   walk_at "rd"
   refine ⟨by simp [sizeLine_eq],fun tl H9 htl s9 e9=>?_⟩
   walk_at "rd"
   have s59:=(((s5.trans s6).trans s7).trans s8).trans s9
   have e49:=s59 _ _ e4
   obtain ⟨y,ky,hy,hky,hso⟩:∃ (y:V) (ky:MK),atI [V.ref o,V.ref o2,V.int (z % (1 + (bs:Int) % 9))] (cl % 3)=some y/\cL H9 y ky/\gn ky=!decide (cl % 3=2):=by
    have h3:cl % 3=0\/cl % 3=1\/cl % 3=2:=by omega
    rcases h3 with e | e | e <;> rw [e]
    ·exact ⟨_,_,rfl,A9 (ns:=tj u (i:Int)) (s9 _ _ (s8 _ _ e7)),rfl⟩
    ·exact ⟨_,_,rfl,zW (s9 _ _ e8) (s9 _ _ (s8 _ _ e7)),rfl⟩
    ·exact ⟨_,.inl (some (z % (1 + (bs:Int) % 9))),rfl,rfl,rfl⟩
   refine aZ (SqL.of e9) hy ?_
   walk_at "rd"
   refine fv e49 (by rw [Paired.length k4,l4,sizeLine_eq]; omega) fun H10 o10 e10=>?_
   have kp:=o10.keep e49
   have hsg2:H2 sg=none:=hsg
   refine ⟨_,_,_,_,xs++[y],ks++[ky],rfl,(s4.trans s59).off hsg2 o10,e10,yy (yh k4 (s59.keep.trans kp)) (hky.keep kp),by simp [l4],fun k hk=>?_⟩
   rcases List.mem_append.mp hk with hk | hk
   ·exact so4 k hk
   ·rw [List.mem_singleton.mp hk]; exact hso
  ·rintro σ H4 ⟨u5,u6,u7,u8,xs,ks,rfl,s4,e4,k4,l4,so4⟩
   rw [List.length_map,hlr] at l4
   have e2w:=s4 _ _ e2
   walk_at "rd"
   refine ⟨iZ e2w,?_⟩
   walk_at "rd"
   refine ⟨sg,xs,ks,_,rfl,e4,k4,so4,by omega,fun v H5 hv s5 e5=>?_⟩
   walk_at "rd"
   have hwH:H w=none:=hw1
   have nvw:v≠w:=(aJ e2w hv).symm
   refine fv (s5 _ _ e2w) (by rw [List.length_map,Paired.length p2,l2,sizeLine_eq]; omega) fun H6 o6 e6=>?_
   have s45:=s4.trans s5
   refine ⟨_,_,_,_,_,_,_,_,ts++[v],fs++[cW ks],rfl,(s2.trans s45).off hwH o6,by rw [e6]; simp,by simp [l2],vJ (Paired.mapP p2 fun r u z=>⟨by rw [o6 r z.2]; exact s45 _ _ z.1,z.2⟩) (by rw [o6 v nvw]; exact e5) nvw,fun u hu=>?_⟩
   rcases List.mem_append.mp hu with hu | hu
   ·exact g2 u hu
   ·rw [List.mem_singleton.mp hu]; exact yG l4
 ·rintro σ H2 ⟨u1,u2,u3,u4,u5,u6,u7,u8,ts,fs,rfl,s2,e2,l2,p2,g2⟩
  walk_at "rd"
  exact q fs w H2 l2 g2 hw1 s2 ⟨ts,e2,Paired.mapP p2 fun _ _ z=>z.1⟩
end L2
end
section
namespace L2
open PySem PyProof.Rows
noncomputable def cc (_:PySem.W.Frag):Sp:=fun vs H Q _=>∃ (z:Int) (h:Nat),vs=[.int z,.int h]/\h<=5/\∀ (p:Addr) (g:List Nat) (H':Hp),ak H H'->H' p=some (.tup (ap g))->g.Pairwise (· < ·)->(∀ k∈g,k < h)->Q (.ref p) H'
noncomputable def im (K:PySem.W.Frag):TS:=(aV (tCB (no K) (ac (cx (gi (ac (ab 1) ah)) (fun _ _ _ _=>(ai 0)) (fun _ _ _ _=>(bn (tOp rEq (tOp (rI (fun _ j=>0 < j) fun i j=>.int (i % j)) (tOp (rI fW fun i j=>.int (i / j)) (ab 1) (tOp (bE K) (dY (ac (tC (.int 1)) (ac (tC (.int 2)) (ac (tC (.int 4)) (ac (tC (.int 8)) (ac (tC (.int 16)) ah)))))) (ab 0))) (tC (.int 2))) (tC (.int 1))))) (fun _ _ _ _=>(ab 0)) [none,some 0]) ah)))
theorem at5 {i:Nat} (h:i < 5):∃ v:Int,atI [V.int 1,V.int 2,V.int 4,V.int 8,V.int 16] (i:Int)=some (.int v)/\0 < v/\v<=16:=by
 match i,h with
 | 0,_=>exact ⟨1,rfl,by decide,by decide⟩
 | 1,_=>exact ⟨2,rfl,by decide,by decide⟩
 | 2,_=>exact ⟨4,rfl,by decide,by decide⟩
 | 3,_=>exact ⟨8,rfl,by decide,by decide⟩
 | 4,_=>exact ⟨16,rfl,by decide,by decide⟩
theorem qr {K:PySem.W.Frag} {vs:List V} {H:Hp} {Q:VK} {E:XK} (h:cc K vs H Q E):vs.length=2:=by
 obtain ⟨z,h,rfl,h5,q⟩:=h
 rfl
theorem sf {K:PySem.W.Frag} {vs:List V} {H:Hp} {Q:VK} {E:XK} (h:cc K vs H Q E):im K { nx:=fun _ H'=>Q .non H',rt:=Q } (start ["_law_number","_law_hands"] vs) H:=by
 obtain ⟨z,h,rfl,h5,q⟩:=h
 show im K _ [some _,some _] _
 unfold im
 walk_at "rd"
 refine uc h (by omega) (by omega) (by omega) (fun i acc _=>∃ g:List Nat,acc=ap g/\g.Pairwise (· < ·)/\∀ k∈g,k < i) (fun _ _=>⟨[],rfl,.nil,fun _ h=>(nomatch h)⟩) ?_ ?_
 ·rintro p hp C s' H' fp i acc H2 hi ⟨s2,e2,l2,g,rfl,pw,hb⟩
  walk_at "rd"
  refine ⟨by simp [sizeLine_eq],fun b H3 hb3 s3 e3=>?_⟩
  walk_at "rd"
  obtain ⟨v,hv,v0,v16⟩:=at5 (i:=i) (by omega)
  refine aZ (SqL.of e3) hv ?_
  walk_at "rd"
  have e23:=s3 _ _ e2
  refine cC (fun c=>?_) (fun c=>?_)
  ·walk_at "rd"
   refine bi.put hp (fun _ _ _ _ r _=>r) (s2.trans s3) e23 l2 ⟨g++[i],by rw [<-dv],?_,fun k hk=>?_⟩
   ·rw [List.pairwise_append]
    exact ⟨pw,List.pairwise_singleton _ _,fun x hx y hy=>by rw [List.mem_singleton] at hy; have:=hb x hx; omega⟩
   ·rcases List.mem_append.mp hk with hk | hk
    ·have:=hb k hk; omega
    ·rw [List.mem_singleton] at hk; omega
  ·exact bi.skip (s2.trans s3) e23 l2 ⟨g,rfl,pw,fun k hk=>by have:=hb k hk; omega⟩
 ·intro p acc H2 hp s2 e2 ⟨g,hg,pw,hb⟩
  subst hg
  walk_at "rd"
  exact wf (SqL.of e2) fun t H3 ht s3 e3=>q t g H3 (s2.trans s3) e3 pw hb
noncomputable def pE (H:Hp) (x:V):Option Sy->Prop
 | some t=>aL H x t
 | none=>(∃ i,x=.int i)\/∃ b g,x=.ref b/\H b=some (.tup (ap g))
theorem pE.keep {H H':Hp} (k:eY H H') {x:V} {o:Option Sy} (h:pE H x o):pE H' x o:=by
 cases o with
 | some t=>exact aL.keep k h
 | none=>
  rcases h with h | ⟨b,g,e,h⟩
  ·exact .inl h
  ·exact .inr ⟨b,g,e,k _ _ h⟩
theorem wp {H:Hp} {v:V} {s:Sy} (h:aL H v s):∃ a items os,v=.ref a/\H a=some (.tup (.str s.word :: items))/\Paired (pE H) items os/\os.filterMap id=s.subs/\items.length<=2:=by
 cases s with
 | holds w c=>obtain ⟨a,e,h⟩:=h; exact ⟨a,_,[none,none],e,h,.cons (.inl ⟨_,rfl⟩) (.cons (.inl ⟨_,rfl⟩) .nil),rfl,by simp⟩
 | sees w=>obtain ⟨a,e,h⟩:=h; exact ⟨a,_,[none],e,h,.cons (.inl ⟨_,rfl⟩) .nil,rfl,by simp⟩
 | not s=>obtain ⟨a,x,e,h,r⟩:=h; exact ⟨a,_,[some s],e,h,.cons r .nil,rfl,by simp⟩
 | and s t=>obtain ⟨a,x,y,e,h,r,q⟩:=h; exact ⟨a,_,[some s,some t],e,h,.cons r (.cons q .nil),rfl,by simp⟩
 | or s t=>obtain ⟨a,x,y,e,h,r,q⟩:=h; exact ⟨a,_,[some s,some t],e,h,.cons r (.cons q .nil),rfl,by simp⟩
 | knows w s=>obtain ⟨a,x,e,h,r⟩:=h; exact ⟨a,_,[none,some s],e,h,.cons (.inl ⟨_,rfl⟩) (.cons r .nil),rfl,by simp⟩
 | all g s=>obtain ⟨a,b,x,e,h,i,r⟩:=h; exact ⟨a,_,[none,some s],e,h,.cons (.inr ⟨b,g,rfl,i⟩) (.cons r .nil),rfl,by simp⟩
 | common g s=>obtain ⟨a,b,x,e,h,i,r⟩:=h; exact ⟨a,_,[none,some s],e,h,.cons (.inr ⟨b,g,rfl,i⟩) (.cons r .nil),rfl,by simp⟩
noncomputable def cZ (_:PySem.W.Frag) (n:Nat):Sp:=fun vs H Q _=>∃ (v:V) (s:Sy),vs=[v]/\aL H v s/\s.words<=n/\∀ H',ak H H'->Q (.int (s.words:Nat)) H'
noncomputable def ip (K:PySem.W.Frag) (n:Nat):TS:=(au (ay (tC (.int 1)) (ai 1))
 (au (dc (tM K (tSl (zz K) (ab 0) (wM (tC (.int 1))) qc)) (ai 2) (cu (tG (tB (tCB (oh K) (ac (ab 2) (ac (tC (.ty "tuple")) ah)))) (tG (bn (tOp (qe (SqT K) true) (ab 2) (ci ah))) (tB (tCB (oh K) (ac (tOp (cD K) (ab 2) (tC (.int 0))) (ac (tC (.ty "str")) ah)))))) (ay (tOp (rI0 fun i j=>.int (i + j)) (ab 1) (az (cZ K n) [] E0 (ac (ab 2) ah))) (ai 1)) bK))
 (aV (ab 1))))
theorem qu {K:PySem.W.Frag} {n:Nat} {vs:List V} {H:Hp} {Q:VK} {E:XK} (h:cZ K n vs H Q E):vs.length=1:=by
 obtain ⟨v,s,rfl,_⟩:=h
 rfl
theorem lS {K:PySem.W.Frag} {vs:List V} {H:Hp} {Q:VK} {E:XK} (h:cZ K 0 vs H Q E):False:=by
 obtain ⟨v,s,rfl,_,h,_⟩:=h
 have:=s.words_pos
 omega
theorem yI {K:PySem.W.Frag} {H:Hp} {Q:VK} {a b:Addr} {xs:List V} (h1:SqT K H a xs) (h2:SqT K H b []) (q:Q (.bl (!xs.isEmpty)) H):qe (SqT K) true (.ref a) (.ref b) H Q:=by
 refine ⟨a,b,xs,[],fun _=>true,rfl,rfl,h1,h2,fun j x y _ hy=>by simp at hy,?_⟩
 cases xs with
 | nil=>exact q
 | cons x r=>exact q
noncomputable def jp (os:List (Option Sy)):Nat:=((os.filterMap id).map Sy.words).sum
noncomputable def uD:Option Sy->Nat
 | some t=>t.words
 | none=>0
theorem yJ (os:List (Option Sy)) (i:Nat) (o:Option Sy) (h:os[i]?=some o):jp (os.take (i + 1))=jp (os.take i) + uD o:=by
 unfold jp
 rw [List.take_add_one,h,List.filterMap_append,List.map_append,List.sum_append]
 cases o with
 | none=>simp [uD]
 | some t=>simp [uD]
theorem si {K:PySem.W.Frag} {n:Nat} {vs:List V} {H:Hp} {Q:VK} {E:XK} (h:cZ K (n + 1) vs H Q E):ip K n { nx:=fun _ H'=>Q .non H',rt:=Q } (start ["_law_saying_here","_law_found","_law_part"] vs) H:=by
 obtain ⟨v,s,rfl,hs,hw,q⟩:=h
 obtain ⟨a,items,os,rfl,e,hp,hos,h2⟩:=wp hs
 show ip K n _ [some _,none,none] _
 unfold ip
 walk_at "rd"
 refine Dm (SqT.of e) (vq _ _) fun b H1 hb s1 e1=>?_
 rw [zA] at e1
 have hw':=s.words_subs
 have hol:items.length=os.length:=by
  clear hos h2 e e1
  induction hp with
  | nil=>rfl
  | cons _ _ ih=>rw [List.length_cons,List.length_cons,ih]
 refine Cs items (SqT.of e1) (fun i σ H2=>∃ st,σ=[some (.ref a),some (.int (1 + jp (os.take i):Nat)),st]/\ak H1 H2) ⟨none,rfl,ak.refl _⟩ (fun i σ H2 _ ⟨_,_,s2⟩=>SqT.of (s2 _ _ e1)) ?_ ?_
 ·rintro i x σ H2 hx ⟨st,rfl,s2⟩
  obtain ⟨o,ho,io⟩:=jB hp hx
  have ot:=yJ os i o ho
  have io2:=io.keep (s1.trans s2).keep
  cases o with
  | none=>
   have ot':jp (os.take (i + 1))=jp (os.take i):=ot
   rcases io2 with ⟨j,rfl⟩ | ⟨g,gs,rfl,eg⟩
   ·walk_at "rd"
    refine oW (.int _) (wo K "int" (by decide) "tuple" (by decide)) ?_
    walk_at "rd"
    refine fY ?_
    walk_at "rd"
    exact ⟨_,by rw [ot'],s2⟩
   ·walk_at "rd"
    refine oW (.tup eg) (nO K) ?_
    walk_at "rd"
    refine ⟨by simp [sizeLine_eq],fun u H3 hu s3 e3=>?_⟩
    refine yI (SqT.of (s3 _ _ eg)) (SqT.of e3) ?_
    walk_at "rd"
    cases gs with
    | nil=>
     refine fY ?_
     walk_at "rd"
     exact ⟨_,by rw [ot'],s2.trans s3⟩
    | cons k r=>
     refine jo ?_
     walk_at "rd"
     refine aY (SqT.of (s3 _ _ eg)) (wm _ _) ?_
     walk_at "rd"
     refine oW (.int _) (wo K "int" (by decide) "str" (by decide)) ?_
     walk_at "rd"
     refine fY ?_
     walk_at "rd"
     exact ⟨_,by rw [ot'],s2.trans s3⟩
  | some t=>
   have ot':jp (os.take (i + 1))=jp (os.take i) + t.words:=ot
   have ts:t∈s.subs:=by rw [<-hos]; exact List.mem_filterMap.mpr ⟨some t,List.mem_of_getElem? ho,rfl⟩
   have hb':=Sy.sub_words ts
   obtain ⟨a2,items2,_,rfl,et,_⟩:=wp io2
   walk_at "rd"
   refine oW (.tup et) (nO K) ?_
   walk_at "rd"
   refine ⟨by simp [sizeLine_eq],fun u H3 hu s3 e3=>?_⟩
   refine yI (SqT.of (s3 _ _ et)) (SqT.of e3) ?_
   walk_at "rd"
   refine jo ?_
   walk_at "rd"
   refine aY (SqT.of (s3 _ _ et)) (wm _ _) ?_
   walk_at "rd"
   refine oW (.str _) (zS K "str") ?_
   walk_at "rd"
   refine ⟨_,t,rfl,aL.keep s3.keep io2,by omega,fun H4 s4=>?_⟩
   walk_at "rd"
   refine ⟨some (.ref a2),?_,(s2.trans s3).trans s4⟩
   rw [ot',show ((1 + jp (os.take i):Nat):Int) + ((t.words:Nat):Int)=((1 + (jp (os.take i) + t.words):Nat):Int) by omega]
 ·rintro σ H2 ⟨st,rfl,s2⟩
  walk_at "rd"
  have e:jp (os.take items.length)=(s.subs.map Sy.words).sum:=by rw [hol,List.take_length]; unfold jp; rw [hos]
  rw [e,<-hw']
  exact q _ (s1.trans s2)
structure gc (H H2:Hp) (r:Addr) (c h most:Nat) (ss:List Sy):Prop where
 same:ak H H2
 new:H r=none
 at_:∃ xs,H2 r=some (.lst xs)/\lI H2 xs ss
 ne:ss≠[]
 ok:∀ s∈ss,s.Ok c h/\s.words<=most
theorem gc.push {H H2 H3:Hp} {r:Addr} {c h most:Nat} {ss:List Sy} {s:Sy} {v:V} {xs:List V} (R:gc H H2 r c h most ss) (e:H2 r=some (.lst xs)) (o:Off r H2 H3) (e3:H3 r=some (.lst (xs++[v]))) (hv:aL H2 v s) (ok:s.Ok c h) (w:s.words<=most):gc H H3 r c h most (ss++[s]) where
 same:=R.same.off R.new o
 new:=R.new
 at_:=by
  obtain ⟨ys,ey,p⟩:=R.at_
  rw [e] at ey
  cases ey
  exact ⟨_,e3,lC (p.keep (o.keep e)) (.cons (hv.keep (o.keep e)) .nil)⟩
 ne:=by simp
 ok:=fun t ht=>by
  rcases List.mem_append.mp ht with ht | ht
  ·exact R.ok t ht
  ·rw [List.mem_singleton] at ht; subst ht; exact ⟨ok,w⟩
theorem gc.to {H H2 H3:Hp} {r:Addr} {c h most:Nat} {ss:List Sy} (R:gc H H2 r c h most ss) (s:ak H2 H3):gc H H3 r c h most ss where
 same:=R.same.trans s
 new:=R.new
 at_:=by obtain ⟨xs,e,p⟩:=R.at_; exact ⟨xs,s _ _ e,p.keep s.keep⟩
 ne:=R.ne
 ok:=R.ok
noncomputable def fc (K:PySem.W.Frag):Sp:=fun vs H Q _=>∃ (a:Addr) (ns:List Int) (at_:Int) (c h:Nat),vs=[.ref a,.int at_,.int c,.int h]/\dX K H a ns/\0<=at_/\at_<=1000/\1<=h/\∀ (r:Addr) (ss:List Sy) (H':Hp),gc H H' r c h 1 ss->ss.length<=4->Q (.ref r) H'
noncomputable def ja (K:PySem.W.Frag):TS:=(au (ay (dY (ac (ci (ac (tC (.str "sees")) (ac (tOp (rI (fun _ j=>0 < j) fun i j=>.int (i % j)) (az (aK K) [] E0 (ac (ab 0) (ac (ab 1) ah))) (ab 3)) ah))) ah)) (ai 4))
 (au (dc (gi (ac (tOp (rI IntMulOk fun i j=>.int (i * j)) (tC (.int 3)) (tCB zy (ac (tOp (rI0 fun i j=>.bl (decide (j < i))) (ab 2) (tC (.int 0))) ah))) ah)) (ai 5) (au (ay (az (aK K) [] E0 (ac (ab 0) (ac (tOp (rI0 fun i j=>.int (i + j)) (tOp (rI0 fun i j=>.int (i + j)) (ab 1) (tC (.int 1))) (ab 5)) ah))) (ai 6))
 (gh (tBM K "list" eo (ab 4) (ac (ci (ac (tC (.str "holds")) (ac (tOp (rI (fun _ j=>0 < j) fun i j=>.int (i % j)) (ab 6) (tOp (rI0 fun i j=>.int (i + j)) (ab 3) (tC (.int 1)))) (ac (tOp (rI (fun _ j=>0 < j) fun i j=>.int (i % j)) (tOp (rI fW fun i j=>.int (i / j)) (ab 6) (tC (.int 7))) (ab 2)) ah)))) ah)))))
 (aV (ab 4))))
theorem sj {K:PySem.W.Frag} {vs:List V} {H:Hp} {Q:VK} {E:XK} (h:fc K vs H Q E):vs.length=4:=by
 obtain ⟨a,ns,at_,c,h,rfl,hSc,ha0,ha1,h1,q⟩:=h
 rfl
theorem uE {K:PySem.W.Frag} {vs:List V} {H:Hp} {Q:VK} {E:XK} (h:fc K vs H Q E):ja K { nx:=fun _ H'=>Q .non H',rt:=Q } (start ["_law_script","_law_at","_law_cards","_law_hands","_law_pool_here","_law_k","_law_cell_here"] vs) H:=by
 obtain ⟨a,ns,at_,c,h,rfl,hSc,ha0,ha1,h1,q⟩:=h
 show ja K _ [some _,some _,some _,some _,none,none,none] _
 unfold ja
 walk_at "rd"
 refine ⟨a,ns,at_,rfl,hSc,ha0,by omega,?_⟩
 walk_at "rd"
 obtain ⟨k,hk,hk2⟩:=lK (cz ns at_) (m:=(h:Int)) (by omega)
 rw [hk]
 refine ⟨by simp [sizeLine_eq],fun p1 H1 hp1 s1 e1=>?_⟩
 walk_at "rd"
 refine ⟨by simp [sizeLine_eq],fun r H2 hr s2 e2=>?_⟩
 have R0:gc H H2 r c h 1 [.sees k]:=⟨s1.trans s2,s1.free hr,⟨_,e2,.cons ⟨p1,rfl,s2 _ _ e1⟩ .nil⟩,by simp,fun s hs=>by rw [List.mem_singleton] at hs; subst hs; exact ⟨show k < h by omega,Nat.le_refl _⟩⟩
 walk_at "rd"
 obtain ⟨n,hn,hn3,hnc⟩:∃ n:Nat,((3:Int) * (if decide ((0:Int) < (c:Int))=true then 1 else 0))=(n:Int)/\n<=3/\(c=0->n=0):=by
  by_cases hc:(0:Int) < (c:Int)
  ·exact ⟨3,by rw [if_pos (decide_eq_true hc)]; rfl,Nat.le_refl _,fun z=>by omega⟩
  ·exact ⟨0,by rw [if_neg (by rw [decide_eq_false hc]; exact Bool.false_ne_true)]; rfl,by decide,fun _=>rfl⟩
 rw [hn]
 refine iN n (by omega) (by omega) (by omega) (fun i σ H3=>∃ (ss:List Sy) (v5 v6:Option V),σ=[some (.ref a),some (.int at_),some (.int c),some (.int h),some (.ref r),v5,v6]/\gc H H3 r c h 1 ss/\ss.length=i + 1) ⟨_,none,none,rfl,R0,rfl⟩ ?_ ?_
 ·rintro i σ H3 hi ⟨ss,v5,v6,rfl,R,hl⟩
  have hc:0 < c:=by
   rcases Nat.eq_zero_or_pos c with z | z
   ·have:=hnc z; omega
   ·exact z
  obtain ⟨xs,e3,px⟩:=R.at_
  have hxl:=kc px
  walk_at "rd"
  refine ⟨a,ns,at_ + 1 + (i:Int),rfl,hSc.same R.same,by omega,by omega,?_⟩
  walk_at "rd"
  refine ⟨iZ e3,?_⟩
  walk_at "rd"
  obtain ⟨k1,hk1,hk12⟩:=lK (cz ns (at_ + 1 + (i:Int))) (m:=(h:Int) + 1) (by omega)
  obtain ⟨k2,hk2',hk22⟩:=lK (cz ns (at_ + 1 + (i:Int)) / 7) (m:=(c:Int)) (by omega)
  rw [hk1,hk2']
  refine ⟨by simp [sizeLine_eq],fun p4 H4 hp4 s4 e4=>?_⟩
  walk_at "rd"
  refine fv (s4 _ _ e3) (by rw [sizeLine_eq]; omega) fun H5 o5 e5=>?_
  exact ⟨_,_,_,rfl,(R.to s4).push (s4 _ _ e3) o5 e5 (s:=.holds k1 k2) ⟨p4,rfl,e4⟩ ⟨by omega,by omega⟩ (Nat.le_refl _),by rw [List.length_append,hl]; rfl⟩
 ·rintro σ H3 ⟨ss,v5,v6,rfl,R,hl⟩
  walk_at "rd"
  exact q r ss H3 R (by omega)
noncomputable def gA (c h:Nat) (H:Hp) (x:V):Prop:=∃ s:Sy,aL H x s/\s.Ok c h/\s.words<=63
theorem gA.same {c h:Nat} {H H':Hp} {x:V} (g:gA c h H x) (s:ak H H'):gA c h H' x:=by
 obtain ⟨t,i,o,w⟩:=g
 exact ⟨t,i.keep s.keep,o,w⟩
theorem mO {H:Hp}:∀ {l:List V} {m:List Sy},lI H l m->l≠[]->∃ x y,atI l (-1)=some x/\y∈m/\aL H x y:=by
 intro l m p hne
 have hl:=kc p
 have hp:0 < l.length:=List.length_pos_iff.mpr hne
 obtain ⟨x,hx⟩:∃ x,l[l.length - 1]?=some x:=⟨_,List.getElem?_eq_getElem (by omega)⟩
 obtain ⟨y,hy,iy⟩:=rR p hx
 refine ⟨x,y,?_,List.mem_of_getElem? hy,iy⟩
 unfold atI ixN
 rw [if_neg (by decide),if_pos (by omega),show (-1 + (l.length:Int)).toNat=l.length - 1 by omega]
 exact hx
noncomputable def dQ (K:PySem.W.Frag):Sp:=fun vs H Q _=>∃ (a:Addr) (ns:List Int) (at_:Int) (c h most:Nat),vs=[.ref a,.int at_,.int c,.int h,.int most]/\dX K H a ns/\0<=at_/\at_<=1000/\1<=h/\h<=5/\1<=most/\most<=30/\∀ (v:V) (s:Sy) (H':Hp),ak H H'->aL H' v s->s.Ok c h->s.words<=most->Q v H'
noncomputable def gN (K:PySem.W.Frag):TS:=(au (ay (az (fc K) [] E0 (ac (ab 0) (ac (ab 1) (ac (ab 2) (ac (ab 3) ah))))) (ai 5))
 (au (dc (gi (ac (tOp (rI (fun _ j=>0 < j) fun i j=>.int (i % j)) (az (aK K) [] E0 (ac (ab 0) (ac (tOp (rI0 fun i j=>.int (i + j)) (ab 1) (tC (.int 4))) ah))) (tC (.int 12))) ah)) (ai 6) (au (ay (az (aK K) [] E0 (ac (ab 0) (ac (tOp (rI0 fun i j=>.int (i + j)) (tOp (rI0 fun i j=>.int (i + j)) (ab 1) (tC (.int 5))) (ab 6)) ah))) (ai 7))
 (au (ay (tOp (bE K) (ab 5) (tUn (rU fun i=>.int (-i)) (tC (.int 1)))) (ai 8))
 (au (ay (tOp (bE K) (ab 5) (tOp (rI (fun _ j=>0 < j) fun i j=>.int (i % j)) (tOp (rI fW fun i j=>.int (i / j)) (ab 7) (tC (.int 12))) (tCB (fR K) (ac (ab 5) ah)))) (ai 9))
 (au (ay (dY (ac (ci (ac (tC (.str "not")) (ac (ab 8) ah))) (ac (ci (ac (tC (.str "and")) (ac (ab 8) (ac (ab 9) ah)))) (ac (ci (ac (tC (.str "or")) (ac (ab 9) (ac (ab 8) ah)))) (ac (ci (ac (tC (.str "not")) (ac (ab 9) ah))) ah))))) (ai 10))
 (au (ay (tOp on (ab 10) (dY (ac (ci (ac (tC (.str "knows")) (ac (tOp (rI (fun _ j=>0 < j) fun i j=>.int (i % j)) (tOp (rI fW fun i j=>.int (i / j)) (ab 7) (tC (.int 7))) (ab 3)) (ac (ab 8) ah)))) (ac (ci (ac (tC (.str "knows")) (ac (tOp (rI (fun _ j=>0 < j) fun i j=>.int (i % j)) (tOp (rI fW fun i j=>.int (i / j)) (ab 7) (tC (.int 7))) (ab 3)) (ac (ci (ac (tC (.str "not")) (ac (ab 8) ah))) ah)))) ah)))) (ai 10))
 (au (ay (tOp on (ab 10) (dY (ac (ci (ac (tC (.str "all")) (ac (az (cc K) [] E0 (ac (tOp (rI fW fun i j=>.int (i / j)) (ab 7) (tC (.int 36))) (ac (ab 3) ah))) (ac (ab 8) ah)))) (ac (ci (ac (tC (.str "common")) (ac (az (cc K) [] E0 (ac (tOp (rI fW fun i j=>.int (i / j)) (ab 7) (tC (.int 36))) (ac (ab 3) ah))) (ac (ab 9) ah)))) ah)))) (ai 10))
 (au (ay (tOp on (ab 10) (dY (ac (ci (ac (tC (.str "common")) (ac (az (cc K) [] E0 (ac (tOp (rI fW fun i j=>.int (i / j)) (ab 7) (tC (.int 36))) (ac (ab 3) ah))) (ac (ab 8) ah)))) (ac (ci (ac (tC (.str "knows")) (ac (tOp (rI (fun _ j=>0 < j) fun i j=>.int (i % j)) (tOp (rI fW fun i j=>.int (i / j)) (ab 7) (tC (.int 7))) (ab 3)) (ac (ab 9) ah)))) ah)))) (ai 10))
 (au (ay (tOp on (ab 10) (dY (ac (ci (ac (tC (.str "and")) (ac (ab 9) (ac (ci (ac (tC (.str "not")) (ac (ab 8) ah))) ah)))) (ac (ci (ac (tC (.str "or")) (ac (ab 8) (ac (ci (ac (tC (.str "knows")) (ac (tOp (rI (fun _ j=>0 < j) fun i j=>.int (i % j)) (tOp (rI fW fun i j=>.int (i / j)) (ab 7) (tC (.int 7))) (ab 3)) (ac (ab 9) ah)))) ah)))) ah)))) (ai 10))
 (cu (bn (tOp (rI0 fun i j=>.bl (decide (i<=j))) (az (cZ K 70) [] E0 (ac (tOp (bE K) (ab 10) (tOp (rI (fun _ j=>0 < j) fun i j=>.int (i % j)) (ab 7) (tC (.int 12)))) ah)) (ab 4))) (gh (tBM K "list" eo (ab 5) (ac (tOp (bE K) (ab 10) (tOp (rI (fun _ j=>0 < j) fun i j=>.int (i % j)) (ab 7) (tC (.int 12)))) ah))) bK))))))))))
 (aV (tOp (bE K) (ab 5) (tUn (rU fun i=>.int (-i)) (tC (.int 1)))))))
theorem pF {K:PySem.W.Frag} {vs:List V} {H:Hp} {Q:VK} {E:XK} (h:dQ K vs H Q E):vs.length=5:=by
 obtain ⟨a,ns,at_,c,h,most,rfl,hSc,ha0,ha1,h1,h5,hm1,hm30,q⟩:=h
 rfl
theorem qv {K:PySem.W.Frag} {vs:List V} {H:Hp} {Q:VK} {E:XK} (h:dQ K vs H Q E):gN K { nx:=fun _ H'=>Q .non H',rt:=Q } (start ["_law_script","_law_at","_law_cards","_law_hands","_law_most","_law_pool_here","_law_k","_law_cell_here","_law_one","_law_other","_law_some"] vs) H:=by
 obtain ⟨a,ns,at_,c,h,most,rfl,hSc,ha0,ha1,h1,h5,hm1,hm30,q⟩:=h
 show gN K _ [some _,some _,some _,some _,some _,none,none,none,none,none,none] _
 unfold gN
 walk_at "rd"
 refine ⟨a,ns,at_,c,h,rfl,hSc,ha0,ha1,h1,fun r ss0 H1 R0 hl4=>?_⟩
 walk_at "rd"
 refine ⟨a,ns,at_ + 4,rfl,hSc.same R0.same,by omega,by omega,?_⟩
 walk_at "rd"
 have R1:gc H H1 r c h most ss0:=⟨R0.same,R0.new,R0.at_,R0.ne,fun s hs=>⟨(R0.ok s hs).1,by have:=(R0.ok s hs).2; omega⟩⟩
 refine iN (cz ns (at_ + 4) % 12).toNat rfl (by omega) (by omega) (fun i σ H2=>∃ (ss:List Sy) (v6 v7 v8 v9 v10:Option V),σ=[some (.ref a),some (.int at_),some (.int c),some (.int h),some (.int most),some (.ref r),v6,v7,v8,v9,v10]/\gc H H2 r c h most ss/\ss.length<=4 + i) ⟨ss0,none,none,none,none,none,rfl,R1,by omega⟩ ?_ ?_
 ·rintro i σ H2 hi ⟨ss,v6,v7,v8,v9,v10,rfl,R,hl⟩
  obtain ⟨xs,e2,px⟩:=R.at_
  have hxl:=kc px
  have hne:xs≠[]:=fun z=>R.ne (List.length_eq_zero_iff.mp (by rw [<-hxl,z]; rfl))
  have hpos:0 < xs.length:=List.length_pos_iff.mpr hne
  refine jP ?_
  dsimp only [List.set_cons_zero,List.set_cons_succ]
  refine ft ?_
  walk_at "rs"
  refine ⟨a,ns,at_ + 5 + (i:Int),rfl,hSc.same R.same,by omega,by omega,?_⟩
  generalize cz ns (at_ + 5 + (i:Int))=z
  walk_at "rs"
  refine ft ?_
  walk_at "rs"
  obtain ⟨x1,s1,hx1,hs1,is1⟩:=mO px hne
  obtain ⟨ok1,w1⟩:=R.ok s1 hs1
  refine aZ (SqL.of e2) hx1 ?_
  walk_at "rs"
  refine ft ?_
  walk_at "rs"
  obtain ⟨x2,hx2,hm2⟩:=yg xs (z / 12) rfl hpos
  obtain ⟨j2,hj2⟩:=List.getElem?_of_mem hm2
  obtain ⟨s2,hs2,is2⟩:=rR px hj2
  obtain ⟨ok2,w2⟩:=R.ok s2 (List.mem_of_getElem? hs2)
  refine aZ (SqL.of e2) hx2 ?_
  walk_at "rs"
  refine ft ?_
  refine lx ?_
  refine np ?_
  refine mN (P:=gA c h) (fun _ _ _ s g=>g.same s) (H0:=H2) (n:=4) (ak.refl _) ?_ fun ys0 Hy0 sy0 ly0 by0=>?_
  ·skip
   refine GA.cons (fun _ _ _ s g=>g.same s) (n:=3) ?_ ?_
   ·intro H' s' Q q
    have i1:=is1.keep s'.keep
    have i2:=is2.keep s'.keep
    walk_at "rd"
    refine ⟨by simp [sizeLine_eq],fun p1 G1 hp1 t1 e1=>?_⟩
    have I1:aL G1 (.ref p1) (.not s1):=⟨p1,_,rfl,e1,(aL.keep (ak.keep t1) i1)⟩
    exact q _ _ t1 ⟨_,I1,ok1,by simp only [Sy.words]; omega⟩
   refine GA.cons (fun _ _ _ s g=>g.same s) (n:=2) ?_ ?_
   ·intro H' s' Q q
    have i1:=is1.keep s'.keep
    have i2:=is2.keep s'.keep
    walk_at "rd"
    refine ⟨by simp [sizeLine_eq],fun p1 G1 hp1 t1 e1=>?_⟩
    have I1:aL G1 (.ref p1) (.and s1 s2):=⟨p1,_,_,rfl,e1,(aL.keep (ak.keep t1) i1),(aL.keep (ak.keep t1) i2)⟩
    exact q _ _ t1 ⟨_,I1,⟨ok1,ok2⟩,by simp only [Sy.words]; omega⟩
   refine GA.cons (fun _ _ _ s g=>g.same s) (n:=1) ?_ ?_
   ·intro H' s' Q q
    have i1:=is1.keep s'.keep
    have i2:=is2.keep s'.keep
    walk_at "rd"
    refine ⟨by simp [sizeLine_eq],fun p1 G1 hp1 t1 e1=>?_⟩
    have I1:aL G1 (.ref p1) (.or s2 s1):=⟨p1,_,_,rfl,e1,(aL.keep (ak.keep t1) i2),(aL.keep (ak.keep t1) i1)⟩
    exact q _ _ t1 ⟨_,I1,⟨ok2,ok1⟩,by simp only [Sy.words]; omega⟩
   refine GA.cons (fun _ _ _ s g=>g.same s) (n:=0) ?_ ?_
   ·intro H' s' Q q
    have i1:=is1.keep s'.keep
    have i2:=is2.keep s'.keep
    walk_at "rd"
    refine ⟨by simp [sizeLine_eq],fun p1 G1 hp1 t1 e1=>?_⟩
    have I1:aL G1 (.ref p1) (.not s2):=⟨p1,_,rfl,e1,(aL.keep (ak.keep t1) i2)⟩
    exact q _ _ t1 ⟨_,I1,ok2,by simp only [Sy.words]; omega⟩
   exact GA.nil
  refine ⟨by rw [ly0,sizeLine_eq]; decide,fun l0 Hl0 hl0 sl0 el0=>?_⟩
  have sL0:ak H2 Hl0:=sy0.trans sl0
  have L0:ys0.length=4:=ly0
  have B0:∀ x∈ys0,gA c h Hl0 x:=fun x hx=>(by0 x hx).same sl0
  have eL0:=el0
  refine jP ?_
  dsimp only [List.set_cons_zero,List.set_cons_succ]
  generalize hX0:ys0=X0 at *
  refine ft ?_
  refine lx ?_
  refine oj ?_
  refine ly rfl ?_
  refine np ?_
  refine mN (P:=gA c h) (fun _ _ _ s g=>g.same s) (H0:=H2) (n:=2) sL0 ?_ fun ys1 Hy1 sy1 ly1 by1=>?_
  ·skip
   refine GA.cons (fun _ _ _ s g=>g.same s) (n:=1) ?_ ?_
   ·intro H' s' Q q
    have i1:=is1.keep s'.keep
    have i2:=is2.keep s'.keep
    walk_at "rd"
    obtain ⟨kk1,hk1,hk21⟩:=lK (z / 7) (m:=(h:Int)) (by omega)
    rw [hk1]
    refine ⟨by simp [sizeLine_eq],fun p1 G1 hp1 t1 e1=>?_⟩
    have I1:aL G1 (.ref p1) (.knows kk1 s1):=⟨p1,_,rfl,e1,(aL.keep (ak.keep t1) i1)⟩
    exact q _ _ t1 ⟨_,I1,⟨by omega,ok1⟩,by simp only [Sy.words]; omega⟩
   refine GA.cons (fun _ _ _ s g=>g.same s) (n:=0) ?_ ?_
   ·intro H' s' Q q
    have i1:=is1.keep s'.keep
    have i2:=is2.keep s'.keep
    walk_at "rd"
    refine ⟨by simp [sizeLine_eq],fun p1 G1 hp1 t1 e1=>?_⟩
    have I1:aL G1 (.ref p1) (.not s1):=⟨p1,_,rfl,e1,(aL.keep (ak.keep t1) i1)⟩
    walk_at "rd"
    obtain ⟨kk2,hk2,hk22⟩:=lK (z / 7) (m:=(h:Int)) (by omega)
    rw [hk2]
    refine ⟨by simp [sizeLine_eq],fun p2 G2 hp2 t2 e2=>?_⟩
    have I2:aL G2 (.ref p2) (.knows kk2 (.not s1)):=⟨p2,_,rfl,e2,(aL.keep (ak.keep t2) I1)⟩
    exact q _ _ (t1.trans t2) ⟨_,I2,⟨by omega,ok1⟩,by simp only [Sy.words]; omega⟩
   exact GA.nil
  refine ⟨by rw [ly1,sizeLine_eq]; decide,fun l1 Hl1 hl1 sl1 el1=>?_⟩
  refine oV (sl1 _ _ (sy1 _ _ eL0)) el1 (by rw [L0,ly1,sizeLine_eq]; decide) fun m1 Hm1 hm1 sm1 em1=>?_
  have sA1:=(sy1.trans sl1).trans sm1
  have sL1:ak H2 Hm1:=sL0.trans sA1
  have L1:(X0++ys1).length=6:=by rw [List.length_append,L0,ly1]
  have B1:∀ x∈X0++ys1,gA c h Hm1 x:=fun x hx=>by
   rcases List.mem_append.mp hx with hx | hx
   ·exact (B0 x hx).same sA1
   ·exact (by1 x hx).same (sl1.trans sm1)
  have eL1:=em1
  refine jP ?_
  dsimp only [List.set_cons_zero,List.set_cons_succ]
  generalize X0++ys1=X1 at L1 B1 eL1
  clear B0 L0 eL0 by1 ly1 el1 em1
  refine ft ?_
  refine lx ?_
  refine oj ?_
  refine ly rfl ?_
  refine np ?_
  refine mN (P:=gA c h) (fun _ _ _ s g=>g.same s) (H0:=H2) (n:=2) sL1 ?_ fun ys2 Hy2 sy2 ly2 by2=>?_
  ·skip
   refine GA.cons (fun _ _ _ s g=>g.same s) (n:=1) ?_ ?_
   ·intro H' s' Q q
    have i1:=is1.keep s'.keep
    have i2:=is2.keep s'.keep
    walk_at "rd"
    refine ⟨_,h,rfl,h5,fun g1 gs1 G1 t1 eg1 pw1 hb1=>?_⟩
    walk_at "rd"
    refine ⟨by simp [sizeLine_eq],fun p2 G2 hp2 t2 e2=>?_⟩
    have I2:aL G2 (.ref p2) (.all gs1 s1):=⟨p2,g1,_,rfl,e2,t2 _ _ eg1,(aL.keep (ak.keep (t1.trans t2)) i1)⟩
    exact q _ _ (t1.trans t2) ⟨_,I2,⟨⟨pw1,hb1⟩,ok1⟩,by simp only [Sy.words]; omega⟩
   refine GA.cons (fun _ _ _ s g=>g.same s) (n:=0) ?_ ?_
   ·intro H' s' Q q
    have i1:=is1.keep s'.keep
    have i2:=is2.keep s'.keep
    walk_at "rd"
    refine ⟨_,h,rfl,h5,fun g1 gs1 G1 t1 eg1 pw1 hb1=>?_⟩
    walk_at "rd"
    refine ⟨by simp [sizeLine_eq],fun p2 G2 hp2 t2 e2=>?_⟩
    have I2:aL G2 (.ref p2) (.common gs1 s2):=⟨p2,g1,_,rfl,e2,t2 _ _ eg1,(aL.keep (ak.keep (t1.trans t2)) i2)⟩
    exact q _ _ (t1.trans t2) ⟨_,I2,⟨⟨pw1,hb1⟩,ok2⟩,by simp only [Sy.words]; omega⟩
   exact GA.nil
  refine ⟨by rw [ly2,sizeLine_eq]; decide,fun l2 Hl2 hl2 sl2 el2=>?_⟩
  refine oV (sl2 _ _ (sy2 _ _ eL1)) el2 (by rw [L1,ly2,sizeLine_eq]; decide) fun m2 Hm2 hm2 sm2 em2=>?_
  have sA2:=(sy2.trans sl2).trans sm2
  have sL2:ak H2 Hm2:=sL1.trans sA2
  have L2:(X1++ys2).length=8:=by rw [List.length_append,L1,ly2]
  have B2:∀ x∈X1++ys2,gA c h Hm2 x:=fun x hx=>by
   rcases List.mem_append.mp hx with hx | hx
   ·exact (B1 x hx).same sA2
   ·exact (by2 x hx).same (sl2.trans sm2)
  have eL2:=em2
  refine jP ?_
  dsimp only [List.set_cons_zero,List.set_cons_succ]
  generalize X1++ys2=X2 at L2 B2 eL2
  clear B1 L1 eL1 by2 ly2 el2 em2
  refine ft ?_
  refine lx ?_
  refine oj ?_
  refine ly rfl ?_
  refine np ?_
  refine mN (P:=gA c h) (fun _ _ _ s g=>g.same s) (H0:=H2) (n:=2) sL2 ?_ fun ys3 Hy3 sy3 ly3 by3=>?_
  ·skip
   refine GA.cons (fun _ _ _ s g=>g.same s) (n:=1) ?_ ?_
   ·intro H' s' Q q
    have i1:=is1.keep s'.keep
    have i2:=is2.keep s'.keep
    walk_at "rd"
    refine ⟨_,h,rfl,h5,fun g1 gs1 G1 t1 eg1 pw1 hb1=>?_⟩
    walk_at "rd"
    refine ⟨by simp [sizeLine_eq],fun p2 G2 hp2 t2 e2=>?_⟩
    have I2:aL G2 (.ref p2) (.common gs1 s1):=⟨p2,g1,_,rfl,e2,t2 _ _ eg1,(aL.keep (ak.keep (t1.trans t2)) i1)⟩
    exact q _ _ (t1.trans t2) ⟨_,I2,⟨⟨pw1,hb1⟩,ok1⟩,by simp only [Sy.words]; omega⟩
   refine GA.cons (fun _ _ _ s g=>g.same s) (n:=0) ?_ ?_
   ·intro H' s' Q q
    have i1:=is1.keep s'.keep
    have i2:=is2.keep s'.keep
    walk_at "rd"
    obtain ⟨kk1,hk1,hk21⟩:=lK (z / 7) (m:=(h:Int)) (by omega)
    rw [hk1]
    refine ⟨by simp [sizeLine_eq],fun p1 G1 hp1 t1 e1=>?_⟩
    have I1:aL G1 (.ref p1) (.knows kk1 s2):=⟨p1,_,rfl,e1,(aL.keep (ak.keep t1) i2)⟩
    exact q _ _ t1 ⟨_,I1,⟨by omega,ok2⟩,by simp only [Sy.words]; omega⟩
   exact GA.nil
  refine ⟨by rw [ly3,sizeLine_eq]; decide,fun l3 Hl3 hl3 sl3 el3=>?_⟩
  refine oV (sl3 _ _ (sy3 _ _ eL2)) el3 (by rw [L2,ly3,sizeLine_eq]; decide) fun m3 Hm3 hm3 sm3 em3=>?_
  have sA3:=(sy3.trans sl3).trans sm3
  have sL3:ak H2 Hm3:=sL2.trans sA3
  have L3:(X2++ys3).length=10:=by rw [List.length_append,L2,ly3]
  have B3:∀ x∈X2++ys3,gA c h Hm3 x:=fun x hx=>by
   rcases List.mem_append.mp hx with hx | hx
   ·exact (B2 x hx).same sA3
   ·exact (by3 x hx).same (sl3.trans sm3)
  have eL3:=em3
  refine jP ?_
  dsimp only [List.set_cons_zero,List.set_cons_succ]
  generalize X2++ys3=X3 at L3 B3 eL3
  clear B2 L2 eL2 by3 ly3 el3 em3
  refine ft ?_
  refine lx ?_
  refine oj ?_
  refine ly rfl ?_
  refine np ?_
  refine mN (P:=gA c h) (fun _ _ _ s g=>g.same s) (H0:=H2) (n:=2) sL3 ?_ fun ys4 Hy4 sy4 ly4 by4=>?_
  ·skip
   refine GA.cons (fun _ _ _ s g=>g.same s) (n:=1) ?_ ?_
   ·intro H' s' Q q
    have i1:=is1.keep s'.keep
    have i2:=is2.keep s'.keep
    walk_at "rd"
    refine ⟨by simp [sizeLine_eq],fun p1 G1 hp1 t1 e1=>?_⟩
    have I1:aL G1 (.ref p1) (.not s1):=⟨p1,_,rfl,e1,(aL.keep (ak.keep t1) i1)⟩
    walk_at "rd"
    refine ⟨by simp [sizeLine_eq],fun p2 G2 hp2 t2 e2=>?_⟩
    have I2:aL G2 (.ref p2) (.and s2 (.not s1)):=⟨p2,_,_,rfl,e2,(aL.keep (ak.keep (t1.trans t2)) i2),(aL.keep (ak.keep t2) I1)⟩
    exact q _ _ (t1.trans t2) ⟨_,I2,⟨ok2,ok1⟩,by simp only [Sy.words]; omega⟩
   refine GA.cons (fun _ _ _ s g=>g.same s) (n:=0) ?_ ?_
   ·intro H' s' Q q
    have i1:=is1.keep s'.keep
    have i2:=is2.keep s'.keep
    walk_at "rd"
    obtain ⟨kk1,hk1,hk21⟩:=lK (z / 7) (m:=(h:Int)) (by omega)
    rw [hk1]
    refine ⟨by simp [sizeLine_eq],fun p1 G1 hp1 t1 e1=>?_⟩
    have I1:aL G1 (.ref p1) (.knows kk1 s2):=⟨p1,_,rfl,e1,(aL.keep (ak.keep t1) i2)⟩
    walk_at "rd"
    refine ⟨by simp [sizeLine_eq],fun p2 G2 hp2 t2 e2=>?_⟩
    have I2:aL G2 (.ref p2) (.or s1 (.knows kk1 s2)):=⟨p2,_,_,rfl,e2,(aL.keep (ak.keep (t1.trans t2)) i1),(aL.keep (ak.keep t2) I1)⟩
    exact q _ _ (t1.trans t2) ⟨_,I2,⟨ok1,⟨by omega,ok2⟩⟩,by simp only [Sy.words]; omega⟩
   exact GA.nil
  refine ⟨by rw [ly4,sizeLine_eq]; decide,fun l4 Hl4 hl4 sl4 el4=>?_⟩
  refine oV (sl4 _ _ (sy4 _ _ eL3)) el4 (by rw [L3,ly4,sizeLine_eq]; decide) fun m4 Hm4 hm4 sm4 em4=>?_
  have sA4:=(sy4.trans sl4).trans sm4
  have sL4:ak H2 Hm4:=sL3.trans sA4
  have L4:(X3++ys4).length=12:=by rw [List.length_append,L3,ly4]
  have B4:∀ x∈X3++ys4,gA c h Hm4 x:=fun x hx=>by
   rcases List.mem_append.mp hx with hx | hx
   ·exact (B3 x hx).same sA4
   ·exact (by4 x hx).same (sl4.trans sm4)
  have eL4:=em4
  refine jP ?_
  dsimp only [List.set_cons_zero,List.set_cons_succ]
  generalize X3++ys4=X4 at L4 B4 eL4
  clear B3 L3 eL3 by4 ly4 el4 em4
  obtain ⟨y,hy,my⟩:=yg X4 z (m:=12) L4 (by decide)
  obtain ⟨sy,iy,oky,wy⟩:=B4 y my
  have R4:=R.to sL4
  have e24:=sL4 _ _ e2
  walk_at "rd"
  refine aZ (SqL.of eL4) hy ?_
  walk_at "rd"
  refine ⟨y,sy,rfl,iy,by omega,fun H5 s5=>?_⟩
  walk_at "rd"
  refine cC (fun cm=>?_) (fun cm=>?_)
  ·walk_at "rd"
   refine ⟨iZ (s5 _ _ e24),?_⟩
   walk_at "rd"
   refine aZ (SqL.of (s5 _ _ eL4)) hy ?_
   walk_at "rd"
   refine fv (s5 _ _ e24) (by rw [sizeLine_eq]; omega) fun H6 o6 e6=>?_
   exact ⟨_,_,_,_,_,_,rfl,(R4.to s5).push (s5 _ _ e24) o6 e6 (iy.keep s5.keep) oky (by omega),by rw [List.length_append]; show ss.length + 1<=_; omega⟩
  ·walk_at "rd"
   exact ⟨_,_,_,_,_,_,rfl,R4.to s5,by omega⟩
 ·rintro σ H2 ⟨ss,v6,v7,v8,v9,v10,rfl,R,hl⟩
  obtain ⟨xs,e2,px⟩:=R.at_
  have hxl:=kc px
  have hne:xs≠[]:=fun z=>R.ne (List.length_eq_zero_iff.mp (by rw [<-hxl,z]; rfl))
  obtain ⟨x1,s1,hx1,hs1,is1⟩:=mO px hne
  walk_at "rd"
  exact aZ (SqL.of e2) hx1 (q x1 s1 H2 R.same is1 (R.ok s1 hs1).1 (R.ok s1 hs1).2)
end L2
end
section
namespace L2
open PySem PyProof.Rows
theorem ju (f:Nat->Bool) (i:Nat):(List.range (i + 1)).filter f=(List.range i).filter f++if f i=true then [i] else []:=by
 rw [List.range_succ,List.filter_append]
 by_cases h:f i=true
 ·rw [if_pos h,List.filter_cons_of_pos h]; rfl
 ·rw [if_neg h,List.filter_cons_of_neg h]; rfl
theorem jU {α:Type} (f:α->Bool) {l:List α} {i:Nat} {x:α} (h:l[i]?=some x):(l.take (i + 1)).filter f=(l.take i).filter f++if f x=true then [x] else []:=by
 rw [eK h,List.filter_append]
 by_cases q:f x=true
 ·rw [if_pos q,List.filter_cons_of_pos q]; rfl
 ·rw [if_neg q,List.filter_cons_of_neg q]; rfl
theorem wq {ss:List Nat} {j:Nat} (h:j < ss.length):ss[j]?=some (ss.getD j 0):=by
 rw [List.getD_eq_getElem?_getD,List.getElem?_eq_getElem h]; rfl
theorem zX {bs:List Bool} {j:Nat} (h:j < bs.length):bs[j]?=some (bs.getD j true):=by
 rw [List.getD_eq_getElem?_getD,List.getElem?_eq_getElem h]; rfl
theorem CM {bs:List Bool} {j:Nat} {z:Bool} (h:bs[j]?=some z):atI (bs.map V.bl) (j:Int)=some (.bl z):=bG (by rw [List.getElem?_map,h]; rfl)
theorem uF (a b:List Nat):ap (a++b)=ap a++ap b:=by unfold ap; rw [List.map_append]
noncomputable def cr (ss:List Nat) (d:Nat):List Nat:=(List.range ss.length).filter fun j=>decide (ss.getD d 0=ss.getD j 0)
noncomputable def iq (bs:List Bool) (al:List Nat):List Nat:=al.filter fun j=>!(bs.getD j true)
noncomputable def qw (bs:List Bool) (al:List Nat) (p:Addr):List V:=match iq bs al with
 | []=>[.str "knows",.ref p]
 | w :: _=>[.str "not",.int (w:Nat)]
theorem mP {ss:List Nat} {d j:Nat} (h:j∈cr ss d):j < ss.length/\ss.getD d 0=ss.getD j 0:=by
 obtain ⟨h1,h2⟩:=List.mem_filter.mp h
 exact ⟨List.mem_range.mp h1,of_decide_eq_true h2⟩
theorem yK (ss:List Nat) (d:Nat):(cr ss d).length<=ss.length:=by
 have:=List.length_filter_le (fun j=>decide (ss.getD d 0=ss.getD j 0)) (List.range ss.length)
 rw [List.length_range] at this
 exact this
noncomputable def eD (K:PySem.W.Frag):Sp:=fun vs H Q _=>∃ (a:Addr) (ss:List Nat) (i j:Nat),vs=[.ref a,.int (i:Int),.int (j:Int)]/\SqL K H a (ap ss)/\i < ss.length/\j < ss.length/\Q (.bl (decide (ss.getD i 0=ss.getD j 0))) H
noncomputable def ir (K:PySem.W.Frag):TS:=(aV (tOp rEq (tOp (bE K) (ab 0) (ab 1)) (tOp (bE K) (ab 0) (ab 2))))
theorem qx {K:PySem.W.Frag} {vs:List V} {H:Hp} {Q:VK} {E:XK} (h:eD K vs H Q E):vs.length=3:=by
 obtain ⟨a,ss,i,j,rfl,e,hi,hj,q⟩:=h
 rfl
theorem sk {K:PySem.W.Frag} {vs:List V} {H:Hp} {Q:VK} {E:XK} (h:eD K vs H Q E):ir K { nx:=fun _ H'=>Q .non H',rt:=Q } (start ["view","one","other"] vs) H:=by
 obtain ⟨a,ss,i,j,rfl,e,hi,hj,q⟩:=h
 show ir K _ [some _,some _,some _] _
 unfold ir
 walk_at "rd"
 refine aZ e (d4 (wq hi)) ?_
 walk_at "rd"
 refine aZ e (d4 (wq hj)) ?_
 walk_at "rd"
 rw [show decide (((ss.getD i 0:Nat):Int)=((ss.getD j 0:Nat):Int))=decide (ss.getD i 0=ss.getD j 0) from decide_eq_decide.mpr (by omega)]
 exact q
noncomputable def fe (K:PySem.W.Frag):Sp:=fun vs H Q _=>∃ (a b:Addr) (ss:List Nat) (bs:List Bool) (d:Nat),vs=[.ref a,.ref b,.int (d:Int)]/\SqL K H a (ap ss)/\SqL K H b (bs.map V.bl)/\bs.length=ss.length/\d < ss.length/\ss.length<=100000/\
 ∀ p t H',H p=none->H t=none->ak H H'->H' p=some (.lst (ap (cr ss d)))->H' t=some (.tup (qw bs (cr ss d) p))->Q (.ref t) H'
noncomputable def jb (K:PySem.W.Frag):TS:=(au (ay (cx (gi (ac (tCB (fR K) (ac (ab 0) ah)) ah)) (fun _ _ _ _=>(ai 0)) (fun _ _ _ _=>(tB (az (eD K) [] E0 (ac (ab 1) (ac (ab 2) (ac (ab 0) ah)))))) (fun _ _ _ _=>(ab 0)) [none,some 0,some 2]) (ai 3))
 (au (ay (cx (cO K (ab 3)) (fun _ _ _ _=>(ai 0)) (fun _ _ _ _=>(jK (tB (tOp (bE K) (ab 1) (ab 0))))) (fun _ _ _ _=>(ab 0)) [none,some 1]) (ai 4))
 (au (cu (bn (tOp (rI0 fun i j=>.bl (decide (j < i))) (tCB (fR K) (ac (ab 4) ah)) (tC (.int 0)))) (aV (ci (ac (tC (.str "not")) (ac (tOp (bE K) (ab 4) (tC (.int 0))) ah)))) bK)
 (aV (ci (ac (tC (.str "knows")) (ac (ab 3) ah)))))))
theorem so {K:PySem.W.Frag} {vs:List V} {H:Hp} {Q:VK} {E:XK} (h:fe K vs H Q E):vs.length=3:=by
 obtain ⟨a,b,ss,bs,d,rfl,ea,eb,hlb,hd,hl,q⟩:=h
 rfl
theorem uG {K:PySem.W.Frag} {vs:List V} {H:Hp} {Q:VK} {E:XK} (h:fe K vs H Q E):jb K { nx:=fun _ H'=>Q .non H',rt:=Q } (start ["view","truths","deal","alike","wrong"] vs) H:=by
 obtain ⟨a,b,ss,bs,d,rfl,ea,eb,hlb,hd,hl,q⟩:=h
 show jb K _ [some _,some _,some _,none,none] _
 unfold jb
 walk_at "rd"
 rw [aB]
 refine uc ss.length (by omega) (by omega) (by omega) (fun i acc _=>acc=ap ((List.range i).filter fun j=>decide (ss.getD d 0=ss.getD j 0))) (fun H' _=>rfl) ?_ ?_
 ·rintro p hp C s' H' fp i acc H2 hi ⟨s2,e2,l2,rfl⟩
  walk_at "rd"
  refine ⟨a,ss,d,i,rfl,s2.seq ea,hd,hi,?_⟩
  walk_at "rd"
  refine AC (fun c=>?_) (fun c=>?_)
  ·walk_at "rd"
   refine bi.put hp (fun _ _ _ _ r _=>r) s2 e2 l2 ?_
   rw [ju,if_pos c,uF]
   rfl
  ·refine bi.skip s2 e2 l2 ?_
   rw [ju,if_neg (by rw [c]; exact Bool.false_ne_true),List.append_nil]
 ·rintro p acc H2 hp s2 e2 rfl
  walk_at "rd"
  have e2':H2 p=some (.lst (ap (cr ss d))):=e2
  have hal:=yK ss d
  refine gm (ap (cr ss d)) (SqL.of e2') (by rw [aB]; omega) (fun i acc _=>acc=ap (((cr ss d).take i).filter fun j=>!(bs.getD j true))) (fun H' _=>rfl) ?_ ?_
  ·rintro r hr C s' H' fp i x acc H3 hx ⟨s3,e3,l3,rfl⟩
   obtain ⟨z,hz,rfl⟩:=iP hx
   have hzl:=(mP (List.mem_of_getElem? hz)).1
   walk_at "rd"
   refine aZ ((s2.trans s3).seq eb) (CM (zX (by omega))) ?_
   walk_at "rd"
   refine AC (fun c=>?_) (fun c=>?_)
   ·walk_at "rd"
    refine bi.put hr (fun _ _ _ _ r _=>r) s3 e3 l3 ?_
    rw [jU _ hz,if_pos c,uF]
    rfl
   ·refine bi.skip s3 e3 l3 ?_
    rw [jU _ hz,if_neg (by rw [c]; exact Bool.false_ne_true),List.append_nil]
  ·rintro r acc H3 hr s3 e3 rfl
   rw [aB,List.take_length] at e3
   have e3':H3 r=some (.lst (ap (iq bs (cr ss d)))):=e3
   walk_at "rd"
   rw [aB]
   cases hw:iq bs (cr ss d) with
   | nil=>
    refine bI (by simp) ?_
    walk_at "rd"
    refine ⟨by simp [sizeLine_eq],fun t H4 ht s4 e4=>?_⟩
    refine q p t H4 hp (s2.free (s3.free ht)) ((s2.trans s3).trans s4) (s4 _ _ (s3 _ _ e2')) ?_
    unfold qw
    rw [hw]
    exact e4
   | cons z zs=>
    rw [hw] at e3'
    refine hG (by rw [List.length_cons]; omega) ?_
    walk_at "rd"
    refine aZ (SqL.of e3') (d4 (j:=0) (z:=z) rfl) ?_
    walk_at "rd"
    refine ⟨by simp [sizeLine_eq],fun t H4 ht s4 e4=>?_⟩
    refine q p t H4 hp (s2.free (s3.free ht)) ((s2.trans s3).trans s4) (s4 _ _ (s3 _ _ e2')) ?_
    unfold qw
    rw [hw]
    exact e4
end L2
end
section
namespace L2
open PySem PyProof.Rows
noncomputable def isN:V->Bool
 | .non=>true
 | _=>false
noncomputable def qy:R2:=fun x y H Q=>y=.non/\Q (.bl (isN x)) H
noncomputable def oA:R2:=fun x y H Q=>y=.non/\Q (.bl (!isN x)) H
theorem zY {x:V} {H:Hp} {Q:VK} (h:Q (.bl (isN x)) H):qy x .non H Q:=⟨rfl,h⟩
theorem yL {x:V} {H:Hp} {Q:VK} (h:Q (.bl (!isN x)) H):oA x .non H Q:=⟨rfl,h⟩
end L2
end
section
namespace L2
open PySem PyProof.Rows
theorem eO {α:Type} {ks:List α} {i:Nat} {k:α} (hk:ks[i]?=some k):ks.take (i + 1)=ks.take i++[k]:=by
 rw [List.take_add_one,hk]; rfl
theorem kH {α β:Type} {R:α->β->Prop} {x:α} {y:β}:∀ {xs:List α} {ys:List β},Paired R xs ys->R x y->Paired R (xs++[x]) (ys++[y])
 | _,_,.nil,q=>.cons q .nil
 | _,_,.cons r t,q=>.cons r (kH t q)
theorem gB {α β:Type} {R:α->β->Prop}:∀ {xs:List α} {ys:List β},Paired R xs ys->∀ {i:Nat} {x:α},xs[i]?=some x->∃ y,ys[i]?=some y/\R x y
 | _,_,.nil,i,x,e=>by cases e
 | _,_,.cons r t,0,x,e=>by cases e; exact ⟨_,rfl,r⟩
 | _,_,.cons r t,i + 1,x,e=>gB t e
theorem kI {α β:Type} {R:α->β->Prop}:∀ {xs:List α} {ys:List β},Paired R xs ys->∀ {i:Nat} {y:β},ys[i]?=some y->∃ x,xs[i]?=some x/\R x y
 | _,_,.nil,i,x,e=>by cases e
 | _,_,.cons r t,0,x,e=>by cases e; exact ⟨_,rfl,r⟩
 | _,_,.cons r t,i + 1,x,e=>kI t e
theorem nB {rs:List Addr} {i:Nat} {x:V} (hx:(rs.map V.ref)[i]?=some x):∃ a,rs[i]?=some a/\x=.ref a:=by
 rw [List.getElem?_map] at hx
 cases h:rs[i]? with
 | none=>rw [h] at hx; cases hx
 | some a=>rw [h] at hx; cases hx; exact ⟨a,rfl,rfl⟩
theorem lL {rs:List Addr} {i:Nat} {a:Addr} (h:rs[i]?=some a):atI (rs.map V.ref) (i:Int)=some (.ref a):=bG (by rw [List.getElem?_map,h]; rfl)
section
variable {α:Type} {f:α->List V} {H H' H2 H5:Hp} {p r:Addr} {rs:List Addr} {fs:List α} {v:α}
end
section
variable {α:Type} {f:α->List V} {g:CF TG} {tt:CF TT} {te:CF TE} {σ₀:St} {Q:VK} {H:Hp} {K:PySem.W.Frag}
end
end L2
end
section
namespace KF
noncomputable abbrev Way:=Nat×Option (Nat×Nat)
noncomputable def Alk (v:List Nat) (x y:Nat):Prop:=∃ c,v[x]?=some c/\v[y]?=some c
inductive kd (ws:List (List Nat)) (d:Nat):Nat->Prop where
 | here:kd ws d d
 | step {x y:Nat} {v:List Nat} (hv:v∈ws) (h:kd ws d x) (a:Alk v x y):kd ws d y
theorem Alk.symm {v:List Nat} {x y:Nat} (h:Alk v x y):Alk v y x:=let ⟨c,a,b⟩:=h; ⟨c,b,a⟩
noncomputable def Kn (R:List (Option Way)) (y:Nat):Prop:=∃ r,R[y]?=some (some r)
structure gG (ws:List (List Nat)) (n d:Nat) (R:List (Option Way)) (P:Nat->Prop) (top:Nat):Prop where
 len:R.length=n
 start:R[d]?=some (some (0,none))
 reach:∀ (y:Nat) (r:Way),R[y]?=some (some r)->kd ws d y
 le:∀ (y a:Nat) (o:Option (Nat×Nat)),R[y]?=some (some (a,o))->a<=top
 pred:∀ (y a k x:Nat),R[y]?=some (some (a,some (k,x)))->∃ (b:Nat) (o:Option (Nat×Nat)) (v:List Nat),a=b + 1/\R[x]?=some (some (b,o))/\ws[k]?=some v/\Alk v x y/\x≠y
 zero:∀ (y a:Nat),R[y]?=some (some (a,none))->y=d/\a=0
 closed:∀ (x:Nat),P x->∃ (a:Nat) (o:Option (Nat×Nat)),R[x]?=some (some (a,o))/\∀ v∈ws,∀ (y:Nat),Alk v x y->∃ (b:Nat) (o':Option (Nat×Nat)),R[y]?=some (some (b,o'))/\b<=a + 1
section
variable {ws:List (List Nat)} {n d:Nat} {R:List (Option Way)} {P:Nat->Prop} {i x y k:Nat} {o:Option (Nat×Nat)} {v:List Nat}
theorem hZ {r r':Way} {z:Nat} (hy:R[y]?=some none) (h:R[z]?=some (some r)):(R.set y (some r'))[z]?=some (some r):=by
 have ne:y≠z:=fun e=>by subst e; rw [hy] at h; cases h
 rw [List.getElem?_set,if_neg ne]
 exact h
theorem kJ {r r':Way} {z:Nat} (hy:R[y]?=some none) (h:(R.set y (some r'))[z]?=some (some r)):(z=y/\r=r')\/(z≠y/\R[z]?=some (some r)):=by
 rw [List.getElem?_set] at h
 by_cases e:y=z
 ·subst e
  rw [if_pos rfl,if_pos (List.getElem?_eq_some_iff.mp hy).1] at h
  exact .inl ⟨rfl,(Option.some.inj (Option.some.inj h)).symm⟩
 ·rw [if_neg e] at h
  exact .inr ⟨fun z=>e z.symm,h⟩
theorem qz {r':Way} (hy:R[y]?=some none):(R.set y (some r'))[y]?=some (some r'):=by
 rw [List.getElem?_set,if_pos rfl,if_pos (List.getElem?_eq_some_iff.mp hy).1]
theorem Kn.put {r':Way} {z:Nat} (hy:R[y]?=some none) (h:Kn R z):Kn (R.set y (some r')) z:=let ⟨r,e⟩:=h; ⟨r,hZ hy e⟩
theorem gG.put (B:gG ws n d R P (i + 1)) (hy:R[y]?=some none) (hx:R[x]?=some (some (i,o))) (hk:ws[k]?=some v) (ha:Alk v x y):gG ws n d (R.set y (some (i + 1,some (k,x)))) P (i + 1) where
 len:=by rw [List.length_set]; exact B.len
 start:=hZ hy B.start
 reach:=fun z r h=>by
  rcases kJ hy h with ⟨rfl,_⟩ | ⟨_,h⟩
  ·exact .step (List.mem_of_getElem? hk) (B.reach _ _ hx) ha
  ·exact B.reach z r h
 le:=fun z a o' h=>by
  rcases kJ hy h with ⟨_,e⟩ | ⟨_,h⟩
  ·cases e; exact Nat.le_refl _
  ·exact B.le z a o' h
 pred:=fun z a k' x' h=>by
  rcases kJ hy h with ⟨rfl,e⟩ | ⟨_,h⟩
  ·cases e
   exact ⟨i,o,v,rfl,hZ hy hx,hk,ha,fun e=>by subst e; rw [hy] at hx; cases hx⟩
  ·obtain ⟨b,o',v',h1,h2,h3,h4,h5⟩:=B.pred z a k' x' h
   exact ⟨b,o',v',h1,hZ hy h2,h3,h4,h5⟩
 zero:=fun z a h=>by
  rcases kJ hy h with ⟨_,e⟩ | ⟨_,h⟩
  ·cases e
  ·exact B.zero z a h
 closed:=fun z hz=>by
  obtain ⟨a,o',h1,h2⟩:=B.closed z hz
  refine ⟨a,o',hZ hy h1,fun v hv y' ha'=>?_⟩
  obtain ⟨b,o2,h3,h4⟩:=h2 v hv y' ha'
  exact ⟨b,o2,hZ hy h3,h4⟩
theorem gG.up (B:gG ws n d R P i):gG ws n d R P (i + 1):={ B with le:=fun y a o h=>Nat.le_succ_of_le (B.le y a o h) }
theorem gG.done (B:gG ws n d R P (i + 1)) (hx:R[x]?=some (some (i,o))) (h:∀ v∈ws,∀ y,Alk v x y->Kn R y) {P':Nat->Prop} (hP:∀ z,P' z->P z\/z=x):gG ws n d R P' (i + 1):=
 ⟨B.len,B.start,B.reach,B.le,B.pred,B.zero,fun z hz=>by
  rcases hP z hz with hz | e
  ·exact B.closed z hz
  ·subst e
   refine ⟨i,o,hx,fun v hv y ha=>?_⟩
   obtain ⟨⟨b,o'⟩,hr⟩:=h v hv y ha
   exact ⟨b,o',hr,B.le y b o' hr⟩⟩
theorem gG.sub (B:gG ws n d R P i) {P':Nat->Prop} (hP:∀ z,P' z->P z):gG ws n d R P' i:={ B with closed:=fun z hz=>B.closed z (hP z hz) }
noncomputable def iR (R:List (Option Way)):Nat:=R.countP Option.isNone
theorem uH {r:Way}:∀ {R:List (Option Way)} {y:Nat},R[y]?=some none->iR R=iR (R.set y (some r)) + 1
 | s :: R,0,h=>by
  cases h
  unfold iR
  rw [List.set_cons_zero,List.countP_cons_of_pos rfl,List.countP_cons_of_neg (by simp)]
 | s :: R,y + 1,h=>by
  have ih:=uH (r:=r) (R:=R) (y:=y) h
  unfold iR at ih ⊢
  rw [List.set_cons_succ,List.countP_cons,List.countP_cons,ih]
  omega
 | [],y,h=>by cases h
end
structure jk (ws:List (List Nat)) (n d:Nat) (R:List (Option Way)):Prop where
 len:R.length=n
 start:R[d]?=some (some (0,none))
 iff_:∀ y,Kn R y↔kd ws d y
 pred:∀ (y a k x:Nat),R[y]?=some (some (a,some (k,x)))->∃ (b:Nat) (o:Option (Nat×Nat)) (v:List Nat),a=b + 1/\R[x]?=some (some (b,o))/\ws[k]?=some v/\Alk v x y/\x≠y
 zero:∀ (y a:Nat),R[y]?=some (some (a,none))->y=d/\a=0
 near:∀ v∈ws,∀ (x y a b:Nat) (o o':Option (Nat×Nat)),Alk v x y->R[x]?=some (some (a,o))->R[y]?=some (some (b,o'))->b<=a + 1
theorem gG.fin {ws:List (List Nat)} {n d:Nat} {R:List (Option Way)} {P:Nat->Prop} {i:Nat} (B:gG ws n d R P i) (hP:∀ y,Kn R y->P y):jk ws n d R where
 len:=B.len
 start:=B.start
 iff_:=fun y=>by
  constructor
  ·rintro ⟨r,h⟩; exact B.reach y r h
  ·intro h
   induction h with
   | here=>exact ⟨_,B.start⟩
   | step hv _ a ih=>
    obtain ⟨_,_,_,h2⟩:=B.closed _ (hP _ ih)
    obtain ⟨b,o,h3,_⟩:=h2 _ hv _ a
    exact ⟨_,h3⟩
 pred:=B.pred
 zero:=B.zero
 near:=fun v hv x y a b o o' ha hx hy=>by
  obtain ⟨a',o2,h1,h2⟩:=B.closed x (hP x ⟨_,hx⟩)
  rw [hx] at h1
  cases h1
  obtain ⟨b',o3,h3,h4⟩:=h2 v hv y ha
  rw [hy] at h3
  cases h3
  exact h4
noncomputable def ke (v:List Nat) (c:Nat):List Nat:=(List.range v.length).filter fun y=>v[y]? == some c
theorem qA {v:List Nat} {c y:Nat}:y∈ke v c↔v[y]?=some c:=by
 unfold ke
 rw [List.mem_filter,List.mem_range,beq_iff_eq]
 exact ⟨fun h=>h.2,fun h=>⟨(List.getElem?_eq_some_iff.mp h).1,h⟩⟩
noncomputable def GOk (ws:List (List Nat)) (n:Nat) (R:List (Option Way)) (G:List (List (List Nat))):Prop:=∀ (k:Nat) (v:List Nat),ws[k]?=some v->∃ cl,G[k]?=some cl/\cl.length=n/\∀ (c:Nat),c < n->cl[c]?=some (ke v c)\/(cl[c]?=some []/\∀ (y:Nat),v[y]?=some c->Kn R y)
theorem GOk.put {ws:List (List Nat)} {n y:Nat} {R:List (Option Way)} {G:List (List (List Nat))} {r:Way} (h:GOk ws n R G) (hy:R[y]?=some none):GOk ws n (R.set y (some r)) G:=fun k v hv=>by
 obtain ⟨cl,h1,h2,h3⟩:=h k v hv
 refine ⟨cl,h1,h2,fun c hc=>?_⟩
 rcases h3 c hc with h4 | ⟨h4,h5⟩
 ·exact .inl h4
 ·exact .inr ⟨h4,fun z hz=>(h5 z hz).put hy⟩
theorem GOk.clear {ws:List (List Nat)} {n k c:Nat} {R:List (Option Way)} {G:List (List (List Nat))} {v:List Nat} {cl:List (List Nat)} (h:GOk ws n R G) (hv:ws[k]?=some v) (hg:G[k]?=some cl) (hc:c < n) (hk:∀ (y:Nat),v[y]?=some c->Kn R y):GOk ws n R (G.set k (cl.set c [])):=fun k' v' hv'=>by
 by_cases e:k=k'
 ·subst e
  rw [hv] at hv'
  cases hv'
  obtain ⟨cl',h1,h2,h3⟩:=h k v hv
  rw [hg] at h1
  cases h1
  refine ⟨cl.set c [],by rw [List.getElem?_set,if_pos rfl,if_pos (List.getElem?_eq_some_iff.mp hg).1],by rw [List.length_set]; exact h2,fun c' hc'=>?_⟩
  by_cases e:c=c'
  ·subst e
   exact .inr ⟨by rw [List.getElem?_set,if_pos rfl,if_pos (by omega)],hk⟩
  ·rw [List.getElem?_set,if_neg e]
   exact h3 c' hc'
 ·obtain ⟨cl',h1,h2,h3⟩:=h k' v' hv'
  exact ⟨cl',by rw [List.getElem?_set,if_neg e]; exact h1,h2,h3⟩
end KF
end
section
namespace L2
open PySem PyProof.Rows
open KF
section
variable {g:CF TG} {tt:CF TT} {te:CF TE} {σ₀:St} {Q:VK} {H:Hp} {K:PySem.W.Frag}
theorem uI {a:Addr} (xs:List V) (hx:SqL K H a xs) (hz:xs.length<=1000000) (R:Addr->Nat->List V->Hp->Prop) (h0:∀ p H',H p=none->ak H H'->H' p=some (.lst [])->R p 0 [] H')
  (hs:∀ p,H p=none->∀ C s' H' fp,∀ i x acc H2,xs[i]?=some x->bi H p (R p) i acc H2->g C s' H' fp x σ₀ H2 fun σ2 H3=>tt C s' H' fp σ2 H3 fun b H4=>if b=true then te C s' H' fp σ2 H4 fun y H5=>H5 p=some (.lst acc)/\bi H p (R p) (i + 1) (acc++[y]) (upd H5 p (.lst (acc++[y]))) else bi H p (R p) (i + 1) acc H4)
  (hd:∀ p acc H2,H p=none->ak H H2->H2 p=some (.lst acc)->R p xs.length acc H2->Q (.ref p) H2):
  ∃ a',V.ref a=.ref a'/\(∃ xs,SqL K H a' xs)/\∀ p,H p=none->∃ W:Nat->Nat->List V->Hp->Prop,(∃ m,W 0 m [] (upd H p (.lst [])))/\∀ C s' H' fp,b8 (Itl K a') (g C s' H' fp) (tt C s' H' fp) (te C s' H' fp) σ₀ p Q W:=
 ⟨a,rfl,⟨xs,hx⟩,fun p hp=>mD (bi H p (R p)) ⟨aP hp _,av,Nat.le_refl _,h0 _ _ hp (aP hp _) av⟩ (fun i acc H2 _ c=>⟨c.2.1,c.2.2.1⟩) (fun i acc H2 _ c=>c.1.seq hx) (by rw [sizeLine_eq]; omega) (fun C s' H' fp i x acc H2 hi c=>hs p hp C s' H' fp i x acc H2 hi c) fun acc H2 c=>hd p acc H2 hp c.1 c.2.1 c.2.2.2⟩
end
theorem pG {α β:Type} {R:α->β->Prop} {x:α} {y:β}:∀ {xs:List α} {ys:List β} (i:Nat),Paired R xs ys->R x y->Paired R (xs.set i x) (ys.set i y)
 | _,_,_,.nil,_=>.nil
 | _,_,0,.cons _ t,q=>.cons q t
 | _,_,i + 1,.cons r t,q=>.cons r (pG i t q)
theorem mQ {α β:Type} {R R':α->β->Prop}:∀ {xs:List α} {ys:List β},Paired R xs ys->(∀ x∈xs,∀ y,R x y->R' x y)->Paired R' xs ys
 | _,_,.nil,_=>.nil
 | _,_,.cons r t,h=>.cons (h _ (List.mem_cons_self ..) _ r) (mQ t fun x hx y q=>h x (List.mem_cons_of_mem _ hx) y q)
theorem gC {ds:List Nat} {i:Nat} {x:V} (h:(ap ds)[i]?=some x):∃ d:Nat,ds[i]?=some d/\x=.int (d:Int):=by
 unfold ap at h
 rw [List.getElem?_map] at h
 cases e:ds[i]? with
 | none=>rw [e] at h; cases h
 | some s=>rw [e] at h; cases h; exact ⟨s,rfl,rfl⟩
noncomputable def kg (v:List Nat) (i c:Nat):List Nat:=(List.range i).filter fun y=>v[y]? == some c
theorem xo {v:List Nat} {i x:Nat} (hx:v[i]?=some x) (c:Nat):kg v (i + 1) c=if c=x then kg v i c++[i] else kg v i c:=by
 unfold kg
 rw [List.range_succ,List.filter_append]
 by_cases h:c=x
 ·subst h
  rw [if_pos rfl]
  simp [hx]
 ·rw [if_neg h]
  have:(some x == some c)=false:=by simp; exact fun e=>h e.symm
  simp [hx,this]
noncomputable def DR (H0 H:Hp) (p:Addr) (cl:List (List Nat)):Prop:=∃ as:List Addr,H p=some (.lst (as.map V.ref))/\Paired (fun (b:Addr) (c:List Nat)=>H0 b=none/\b≠p/\H b=some (.lst (ap c))) as cl
noncomputable def ff (_:PySem.W.Frag):Sp:=fun vs H Q _=>∃ (a:Addr) (v:List Nat),vs=[.ref a]/\H a=some (.lst (ap v))/\(∀ x∈v,x < v.length)/\v.length<=1000/\
 ∀ p H',H p=none->ak H H'->DR H H' p ((List.range v.length).map fun c=>ke v c)->Q (.ref p) H'
noncomputable def jc (K:PySem.W.Frag):TS:=(au (ay (cx (cO K (ab 0)) (fun _ _ _ _=>(ai 0)) (fun _ _ _ _=>cB) (fun _ _ _ _=>(dY ah)) [none]) (ai 1))
 (au (dc (gK bu K (ac (ab 0) ah)) (eX K 2 (bt (ai 2) (bt (ai 3) eW))) (gh (tBM K "list" eo (tOp (bE K) (ab 1) (ab 3)) (ac (ab 2) ah))))
 (aV (ab 1))))
theorem sr {K:PySem.W.Frag} {vs:List V} {H:Hp} {Q:VK} {E:XK} (h:ff K vs H Q E):vs.length=1:=by
 obtain ⟨a,v,rfl,e,hv,hl,q⟩:=h
 rfl
theorem uJ {K:PySem.W.Frag} {vs:List V} {H:Hp} {Q:VK} {E:XK} (h:ff K vs H Q E):jc K { nx:=fun _ H'=>Q .non H',rt:=Q } (start ["view","groups","thing","least"] vs) H:=by
 obtain ⟨a,v,rfl,e,hv,hl,q⟩:=h
 show jc K _ [some _,none,none,none] _
 unfold jc
 walk_at "rd"
 refine uI (ap v) (SqL.of e) (by rw [aB]; omega) (fun p i acc H2=>∃ as:List Addr,acc=as.map V.ref/\as.length=i/\as.Nodup/\∀ b∈as,b≠p/\H b=none/\H2 b=some (.lst [])) (fun p H' hp s e=>⟨[],rfl,rfl,.nil,fun b hb=>by (cases hb)⟩) ?_ ?_
 ·rintro p hp C s' H' fp i x acc H2 hx ⟨s2,e2,l2,as,rfl,la,nd,h2⟩
  walk_at "rd"
  refine ⟨by simp [sizeLine_eq],fun b H3 hb s3 e3=>?_⟩
  have nb:b≠p:=(aJ e2 hb).symm
  refine ⟨s3 _ _ e2,(s2.trans s3).upd hp _,av,by rw [List.length_append]; exact Nat.add_le_add_right l2 1,as++[b],by rw [List.map_append]; rfl,by rw [List.length_append,la]; rfl,?_,fun c hc=>?_⟩
  ·refine List.nodup_append.mpr ⟨nd,by simp,fun x hx y hy e=>?_⟩
   rw [List.mem_singleton.mp hy] at e
   subst e
   rw [(h2 x hx).2.2] at hb
   cases hb
  ·rcases List.mem_append.mp hc with hc | hc
   ·exact ⟨(h2 c hc).1,(h2 c hc).2.1,by rw [aF (h2 c hc).1]; exact s3 _ _ (h2 c hc).2.2⟩
   ·rw [List.mem_singleton.mp hc]
    exact ⟨nb,s2.free hb,by rw [aF nb]; exact e3⟩
 ·rintro p acc H2 hp s2 e2 ⟨as,rfl,la,nd,h2⟩
  rw [aB] at la
  walk_at "rd"
  refine jE (S:=bu) (ap v) (SqL.of (s2 _ _ e)) (fun i σ H3=>∃ (u1 u2:Option V),σ=[some (.ref a),some (.ref p),u1,u2]/\ak H H3/\H3 p=some (.lst (as.map V.ref))/\∀ (c:Nat) (b:Addr),as[c]?=some b->b≠p/\H b=none/\H3 b=some (.lst (ap (kg v i c)))) ⟨_,_,rfl,s2,e2,fun c b hb=>h2 b (List.mem_of_getElem? hb)⟩ ?_ ?_ ?_
  ·rintro i σ H3 hi ⟨u1,u2,rfl,s3,e3,h3⟩
   exact SqL.of (s3 _ _ e)
  ·rintro i x T σ H3 H4 hx ⟨u1,u2,rfl,s3,e3,h3⟩ hT s4 e4
   obtain ⟨x,hxi,rfl⟩:=gC hx
   have hxl:=hv x (List.mem_of_getElem? hxi)
   have hi:i < v.length:=(List.getElem?_eq_some_iff.mp hxi).1
   have hb:as[x]?=some (as[x]'(by omega)):=List.getElem?_eq_getElem (by omega)
   obtain ⟨b1,b2,b3⟩:=h3 x _ hb
   have hlen:(kg v i x).length<=i:=by unfold kg; exact Nat.le_trans (List.length_filter_le _ _) (by simp)
   walk_at "rd"
   refine eJ (SqT.of e4) ?_
   walk_at "rd"
   refine aZ (SqL.of (s4 _ _ e3)) (lL hb) ?_
   have e4b:=s4 _ _ b3
   refine ⟨iZ e4b,?_⟩
   walk_at "rd"
   refine fv e4b (by rw [aB,sizeLine_eq]; omega) fun H5 o5 e5=>?_
   walk_at "rd"
   refine ⟨_,_,rfl,(s3.trans s4).off b2 o5,by rw [o5 p b1.symm]; exact s4 _ _ e3,fun c b hc=>?_⟩
   obtain ⟨c1,c2,c3⟩:=h3 c b hc
   refine ⟨c1,c2,?_⟩
   rw [xo hxi]
   by_cases h:c=x
   ·subst h
    rw [hb] at hc
    cases hc
    rw [if_pos rfl,e5,dv]
   ·rw [if_neg h,o5 b (fun z=>h ?_)]
    ·exact s4 _ _ c3
    ·subst z
     exact ((List.getElem?_inj (by omega) nd).mp (hb.trans hc.symm)).symm
  ·rintro σ H3 ⟨u1,u2,rfl,s3,e3,h3⟩
   rw [aB] at h3
   walk_at "rd"
   refine q p H3 hp s3 ⟨as,e3,?_⟩
   have:∀ (l:List Addr) (k:Nat),(∀ (c:Nat) (b:Addr),l[c]?=some b->b≠p/\H b=none/\H3 b=some (.lst (ap (kg v v.length (k + c)))))->Paired (fun (b:Addr) (c:List Nat)=>H b=none/\b≠p/\H3 b=some (.lst (ap c))) l ((List.range' k l.length).map fun c=>ke v c):=by
    intro l
    induction l with
    | nil=>intro k _; exact .nil
    | cons b l ih=>
     intro k h
     obtain ⟨h1,h2,h3⟩:=h 0 b rfl
     refine .cons ⟨h2,h1,h3⟩ (ih (k + 1) fun c b' hb'=>?_)
     have:=h (c + 1) b' hb'
     rw [show k + 1 + c=k + (c + 1) by omega]
     exact this
   have r:=this as 0 fun c b hb=>by rw [Nat.zero_add]; exact h3 c b hb
   rw [la,<-List.range_eq_range'] at r
   exact r
noncomputable def gO (H:Hp) (x:V):Option Way->Prop
 | none=>x=.non
 | some (a,none)=>∃ t,x=.ref t/\H t=some (.tup [.int (a:Int),.non,.non])
 | some (a,some (k,y))=>∃ t,x=.ref t/\H t=some (.tup [.int (a:Int),.int (k:Int),.int (y:Int)])
theorem gO.keep {H H':Hp} {x:V} {r:Option Way} (h:gO H x r) (k:eY H H'):gO H' x r:=by
 match r,h with
 | none,h=>exact h
 | some (a,none),⟨t,e,q⟩=>exact ⟨t,e,k _ _ q⟩
 | some (a,some (_,_)),⟨t,e,q⟩=>exact ⟨t,e,k _ _ q⟩
theorem gO.isN {H:Hp} {x:V} {r:Option Way} (h:gO H x r):isN x=r.isNone:=by
 match r,h with
 | none,h=>rw [h]; rfl
 | some (a,none),⟨t,e,_⟩=>rw [e]; rfl
 | some (a,some (_,_)),⟨t,e,_⟩=>rw [e]; rfl
theorem gO.dist {H:Hp} {x:V} {a:Nat} {o:Option (Nat×Nat)} (h:gO H x (some (a,o))):∃ (t:Addr) (y z:V),x=.ref t/\H t=some (.tup [.int (a:Int),y,z]):=by
 match o,h with
 | none,⟨t,e,q⟩=>exact ⟨t,_,_,e,q⟩
 | some (_,_),⟨t,e,q⟩=>exact ⟨t,_,_,e,q⟩
structure BH (M:List Addr) (H:Hp) (vw g ro:Addr) (gs:List Addr) (ws:List (List Nat)) (G:List (List (List Nat))) (R:List (Option Way)):Prop where
 vws:∃ rs:List Addr,H vw=some (.lst (rs.map V.ref))/\vw∉M/\Paired (fun (a:Addr) (v:List Nat)=>a∉M/\H a=some (.lst (ap v))) rs ws
 grp:H g=some (.lst (gs.map V.ref))/\g∉M
 cls:Paired (fun (a:Addr) (cl:List (List Nat))=>∃ as:List Addr,H a=some (.lst (as.map V.ref))/\Paired (fun (b:Addr) (c:List Nat)=>b∉M/\H b=some (.lst (ap c))) as cl) gs G
 rod:∃ xs:List V,H ro=some (.lst xs)/\Paired (gO H) xs R
 nd:(ro :: gs).Nodup
 sub:∀ a∈ro :: gs,a∈M
section
variable {M:List Addr} {H H':Hp} {vw g ro:Addr} {gs:List Addr} {ws:List (List Nat)} {G:List (List (List Nat))} {R:List (Option Way)}
theorem BH.same (B:BH M H vw g ro gs ws G R) (s:ak H H'):BH M H' vw g ro gs ws G R:=by
 obtain ⟨rs,h1,h2,h3⟩:=B.vws
 obtain ⟨xs,h4,h5⟩:=B.rod
 exact ⟨⟨rs,s _ _ h1,h2,Paired.mapP h3 fun _ _ q=>⟨q.1,s _ _ q.2⟩⟩,⟨s _ _ B.grp.1,B.grp.2⟩,Paired.mapP B.cls fun _ _ ⟨as,q1,q2⟩=>⟨as,s _ _ q1,Paired.mapP q2 fun _ _ q=>⟨q.1,s _ _ q.2⟩⟩,⟨xs,s _ _ h4,Paired.mapP h5 fun _ _ q=>q.keep s.keep⟩,B.nd,B.sub⟩
theorem BH.off {l:Addr} {ys:List V} (B:BH M H vw g ro gs ws G R) (hl:l∈M) (n:l∉ro :: gs) (e:H l=some (.lst ys)) (o:Off l H H'):BH M H' vw g ro gs ws G R:=by
 obtain ⟨rs,h1,h2,h3⟩:=B.vws
 obtain ⟨xs,h4,h5⟩:=B.rod
 have ne:∀ a,a∉M->H' a=H a:=fun a ha=>o a fun z=>ha (z ▸ hl)
 have ne2:∀ a,a∈ro :: gs->H' a=H a:=fun a ha=>o a fun z=>n (z ▸ ha)
 exact ⟨⟨rs,by rw [ne _ h2]; exact h1,h2,Paired.mapP h3 fun _ _ q=>⟨q.1,by rw [ne _ q.1]; exact q.2⟩⟩,⟨by rw [ne _ B.grp.2]; exact B.grp.1,B.grp.2⟩,
  mQ B.cls fun a ha _ ⟨as,q1,q2⟩=>⟨as,by rw [ne2 a (List.mem_cons_of_mem _ ha)]; exact q1,Paired.mapP q2 fun _ _ q=>⟨q.1,by rw [ne _ q.1]; exact q.2⟩⟩,
  ⟨xs,by rw [ne2 ro (List.mem_cons_self ..)]; exact h4,Paired.mapP h5 fun _ _ q=>q.keep (o.keep e)⟩,B.nd,B.sub⟩
theorem BH.put {xs ys:List V} {R':List (Option Way)} (B:BH M H vw g ro gs ws G R) (e:H ro=some (.lst xs)) (o:Off ro H H') (e':H' ro=some (.lst ys)) (hr:Paired (gO H') ys R'):BH M H' vw g ro gs ws G R':=by
 obtain ⟨rs,h1,h2,h3⟩:=B.vws
 have hm:ro∈M:=B.sub ro (List.mem_cons_self ..)
 have ne:∀ a,a∉M->H' a=H a:=fun a ha=>o a fun z=>ha (z ▸ hm)
 have ng:∀ a∈gs,H' a=H a:=fun a ha=>o a fun z=>(List.nodup_cons.mp B.nd).1 (z ▸ ha)
 exact ⟨⟨rs,by rw [ne _ h2]; exact h1,h2,Paired.mapP h3 fun _ _ q=>⟨q.1,by rw [ne _ q.1]; exact q.2⟩⟩,⟨by rw [ne _ B.grp.2]; exact B.grp.1,B.grp.2⟩,
  mQ B.cls fun a ha _ ⟨as,q1,q2⟩=>⟨as,by rw [ng a ha]; exact q1,Paired.mapP q2 fun _ _ q=>⟨q.1,by rw [ne _ q.1]; exact q.2⟩⟩,⟨ys,e',hr⟩,B.nd,B.sub⟩
theorem BH.clear {k c:Nat} {gk em:Addr} {as:List Addr} {cl:List (List Nat)} (B:BH M H vw g ro gs ws G R) (hk:gs[k]?=some gk) (hcl:G[k]?=some cl) (e:H gk=some (.lst (as.map V.ref))) (hp:Paired (fun (b:Addr) (c:List Nat)=>b∉M/\H b=some (.lst (ap c))) as cl)
  (hem:em∉M/\H em=some (.lst [])) (o:Off gk H H') (e':H' gk=some (.lst ((as.set c em).map V.ref))):BH M H' vw g ro gs ws (G.set k (cl.set c [])) R:=by
 obtain ⟨rs,h1,h2,h3⟩:=B.vws
 obtain ⟨xs,h4,h5⟩:=B.rod
 have hgm:gk∈gs:=List.mem_of_getElem? hk
 have hm:gk∈M:=B.sub gk (List.mem_cons_of_mem _ hgm)
 have ne:∀ a,a∉M->H' a=H a:=fun a ha=>o a fun z=>ha (z ▸ hm)
 have nr:H' ro=H ro:=o ro fun z=>(List.nodup_cons.mp B.nd).1 (z ▸ hgm)
 have go:∀ {ps:List Addr} {qs:List (List (List Nat))} {k:Nat},Paired (fun (a:Addr) (cl:List (List Nat))=>∃ as:List Addr,H a=some (.lst (as.map V.ref))/\Paired (fun (b:Addr) (c:List Nat)=>b∉M/\H b=some (.lst (ap c))) as cl) ps qs->ps.Nodup->ps[k]?=some gk->
   Paired (fun (a:Addr) (cl:List (List Nat))=>∃ as:List Addr,H' a=some (.lst (as.map V.ref))/\Paired (fun (b:Addr) (c:List Nat)=>b∉M/\H' b=some (.lst (ap c))) as cl) ps (qs.set k (cl.set c [])):=by
  intro ps qs k q
  induction q generalizing k with
  | nil=>intro _ h; cases h
  | cons r t ih=>
   rename_i a cl0 ps0 qs0
   intro nd h
   obtain ⟨nd1,nd2⟩:=List.nodup_cons.mp nd
   cases k with
   | zero=>
    cases h
    refine .cons ⟨as.set c em,e',pG c (Paired.mapP hp fun _ _ q=>⟨q.1,by rw [ne _ q.1]; exact q.2⟩) ⟨hem.1,by rw [ne _ hem.1]; exact hem.2⟩⟩ ?_
    exact mQ t fun a ha _ ⟨as,q1,q2⟩=>⟨as,by rw [o a fun z=>nd1 (z ▸ ha)]; exact q1,Paired.mapP q2 fun _ _ q=>⟨q.1,by rw [ne _ q.1]; exact q.2⟩⟩
   | succ k=>
    refine .cons ?_ (ih nd2 h)
    obtain ⟨as,q1,q2⟩:=r
    exact ⟨as,by rw [o a fun z=>nd1 (by rw [z]; exact List.mem_of_getElem? h)]; exact q1,Paired.mapP q2 fun _ _ q=>⟨q.1,by rw [ne _ q.1]; exact q.2⟩⟩
 exact ⟨⟨rs,by rw [ne _ h2]; exact h1,h2,Paired.mapP h3 fun _ _ q=>⟨q.1,by rw [ne _ q.1]; exact q.2⟩⟩,⟨by rw [ne _ B.grp.2]; exact B.grp.1,B.grp.2⟩,go B.cls (List.nodup_cons.mp B.nd).2 hk,⟨xs,by rw [nr]; exact h4,Paired.mapP h5 fun _ _ q=>q.keep (o.keep e)⟩,B.nd,B.sub⟩
theorem BH.add {l:Addr} (B:BH M H vw g ro gs ws G R) (hl:H l=none):BH (l :: M) H vw g ro gs ws G R:=by
 obtain ⟨rs,h1,h2,h3⟩:=B.vws
 have nl:∀ {a:Addr} {o:HO},a∉M->H a=some o->a∉l :: M:=fun ha he z=>by
  rcases List.mem_cons.mp z with z | z
  ·subst z; rw [hl] at he; cases he
  ·exact ha z
 exact ⟨⟨rs,h1,nl h2 h1,Paired.mapP h3 fun _ _ q=>⟨nl q.1 q.2,q.2⟩⟩,⟨B.grp.1,nl B.grp.2 B.grp.1⟩,Paired.mapP B.cls fun _ _ ⟨as,q1,q2⟩=>⟨as,q1,Paired.mapP q2 fun _ _ q=>⟨nl q.1 q.2,q.2⟩⟩,B.rod,B.nd,fun a ha=>List.mem_cons_of_mem _ (B.sub a ha)⟩
theorem BH.less {l:Addr} (B:BH (l :: M) H vw g ro gs ws G R) (hs:∀ a∈ro :: gs,a∈M):BH M H vw g ro gs ws G R:=by
 obtain ⟨rs,h1,h2,h3⟩:=B.vws
 have nl:∀ {a:Addr},a∉l :: M->a∉M:=fun ha z=>ha (List.mem_cons_of_mem _ z)
 exact ⟨⟨rs,h1,nl h2,Paired.mapP h3 fun _ _ q=>⟨nl q.1,q.2⟩⟩,⟨B.grp.1,nl B.grp.2⟩,Paired.mapP B.cls fun _ _ ⟨as,q1,q2⟩=>⟨as,q1,Paired.mapP q2 fun _ _ q=>⟨nl q.1,q.2⟩⟩,B.rod,B.nd,hs⟩
end
noncomputable def dn (M:List Addr) (H H':Hp):Prop:=∀ b u,b∉M->H b=some u->H' b=some u
theorem dn.refl (M:List Addr) (H:Hp):dn M H H:=fun _ _ _ h=>h
theorem dn.same {M:List Addr} {H H1 H2:Hp} (a:dn M H H1) (s:ak H1 H2):dn M H H2:=fun b u n h=>s b u (a b u n h)
theorem dn.off {M:List Addr} {H H1 H2:Hp} {l:Addr} (a:dn M H H1) (hl:l∈M) (o:Off l H1 H2):dn M H H2:=fun b u n h=>by rw [o b fun z=>n (z ▸ hl)]; exact a b u n h
theorem dn.trans {M:List Addr} {H H1 H2:Hp} (a:dn M H H1) (b:dn M H1 H2):dn M H H2:=fun x u n h=>b x u n (a x u n h)
structure xp (ws:List (List Nat)) (n d:Nat) (R:List (Option Way)) (G:List (List (List Nat))) (P:Nat->Prop) (i:Nat) (N:List Nat):Prop where
 bfs:gG ws n d R P i
 gok:GOk ws n R G
 new:∀ x∈N,∃ o,R[x]?=some (some (i,o))
 cov:∀ y,Kn R y->P y\/y∈N
noncomputable def dR (_:PySem.W.Frag):Sp:=fun vs H Q _=>∃ (vw g ro nw:Addr) (gs:List Addr) (ws:List (List Nat)) (G:List (List (List Nat))) (R:List (Option Way)) (P:Nat->Prop) (n d i:Nat) (N:List Nat),vs=[.ref vw,.ref g,.ref ro,.ref nw]/\BH (ro :: gs) H vw g ro gs ws G R/\xp ws n d R G P i N/\(∀ v∈ws,Within n v)/\H nw=some (.lst (ap N))/\nw∉ro :: gs/\n<=1000/\
 ∀ (fu:Addr) (H':Hp) (G':List (List (List Nat))) (R':List (Option Way)) (F:List Nat),H fu=none->dn (ro :: gs) H H'->BH (ro :: gs) H' vw g ro gs ws G' R'->xp ws n d R' G' (fun y=>P y\/y∈N) (i + 1) F->H' fu=some (.lst (ap F))->iR R' + F.length=iR R->Q (.ref fu) H'
structure Stg (vw g ro fu:Addr) (gs:List Addr) (ws:List (List Nat)) (n d i:Nat) (P:Nat->Prop) (N Nj:List Nat) (R:List (Option Way)) (H:Hp) (G':List (List (List Nat))) (R':List (Option Way)) (F:List Nat):Prop where
 bh:BH (fu :: ro :: gs) H vw g ro gs ws G' R'
 bfs:gG ws n d R' (fun y=>P y\/y∈Nj) (i + 1)
 gok:GOk ws n R' G'
 old:∀ (y:Nat) (r:Way),R[y]?=some (some r)->R'[y]?=some (some r)
 fs:∀ x∈F,∃ o,R'[x]?=some (some (i + 1,o))
 cov:∀ y,Kn R' y->(P y\/y∈N)\/y∈F
 ef:H fu=some (.lst (ap F))
 cn:iR R' + F.length=iR R
noncomputable def gP (K:PySem.W.Frag):TS:=(au (ay (dY ah) (ai 4))
 (au (dc (cO K (ab 3)) (ai 5) (dc (gK bu K (ac (ab 0) ah)) (eX K 2 (bt (ai 6) (bt (ai 7) eW))) (au (dc (cO K (tOp (bE K) (tOp (bE K) (ab 1) (ab 6)) (tOp (bE K) (ab 7) (ab 5)))) (ai 8) (cu (bn (tOp qy (tOp (bE K) (ab 2) (ab 8)) (tC .non))) (au (ay (ci (ac (tOp (rI0 fun i j=>.int (i + j)) (tOp (cD K) (tOp (bE K) (ab 2) (ab 5)) (tC (.int 0))) (tC (.int 1))) (ac (ab 6) (ac (ab 5) ah)))) (jM (ab 2) (ab 8) iY))
 (gh (tBM K "list" eo (ab 4) (ac (ab 8) ah)))) bK))
 (ay (dY ah) (jM (tOp (bE K) (ab 1) (ab 6)) (tOp (bE K) (ab 7) (ab 5)) iY)))))
 (aV (ab 4))))
theorem pH {K:PySem.W.Frag} {vs:List V} {H:Hp} {Q:VK} {E:XK} (h:dR K vs H Q E):vs.length=4:=by
 obtain ⟨vw,g,ro,nw,gs,ws,G,R,P,n,d,i,N,rfl,B,W,hw,en,nn,hn,q⟩:=h
 rfl
theorem qB {K:PySem.W.Frag} {vs:List V} {H:Hp} {Q:VK} {E:XK} (h:dR K vs H Q E):gP K { nx:=fun _ H'=>Q .non H',rt:=Q } (start ["views","groups","roads","newest","further","thing","k","view","other"] vs) H:=by
 obtain ⟨vw,g,ro,nw,gs,ws,G,R,P,n,d,i,N,rfl,B,W,hw,en,nn,hn,q⟩:=h
 show gP K _ [some _,some _,some _,some _,none,none,none,none,none] _
 unfold gP
 walk_at "rd"
 refine ⟨by simp [sizeLine_eq],fun fu H1 hfu s1 e1=>?_⟩
 have nfu:∀ a∈ro :: gs,a≠fu:=fun a ha z=>by
  subst z
  rcases List.mem_cons.mp ha with h | h
  ·obtain ⟨xs,e,_⟩:=B.rod
   rw [<-h,hfu] at e
   cases e
  ·obtain ⟨k,hk,he⟩:=List.getElem_of_mem h
   obtain ⟨cl,_,as,q1,_⟩:=gB B.cls (List.getElem?_eq_getElem hk)
   rw [he,hfu] at q1
   cases q1
 have fnot:fu∉ro :: gs:=fun z=>nfu fu z rfl
 have B1:BH (fu :: ro :: gs) H1 vw g ro gs ws G R:=(B.add hfu).same s1
 have nnw:nw∉fu :: ro :: gs:=fun z=>by
  rcases List.mem_cons.mp z with z | z
  ·subst z; rw [hfu] at en; cases en
  ·exact nn z
 have hcR:=W.bfs.len
 walk_at "rd"
 refine iO (ap N) (SqL.of (s1 _ _ en)) (fun j σ H2=>∃ (u1 u2 u3 u4:Option V) (G':List (List (List Nat))) (R':List (Option Way)) (F:List Nat),σ=[some (.ref vw),some (.ref g),some (.ref ro),some (.ref nw),some (.ref fu),u1,u2,u3,u4]/\dn (fu :: ro :: gs) H1 H2/\Stg vw g ro fu gs ws n d i P N (N.take j) R H2 G' R' F)
  ⟨_,_,_,_,G,R,[],rfl,dn.refl _ _,⟨B1,W.bfs.up.sub (fun y h=>by rcases h with h | h; exact h; simp at h),W.gok,fun _ _ h=>h,fun x h=>by (cases h),fun y h=>.inl (W.cov y h),e1,rfl⟩⟩ ?_ ?_ ?_
 ·rintro j σ H2 hj ⟨u1,u2,u3,u4,G',R',F,rfl,m2,B2,_⟩
  exact SqL.of (m2 _ _ nnw (s1 _ _ en))
 ·rintro j x σ H2 hx ⟨u1,u2,u3,u4,G',R',F,rfl,m2,⟨B2,I2,g2,o2,f2,c2,e2,n2⟩⟩
  obtain ⟨x,hxj,rfl⟩:=gC hx
  have hxN:=List.mem_of_getElem? hxj
  obtain ⟨ox,hox⟩:=W.new x hxN
  obtain ⟨rs,ev,nv,pv⟩:=B2.vws
  have hrs:=Paired.length pv
  walk_at "rd"
  refine jE (S:=bu) (rs.map V.ref) (SqL.of ev) (fun k σ H3=>∃ (u2 u3 u4:Option V) (G':List (List (List Nat))) (R':List (Option Way)) (F:List Nat),σ=[some (.ref vw),some (.ref g),some (.ref ro),some (.ref nw),some (.ref fu),some (.int (x:Int)),u2,u3,u4]/\dn (fu :: ro :: gs) H2 H3/\Stg vw g ro fu gs ws n d i P N (N.take j) R H3 G' R' F/\∀ v∈ws.take k,∀ (y:Nat),Alk v x y->Kn R' y)
   ⟨_,_,_,G',R',F,rfl,dn.refl _ _,⟨B2,I2,g2,o2,f2,c2,e2,n2⟩,fun v h=>by simp at h⟩ ?_ ?_ ?_
  ·rintro k σ H3 hk ⟨u2,u3,u4,G',R',F,rfl,m3,_⟩
   exact SqL.of (m3 _ _ nv ev)
  ·rintro k y T σ H3 H4 hy ⟨u2,u3,u4,G',R',F,rfl,m3,⟨B3,I3,g3,o3,f3,c3,e3,n3⟩,k3⟩ hT s4 e4
   obtain ⟨rv,hrv,rfl⟩:=nB hy
   obtain ⟨v,hv,nrv,erv⟩:=gB pv hrv
   have hvw:=hw v (List.mem_of_getElem? hv)
   have hxn:x < n:=by rw [<-I3.len]; exact (List.getElem?_eq_some_iff.mp (o3 _ _ hox)).1
   obtain ⟨c,hc⟩:∃ c,v[x]?=some c:=⟨v[x]'(by rw [hvw.1]; exact hxn),List.getElem?_eq_getElem _⟩
   have hcn:c < n:=hvw.2 c (List.mem_of_getElem? hc)
   have B4:=B3.same s4
   obtain ⟨cl,hcl,hcll,hcc⟩:=g3 k v hv
   obtain ⟨gk,hgk,as,egk,pas⟩:=kI B4.cls hcl
   have hal:=Paired.length pas
   have hac:as[c]?=some (as[c]'(by omega)):=List.getElem?_eq_getElem (by omega)
   obtain ⟨L,hL,naL,eL⟩:=gB pas hac
   have hgm:gk∈ro :: gs:=List.mem_cons_of_mem _ (List.mem_of_getElem? hgk)
   walk_at "rd"
   refine eJ (SqT.of e4) ?_
   have erv4:H4 rv=some (.lst (ap v)):=s4 _ _ (m3 _ _ nrv erv)
   walk_at "rd"
   refine aZ (SqL.of B4.grp.1) (lL hgk) ?_
   walk_at "rd"
   refine aZ (SqL.of erv4) (d4 hc) ?_
   refine aZ (SqL.of egk) (lL hac) ?_
   refine iO (ap L) (SqL.of eL) (fun p σ H5=>∃ (u4:Option V) (R':List (Option Way)) (F:List Nat),σ=[some (.ref vw),some (.ref g),some (.ref ro),some (.ref nw),some (.ref fu),some (.int (x:Int)),some (.int (k:Int)),some (.ref rv),u4]/\dn (fu :: ro :: gs) H4 H5/\Stg vw g ro fu gs ws n d i P N (N.take j) R H5 G' R' F/\(∀ v∈ws.take k,∀ (y:Nat),Alk v x y->Kn R' y)/\(∀ y∈L.take p,Kn R' y)/\H5 gk=H4 gk/\∀ (z:Nat),v[z]?=some c->L=[]->Kn R' z)
    ⟨_,R',F,rfl,dn.refl _ _,⟨B4,I3,g3,o3,f3,c3,s4 _ _ e3,n3⟩,k3,fun y h=>by simp at h,rfl,fun z hz hLn=>?_⟩ ?_ ?_ ?_
   ·rcases hcc c hcn with h | ⟨_,h⟩
    ·rw [hL] at h
     have:=qA.mpr hz
     rw [<-Option.some.inj h,hLn] at this
     cases this
    ·exact h z hz
   ·rintro p σ H5 hp ⟨u4,R',F,rfl,m5,_⟩
    exact SqL.of (m5 _ _ naL eL)
   ·rintro p y σ H5 hy ⟨u4,R',F,rfl,m5,⟨B5,I5,g5,o5,f5,c5,e5,n5⟩,k5,t5,s5,z5⟩
    obtain ⟨y,hyp,rfl⟩:=gC hy
    have hyL:=List.mem_of_getElem? hyp
    have hyc:v[y]?=some c:=by
     rcases hcc c hcn with h | ⟨h,_⟩
     ·rw [hL] at h
      rw [Option.some.inj h] at hyL
      exact qA.mp hyL
     ·rw [hL] at h
      rw [Option.some.inj h] at hyL
      cases hyL
    have hyn:y < R'.length:=by rw [I5.len,<-hvw.1]; exact (List.getElem?_eq_some_iff.mp hyc).1
    obtain ⟨xs,er,pr⟩:=B5.rod
    have hry:R'[y]?=some R'[y]:=List.getElem?_eq_getElem hyn
    obtain ⟨w,hw5,rw5⟩:=kI pr hry
    walk_at "rd"
    refine aZ (SqL.of er) (bG hw5) ?_
    walk_at "rd"
    refine zY ?_
    rw [rw5.isN]
    walk_at "rd"
    cases hR:R'[y] with
    | some r=>
     refine fY ?_
     walk_at "rd"
     rw [hR] at hry
     refine ⟨_,R',F,rfl,m5,⟨B5,I5,g5,o5,f5,c5,e5,n5⟩,k5,fun z hz=>?_,s5,z5⟩
     rw [eO hyp] at hz
     rcases List.mem_append.mp hz with hz | hz
     ·exact t5 z hz
     ·rw [List.mem_singleton.mp hz]; exact ⟨r,hry⟩
    | none=>
     refine jo ?_
     rw [hR] at hry
     have hrx:=o5 _ _ hox
     obtain ⟨wx,hwx,rwx⟩:=kI pr hrx
     obtain ⟨tx,y1,y2,rfl,etx⟩:=rwx.dist
     walk_at "rd"
     refine aZ (SqL.of er) (bG hwx) ?_
     walk_at "rd"
     refine aY (SqT.of etx) (i:=0) (v:=.int (i:Int)) rfl ?_
     walk_at "rd"
     refine ⟨by simp [sizeLine_eq],fun t H6 ht s6 e6=>?_⟩
     walk_at "rd"
     refine jQ (s6 _ _ er) (j:=y) (by unfold ixN; rw [Paired.length pr,if_pos (by omega),if_pos (by omega)]; simp) ?_
     generalize hH7:upd H6 ro (.lst (xs.set y (.ref t)))=H7
     have o7:Off ro H6 H7:=by rw [<-hH7]; exact gj
     have e7:H7 ro=some (.lst (xs.set y (.ref t))):=by rw [<-hH7]; exact av
     have k67:eY H6 H7:=o7.keep (s6 _ _ er)
     have et7:H7 t=some (.tup [.int ((i + 1:Nat):Int),.int (k:Int),.int (x:Int)]):=k67 _ _ (by rw [e6]; rfl)
     have B6:=B5.same s6
     have B7:BH (fu :: ro :: gs) H7 vw g ro gs ws G' (R'.set y (some (i + 1,some (k,x)))):=B6.put (s6 _ _ er) o7 e7 (pG y (Paired.mapP pr fun _ _ h=>(h.keep s6.keep).keep k67) ⟨t,rfl,et7⟩)
     have hro:ro∈fu :: ro :: gs:=List.mem_cons_of_mem _ (List.mem_cons_self ..)
     have efu7:H7 fu=some (.lst (ap F)):=by rw [o7 fu fun z=>fnot (by rw [z]; exact List.mem_cons_self ..)]; exact s6 _ _ e5
     walk_at "rd"
     refine ⟨iZ efu7,?_⟩
     walk_at "rd"
     have hFl:F.length<=1000:=by
      have:iR R<=R.length:=List.countP_le_length
      omega
     refine fv efu7 (by rw [aB,sizeLine_eq]; omega) fun H8 o8 e8=>?_
     walk_at "rd"
     have B8:=B7.off (List.mem_cons_self ..) fnot efu7 o8
     have ngk:gk≠ro:=fun z=>(List.nodup_cons.mp B.nd).1 (by rw [<-z]; exact List.mem_of_getElem? hgk)
     refine ⟨_,R'.set y (some (i + 1,some (k,x))),F++[y],rfl,((m5.same s6).off hro o7).off (List.mem_cons_self ..) o8,⟨B8,I5.put hry hrx hv ⟨c,hc,hyc⟩,g5.put hry,fun z r h=>hZ hry (o5 z r h),fun z hz=>?_,fun z hz=>?_,by rw [e8,dv],?_⟩,fun v' hv' z hz=>(k5 v' hv' z hz).put hry,fun z hz=>?_,?_,fun z hz hLn=>(z5 z hz hLn).put hry⟩
     ·rcases List.mem_append.mp hz with hz | hz
      ·obtain ⟨o,ho⟩:=f5 z hz
       exact ⟨o,hZ hry ho⟩
      ·rw [List.mem_singleton.mp hz]; exact ⟨_,qz hry⟩
     ·obtain ⟨r,hr⟩:=hz
      rcases kJ hry hr with ⟨rfl,_⟩ | ⟨_,hr⟩
      ·exact .inr (by simp)
      ·rcases c5 z ⟨r,hr⟩ with h | h
       ·exact .inl h
       ·exact .inr (List.mem_append_left _ h)
     ·have:=uH (r:=(i + 1,some (k,x))) hry
      rw [List.length_append,List.length_singleton]
      omega
     ·rw [eO hyp] at hz
      rcases List.mem_append.mp hz with hz | hz
      ·exact (t5 z hz).put hry
      ·rw [List.mem_singleton.mp hz]; exact ⟨_,qz hry⟩
     ·rw [o8 gk (nfu gk hgm),o7 gk ngk,<-s5]
      obtain ⟨as',eg5,_⟩:∃ as':List Addr,H5 gk=some (.lst (as'.map V.ref))/\True:=⟨as,by rw [s5]; exact egk,trivial⟩
      rw [eg5]
      exact s6 _ _ eg5
   ·rintro σ H5 ⟨u4,R',F,rfl,m5,⟨B5,I5,g5,o5,f5,c5,e5,n5⟩,k5,t5,s5,z5⟩
    rw [aB,List.take_length] at t5
    have known:∀ (z:Nat),v[z]?=some c->Kn R' z:=fun z hz=>by
     rcases hcc c hcn with h | ⟨h,_⟩
     ·refine t5 z ?_
      rw [hL] at h
      rw [Option.some.inj h]
      exact qA.mpr hz
     ·rw [hL] at h
      exact z5 z hz (Option.some.inj h)
    walk_at "rd"
    refine ⟨by simp [sizeLine_eq],fun em H6 hem s6 e6=>?_⟩
    have B6:=B5.same s6
    have eg6:H6 gk=some (.lst (as.map V.ref)):=s6 _ _ (by rw [s5]; exact egk)
    walk_at "rd"
    refine aZ (SqL.of B6.grp.1) (lL hgk) ?_
    walk_at "rd"
    refine aZ (SqL.of (s6 _ _ (m5 _ _ (fun z=>nrv z) erv4))) (d4 hc) ?_
    refine jQ eg6 (j:=c) (by unfold ixN; rw [List.length_map,if_pos (by omega),if_pos (by omega)]; simp) ?_
    generalize hH7:upd H6 gk _=H7
    have o7:Off gk H6 H7:=by rw [<-hH7]; exact gj
    have e7:H7 gk=some (.lst ((as.set c em).map V.ref)):=by rw [<-hH7,av,List.map_set]
    have nem:em∉fu :: ro :: gs:=fun z=>by
     rcases List.mem_cons.mp z with z | z
     ·subst z; rw [e5] at hem; cases hem
     ·rcases List.mem_cons.mp z with z | z
      ·obtain ⟨xs,er,_⟩:=B5.rod
       subst z; rw [er] at hem; cases hem
      ·obtain ⟨k',hk',he⟩:=List.getElem_of_mem z
       obtain ⟨cl',_,as',q1,_⟩:=gB B5.cls (List.getElem?_eq_getElem hk')
       rw [he,hem] at q1
       cases q1
    have pas6:Paired (fun (b:Addr) (c:List Nat)=>b∉fu :: ro :: gs/\H6 b=some (.lst (ap c))) as cl:=Paired.mapP pas fun _ _ h=>⟨h.1,s6 _ _ (m5 _ _ h.1 h.2)⟩
    refine ⟨_,_,_,G'.set k (cl.set c []),R',F,rfl,((m3.same s4).trans (m5.same s6)).off (List.mem_cons_of_mem _ hgm) o7,⟨B6.clear hgk hcl eg6 pas6 ⟨nem,e6⟩ o7 e7,I5,g5.clear hv hcl hcn known,o5,f5,c5,by rw [o7 fu fun z=>nfu gk hgm z.symm]; exact s6 _ _ e5,n5⟩,fun v' hv' z hz=>?_⟩
    rw [eO hv] at hv'
    rcases List.mem_append.mp hv' with hv' | hv'
    ·exact k5 v' hv' z hz
    ·rw [List.mem_singleton.mp hv'] at hz
     obtain ⟨c',hc1,hc2⟩:=hz
     rw [hc] at hc1
     cases hc1
     exact known z hc2
  ·rintro σ H3 ⟨u2,u3,u4,G',R',F,rfl,m3,⟨B3,I3,g3,o3,f3,c3,e3,n3⟩,k3⟩
   rw [List.length_map,hrs,List.take_length] at k3
   refine ⟨_,_,_,_,G',R',F,rfl,m2.trans m3,⟨B3,I3.done (o3 _ _ hox) k3 fun z hz=>?_,g3,o3,f3,c3,e3,n3⟩⟩
   rcases hz with hz | hz
   ·exact .inl (.inl hz)
   ·rw [eO hxj] at hz
    rcases List.mem_append.mp hz with hz | hz
    ·exact .inl (.inr hz)
    ·exact .inr (List.mem_singleton.mp hz)
 ·rintro σ H2 ⟨u1,u2,u3,u4,G',R',F,rfl,m2,⟨B2,I2,g2,o2,f2,c2,e2,n2⟩⟩
  rw [aB,List.take_length] at I2
  walk_at "rd"
  refine q fu H2 G' R' F hfu (fun b u hb h=>m2 b u (fun z=>?_) (s1 _ _ h)) (B2.less fun a ha=>ha) ⟨I2,g2,f2,c2⟩ e2 n2
  rcases List.mem_cons.mp z with z | z
  ·subst z; rw [hfu] at h; cases h
  ·exact hb z
noncomputable def eE (_:PySem.W.Frag):Sp:=fun vs H Q _=>∃ (n d:Nat) (vw:Addr) (ws:List (List Nat)),vs=[.int (n:Int),.ref vw,.int (d:Int)]/\cj H vw ws/\(∀ v∈ws,Within n v)/\d < n/\n<=900/\ws.length<=100/\
 ∀ (ro:Addr) (xs:List V) (R:List (Option Way)) (H':Hp),H ro=none->ak H H'->H' ro=some (.lst xs)->Paired (gO H') xs R->jk ws n d R->Q (.ref ro) H'
theorem zZ (n:Nat):(List.replicate n [V.non]).flatten=List.replicate n V.non:=by
 induction n with
 | zero=>rfl
 | succ n ih=>rw [List.replicate_succ,List.replicate_succ,List.flatten_cons,ih]; rfl
theorem rT (H:Hp):∀ n:Nat,Paired (gO H) (List.replicate n V.non) (List.replicate n none)
 | 0=>.nil
 | n + 1=>.cons rfl (rT H n)
theorem Bm (R:List (Option Way)):iR R<=R.length:=List.countP_le_length
noncomputable def iu (K:PySem.W.Frag):TS:=(au (ay (cx (cO K (ab 1)) (fun _ _ _ _=>(ai 0)) (fun _ _ _ _=>cB) (fun _ _ _ _=>(az (ff K) [] E0 (ac (ab 0) ah))) [none]) (ai 3))
 (au (ay (tOp wR (dY (ac (tC .non) ah)) (ab 0)) (ai 4))
 (au (ay (ci (ac (tC (.int 0)) (ac (tC .non) (ac (tC .non) ah)))) (jM (ab 4) (ab 2) iY))
 (au (ay (dY (ac (ab 2) ah)) (ai 5))
 (au (jN (bn (tOp (rI0 fun i j=>.bl (decide (j < i))) (tCB (fR K) (ac (ab 5) ah)) (tC (.int 0)))) (ay (az (dR K) [] E0 (ac (ab 1) (ac (ab 3) (ac (ab 4) (ac (ab 5) ah))))) (ai 5)))
 (aV (ab 4)))))))
theorem qC {K:PySem.W.Frag} {vs:List V} {H:Hp} {Q:VK} {E:XK} (h:eE K vs H Q E):vs.length=3:=by
 obtain ⟨n,d,vw,ws,rfl,⟨rs,ev,pv⟩,hw,hd,hn,hwl,q⟩:=h
 rfl
theorem su {K:PySem.W.Frag} {vs:List V} {H:Hp} {Q:VK} {E:XK} (h:eE K vs H Q E):iu K { nx:=fun _ H'=>Q .non H',rt:=Q } (start ["many","views","deal","groups","roads","newest"] vs) H:=by
 obtain ⟨n,d,vw,ws,rfl,⟨rs,ev,pv⟩,hw,hd,hn,hwl,q⟩:=h
 show iu K _ [some _,some _,some _,none,none,none] _
 unfold iu
 have hrs:=Paired.length pv
 walk_at "rd"
 refine uI (rs.map V.ref) (SqL.of ev) (by rw [List.length_map]; omega) (fun p i acc H2=>∃ gs:List Addr,acc=gs.map V.ref/\gs.Nodup/\(∀ a∈gs,a≠p/\H a=none)/\Paired (fun (a:Addr) (cl:List (List Nat))=>∃ as:List Addr,H2 a=some (.lst (as.map V.ref))/\Paired (fun (b:Addr) (c:List Nat)=>b∉gs/\b≠p/\H b=none/\H2 b=some (.lst (ap c))) as cl) gs ((ws.take i).map fun v=>(List.range n).map fun c=>ke v c)) (fun p H' hp s e=>⟨[],rfl,.nil,fun a ha=>by (cases ha),.nil⟩) ?_ ?_
 ·rintro p hp C s' H' fp i x acc H2 hx ⟨s2,e2,l2,gs,rfl,nd,n2,p2⟩
  obtain ⟨a,ha,rfl⟩:=nB hx
  obtain ⟨v,hv,ea⟩:=gB pv ha
  have hvw:=hw v (List.mem_of_getElem? hv)
  walk_at "rd"
  refine ⟨a,v,rfl,s2 _ _ ea,fun x hx=>by rw [hvw.1]; exact hvw.2 x hx,by rw [hvw.1]; omega,fun gk H3 hgk s3 ⟨as,eg,pa⟩=>?_⟩
  rw [hvw.1] at pa
  have ngp:gk≠p:=(aJ e2 hgk).symm
  have ngg:gk∉gs:=fun z=>by
   obtain ⟨j,hj,he⟩:=List.getElem_of_mem z
   obtain ⟨cl,_,as',q1,_⟩:=gB p2 (List.getElem?_eq_getElem hj)
   rw [he,hgk] at q1
   cases q1
  have npg:p∉gs:=fun z=>(n2 p z).1 rfl
  refine ⟨s3 _ _ e2,(s2.trans s3).upd hp _,av,by rw [List.length_append]; exact Nat.add_le_add_right l2 1,gs++[gk],by rw [List.map_append]; rfl,?_,fun b hb=>?_,?_⟩
  ·refine List.nodup_append.mpr ⟨nd,by simp,fun x hx y hy e=>?_⟩
   rw [List.mem_singleton.mp hy] at e
   exact ngg (e ▸ hx)
  ·rcases List.mem_append.mp hb with hb | hb
   ·exact n2 b hb
   ·rw [List.mem_singleton.mp hb]; exact ⟨ngp,s2.free hgk⟩
  ·rw [eO hv,List.map_append]
   refine kH (mQ p2 fun b hb cl ⟨as',q1,q2⟩=>⟨as',by rw [aF (n2 b hb).1]; exact s3 _ _ q1,Paired.mapP q2 fun c _ h=>⟨fun z=>?_,h.2.1,h.2.2.1,by rw [aF h.2.1]; exact s3 _ _ h.2.2.2⟩⟩) ⟨as,by rw [aF ngp]; exact eg,Paired.mapP pa fun b _ h=>⟨fun z=>?_,?_,s2.free h.1,?_⟩⟩
   ·rcases List.mem_append.mp z with z | z
    ·exact h.1 z
    ·rw [List.mem_singleton.mp z,hgk] at h
     cases h.2.2.2
   ·rcases List.mem_append.mp z with z | z
    ·obtain ⟨j,hj,he⟩:=List.getElem_of_mem z
     obtain ⟨cl,_,as',q1,_⟩:=gB p2 (List.getElem?_eq_getElem hj)
     rw [he,h.1] at q1
     cases q1
    ·exact h.2.1 (List.mem_singleton.mp z)
   ·exact fun z=>by rw [z,e2] at h; cases h.1
   ·rw [aF (fun z=>by rw [z,e2] at h; cases h.1)]
    exact h.2.2
 ·rintro g acc H2 hg s2 e2 ⟨gs,rfl,nd,n2,p2⟩
  rw [List.length_map,hrs,List.take_length] at p2
  walk_at "rd"
  refine ⟨by simp [sizeLine_eq],fun l3 H3 hl3 s3 e3=>?_⟩
  walk_at "rd"
  refine ⟨l3,n,_,rfl,rfl,e3,by omega,by omega,by simp [sizeLine_eq]; omega,fun ro H4 hro s4 e4=>?_⟩
  rw [Int.toNat_natCast,zZ] at e4
  walk_at "rd"
  refine ⟨by simp [sizeLine_eq],fun t H5 ht s5 e5=>?_⟩
  have s35:=s4.trans s5
  have hro2:H2 ro=none:=s3.free hro
  have hro0:H ro=none:=s2.free hro2
  have er5:=s5 _ _ e4
  walk_at "rd"
  refine jQ er5 (j:=d) (by unfold ixN; rw [List.length_replicate,if_pos (by omega),if_pos (by omega)]; simp) ?_
  generalize hH6:upd H5 ro (.lst ((List.replicate n V.non).set d (.ref t)))=H6
  have o6:Off ro H5 H6:=by rw [<-hH6]; exact gj
  have e6:H6 ro=some (.lst ((List.replicate n V.non).set d (.ref t))):=by rw [<-hH6]; exact av
  have s25:ak H2 H5:=s3.trans s35
  have s26:ak H2 H6:=s25.off hro2 o6
  have s06:ak H H6:=s2.trans s26
  have et6:H6 t=some (.tup [.int ((0:Nat):Int),.non,.non]):=o6.keep er5 _ _ e5
  walk_at "rd"
  refine ⟨by simp [sizeLine_eq],fun nw H7 hnw s7 e7=>?_⟩
  have s07:ak H H7:=s06.trans s7
  have s27:ak H2 H7:=s26.trans s7
  have hM0:∀ a∈ro :: gs,H a=none:=fun a ha=>by
   rcases List.mem_cons.mp ha with rfl | ha
   ·exact hro0
   ·exact (n2 a ha).2
  have nM:∀ {a:Addr} {o:HO},H a=some o->a∉ro :: gs:=fun h z=>by rw [hM0 _ z] at h; cases h
  have ngm:∀ a∈gs,∃ o,H2 a=some o:=fun a ha=>by
   obtain ⟨j,hj,he⟩:=List.getElem_of_mem ha
   obtain ⟨cl,_,as,q1,_⟩:=gB p2 (List.getElem?_eq_getElem hj)
   rw [he] at q1
   exact ⟨_,q1⟩
  have hR0:(List.replicate n (none:Option Way)).length=n:=List.length_replicate
  have hRd:(List.replicate n (none:Option Way))[d]?=some none:=by rw [List.getElem?_replicate,if_pos hd]
  have hnonk:∀ (y:Nat) (r:Way),((List.replicate n (none:Option Way)).set d (some (0,none)))[y]?=some (some r)->y=d/\r=(0,none):=fun y r h=>by
   rcases kJ hRd h with h | ⟨_,h⟩
   ·exact h
   ·rw [List.getElem?_replicate] at h
    split at h <;> cases h
  have B7:BH (ro :: gs) H7 vw g ro gs ws (ws.map fun v=>(List.range n).map fun c=>ke v c) ((List.replicate n none).set d (some (0,none))):=by
   refine ⟨⟨rs,s07 _ _ ev,nM ev,Paired.mapP pv fun _ _ h=>⟨nM h,s07 _ _ h⟩⟩,⟨s27 _ _ e2,fun z=>?_⟩,Paired.mapP p2 fun _ _ ⟨as,q1,q2⟩=>⟨as,s27 _ _ q1,Paired.mapP q2 fun b _ h=>⟨fun z=>?_,s27 _ _ h.2.2.2⟩⟩,⟨_,s7 _ _ e6,?_⟩,List.nodup_cons.mpr ⟨fun z=>?_,nd⟩,fun a ha=>ha⟩
   ·rcases List.mem_cons.mp z with z | z
    ·rw [<-z,e2] at hro2; cases hro2
    ·exact (n2 g z).1 rfl
   ·rcases List.mem_cons.mp z with z | z
    ·rw [z,hro2] at h; cases h.2.2.2
    ·exact h.1 z
   ·exact pG d (Paired.mapP (rT H5 n) fun _ _ h=>(h.keep (o6.keep er5)).keep s7.keep) ⟨t,rfl,s7 _ _ et6⟩
   ·obtain ⟨o,ho⟩:=ngm ro z
    rw [hro2] at ho
    cases ho
  have hst:=qz (r':=((0,none):Way)) hRd
  have W7:xp ws n d ((List.replicate n none).set d (some (0,none))) (ws.map fun v=>(List.range n).map fun c=>ke v c) (fun _=>False) 0 [d]:=by
   refine ⟨⟨by rw [List.length_set]; exact hR0,hst,fun y r h=>?_,fun y a o h=>?_,fun y a k x h=>?_,fun y a h=>?_,fun x h=>h.elim⟩,fun k v hv=>⟨_,by rw [List.getElem?_map,hv]; rfl,by simp,fun c hc=>.inl (by rw [List.getElem?_map,List.getElem?_range hc]; rfl)⟩,fun x hx=>?_,fun y h=>?_⟩
   ·rw [(hnonk y r h).1]; exact .here
   ·have:=(hnonk _ _ h).2; cases this; exact Nat.le_refl _
   ·have:=(hnonk _ _ h).2; cases this
   ·have:=hnonk _ _ h; refine ⟨this.1,?_⟩; cases this.2; rfl
   ·rw [List.mem_singleton.mp hx]; exact ⟨_,hst⟩
   ·obtain ⟨r,hr⟩:=h
    rw [(hnonk y r hr).1]
    exact .inr (by simp)
  have nnw:nw∉ro :: gs:=fun z=>by
   rcases List.mem_cons.mp z with z | z
   ·rw [z,e6] at hnw; cases hnw
   ·obtain ⟨o,ho⟩:=ngm nw z
    rw [s26 _ _ ho] at hnw
    cases hnw
  walk_at "rs"
  refine ft ?_
  refine sZ (fun u σ H8=>∃ (nw:Addr) (G:List (List (List Nat))) (R:List (Option Way)) (P:Nat->Prop) (i:Nat) (N:List Nat),σ=[some (.int n),some (.ref vw),some (.int d),some (.ref g),some (.ref ro),some (.ref nw)]/\dn (ro :: gs) H7 H8/\BH (ro :: gs) H8 vw g ro gs ws G R/\xp ws n d R G P i N/\H8 nw=some (.lst (ap N))/\nw∉ro :: gs/\u=iR R + (if N=[] then 0 else 1)) (iR ((List.replicate n none).set d (some (0,none))) + 1)
   ⟨nw,_,_,_,0,[d],rfl,dn.refl _ _,B7,W7,e7,nnw,by simp⟩ ?_
  rintro u σ H8 ⟨nw,G,R,P,i,N,rfl,m8,B8,W8,e8,n8,rfl⟩
  have hcR:=Bm R
  walk_at "rd"
  rw [aB]
  refine cC (fun h=>?_) (fun h=>?_)
  ·refine sY ?_
   have hne:N≠[]:=fun z=>by rw [z] at h; exact absurd h (by decide)
   walk_at "rd"
   refine ⟨vw,g,ro,nw,gs,ws,G,R,P,n,d,i,N,rfl,B8,W8,hw,e8,n8,by omega,fun fu H9 G' R' F hfu m9 B9 W9 e9 c9=>?_⟩
   walk_at "rd"
   refine ⟨iR R' + (if F=[] then 0 else 1),?_,fu,G',R',_,i + 1,F,rfl,m8.trans m9,B9,W9,e9,fun z=>?_,rfl⟩
   ·rw [if_neg hne]
    by_cases hF:F=[]
    ·rw [if_pos hF]; omega
    ·rw [if_neg hF]
     have:=List.length_pos_iff.mpr hF
     omega
   ·rcases List.mem_cons.mp z with z | z
    ·obtain ⟨xs,er,_⟩:=B8.rod
     rw [<-z,hfu] at er; cases er
    ·obtain ⟨j,hj,he⟩:=List.getElem_of_mem z
     obtain ⟨cl,_,as,q1,_⟩:=gB B8.cls (List.getElem?_eq_getElem hj)
     rw [he,hfu] at q1; cases q1
  ·have hN:N=[]:=List.eq_nil_of_length_eq_zero (by omega)
   obtain ⟨xs,er,pr⟩:=B8.rod
   walk_at "rd"
   refine q ro xs R H8 hro0 (fun b u hb=>m8 b u (nM hb) (s07 _ _ hb)) er pr (W8.bfs.fin fun y hy=>?_)
   rcases W8.cov y hy with h | h
   ·exact h
   ·rw [hN] at h; cases h
end L2
end
section
namespace L2
open PySem PyProof.Rows
section
variable {σ:St} {H:Hp} {Q:VK} {a:Addr} {kvs:List (Key×V)} {i:Int} {v:V}
end
section
variable {g:CF TG} {tt:CF TT} {te:CF TE} {σ₀:St} {Q:VK} {H:Hp}
end
end L2
end
section
namespace L2
open PySem PyProof.Rows
open KF
section
variable (c1 c2:Nat)
end
end L2
end
section
namespace L2
open PySem PyProof.Rows
open KF
end L2
end
section
namespace L2
open PySem
noncomputable def AL (o:HO):Prop:=∀ ps,o≠.tbl ps
noncomputable def bP (H H':Hp):Prop:=∀ b o,AL o->H b=some o->H' b=some o
theorem bP.refl (H:Hp):bP H H:=fun _ _ _ e=>e
theorem ak.toT {H H':Hp} (s:ak H H'):bP H H':=fun b o _ e=>s b o e
theorem bP.trans {H H1 H2:Hp} (a:bP H H1) (b:bP H1 H2):bP H H2:=fun c o n e=>b c o n (a c o n e)
theorem bP.lst {H H':Hp} (s:bP H H') {b:Addr} {xs:List V} (e:H b=some (.lst xs)):H' b=some (.lst xs):=s _ _ (fun _ z=>nomatch z) e
theorem bP.tup {H H':Hp} (s:bP H H') {b:Addr} {xs:List V} (e:H b=some (.tup xs)):H' b=some (.tup xs):=s _ _ (fun _ z=>nomatch z) e
theorem bP.seq {K:PySem.W.Frag} {H H':Hp} (s:bP H H') {a:Addr} {xs:List V} (h:SqL K H a xs):SqL K H' a xs:=by
 rcases h with (h | ⟨o,h⟩) | h
 ·exact .inl (.inl (s.lst h))
 ·exact .inl (.inr ⟨o,s _ _ (fun _ z=>nomatch z) h⟩)
 ·exact .inr h
theorem bP.script {K:PySem.W.Frag} {H H':Hp} (s:bP H H') {a:Addr} {ns:List Int} (h:dX K H a ns):dX K H' a ns:=⟨s.seq h.1,h.2⟩
noncomputable abbrev TK:=V->Hp->Int->Int->Prop
noncomputable def xq (K:PySem.W.Frag):TK:=fun vy H n k=>∃ (z:Addr) (ys:List V) (t:Addr) (ts:List V),vy=.ref z/\SqL K H z ys/\0<=n/\atI ys n=some (.ref t)/\SqT K H t ts/\atI ts 0=some (.int k)
noncomputable def xr (K:PySem.W.Frag) (L:Hp->Prop) (j:Nat) (bd:TK) (t:TA):TE:=fun σ H Q=>t σ H fun vs H1=>∃ (l:Addr) (ns:List Int) (vy:V) (kf:Nat->Int),vs=[.ref l]/\SqL K H1 l (ns.map V.int)/\0 < ns.length/\σ[j]?=some (some vy)/\(∀ i n,ns[i]?=some n->bd vy H1 n (kf i))/\L H1/\
 ∀ (i:Nat) (n:Int) (H2:Hp),bP H1 H2->L H2->ns[i]?=some n->(∀ k,k < ns.length->kf i<=kf k/\(k < i->kf i < kf k))->Q (.int n) H2
theorem CN {K:PySem.W.Frag} {L:Hp->Prop} {j:Nat} {bd:TK} {t:TA} {σ:St} {H:Hp} {Q:VK} (h:t σ H fun vs H1=>∃ (l:Addr) (ns:List Int) (vy:V) (kf:Nat->Int),vs=[.ref l]/\SqL K H1 l (ns.map V.int)/\0 < ns.length/\σ[j]?=some (some vy)/\(∀ i n,ns[i]?=some n->bd vy H1 n (kf i))/\L H1/\
 ∀ (i:Nat) (n:Int) (H2:Hp),bP H1 H2->L H2->ns[i]?=some n->(∀ k,k < ns.length->kf i<=kf k/\(k < i->kf i < kf k))->Q (.int n) H2):xr K L j bd t σ H Q:=h
noncomputable def kK (K:PySem.W.Frag) (L:Hp->Prop):Sp:=fun vs H Q _=>∃ (a:Addr) (ns:List Int),vs=[.ref a]/\dX K H a ns/\L H/\∀ H',Q (.bl true) H'
end L2
end
section
namespace L2
open PySem
noncomputable def tp (H H':Hp):Prop:=∀ b o,(∀ xs,o≠.lst xs)->H b=some o->H' b=some o
theorem ak.toN {H H':Hp} (s:ak H H'):tp H H':=fun b o _ e=>s b o e
end L2
end
section
namespace L2
open PySem
end L2
end
section
namespace L2
open PySem PyProof.Rows
theorem xt {α:Type} [DecidableEq α]:∀ {l m:List α},l.Nodup->(∀ x∈l,x∈m)->l.length<=m.length
 | [],m,_,_=>Nat.zero_le _
 | x :: l,m,nd,h=>by
  have hx:=h x (by simp)
  rw [List.nodup_cons] at nd
  have:=xt (m:=m.erase x) nd.2 fun y hy=>(List.mem_erase_of_ne (fun (e:y=x)=>nd.1 (e ▸ hy))).mpr (h y (by simp [hy]))
  rw [List.length_erase_of_mem hx] at this
  have hp:0 < m.length:=List.length_pos_of_mem hx
  simp only [List.length_cons]
  omega
end L2
end
section
namespace L2
open PySem PyProof.Rows
open KF
inductive oB (ws:List (List Nat)):Nat->List (Nat×Nat)->Nat->Prop where
 | nil {x:Nat}:oB ws x [] x
 | cons {x y z k:Nat} {v:List Nat} {r:List (Nat×Nat)} (hv:ws[k]?=some v) (ha:Alk v x y) (ne:x≠y) (t:oB ws y r z):oB ws x ((k,y) :: r) z
noncomputable def kL (H:Hp) (f:Addr) (rd:List (Nat×Nat)):Prop:=∃ ts:List Addr,H f=some (.lst (ts.map V.ref))/\Paired (fun (t:Addr) (p:Nat×Nat)=>H t=some (.tup [.int (p.1:Int),.int (p.2:Int)])) ts rd
theorem kL.same {H H':Hp} {f:Addr} {rd:List (Nat×Nat)} (h:kL H f rd) (s:ak H H'):kL H' f rd:=let ⟨ts,e,p⟩:=h; ⟨ts,s _ _ e,Paired.mapP p fun _ _ x=>s _ _ x⟩
theorem AM {α β:Type} {F:α->β->Prop}:∀ {l:List α} {m:List β},Paired F l m->Paired F l.reverse m.reverse
 | _,_,.nil=>.nil
 | _,_,.cons a t=>by rw [List.reverse_cons,List.reverse_cons]; exact kH (AM t) a
noncomputable def fP (_:PySem.W.Frag):Sp:=fun vs H Q _=>∃ (ro:Addr) (xs:List V) (R:List (Option Way)) (ws:List (List Nat)) (n d g a:Nat) (o:Option (Nat×Nat)),vs=[.ref ro,.int (g:Int)]/\H ro=some (.lst xs)/\Paired (gO H) xs R/\jk ws n d R/\R[g]?=some (some (a,o))/\a<=1000/\
 ∀ f H' (rd:List (Nat×Nat)),H f=none->ak H H'->kL H' f rd->rd.length=a->oB ws d rd g->Q (.ref f) H'
noncomputable def jC (K:PySem.W.Frag):TS:=(au (ay (dY ah) (ai 2))
 (au (ay (ab 1) (ai 3))
 (au (jN (bn (tOp (rI0 fun i j=>.bl (decide (j < i))) (tOp (cD K) (tOp (bE K) (ab 0) (ab 3)) (tC (.int 0))) (tC (.int 0)))) (au (gh (tBM K "list" eo (ab 2) (ac (ci (ac (tOp (cD K) (tOp (bE K) (ab 0) (ab 3)) (tC (.int 1))) (ac (ab 3) ah))) ah)))
 (ay (tOp (cD K) (tOp (bE K) (ab 0) (ab 3)) (tC (.int 2))) (ai 3))))
 (aV (xf K (ac (ab 2) ah))))))
theorem uK {K:PySem.W.Frag} {vs:List V} {H:Hp} {Q:VK} {E:XK} (h:fP K vs H Q E):vs.length=2:=by
 obtain ⟨ro,xs,R,ws,n,d,g,a,o,rfl,ero,pr,E,hg,ha,q⟩:=h
 rfl
theorem vK {K:PySem.W.Frag} {vs:List V} {H:Hp} {Q:VK} {E:XK} (h:fP K vs H Q E):jC K { nx:=fun _ H'=>Q .non H',rt:=Q } (start ["roads","goal","steps","thing"] vs) H:=by
 obtain ⟨ro,xs,R,ws,n,d,g,a,o,rfl,ero,pr,E,hg,ha,q⟩:=h
 show jC K _ [some _,some _,none,none] _
 unfold jC
 walk_at "rd"
 refine ⟨by simp [sizeLine_eq],fun w H1 hw s1 e1=>?_⟩
 walk_at "rd"
 refine sZ (fun b σ H2=>∃ (t:Nat) (o:Option (Nat×Nat)) (S:List (Nat×Nat)) (ts:List Addr),σ=[some (.ref ro),some (.int (g:Int)),some (.ref w),some (.int (t:Int))]/\ak H H2/\H2 w=some (.lst (ts.map V.ref))/\Paired (fun (t:Addr) (p:Nat×Nat)=>H2 t=some (.tup [.int (p.1:Int),.int (p.2:Int)])) ts S/\R[t]?=some (some (b,o))/\S.length + b=a/\oB ws t S.reverse g) a ⟨g,o,[],[],rfl,s1,e1,.nil,hg,by simp,.nil⟩ ?_
 rintro b σ H2 ⟨t,o,S,ts,rfl,s2,e2,p2,ht,hl,wk⟩
 obtain ⟨x,hx,rv⟩:=kI pr ht
 obtain ⟨tt,y,z,rfl,et⟩:=rv.dist
 have hlt:t < xs.length:=(List.getElem?_eq_some_iff.mp hx).1
 have hts:ts.length=S.length:=Paired.length p2
 walk_at "rd"
 refine aZ (SqL.of (s2 _ _ ero)) (bG hx) ?_
 walk_at "rd"
 refine aY (SqT.of (s2 _ _ et)) (i:=0) (v:=.int (b:Int)) rfl ?_
 walk_at "rd"
 refine cC (fun h=>?_) (fun h=>?_)
 ·refine sY ?_
  match o,rv,ht with
  | none,rv,ht=>
   have:=(E.zero t b ht).2
   omega
  | some (k,x'),rv,ht=>
   obtain ⟨b',o',v,hb,hx',hv,hal,hne⟩:=E.pred t b k x' ht
   obtain ⟨t2,et2,e3⟩:=rv
   cases et2
   walk_at "rd"
   refine ⟨iZ e2,?_⟩
   walk_at "rd"
   refine aZ (SqL.of (s2 _ _ ero)) (bG hx) ?_
   walk_at "rd"
   refine aY (SqT.of (s2 _ _ e3)) (i:=1) (v:=.int (k:Int)) rfl ?_
   walk_at "rd"
   refine ⟨by simp [sizeLine_eq],fun t4 H4 ht4 s4 e4=>?_⟩
   walk_at "rd"
   refine fv (s4 _ _ e2) (by rw [List.length_map,sizeLine_eq]; omega) fun H5 o5 e5=>?_
   have k5:=o5.keep (s4 _ _ e2)
   have s5:ak H H5:=(s2.trans s4).off hw o5
   walk_at "rd"
   refine aZ (SqL.of (s5 _ _ ero)) (bG hx) ?_
   walk_at "rd"
   refine aY (SqT.of (s5 _ _ e3)) (i:=2) (v:=.int (x':Int)) rfl ?_
   walk_at "rd"
   refine ⟨b',by omega,x',o',S++[(k,t)],ts++[t4],rfl,s5,by rw [e5,List.map_append]; rfl,?_,hx',?_,?_⟩
   ·exact kH (Paired.mapP p2 fun _ _ x=>k5 _ _ (s4 _ _ x)) (k5 _ _ e4)
   ·rw [List.length_append,List.length_singleton]; omega
   ·rw [List.reverse_append]
    exact .cons hv hal hne wk
 ·have b0:b=0:=by omega
  subst b0
  have td:t=d:=by
   match o,ht with
   | none,ht=>exact (E.zero t 0 ht).1
   | some (k,x'),ht=>
    obtain ⟨b',_,_,hb,_⟩:=E.pred t 0 k x' ht
    omega
  subst td
  walk_at "rd"
  refine CG ?_
  walk_at "rd"
  refine ⟨w,_,rfl,SqL.of e2,?_⟩
  intro p H3 hp s3 e3
  refine q p H3 S.reverse (s2.free hp) (s2.trans s3) ⟨ts.reverse,by rw [e3,List.map_reverse],AM (Paired.mapP p2 fun _ _ x=>s3 _ _ x)⟩ (by rw [List.length_reverse]; omega) wk
noncomputable def knB (R:List (Option Way)) (y:Nat):Bool:=match R[y]? with
 | some (some _)=>true
 | _=>false
theorem wt {R:List (Option Way)} {y:Nat}:knB R y=true↔Kn R y:=by
 unfold knB Kn
 cases h:R[y]? with
 | none=>simp
 | some r=>
  cases r with
  | none=>simp
  | some r=>simp
noncomputable def cmR (R:List (Option Way)) (i:Nat):List Nat:=(List.range i).filter (knB R)
noncomputable def wrR (R:List (Option Way)) (bs:List Bool):List Nat:=(cmR R R.length).filter fun y=>bs[y]? == some false
theorem uL {R:List (Option Way)} {i:Nat}:cmR R (i + 1)=cmR R i++if knB R i=true then [i] else []:=by
 unfold cmR
 rw [List.range_succ,List.filter_append]
 congr 1
 by_cases h:knB R i=true
 ·rw [if_pos h]; exact List.filter_cons_of_pos h
 ·rw [if_neg h]; exact List.filter_cons_of_neg h
noncomputable def dOf (R:List (Option Way)) (y:Nat):Int:=match R[y]? with
 | some (some (a,_))=>(a:Int)
 | _=>0
theorem uM {R:List (Option Way)} {y a:Nat} {o:Option (Nat×Nat)} (h:R[y]?=some (some (a,o))):dOf R y=(a:Int):=by unfold dOf; rw [h]
noncomputable def kt (H:Hp) (f:Addr):Prop:=∀ o,AL o->H f≠some o
theorem kt.of {H:Hp} {f:Addr} (h:H f=none):kt H f:=fun o _ e=>by rw [h] at e; cases e
theorem kt.back {H H':Hp} {f:Addr} (s:bP H H') (h:kt H' f):kt H f:=fun o n e=>h o n (s _ _ n e)
inductive Ans (H:Hp) (t f:Addr) (ws:List (List Nat)) (d:Nat) (R:List (Option Way)) (bs:List Bool):Prop where
 | com (e:H t=some (.tup [.str "common",.ref f])) (ef:H f=some (.lst (ap (cmR R R.length)))) (h:wrR R bs=[])
 | road {rd:List (Nat×Nat)} {g a:Nat} {o:Option (Nat×Nat)} (e:H t=some (.tup [.str "road",.ref f])) (ef:kL H f rd) (hl:rd.length=a) (wk:oB ws d rd g) (hg:R[g]?=some (some (a,o))) (hb:bs[g]?=some false) (hm:∀ y∈wrR R bs,∀ b o',R[y]?=some (some (b,o'))->a<=b)
noncomputable def eF (_:PySem.W.Frag) (L:Hp->Prop):Sp:=fun vs H Q _=>∃ (vw tr:Addr) (ws:List (List Nat)) (n d:Nat) (bs:List Bool),vs=[.ref vw,.ref tr,.int (d:Int)]/\cj H vw ws/\(∀ v∈ws,Within n v)/\d < n/\n<=900/\ws.length<=100/\H tr=some (.lst (bs.map V.bl))/\bs.length=n/\L H/\
 ∀ (t f:Addr) (R:List (Option Way)) (H':Hp),bP H H'->L H'->kt H f->jk ws n d R->Ans H' t f ws d R bs->Q (.ref t) H'
noncomputable def iw (K:PySem.W.Frag) (L:Hp->Prop):TS:=(au (ay (az (eE K) [] E0 (ac (tCB (fR K) (ac (ab 1) ah)) (ac (ab 0) (ac (ab 2) ah)))) (ai 3))
 (au (ay (cx (gK bu K (ac (ab 3) ah)) (fun _ _ _ _=>(eX K 2 (bt (ai 0) (bt (ai 1) eW)))) (fun _ _ _ _=>(bn (tOp oA (ab 1) (tC .non)))) (fun _ _ _ _=>(ab 0)) [none,none]) (ai 4))
 (au (ay (cx (cO K (ab 4)) (fun _ _ _ _=>(ai 0)) (fun _ _ _ _=>(jK (tB (tOp (bE K) (ab 1) (ab 0))))) (fun _ _ _ _=>(ab 0)) [none,some 1]) (ai 5))
 (au (cu (bn (tOp (rI0 fun i j=>.bl (decide (j < i))) (tCB (fR K) (ac (ab 5) ah)) (tC (.int 0)))) (aV (ci (ac (tC (.str "road")) (ac (az (fP K) [] E0 (ac (ab 3) (ac (xr K L 3 (xq K) (ac (ab 5) ah)) ah))) ah)))) bK)
 (aV (ci (ac (tC (.str "common")) (ac (ab 4) ah))))))))
noncomputable abbrev uN:List Str:=["views","truths","deal","roads","reached","wrong"]
theorem qD {K:PySem.W.Frag} {L:Hp->Prop} {vs:List V} {H:Hp} {Q:VK} {E:XK} (h:eF K L vs H Q E):vs.length=3:=by
 obtain ⟨vw,tr,ws,n,d,bs,rfl,_⟩:=h
 rfl
theorem nX {ws:List (List Nat)} {n d:Nat} {R:List (Option Way)} (E:jk ws n d R):∀ (a g:Nat) (o:Option (Nat×Nat)),R[g]?=some (some (a,o))->∃ S:List Nat,S.length=a/\S.Nodup/\(∀ y∈S,∃ b o',b < a/\R[y]?=some (some (b,o')))
 | 0,g,o,h=>⟨[],rfl,List.nodup_nil,fun _ h=>by cases h⟩
 | a + 1,g,o,h=>by
  match o,h with
  | none,h=>cases (E.zero g _ h).2
  | some (k,x),h=>
   obtain ⟨b,o',v,hb,hx,_⟩:=E.pred g _ k x h
   cases hb
   obtain ⟨S,h1,h2,h3⟩:=nX E a x o' hx
   refine ⟨x :: S,by rw [List.length_cons,h1],List.nodup_cons.mpr ⟨fun z=>?_,h2⟩,fun y hy=>?_⟩
   ·obtain ⟨b,o2,hb,e⟩:=h3 x z
    rw [hx] at e
    cases e
    omega
   ·rcases List.mem_cons.mp hy with rfl | hy
    ·exact ⟨a,o',by omega,hx⟩
    ·obtain ⟨b,o2,hb,e⟩:=h3 y hy
     exact ⟨b,o2,by omega,e⟩
theorem rV {ws:List (List Nat)} {n d:Nat} {R:List (Option Way)} (E:jk ws n d R) {a g:Nat} {o:Option (Nat×Nat)} (h:R[g]?=some (some (a,o))):a<=n:=by
 obtain ⟨S,h1,h2,h3⟩:=nX E a g o h
 have sub:∀ y∈S,y∈List.range n:=fun y hy=>by
  obtain ⟨b,o',_,e⟩:=h3 y hy
  rw [List.mem_range,<-E.len]
  exact (List.getElem?_eq_some_iff.mp e).1
 have:=xt h2 sub
 rw [List.length_range] at this
 omega
theorem sv {K:PySem.W.Frag} {L:Hp->Prop} (hLN:∀ H H',L H->tp H H'->L H') {vs:List V} {H:Hp} {Q:VK} {E:XK} (h:eF K L vs H Q E):iw K L { nx:=fun _ H'=>Q .non H',rt:=Q } (start uN vs) H:=by
 obtain ⟨vw,tr,ws,n,d,bs,rfl,hV,hw,hd,hn,hwl,etr,hbl,l0,q⟩:=h
 have hL:∀ H H',L H->ak H H'->L H':=fun H H' l s=>hLN H H' l s.toN
 show iw K L _ [some _,some _,some _,none,none,none] _
 unfold iw
 walk_at "rd"
 rw [List.length_map,hbl]
 refine ⟨n,d,vw,ws,rfl,hV,hw,hd,hn,hwl,fun ro xs R H1 hro s1 e1 p1 E1=>?_⟩
 have hx:=Paired.length p1
 have hl:=E1.len
 walk_at "rd"
 refine wl (S:=bu) xs (SqL.of e1) (fun H' s=>SqL.of (s _ _ e1)) (by omega) (fun i acc _=>acc=ap (cmR R i)) (fun _ _=>rfl) ?_ ?_
 ·rintro p hp C s' H' fp i x T acc H2 H3 hxi ⟨s2,e2,l2,rfl⟩ hT s3 e3 ep3
  obtain ⟨r,hr,rv⟩:=gB p1 hxi
  refine eJ (SqT.of e3) ?_
  walk_at "rd"
  refine yL ?_
  rw [rv.isN]
  walk_at "rd"
  match r,hr with
  | none,hr=>
   refine fY ?_
   refine bi.skip (s2.trans s3) ep3 l2 ?_
   rw [uL,if_neg (by unfold knB; rw [hr]; exact Bool.false_ne_true),List.append_nil]
  | some r,hr=>
   refine jo ?_
   walk_at "rd"
   refine bi.put hp (fun _ _ _ _ r _=>r) (s2.trans s3) ep3 l2 ?_
   rw [uL,if_pos (by unfold knB; rw [hr]),dv]
 rintro rc acc H2 hrc s2 e2 rfl
 rw [hx] at e2
 have hcl:(cmR R R.length).length<=n:=by
  unfold cmR
  refine Nat.le_trans (List.length_filter_le _ _) ?_
  rw [List.length_range]
  omega
 have hcm:∀ y∈cmR R R.length,y < n/\Kn R y:=fun y hy=>by
  obtain ⟨h1,h2⟩:=List.mem_filter.mp hy
  exact ⟨by have:=List.mem_range.mp h1; omega,wt.mp h2⟩
 walk_at "rd"
 refine gm (ap (cmR R R.length)) (SqL.of e2) (by rw [aB]; omega) (fun i acc _=>acc=ap (((cmR R R.length).take i).filter fun y=>bs[y]? == some false)) (fun _ _=>rfl) ?_ ?_
 ·rintro p hp C s' H' fp i x acc H3 hxi ⟨s3,e3,l3,rfl⟩
  obtain ⟨y,hy,rfl⟩:=gC hxi
  obtain ⟨yn,_⟩:=hcm y (List.mem_of_getElem? hy)
  obtain ⟨b,hb⟩:∃ b,bs[y]?=some b:=⟨_,List.getElem?_eq_getElem (by omega)⟩
  walk_at "rd"
  refine aZ (SqL.of ((s1.trans s2).trans s3 _ _ etr)) (v:=.bl b) (bG (by rw [List.getElem?_map,hb]; rfl)) ?_
  walk_at "rd"
  cases b with
  | true=>
   refine fY ?_
   refine bi.skip s3 e3 l3 ?_
   rw [eO hy,List.filter_append,List.filter_cons_of_neg (by rw [hb]; decide),List.filter_nil,List.append_nil]
  | false=>
   refine jo ?_
   walk_at "rd"
   refine bi.put hp (fun _ _ _ _ r _=>r) s3 e3 l3 ?_
   rw [eO hy,List.filter_append,List.filter_cons_of_pos (by rw [hb]; decide),List.filter_nil,dv]
 rintro wr acc H3 hwr s3 e3 rfl
 rw [aB,List.take_length] at e3
 have e3':H3 wr=some (.lst (ap (wrR R bs))):=e3
 have s13:=s1.trans (s2.trans s3)
 have hwm:∀ y∈wrR R bs,bs[y]?=some false/\Kn R y:=fun y hy=>by
  obtain ⟨h1,h2⟩:=List.mem_filter.mp hy
  exact ⟨beq_iff_eq.mp h2,(hcm y h1).2⟩
 walk_at "rd"
 rw [aB]
 refine cC (fun h=>?_) (fun h=>?_)
 ·walk_at "rd"
  refine CN ?_
  walk_at "rd"
  refine ⟨wr,(wrR R bs).map fun (s:Nat)=>((s:Nat):Int),.ref ro,fun i=>dOf R ((wrR R bs).getD i 0),rfl,by rw [<-dP]; exact SqL.of e3',by rw [List.length_map]; omega,rfl,fun i m hi=>?_,hL _ _ l0 s13,fun i m H4 s4 l4 hi best=>?_⟩
  ·rw [List.getElem?_map] at hi
   obtain ⟨y,hy,rfl⟩:=Option.map_eq_some_iff.mp hi
   obtain ⟨_,⟨a,o⟩,hr⟩:=hwm y (List.mem_of_getElem? hy)
   obtain ⟨x,hx',rv⟩:=kI p1 hr
   obtain ⟨t,y1,z1,rfl,et⟩:=rv.dist
   refine ⟨ro,xs,t,[.int (a:Int),y1,z1],rfl,SqL.of ((s2.trans s3) _ _ e1),by omega,bG hx',SqT.of ((s2.trans s3) _ _ et),?_⟩
   show atI _ 0=some (V.int (dOf R ((wrR R bs).getD i 0)))
   rw [List.getD_eq_getElem?_getD,hy]
   show atI _ 0=some (V.int (dOf R y))
   rw [uM hr]
   rfl
  ·rw [List.getElem?_map] at hi
   obtain ⟨y,hy,rfl⟩:=Option.map_eq_some_iff.mp hi
   obtain ⟨hb,⟨a,o⟩,hr⟩:=hwm y (List.mem_of_getElem? hy)
   have hmin:∀ y'∈wrR R bs,∀ b o',R[y']?=some (some (b,o'))->a<=b:=fun y' hy' b o' hr'=>by
    obtain ⟨j,hj⟩:=List.getElem?_of_mem hy'
    have:=(best j (by rw [List.length_map]; exact (List.getElem?_eq_some_iff.mp hj).1)).1
    simp only [List.getD_eq_getElem?_getD,hy,hj,Option.getD_some,uM hr,uM hr'] at this
    omega
   walk_at "rd"
   refine ⟨ro,xs,R,ws,n,d,y,a,o,rfl,s4.lst ((s2.trans s3) _ _ e1),Paired.mapP p1 fun x r rv=>?_,E1,hr,by have:=rV E1 hr; omega,fun f H5 rd hf s5 St hrd wk=>?_⟩
   ·match r,rv with
    | none,rv=>exact rv
    | some (a,none),⟨t,e,q⟩=>exact ⟨t,e,s4.tup ((s2.trans s3) _ _ q)⟩
    | some (a,some (_,_)),⟨t,e,q⟩=>exact ⟨t,e,s4.tup ((s2.trans s3) _ _ q)⟩
   walk_at "rd"
   refine ⟨by simp [sizeLine_eq],fun t H6 ht s6 e6=>?_⟩
   have sT:bP H H6:=(s13.toT.trans s4).trans (s5.trans s6).toT
   have hf0:kt H f:=kt.back (s13.toT.trans s4) (kt.of hf)
   exact q t f R H6 sT (hL _ _ l4 (s5.trans s6)) hf0 E1 (.road e6 (St.same s6) hrd wk hr hb hmin)
 ·walk_at "rd"
  refine ⟨by simp [sizeLine_eq],fun t H4 ht s4 e4=>?_⟩
  refine q t rc R H4 (s13.trans s4).toT (hL _ _ l0 (s13.trans s4)) (kt.of (s1.free hrc)) E1 (.com e4 ((s3.trans s4) _ _ e2) ?_)
  exact List.eq_nil_of_length_eq_zero (by omega)
end L2
end
section
namespace KM
end KM
end
section
set_option maxRecDepth 10000
namespace KM
structure mn (t:List Nat) (n:Nat):Prop where
 pm:t.Perm (List.range n)
end KM
end
section
namespace L2
open PySem PyProof.Rows
theorem Bn (z:Int) (ns:List Int):inV (.int z) (ns.map V.int)=decide (z∈ns):=by
 unfold inV
 rw [List.any_map]
 cases h:ns.any ((fun y=>eqV y (.int z)) ∘ V.int) with
 | true=>
  obtain ⟨n,hn,e⟩:=List.any_eq_true.mp h
  have e':(n == z)=true:=e
  rw [beq_iff_eq] at e'
  exact (decide_eq_true (e' ▸ hn)).symm
 | false=>
  refine (decide_eq_false fun hz=>?_).symm
  have:=List.any_eq_false.mp h z hz
  exact this (show (z == z)=true by simp)
theorem Aa (ns:List Int):(ns.map V.int).all cP=true:=List.all_eq_true.mpr fun x hx=>by
 obtain ⟨n,_,rfl⟩:=List.mem_map.mp hx
 rfl
end L2
end
section
namespace L2
open PySem PyProof.Rows
open KF
theorem xu {n:Nat} {fs:List (List Nat)} (hw:∀ v∈fs,Within n v) (hr:∀ v∈fs,Rep n v) {d:Nat}:∀ {x y:Nat},dN (gM n fs) x y->(kd fs d x↔kd fs d y):=by
 intro x y h
 induction h with
 | refl x=>exact Iff.rfl
 | @one x y h=>
  obtain ⟨v,hv,hx,e⟩:=h
  have w:=hw v hv
  have hy:y < n:=w.2 y (List.mem_of_getElem? e)
  have ex:v.getD x 0=y:=by rw [List.getD_eq_getElem?_getD,e]; rfl
  have ey:v[y]?=some y:=by
   have h1:=hr v hv x hx
   rw [ex] at h1
   have h2:v[y]?=some (v.getD y 0):=(gy w hy).1
   rwa [h1] at h2
  have ha:Alk v x y:=⟨y,e,ey⟩
  exact ⟨fun r=>.step hv r ha,fun r=>.step hv r ha.symm⟩
 | symm _ ih=>exact ih.symm
 | trans _ _ ih1 ih2=>exact ih1.trans ih2
theorem xv {n:Nat} {fs:List (List Nat)} (hw:∀ v∈fs,Within n v) {d:Nat} (hd:d < n):∀ {y:Nat},kd fs d y->dN (gM n fs) d y/\y < n:=by
 intro y h
 induction h with
 | here=>exact ⟨.refl _,hd⟩
 | @step x y v hv _ ha ih=>
  obtain ⟨c,h1,h2⟩:=ha
  have hy:y < n:=by rw [<-(hw v hv).1]; exact (List.getElem?_eq_some_iff.mp h2).1
  exact ⟨.trans ih.1 (.trans (.one ⟨v,hv,ih.2,h1⟩) (.symm (.one ⟨v,hv,hy,h2⟩))),hy⟩
theorem uO {l:List Bool} (h:∀ b∈l,b=true):inV (.bl false) (l.map V.bl)=false:=by
 unfold inV
 rw [List.any_map]
 refine List.any_eq_false.mpr fun b hb=>?_
 rw [h b hb]
 decide
theorem rW (l:List Bool):(l.map V.bl).all cP=true:=List.all_eq_true.mpr fun x hx=>by
 obtain ⟨n,_,rfl⟩:=List.mem_map.mp hx
 rfl
theorem oC (l:List Nat):(ap l).all cP=true:=by rw [dP]; exact Aa _
theorem uP (y:Nat) (l:List Nat):inV (.int (y:Int)) (ap l)=decide (y∈l):=by
 rw [dP,Bn]
 refine decide_eq_decide.mpr ?_
 rw [List.mem_map]
 constructor
 ·rintro ⟨a,h,e⟩
  have:a=y:=by omega
  exact this ▸ h
 ·exact fun h=>⟨y,h,rfl⟩
noncomputable def dS (_:PySem.W.Frag):Sp:=fun vs H Q _=>∃ (vw sm:Addr) (ws:List (List Nat)) (n:Nat) (ys:List Nat),vs=[.ref vw,.ref sm]/\cj H vw ws/\(∀ v∈ws,Within n v)/\n<=2000/\H sm=some (.lst (ap ys))/\ys.length<=2000/\(∀ y∈ys,y < n)/\(∀ v∈ws,∀ x∈ys,∀ y,Alk v x y->y∈ys)/\∀ H',ak H H'->Q (.bl true) H'
noncomputable def gQ (K:PySem.W.Frag):TS:=(au (dc (cO K (ab 0)) (ai 2) (au (ay (cx (cO K (ab 1)) (fun _ _ _ _=>(ai 0)) (fun _ _ _ _=>cB) (fun _ _ _ _=>(tOp (bE K) (ab 1) (ab 0))) [none,some 2]) (ai 3))
 (dc (gK bu K (ac (ab 2) ah)) (eX K 2 (bt (ai 4) (bt (ai 5) eW))) (cu (tG (bn (tOp (rIn K false) (ab 5) (ab 3))) (bn (tOp (rIn K true) (ab 4) (ab 1)))) (aV (tC (.bl false))) bK))))
 (aV (tC (.bl true))))
theorem pI {K:PySem.W.Frag} {vs:List V} {H:Hp} {Q:VK} {E:XK} (h:dS K vs H Q E):vs.length=2:=by
 obtain ⟨vw,sm,ws,n,ys,rfl,⟨rs,ev,pv⟩,hw,hn,es,hyl,hyn,hcl,q⟩:=h
 rfl
theorem qE {K:PySem.W.Frag} {vs:List V} {H:Hp} {Q:VK} {E:XK} (h:dS K vs H Q E):gQ K { nx:=fun _ H'=>Q .non H',rt:=Q } (start ["_law_views_here","_law_some","_law_view","_law_inside","_law_place","_law_least_here"] vs) H:=by
 obtain ⟨vw,sm,ws,n,ys,rfl,⟨rs,ev,pv⟩,hw,hn,es,hyl,hyn,hcl,q⟩:=h
 show gQ K _ [some _,some _,none,none,none,none] _
 unfold gQ
 walk_at "rd"
 refine iO (rs.map V.ref) (SqL.of ev) (fun i σ H2=>∃ (u2 u3 u4 u5:Option V),σ=[some (.ref vw),some (.ref sm),u2,u3,u4,u5]/\ak H H2) ⟨_,_,_,_,rfl,ak.refl _⟩ (fun i σ H2 _ ⟨_,_,_,_,_,s2⟩=>SqL.of (s2 _ _ ev)) ?_ ?_
 ·rintro i x σ H2 hx ⟨u2,u3,u4,u5,rfl,s2⟩
  obtain ⟨rv,hrv,rfl⟩:=nB hx
  obtain ⟨v,hv,erv⟩:=gB pv hrv
  have hvw:=hw v (List.mem_of_getElem? hv)
  have erv2:=s2 _ _ erv
  walk_at "rd"
  refine gm (ap ys) (SqL.of (s2 _ _ es)) (by rw [aB]; omega) (fun i acc _=>acc=ap ((ys.take i).map fun y=>v.getD y 0)) (fun _ _=>rfl) ?_ ?_
  ·rintro p hp C s' H' fp i x acc H3 hxi ⟨s3,e3,l3,rfl⟩
   obtain ⟨y,hy,rfl⟩:=gC hxi
   walk_at "rd"
   refine aZ (SqL.of (s3 _ _ erv2)) (d4 (gy hvw (hyn y (List.mem_of_getElem? hy))).1) ?_
   refine bi.put hp (fun _ _ _ _ r _=>r) s3 e3 l3 ?_
   rw [eO hy,List.map_append]
   exact dv _ _
  rintro ins acc H3 hins s3 e3 rfl
  rw [aB,List.take_length] at e3
  have s03:=s2.trans s3
  walk_at "rd"
  refine jE (S:=bu) (ap v) (SqL.of (s3 _ _ erv2)) (fun i σ H4=>∃ (u4 u5:Option V),σ=[some (.ref vw),some (.ref sm),some (.ref rv),some (.ref ins),u4,u5]/\ak H3 H4) ⟨_,_,rfl,ak.refl _⟩ ?_ ?_ ?_
  ·rintro i σ H4 hi ⟨u4,u5,rfl,s4⟩
   exact SqL.of (s4 _ _ (s3 _ _ erv2))
  ·rintro i x T σ H4 H5 hxi ⟨u4,u5,rfl,s4⟩ hT s5 e5
   obtain ⟨c,hc,rfl⟩:=gC hxi
   have s35:=s4.trans s5
   refine eJ (SqT.of e5) ?_
   walk_at "rd"
   refine AH (SqL.of (s35 _ _ e3)) rfl (oC _) (uP c _) ?_
   walk_at "rd"
   refine cC (fun h=>?_) (fun h=>?_)
   ·walk_at "rd"
    refine uz (SqL.of (s35 _ _ (s03 _ _ es))) rfl (oC _) (uP i _) ?_
    obtain ⟨x,hx,e⟩:=List.mem_map.mp h
    have hxn:=hyn x hx
    have hin:i∈ys:=hcl v (List.mem_of_getElem? hv) x hx i ⟨c,by rw [<-e]; exact (gy hvw hxn).1,hc⟩
    rw [decide_eq_true hin]
    walk_at "rd"
    exact ⟨_,_,rfl,s35⟩
   ·walk_at "rd"
    exact ⟨_,_,rfl,s35⟩
  ·rintro σ H4 ⟨u4,u5,rfl,s4⟩
   exact ⟨_,_,_,_,rfl,s03.trans s4⟩
 ·rintro σ H2 ⟨u2,u3,u4,u5,rfl,s2⟩
  walk_at "rd"
  exact q H2 s2
noncomputable def dU (_:PySem.W.Frag):Sp:=fun vs H Q _=>∃ (t f vw fa sh:Addr) (ws:List (List Nat)) (n d:Nat) (bs cs:List Bool) (R:List (Option Way)),vs=[.ref t,.ref vw,.ref fa,.ref sh,.int (d:Int)]/\cj H vw ws/\(∀ v∈ws,Within n v)/\d < n/\n<=900/\H fa=some (.lst (bs.map V.bl))/\bs.length=n/\H sh=some (.lst (cs.map V.bl))/\cs[d]?=some (decide (wrR R bs=[]))/\jk ws n d R/\Ans H t f ws d R bs/\∀ H',ak H H'->Q (.bl true) H'
noncomputable def gR (K:PySem.W.Frag):TS:=(au (cu (tOr (bn (tOp (rIn K true) (tOp (cD K) (ab 0) (tC (.int 0))) (ci (ac (tC (.str "common")) (ac (tC (.str "road")) ah))))) (bn (tOp rNe (tOp rEq (tOp (cD K) (ab 0) (tC (.int 0))) (tC (.str "common"))) (tOp (bE K) (ab 3) (ab 4))))) (aV (tC (.bl false))) bK)
 (au (cu (bn (tOp rEq (tOp (cD K) (ab 0) (tC (.int 0))) (tC (.str "common")))) (aV (j6 (az (dS K) [] E0 (ac (ab 1) (ac (tOp (cD K) (ab 0) (tC (.int 1))) ah))) (tOp (rIn K true) (tC (.bl false)) (cx (cO K (tOp (cD K) (ab 0) (tC (.int 1)))) (fun _ _ _ _=>(ai 0)) (fun _ _ _ _=>cB) (fun _ _ _ _=>(tOp (bE K) (ab 1) (ab 0))) [none,some 2])))) bK)
 (au (ay (ab 4) (ai 5))
 (au (dc (cO K (tOp (cD K) (ab 0) (tC (.int 1)))) (eX K 2 (bt (ai 6) (bt (ai 7) eW))) (ay (ab 7) (ai 5)))
 (aV (tOp xc (tOp (bE K) (ab 2) (ab 5)) (tC (.bl false))))))))
theorem gZ {R:List (Option Way)} {y:Nat}:y∈cmR R R.length↔Kn R y:=by
 unfold cmR
 rw [List.mem_filter,List.mem_range,wt]
 exact ⟨fun h=>h.2,fun h=>⟨by obtain ⟨r,e⟩:=h; exact (List.getElem?_eq_some_iff.mp e).1,h⟩⟩
theorem vL {α:Type} {l:List α} {i:Nat} {x:α} (h:l[i]?=some x):l.drop i=x :: l.drop (i + 1):=by
 obtain ⟨h1,h2⟩:=List.getElem?_eq_some_iff.mp h
 rw [List.drop_eq_getElem_cons h1,h2]
theorem pJ {K:PySem.W.Frag} {vs:List V} {H:Hp} {Q:VK} {E:XK} (h:dU K vs H Q E):vs.length=5:=by
 obtain ⟨t,f,vw,fa,sh,ws,n,d,bs,cs,R,rfl,hV,hw,hd,hn,efa,hbl,esh,hcs,E,an,q⟩:=h
 rfl
theorem qF {K:PySem.W.Frag} {vs:List V} {H:Hp} {Q:VK} {E:XK} (h:dU K vs H Q E):gR K { nx:=fun _ H'=>Q .non H',rt:=Q } (start ["_law_told","_law_views_here","_law_facts","_law_shared_here","_law_deal","_law_last","_law_k","_law_place"] vs) H:=by
 obtain ⟨t,f,vw,fa,sh,ws,n,d,bs,cs,R,rfl,hV,hw,hd,hn,efa,hbl,esh,hcs,E,an,q⟩:=h
 show gR K _ [some _,some _,some _,some _,some _,none,none,none] _
 unfold gR
 cases an with
 | com e1 ef hno=>
  rw [decide_eq_true hno] at hcs
  have hcl:(cmR R R.length).length<=n:=by
   unfold cmR
   refine Nat.le_trans (List.length_filter_le _ _) ?_
   rw [List.length_range,E.len]
   exact Nat.le_refl _
  walk_at "rd"
  refine aY (SqT.of e1) (i:=0) (v:=.str "common") rfl ?_
  walk_at "rd"
  refine ⟨by simp [sizeLine_eq],fun t2 H2 ht2 s2 e2=>?_⟩
  walk_at "rd"
  refine ⟨t2,_,rfl,.inr (SqT.of e2),rfl,rfl,?_⟩
  rw [show inV (V.str "common") [V.str "common",V.str "road"]=true by simp [inV,eqV]]
  walk_at "rd"
  refine fY ?_
  walk_at "rd"
  refine aY (SqT.of (s2 _ _ e1)) (i:=0) (v:=.str "common") rfl ?_
  walk_at "rd"
  refine aZ (SqL.of (s2 _ _ esh)) (v:=.bl true) (bG (by rw [List.getElem?_map,hcs]; rfl)) ?_
  walk_at "rd"
  refine jR (fun z=>absurd (by simp) z) (fun _=>?_)
  walk_at "rd"
  refine aY (SqT.of (s2 _ _ e1)) (i:=0) (v:=.str "common") rfl ?_
  walk_at "rd"
  refine cC (fun _=>?_) (fun z=>absurd rfl z)
  walk_at "rd"
  refine aY (SqT.of (s2 _ _ e1)) (i:=1) (v:=.ref f) rfl ?_
  walk_at "rd"
  refine ⟨vw,f,ws,n,cmR R R.length,rfl,hV.same s2,hw,by omega,s2 _ _ ef,by omega,fun y hy=>?_,fun v hv x hx y ha=>?_,fun H3 s3=>?_⟩
  ·obtain ⟨r,h⟩:=gZ.mp hy
   rw [<-E.len]
   exact (List.getElem?_eq_some_iff.mp h).1
  ·exact gZ.mpr ((E.iff_ y).mpr (.step hv ((E.iff_ x).mp (gZ.mp hx)) ha))
  have s03:=s2.trans s3
  walk_at "rd"
  refine aY (SqT.of (s03 _ _ e1)) (i:=1) (v:=.ref f) rfl ?_
  walk_at "rd"
  refine gm (ap (cmR R R.length)) (SqL.of (s03 _ _ ef)) (by rw [aB]; omega) (fun i acc _=>∃ l:List Bool,acc=l.map V.bl/\∀ b∈l,b=true) (fun _ _=>⟨[],rfl,fun b h=>by cases h⟩) ?_ ?_
  ·rintro p hp C s' H' fp i x acc H4 hxi ⟨s4,e4,l4,l,rfl,hl⟩
   obtain ⟨y,hy,rfl⟩:=gC hxi
   have hyk:=List.mem_of_getElem? hy
   have hyn:y < n:=by
    obtain ⟨r,h⟩:=gZ.mp hyk
    rw [<-E.len]
    exact (List.getElem?_eq_some_iff.mp h).1
   have hb:bs[y]?=some true:=by
    obtain ⟨b,hb⟩:∃ b,bs[y]?=some b:=⟨_,List.getElem?_eq_getElem (by omega)⟩
    cases b with
    | true=>exact hb
    | false=>
     have:y∈wrR R bs:=List.mem_filter.mpr ⟨hyk,by rw [hb]; decide⟩
     rw [hno] at this
     cases this
   walk_at "rd"
   refine aZ (SqL.of ((s03.trans s4) _ _ efa)) (v:=.bl true) (bG (by rw [List.getElem?_map,hb]; rfl)) ?_
   refine bi.put hp (fun _ _ _ _ r _=>r) s4 e4 l4 ⟨l++[true],by rw [List.map_append]; rfl,fun b hb=>?_⟩
   rcases List.mem_append.mp hb with hb | hb
   ·exact hl b hb
   ·exact List.mem_singleton.mp hb
  rintro p acc H4 hp s4 e4 ⟨l,rfl,hl⟩
  walk_at "rd"
  refine uz (SqL.of e4) rfl (rW _) (uO hl) ?_
  exact q H4 (s03.trans s4)
 | @road rd g a o' e1 ef hl wk hg hb hm=>
  obtain ⟨ts,ets,pts⟩:=id ef
  have htsl:=Paired.length pts
  have han:a<=n:=rV E hg
  have hgw:wrR R bs≠[]:=fun z=>by
   have:g∈wrR R bs:=List.mem_filter.mpr ⟨gZ.mpr ⟨_,hg⟩,by rw [hb]; decide⟩
   rw [z] at this
   cases this
  rw [decide_eq_false hgw] at hcs
  walk_at "rd"
  refine aY (SqT.of e1) (i:=0) (v:=.str "road") rfl ?_
  walk_at "rd"
  refine ⟨by simp [sizeLine_eq],fun t2 H2 ht2 s2 e2=>?_⟩
  walk_at "rd"
  refine ⟨t2,_,rfl,.inr (SqT.of e2),rfl,rfl,?_⟩
  rw [show inV (V.str "road") [V.str "common",V.str "road"]=true by simp [inV,eqV]]
  walk_at "rd"
  refine fY ?_
  walk_at "rd"
  refine aY (SqT.of (s2 _ _ e1)) (i:=0) (v:=.str "road") rfl ?_
  walk_at "rd"
  refine aZ (SqL.of (s2 _ _ esh)) (v:=.bl false) (bG (by rw [List.getElem?_map,hcs]; rfl)) ?_
  walk_at "rd"
  refine jR (fun z=>absurd (by decide) z) (fun _=>?_)
  walk_at "rd"
  refine aY (SqT.of (s2 _ _ e1)) (i:=0) (v:=.str "road") rfl ?_
  walk_at "rd"
  refine cC (fun z=>absurd z (by decide)) (fun _=>?_)
  walk_at "rd"
  refine aY (SqT.of (s2 _ _ e1)) (i:=1) (v:=.ref f) rfl ?_
  walk_at "rd"
  refine iO (ts.map V.ref) (SqL.of (s2 _ _ ets)) (fun i σ H3=>∃ (u6 u7:Option V) (here:Nat),σ=[some (.ref t),some (.ref vw),some (.ref fa),some (.ref sh),some (.int (d:Int)),some (.int (here:Int)),u6,u7]/\H3=H2/\oB ws here (rd.drop i) g) ⟨_,_,d,rfl,rfl,by rw [List.drop_zero]; exact wk⟩ (fun i σ H3 _ ⟨_,_,_,_,e,_⟩=>by subst e; exact SqL.of (s2 _ _ ets)) ?_ ?_
  ·rintro i x σ H3 hx ⟨u6,u7,here,rfl,rfl,wk2⟩
   obtain ⟨t3,ht3,rfl⟩:=nB hx
   obtain ⟨⟨k,y⟩,hky,et⟩:=gB pts ht3
   rw [vL hky] at wk2
   cases wk2 with
   | cons hv hal hne wk3=>
   refine eJ (SqT.of (s2 _ _ et)) ?_
   walk_at "rd"
   exact ⟨_,_,y,rfl,rfl,wk3⟩
  ·rintro σ H3 ⟨u6,u7,here,rfl,rfl,wk2⟩
   rw [List.length_map,htsl,List.drop_length] at wk2
   cases wk2
   walk_at "rd"
   refine aZ (SqL.of (s2 _ _ efa)) (v:=.bl false) (bG (by rw [List.getElem?_map,hb]; rfl)) ?_
   walk_at "rd"
   refine AI ?_
   exact q _ s2
noncomputable def fg (_:PySem.W.Frag):Sp:=fun vs H Q _=>∃ (t p fa ow:Addr) (ss:List Nat) (d:Nat) (bs cs:List Bool),vs=[.ref t,.ref fa,.ref ow,.int (d:Int)]/\H p=some (.lst (ap (cr ss d)))/\H t=some (.tup (qw bs (cr ss d) p))/\H fa=some (.lst (bs.map V.bl))/\bs.length=ss.length/\d < ss.length/\ss.length<=2000/\H ow=some (.lst (cs.map V.bl))/\cs[d]?=some (decide (iq bs (cr ss d)=[]))/\∀ H',ak H H'->Q (.bl true) H'
noncomputable def jd (K:PySem.W.Frag):TS:=(au (cu (tOr (bn (tOp (rIn K true) (tOp (cD K) (ab 0) (tC (.int 0))) (ci (ac (tC (.str "knows")) (ac (tC (.str "not")) ah))))) (bn (tOp rNe (tOp rEq (tOp (cD K) (ab 0) (tC (.int 0))) (tC (.str "knows"))) (tOp (bE K) (ab 2) (ab 3))))) (aV (tC (.bl false))) bK)
 (au (cu (bn (tOp rEq (tOp (cD K) (ab 0) (tC (.int 0))) (tC (.str "not")))) (aV (tOp xc (tOp (bE K) (ab 1) (tOp (cD K) (ab 0) (tC (.int 1)))) (tC (.bl false)))) bK)
 (aV (j6 (tOp (rIn K false) (ab 3) (tOp (cD K) (ab 0) (tC (.int 1)))) (tOp (rIn K true) (tC (.bl false)) (cx (cO K (tOp (cD K) (ab 0) (tC (.int 1)))) (fun _ _ _ _=>(ai 0)) (fun _ _ _ _=>cB) (fun _ _ _ _=>(tOp (bE K) (ab 1) (ab 0))) [none,some 1]))))))
theorem sw {K:PySem.W.Frag} {vs:List V} {H:Hp} {Q:VK} {E:XK} (h:fg K vs H Q E):vs.length=4:=by
 obtain ⟨t,p,fa,ow,ss,d,bs,cs,rfl,ep,et,efa,hbl,hd,hl,eow,hcs,q⟩:=h
 rfl
theorem uQ {K:PySem.W.Frag} {vs:List V} {H:Hp} {Q:VK} {E:XK} (h:fg K vs H Q E):jd K { nx:=fun _ H'=>Q .non H',rt:=Q } (start ["_law_told","_law_facts","_law_owned","_law_deal"] vs) H:=by
 obtain ⟨t,p,fa,ow,ss,d,bs,cs,rfl,ep,et,efa,hbl,hd,hl,eow,hcs,q⟩:=h
 show jd K _ [some _,some _,some _,some _] _
 unfold jd
 have hal:∀ y∈cr ss d,y < bs.length:=fun y hy=>by rw [hbl]; exact (mP hy).1
 have hall:(cr ss d).length<=2000:=by
  unfold cr
  refine Nat.le_trans (List.length_filter_le _ _) ?_
  rw [List.length_range]
  exact hl
 cases hwr:iq bs (cr ss d) with
 | nil=>
  unfold qw at et
  rw [hwr] at et hcs
  rw [decide_eq_true rfl] at hcs
  walk_at "rd"
  refine aY (SqT.of et) (i:=0) (v:=.str "knows") rfl ?_
  walk_at "rd"
  refine ⟨by simp [sizeLine_eq],fun t2 H2 ht2 s2 e2=>?_⟩
  walk_at "rd"
  refine ⟨t2,_,rfl,.inr (SqT.of e2),rfl,rfl,?_⟩
  rw [show inV (V.str "knows") [V.str "knows",V.str "not"]=true by simp [inV,eqV]]
  walk_at "rd"
  refine fY ?_
  walk_at "rd"
  refine aY (SqT.of (s2 _ _ et)) (i:=0) (v:=.str "knows") rfl ?_
  walk_at "rd"
  refine aZ (SqL.of (s2 _ _ eow)) (v:=.bl true) (bG (by rw [List.getElem?_map,hcs]; rfl)) ?_
  walk_at "rd"
  refine jR (fun z=>absurd (by simp) z) (fun _=>?_)
  walk_at "rd"
  refine aY (SqT.of (s2 _ _ et)) (i:=0) (v:=.str "knows") rfl ?_
  walk_at "rd"
  refine cC (fun z=>absurd z (by decide)) (fun _=>?_)
  walk_at "rd"
  refine aY (SqT.of (s2 _ _ et)) (i:=1) (v:=.ref p) rfl ?_
  walk_at "rd"
  refine AH (SqL.of (s2 _ _ ep)) rfl (oC _) (uP d _) ?_
  rw [decide_eq_true (show d∈cr ss d from List.mem_filter.mpr ⟨List.mem_range.mpr hd,decide_eq_true rfl⟩)]
  walk_at "rd"
  refine aY (SqT.of (s2 _ _ et)) (i:=1) (v:=.ref p) rfl ?_
  walk_at "rd"
  refine gm (ap (cr ss d)) (SqL.of (s2 _ _ ep)) (by rw [aB]; omega) (fun i acc _=>∃ l:List Bool,acc=l.map V.bl/\∀ b∈l,b=true) (fun _ _=>⟨[],rfl,fun b h=>by cases h⟩) ?_ ?_
  ·rintro p3 hp3 C s' H' fp i x acc H4 hxi ⟨s4,e4,l4,l,rfl,hll⟩
   obtain ⟨y,hy,rfl⟩:=gC hxi
   have hym:=List.mem_of_getElem? hy
   have hb:bs[y]?=some true:=by
    obtain ⟨b,hb⟩:∃ b,bs[y]?=some b:=⟨_,List.getElem?_eq_getElem (hal y hym)⟩
    cases b with
    | true=>exact hb
    | false=>
     have:y∈iq bs (cr ss d):=List.mem_filter.mpr ⟨hym,by rw [List.getD_eq_getElem?_getD,hb]; rfl⟩
     rw [hwr] at this
     cases this
   walk_at "rd"
   refine aZ (SqL.of ((s2.trans s4) _ _ efa)) (v:=.bl true) (bG (by rw [List.getElem?_map,hb]; rfl)) ?_
   refine bi.put hp3 (fun _ _ _ _ r _=>r) s4 e4 l4 ⟨l++[true],by rw [List.map_append]; rfl,fun b hb=>?_⟩
   rcases List.mem_append.mp hb with hb | hb
   ·exact hll b hb
   ·exact List.mem_singleton.mp hb
  rintro p3 acc H4 hp3 s4 e4 ⟨l,rfl,hll⟩
  walk_at "rd"
  refine uz (SqL.of e4) rfl (rW _) (uO hll) ?_
  exact q H4 (s2.trans s4)
 | cons w r=>
  unfold qw at et
  rw [hwr] at et hcs
  rw [decide_eq_false (fun z=>by cases z)] at hcs
  have hw:w∈iq bs (cr ss d):=by rw [hwr]; exact List.mem_cons_self
  obtain ⟨hw1,hw2⟩:=List.mem_filter.mp hw
  have hb:bs[w]?=some false:=by
   obtain ⟨b,hb⟩:∃ b,bs[w]?=some b:=⟨_,List.getElem?_eq_getElem (hal w hw1)⟩
   rw [List.getD_eq_getElem?_getD,hb] at hw2
   cases b with
   | true=>cases hw2
   | false=>exact hb
  walk_at "rd"
  refine aY (SqT.of et) (i:=0) (v:=.str "not") rfl ?_
  walk_at "rd"
  refine ⟨by simp [sizeLine_eq],fun t2 H2 ht2 s2 e2=>?_⟩
  walk_at "rd"
  refine ⟨t2,_,rfl,.inr (SqT.of e2),rfl,rfl,?_⟩
  rw [show inV (V.str "not") [V.str "knows",V.str "not"]=true by simp [inV,eqV]]
  walk_at "rd"
  refine fY ?_
  walk_at "rd"
  refine aY (SqT.of (s2 _ _ et)) (i:=0) (v:=.str "not") rfl ?_
  walk_at "rd"
  refine aZ (SqL.of (s2 _ _ eow)) (v:=.bl false) (bG (by rw [List.getElem?_map,hcs]; rfl)) ?_
  walk_at "rd"
  refine jR (fun z=>absurd (by decide) z) (fun _=>?_)
  walk_at "rd"
  refine aY (SqT.of (s2 _ _ et)) (i:=0) (v:=.str "not") rfl ?_
  walk_at "rd"
  refine cC (fun _=>?_) (fun z=>absurd rfl z)
  walk_at "rd"
  refine aY (SqT.of (s2 _ _ et)) (i:=1) (v:=.int (w:Int)) rfl ?_
  walk_at "rd"
  refine aZ (SqL.of (s2 _ _ efa)) (v:=.bl false) (bG (by rw [List.getElem?_map,hb]; rfl)) ?_
  walk_at "rd"
  refine AI ?_
  exact q _ s2
open Classical in
noncomputable def eh (n:Nat) (P:Nat->Prop):List Bool:=(List.range n).map fun i=>decide (P i)
theorem qG (n:Nat) (P:Nat->Prop):blV n P=(eh n P).map V.bl:=by unfold blV eh; rw [List.map_map]; rfl
theorem lM (n:Nat) (P:Nat->Prop):(eh n P).length=n:=by unfold eh; simp
theorem nC {n:Nat} {P:Nat->Prop} {i:Nat} (h:i < n):(eh n P)[i]?=some (@decide (P i) (Classical.propDecidable _)):=by unfold eh; rw [List.getElem?_map,List.getElem?_range h]; rfl
theorem mR {n:Nat} {P:Nat->Prop} {i:Nat} (h:i < n):(eh n P)[i]?=some false↔¬ P i:=by
 rw [nC h]
 constructor
 ·intro e z
  rw [<-cdt z] at e
  cases e
 ·intro z
  rw [<-cdf z]
theorem yM {n d:Nat} {v:List Nat} {P:Nat->Prop} (hv:v.length=n) (hd:d < n):(eh n (KN n v P))[d]?=some (decide (iq (eh n P) (cr v d)=[])):=by
 rw [nC hd]
 refine congrArg some (cde ?_).symm
 constructor
 ·intro h j hj e
  apply Classical.byContradiction
  intro hn
  have:j∈iq (eh n P) (cr v d):=List.mem_filter.mpr ⟨List.mem_filter.mpr ⟨List.mem_range.mpr (by omega),decide_eq_true e.symm⟩,by rw [List.getD_eq_getElem?_getD,(mR hj).mpr hn]; rfl⟩
  rw [h] at this
  cases this
 ·intro h
  refine List.eq_nil_iff_forall_not_mem.mpr fun j hj=>?_
  obtain ⟨h1,h2⟩:=List.mem_filter.mp hj
  obtain ⟨h3,h4⟩:=mP h1
  have hjn:j < n:=by omega
  have:=h j hjn h4.symm
  rw [List.getD_eq_getElem?_getD,nC hjn,<-cdt this] at h2
  cases h2
theorem vM {n d:Nat} {fs:List (List Nat)} {R:List (Option Way)} {P:Nat->Prop} (hw:∀ v∈fs,Within n v) (hr:∀ v∈fs,Rep n v) (hd:d < n) (E:jk fs n d R):(eh n (fun i=>∀ j,j < n->dN (gM n fs) i j->P j))[d]?=some (decide (wrR R (eh n P)=[])):=by
 rw [nC hd]
 refine congrArg some (cde ?_).symm
 constructor
 ·intro h j hj c
  apply Classical.byContradiction
  intro hn
  have:j∈wrR R (eh n P):=List.mem_filter.mpr ⟨gZ.mpr ((E.iff_ j).mpr ((xu hw hr c).mp .here)),by rw [(mR hj).mpr hn]; decide⟩
  rw [h] at this
  cases this
 ·intro h
  refine List.eq_nil_iff_forall_not_mem.mpr fun j hj=>?_
  obtain ⟨h1,h2⟩:=List.mem_filter.mp hj
  obtain ⟨c,hjn⟩:=xv hw hd ((E.iff_ j).mp (gZ.mp h1))
  exact (mR hjn).mp (beq_iff_eq.mp h2) (h j hjn c)
theorem cj.sameT29 {H H':Hp} {a:Addr} {fs:List (List Nat)} (h:cj H a fs) (s:bP H H'):cj H' a fs:=let ⟨rs,e,p⟩:=h; ⟨rs,s.lst e,Paired.mapP p fun _ _ x=>s.lst x⟩
theorem xw {r:List Nat}:0 < (KM.de r r.sum).length:=by
 have h:=KM.rN r
 have f:=KM.ga r.sum
 rcases Nat.eq_zero_or_pos (KM.de r r.sum).length with z | z
 ·rw [z,Nat.zero_mul] at h
  omega
 ·exact z
noncomputable abbrev yN (K:PySem.W.Frag) (L:Hp->Prop):Sp:=kK K L
noncomputable def tu (K:PySem.W.Frag) (L:Hp->Prop):TS:=(au (ay (az (fb K) [] E0 (ac (ab 0) (ac (tC (.int 0)) (ac (tC (.int 120)) ah)))) (eX K 2 (bt (ai 1) (bt (ai 2) eW))))
 (au (ay (tCB (fR K) (ac (ab 2) ah)) (ai 3))
 (au (ay (az (fN K) [] E0 (ac (ab 1) (ac (ab 2) ah))) (ai 4))
 (au (ay (az (eC K) [] E0 (ac (ab 0) (ac (tC (.int 8)) (ac (ab 4) (ac (ab 3) ah))))) (ai 5))
 (au (ay (az (dQ K) [] E0 (ac (ab 0) (ac (tC (.int 14)) (ac (ab 1) (ac (ab 3) (ac (tC (.int 29)) ah)))))) (ai 6))
 (au (ay (tOp (rI (fun _ j=>0 < j) fun i j=>.int (i % j)) (az (aK K) [] E0 (ac (ab 0) (ac (tC (.int 36)) ah))) (ab 3)) (ai 7))
 (au (ay (az (cc K) [] E0 (ac (az (aK K) [] E0 (ac (ab 0) (ac (tC (.int 37)) ah))) (ac (ab 3) ah))) (ai 8))
 (au (ay (cx (tM K (ab 8)) (fun _ _ _ _=>(ai 0)) (fun _ _ _ _=>cB) (fun _ _ _ _=>(tOp (bE K) (ab 1) (ab 0))) [none,some 5]) (ai 9))
 (au (ay (az (bw K 35) [] E0 (ac (ab 4) (ac (ab 5) (ac (ab 6) ah)))) (ai 10))
 (au (ay (az (bw K 35) [] E0 (ac (ab 4) (ac (ab 5) (ac (ci (ac (tC (.str "knows")) (ac (ab 7) (ac (ab 6) ah)))) ah)))) (ai 11))
 (au (ay (az (bw K 35) [] E0 (ac (ab 4) (ac (ab 5) (ac (ci (ac (tC (.str "common")) (ac (ab 8) (ac (ab 6) ah)))) ah)))) (ai 12))
 (au (dc (gi (ac (tC (.int 6)) ah)) (ai 13) (au (ay (tOp (rI (fun _ j=>0 < j) fun i j=>.int (i % j)) (az (aK K) [] E0 (ac (ab 0) (ac (tOp (rI0 fun i j=>.int (i + j)) (tC (.int 40)) (ab 13)) ah))) (tCB (fR K) (ac (ab 4) ah))) (ai 14))
 (au (cu (jK (tB (az (fg K) [] E0 (ac (az (fe K) [] E0 (ac (tOp (bE K) (ab 5) (ab 7)) (ac (ab 10) (ac (ab 14) ah)))) (ac (ab 10) (ac (ab 11) (ac (ab 14) ah))))))) (aV (tC (.bl false))) bK)
 (cu (jK (tB (az (dU K) [] E0 (ac (az (eF K L) [] E0 (ac (ab 9) (ac (ab 10) (ac (ab 14) ah)))) (ac (ab 9) (ac (ab 10) (ac (ab 12) (ac (ab 14) ah)))))))) (aV (tC (.bl false))) bK))))
 (aV (tC (.bl true)))))))))))))))
noncomputable abbrev Dt:List Str:=["_law_script","_law_cards","_law_sizes","_law_hands","_law_deals","_law_views_here","_law_saying_here","_law_hand","_law_group_here","_law_some","_law_facts","_law_owned","_law_shared_here","_law_k","_law_deal"]
theorem Bo {K:PySem.W.Frag} {L:Hp->Prop} {vs:List V} {H:Hp} {Q:VK} {E:XK} (h:yN K L vs H Q E):vs.length=1:=by
 obtain ⟨a,ns,rfl,_⟩:=h
 rfl
theorem CO {K:PySem.W.Frag} {L:Hp->Prop} (hLN:∀ H H',L H->tp H H'->L H') {vs:List V} {H:Hp} {Q:VK} {E:XK} (h:yN K L vs H Q E):tu K L { nx:=fun _ H'=>Q .non H',rt:=Q } (start Dt vs) H:=by
 obtain ⟨a,ns,rfl,hSc,l0,g⟩:=h
 have hL:∀ H H',L H->ak H H'->L H':=fun H H' l s=>hLN H H' l s.toN
 show tu K L _ [some _,none,none,none,none,none,none,none,none,none,none,none,none,none,none] _
 unfold tu
 walk_at "rd"
 refine ⟨a,ns,0,120,rfl,hSc,by decide,by decide,by decide,fun c ss p q H2 s2 hp hq e2 eq2 pk hmul=>?_⟩
 refine eJ (SqT.of e2) ?_
 have h1:=pk.l1
 have h5:=pk.l5
 have hc12:=pk.c12
 walk_at "rd"
 rw [aB]
 refine ⟨c,q,ss,rfl,eq2,pk,by omega,fun f H3 s3 hf D3=>?_⟩
 have hws:∀ w∈KM.de (ss++[c - ss.sum]) c,w.length=c:=fun w hw=>(KM.i3 _ c w hw).len
 have hwl:(KM.de (ss++[c - ss.sum]) c).length<=120:=by rw [KM.nU pk.sum]; omega
 have hw0:0 < (KM.de (ss++[c - ss.sum]) c).length:=by
  have hs:(ss++[c - ss.sum]).sum=c:=by rw [List.sum_append]; have:=pk.sum; simp; omega
  have:=xw (r:=ss++[c - ss.sum])
  rwa [hs] at this
 generalize KM.de (ss++[c - ss.sum]) c=ws at *
 have s03:=s2.trans s3
 walk_at "rd"
 refine ⟨a,f,ns,8,ss.length,ws,rfl,hSc.same s03,by decide,by decide,by omega,D3,fun w hw=>by rw [hws w hw]; omega,by omega,fun fs vw H4 hfl hfw hvw s4 V4=>?_⟩
 have s04:=s03.trans s4
 have T4:pD H4 f vw c ws.length ws fs:=⟨D3.same' s4,rfl,hws,by omega,by omega,V4,fun v hv=>(hfw v hv).1,by omega⟩
 walk_at "rd"
 refine ⟨a,ns,14,c,ss.length,29,rfl,hSc.same s04,by decide,by decide,h1,h5,by decide,by decide,fun x s H5 s5 iS oS wS=>?_⟩
 have s05:=s04.trans s5
 walk_at "rd"
 refine ⟨a,ns,36,rfl,hSc.same s05,by decide,by decide,?_⟩
 walk_at "rd"
 obtain ⟨hd,hhd,hhl⟩:=qo (z:=cz ns 36) (m:=ss.length) (by omega)
 rw [hhd]
 walk_at "rd"
 refine ⟨a,ns,37,rfl,hSc.same s05,by decide,by decide,?_⟩
 walk_at "rd"
 refine ⟨_,ss.length,rfl,h5,fun gp gl H6 s6 e6 gs gb=>?_⟩
 have T6:=T4.same (s5.trans s6)
 have hgl:gl.length<=5:=by
  have nd:gl.Nodup:=gs.imp fun h e=>by omega
  have:=xt nd (m:=List.range ss.length) fun k hk=>List.mem_range.mpr (gb k hk)
  rw [List.length_range] at this
  omega
 walk_at "rd"
 refine Ct (ap gl) (SqT.of e6) (by rw [aB]; omega) (fun i acc _=>∃ ls:List Addr,acc=ls.map V.ref/\Paired (fun (r:Addr) (v:List Nat)=>H6 r=some (.lst (ap v))) ls ((gl.take i).map fun h=>fs.getD h [])) (fun _ _=>⟨[],rfl,.nil⟩) ?_ ?_
 ·rintro p7 hp7 C s' H' fp i y acc H7 hy ⟨s7,e7,l7,ls,rfl,pl⟩
  obtain ⟨k,hk,rfl⟩:=gC hy
  obtain ⟨vr,r,ev1,ev3,ev4,ev5⟩:=iQ T6.views (k:=k) (by rw [hfl]; exact gb k (List.mem_of_getElem? hk))
  walk_at "rd"
  refine aZ (SqL.of (s7 _ _ ev1)) ev3 ?_
  refine bi.put hp7 (fun _ _ _ _ r _=>r) s7 e7 l7 ⟨ls++[r],by rw [List.map_append]; rfl,?_⟩
  rw [eO hk,List.map_append]
  exact kH pl ev4
 rintro sm acc H7 hsm s7 e7 ⟨ls,rfl,pl⟩
 rw [aB,List.take_length] at pl
 have V7:cj H7 sm (gl.map fun h=>fs.getD h []):=⟨ls,e7,Paired.mapP pl fun _ _ x=>s7 _ _ x⟩
 have gw:∀ v∈gl.map (fun h=>fs.getD h []),Within ws.length v/\Rep ws.length v:=fun v hv=>by
  obtain ⟨k,hk,rfl⟩:=List.mem_map.mp hv
  obtain ⟨vr,r,ev1,ev3,ev4,ev5⟩:=iQ T6.views (k:=k) (by rw [hfl]; exact gb k hk)
  exact hfw _ ev5
 have T7:=T6.same s7
 have i7:aL H7 x s:=aL.keep (s6.trans s7).keep iS
 walk_at "rd"
 refine ⟨f,vw,x,c,ws.length,ws,fs,s,rfl,T7,i7,by rw [hfl]; exact oS,by omega,fun fa H8 hfa s8 e8=>?_⟩
 walk_at "rd"
 refine ⟨by simp [sizeLine_eq],fun t9 H9 ht9 s9 e9=>?_⟩
 have s79:=s8.trans s9
 have i9:aL H9 x s:=aL.keep s79.keep i7
 walk_at "rd"
 refine ⟨f,vw,.ref t9,c,ws.length,ws,fs,.knows hd s,rfl,T7.same s79,⟨t9,x,rfl,e9,i9⟩,by rw [hfl]; exact ⟨hhl,oS⟩,by show s.words + 1<=35; omega,fun ow H10 how s10 e10=>?_⟩
 walk_at "rd"
 refine ⟨by simp [sizeLine_eq],fun t11 H11 ht11 s11 e11=>?_⟩
 have s711:=s79.trans (s10.trans s11)
 have i11:aL H11 x s:=aL.keep s711.keep i7
 walk_at "rd"
 refine ⟨f,vw,.ref t11,c,ws.length,ws,fs,.common gl s,rfl,T7.same s711,⟨t11,gp,x,rfl,e11,(s7.trans s711) _ _ e6,i11⟩,by rw [hfl]; exact ⟨⟨gs,gb⟩,oS⟩,by show s.words + 1<=35; omega,fun sh H12 hsh s12 e12=>?_⟩
 have efa:H12 fa=some (.lst ((eh ws.length (TR ws.length ws fs s)).map V.bl)):=by rw [<-qG]; exact ((s9.trans s10).trans (s11.trans s12)) _ _ e8
 have eow:H12 ow=some (.lst ((eh ws.length (TR ws.length ws fs (.knows hd s))).map V.bl)):=by rw [<-qG]; exact (s11.trans s12) _ _ e10
 have esh:H12 sh=some (.lst ((eh ws.length (TR ws.length ws fs (.common gl s))).map V.bl)):=by rw [<-qG]; exact e12
 have T12:=T7.same (s711.trans s12)
 have V12:=V7.same (s711.trans s12)
 have s012:=((s05.trans s6).trans s7).trans (s711.trans s12)
 have hSc12:=hSc.same s012
 have l12:=hL _ _ l0 s012
 obtain ⟨rs,er,hr⟩:=id T12.deals
 have hlr:rs.length=ws.length:=Paired.length hr
 obtain ⟨vr,rh,ev1,ev3,ev4,ev5⟩:=iQ T12.views (k:=hd) (by omega)
 have hvw:=hfw _ ev5
 walk_at "rd"
 refine iN 6 (by decide) (by decide) (by decide) (fun i σ H13=>∃ (u13 u14:Option V),σ=[some (.ref a),some (.int (c:Int)),some (.ref q),some (.int ((ss.length:Nat):Int)),some (.ref f),some (.ref vw),some x,some (.int (hd:Int)),some (.ref gp),some (.ref sm),some (.ref fa),some (.ref ow),some (.ref sh),u13,u14]/\bP H12 H13/\L H13) ⟨_,_,rfl,bP.refl _,l12⟩ ?_ ?_
 ·rintro i σ H13 hi ⟨u13,u14,rfl,s13,l13⟩
  have er13:=s13.lst er
  walk_at "rd"
  refine ⟨a,ns,40 + (i:Int),rfl,s13.script hSc12,by omega,by omega,?_⟩
  walk_at "rd"
  rw [List.length_map,hlr]
  obtain ⟨d,hdd,hdl⟩:=qo (z:=cz ns (40 + (i:Int))) (m:=ws.length) hw0
  refine r_I (C:=fun _ j=>0 < j) (by omega) ?_
  rw [hdd]
  walk_at "rd"
  refine aZ (SqL.of (s13.lst ev1)) ev3 ?_
  walk_at "rd"
  refine ⟨rh,fa,fs.getD hd [],eh ws.length (TR ws.length ws fs s),d,rfl,SqL.of (s13.lst ev4),SqL.of (s13.lst efa),by rw [lM,hvw.1.1],by rw [hvw.1.1]; exact hdl,by rw [hvw.1.1]; omega,fun p14 t14 H14 hp14 ht14 s14 ep14 et14=>?_⟩
  have s1214:bP H12 H14:=s13.trans s14.toT
  walk_at "rd"
  refine ⟨t14,p14,fa,ow,fs.getD hd [],d,eh ws.length (TR ws.length ws fs s),eh ws.length (TR ws.length ws fs (.knows hd s)),rfl,ep14,et14,s1214.lst efa,by rw [lM,hvw.1.1],by rw [hvw.1.1]; exact hdl,by rw [hvw.1.1]; omega,s1214.lst eow,yM hvw.1.1 hdl,fun H15 s15=>?_⟩
  have s1215:bP H12 H15:=s1214.trans s15.toT
  have l15:=hL _ _ l13 (s14.trans s15)
  walk_at "rd"
  refine ⟨sm,fa,gl.map fun h=>fs.getD h [],ws.length,d,eh ws.length (TR ws.length ws fs s),rfl,V12.sameT29 s1215,fun v hv=>(gw v hv).1,hdl,by omega,by rw [List.length_map]; omega,s1215.lst efa,lM _ _,l15,fun t16 f16 R H16 s16 l16 nf E an=>?_⟩
  have s1216:bP H12 H16:=s1215.trans s16
  walk_at "rd"
  refine ⟨t16,f16,sm,fa,sh,gl.map fun h=>fs.getD h [],ws.length,d,eh ws.length (TR ws.length ws fs s),eh ws.length (TR ws.length ws fs (.common gl s)),R,rfl,V12.sameT29 s1216,fun v hv=>(gw v hv).1,hdl,by omega,s1216.lst efa,lM _ _,s1216.lst esh,vM (fun v hv=>(gw v hv).1) (fun v hv=>(gw v hv).2) hdl E,E,an,fun H17 s17=>?_⟩
  walk_at "rd"
  exact ⟨_,_,rfl,s1216.trans s17.toT,hL _ _ l16 s17⟩
 ·rintro σ H13 ⟨u13,u14,rfl,s13,l13⟩
  walk_at "rd"
  exact g _
end L2
end
section
namespace L2
open PySem PySem.Spec PyProof.Rows
theorem dG.units64 {k:Nat} {A:Around} (r:dG k A):A.units + 64 < cLine:=by have:=r.un; omega
section
variable {X:Cx}
theorem OpR.weak {f:Value->Value->Sem Value} {r r':R2} (h:OpR X f r) (w:∀ x y H Q,r' x y H Q->r x y H Q):OpR X f r':=fun pins s σ H x y v u Q I rx ry q=>h pins s σ H x y v u Q I rx ry (w x y H Q q)
theorem ee.weak {f:Value} {r r':List V->Hp->VK->Prop} (h:ee X f r) (w:∀ xs H Q,r' xs H Q->r xs H Q):ee X f r':=fun pins s σ H xs us Q I rx q=>h pins s σ H xs us Q I rx (w xs H Q q)
theorem mS:OpR X (binaryOp .Add) on:=x0.weak fun _ _ _ _ ⟨l,b,xs,zs,e1,e2,h1,h2,hz,q⟩=>⟨l,b,xs,zs,e1,e2,h1,h2,hz,q.upd⟩
theorem uR:OpR X (binaryOp .Mult) wR:=BU.weak fun _ _ _ _ ⟨l,k,xs,e1,e2,h1,h2,h3,hz,q⟩=>⟨l,k,xs,e1,e2,h1,h2,h3,hz,q.upd⟩
theorem uS:ee X (.type "tuple") (no X.K):=lQ.weak fun _ _ _ ⟨p,ys,e,h,q⟩=>⟨p,ys,e,.inl ⟨h,q.upd⟩⟩
end
section
variable {X:Cx} {es:List Expr} {t:TA} {pos:Pos}
theorem bx {x1} (h:PA X es t):PE X (.Tuple es x1 pos) (ci t):=by
 intro pins s σ H Q I hq
 refine wpAny_Tuple_spliced (thn (h pos pins s σ H _ I hq) fun us s1 ⟨xs,H1,I1,r,z,q⟩=>⟨by rw [<-r.length]; exact z,?_⟩)
 have hf:H1 s1.heap.objs.size=none:=I1.hok.fresh (Nat.le_refl _)
 refine ⟨.ref s1.heap.objs.size,upd H1 s1.heap.objs.size (.tup xs),I1.laid (t':=s1.toks) (fun b u e=>Heap.get?_push_of_some _ e) (Nat.le_refl _) ?_,rfl,q.upd _ hf⟩
 exact ⟨z,us,r,fA.new _ _⟩
theorem cE (h:PA X es t):PE X (.List es pos) (dY t):=by
 intro pins s σ H Q I hq
 refine wpAny_List_spliced (thn (h pos pins s σ H _ I hq) fun us s1 ⟨xs,H1,I1,r,z,q⟩=>⟨by rw [<-r.length]; exact z,?_⟩)
 have hf:H1 s1.heap.objs.size=none:=I1.hok.fresh (Nat.le_refl _)
 refine ⟨.ref s1.heap.objs.size,upd H1 s1.heap.objs.size (.lst xs),I1.laid (t':=s1.toks) (fun b u e=>Heap.get?_push_of_some _ e) (Nat.le_refl _) ?_,rfl,q.upd _ hf⟩
 exact ⟨z,us,0,r,Heap.get?_push_size _ rfl⟩
end
section
variable {X:Cx} {es:List Expr} {te:TE} {t:TA}
theorem ao {v:Const} {j:Nat} {p:Pos} (ha:PE X (.Constant v j p) te) (hr:PA X es t):PA X (.Constant v j p :: es) (ac te t):=g0 ha hr rfl
theorem ad {x:Str} {p:Pos} (ha:PE X (.Name x p) te) (hr:PA X es t):PA X (.Name x p :: es) (ac te t):=g0 ha hr rfl
theorem aR {a b:Expr} {o:Operator} {p:Pos} (ha:PE X (.BinOp a o b p) te) (hr:PA X es t):PA X (.BinOp a o b p :: es) (ac te t):=g0 ha hr rfl
theorem bF {f:Expr} {as:List Expr} {ks:List Keyword} {p:Pos} (ha:PE X (.Call f as ks p) te) (hr:PA X es t):PA X (.Call f as ks p :: es) (ac te t):=g0 ha hr rfl
theorem bq {as:List Expr} {k:Nat} {p:Pos} (ha:PE X (.Tuple as k p) te) (hr:PA X es t):PA X (.Tuple as k p :: es) (ac te t):=g0 ha hr rfl
theorem bb {a b:Expr} {p:Pos} (ha:PE X (.Subscript a b p) te) (hr:PA X es t):PA X (.Subscript a b p :: es) (ac te t):=g0 ha hr rfl
theorem vN {a:Expr} {os:List CmpOp} {bs:List Expr} {p:Pos} (ha:PE X (.Compare a os bs p) te) (hr:PA X es t):PA X (.Compare a os bs p :: es) (ac te t):=g0 ha hr rfl
theorem fh {e:Expr} (ha:PE X e te) (hr:PA X es t) (hs:starEach (e :: es) X.env=(false,eval e X.env) :: starEach es X.env:=by rfl):PA X (e :: es) (ac te t):=g0 ha hr hs
structure ag (N:List Str) (sc:Scope) (i:Nat) (x:Str):Prop where
 n:N[i]?=some x
 v:Vis sc x
 d:(x == ("__debug__":Str))=false
 c:(x == ("__classdict__":Str))=false
theorem pvQ {N:List Str} {sc:Scope} {i:Nat} {x:Str} {pos:Pos} (h:ag N sc i x) (hN:X.N=N) (hS:X.env.scope=sc):PE X (.Name x pos) (ab i):=by
 subst hN hS
 exact xN h.n h.v h.d h.c
end
end L2
end
section
namespace L2
open PySem PySem.Spec PyProof.Rows PySem.W
noncomputable def iz (P:Addr) (pos:Pos) (qual:Str) (H:Hp):Prop:=
 H P=some (.tbl #[])\/∃ c':Addr,H P=some (.tbl #[rawInt pos.line,rawInt pos.col,.ref c'])/\H c'=some (.ext fun h=>h.CodeRec (.ref c') qual)
theorem iz.same {P:Addr} {pos:Pos} {qual:Str} {H H':Hp} (l:iz P pos qual H) (s:ak H H'):iz P pos qual H':=by
 rcases l with l | ⟨c',l1,l2⟩
 ·exact .inl (s _ _ l)
 ·exact .inr ⟨c',s _ _ l1,s _ _ l2⟩
noncomputable def BM (base:Heap) (mg:Str->Option Value):Prop:=∃ bm ob,mg "__builtins__"=some (.ref bm)/\bm≠builtinsNs/\base.get? bm=some ob/\ob.cls=.type "module"/\ob.dict=some builtinsNs/\ob.data=.plain
section
variable {X:Cx}
theorem BM.at {pins:List (Addr×Obj)} {σ:St} {H:Hp} {s:Shared} {P:Addr} {ps:Array Value} (b:BM X.base X.mg) (I:Inv X pins σ H s) (hP:s.heap.get? P=some (tabObj ps)):s.heap.BuiltinsAt X.mg P:=by
 obtain ⟨bm,ob,b1,b2,b3,b4,b5,b6⟩:=b
 have e:=I.bk _ _ b3
 refine ⟨bm,ob,b1,b2,fun z=>?_,fun z=>?_,e,b4,b5,b6⟩
 ·obtain ⟨o,es,ep,e',hd,_⟩:=I.mod.glob
  rw [z,e'] at b3
  cases b3
  rw [hd] at b6
  cases b6
 ·rw [z,hP] at e
  cases e
  cases b4
theorem CP {pins:List (Addr×Obj)} {σ:St} {H:Hp} {s:Shared} {P c':Addr} {qual:Str} {ps:Array Value} {h':Heap} {tk:Nat} (I:Inv X pins σ H s) (hP:H P=some (.tbl #[])) (hx:Heap.ExtBut P s.heap h') (hge:s.heap.objs.size<=c') (hlt:c' < h'.objs.size) (hrec:h'.CodeRec (.ref c') qual) (htb:h'.get? P=some (tabObj ps)):
  Inv X pins σ (upd (upd H P (.tbl ps)) c' (.ext fun h=>h.CodeRec (.ref c') qual)) { s with heap:=h',toks:=tk }:=by
 have hn:H c'=none:=I.hok.fresh hge
 have nP:∀ b,H b=none->b≠P:=fun b e z=>by rw [z,hP] at e; cases e
 have nc:∀ b ob,s.heap.get? b=some ob->b≠c':=fun b ob e=>Nat.ne_of_lt (Nat.lt_of_lt_of_le (Heap.lt_size e) hge)
 have kp:∀ b ob,b≠P->s.heap.get? b=some ob->h'.get? b=some ob:=fun b ob n e=>hx b ob n e
 have tr:∀ b u,b≠P->H b=some u->(upd (upd H P (.tbl ps)) c' (.ext fun h=>h.CodeRec (.ref c') qual)) b=some u:=fun b u n e=>by rw [aF (aJ e hn),aF n]; exact e
 refine I.un ⟨fun b ob e n _ _=>kp b ob (nP b n) e,fun b ob e n _ _=>⟨ob.slots,kp b ob (nP b n) e⟩,fun b ob e n _=>by rw [aF (nc b ob e),aF (nP b n)]; exact n,fun b ob e _=>?_,fun b xs e=>tr b _ (fun z=>by rw [z,hP] at e; cases e) e,fun b ob u e=>tr b _ (fun z=>by rw [z,hP] at e; cases e) e,fun b qs e=>?_⟩ ?_
 ·by_cases z:b=P
  ·exact ⟨_,by rw [z]; exact htb⟩
  ·exact ⟨ob,kp b ob z e⟩
 ·by_cases z:b=P
  ·subst z
   rw [hP] at e
   cases e
   refine ⟨ps,?_⟩
   rw [aF (aJ hP hn),av]
   simp
  ·exact ⟨#[],by rw [tr b _ z e]; simp⟩
 ·intro b u e
  by_cases zc:b=c'
  ·subst zc
   rw [av] at e
   cases e
   obtain ⟨c2,oc,vs,t,e2,hoc,hd,hv⟩:=id hrec
   cases e2
   refine ⟨⟨_,oc,vs,t,rfl,hoc,hd,hv⟩,⟨oc,hoc⟩,fun h1 h2 x k=>?_⟩
   obtain ⟨c3,o3,vs3,t3,e3,h3,r3⟩:=x
   cases e3
   exact ⟨_,o3,vs3,t3,rfl,k _ h3,r3⟩
  ·rw [aF zc] at e
   by_cases zp:b=P
   ·subst zp
    rw [av] at e
    cases e
    exact htb
   ·rw [aF zp] at e
    refine (I.hok b u e).stay (fun c v hc q=>kp c v (fun z=>?_) q) (fun c q=>tr c _ (fun z=>by rw [z,hP] at q; cases q) q) fun c xs q=>tr c _ (fun z=>by rw [z,hP] at q; cases q) q
    rcases hc with hc | hc
    ·exact zp (hc ▸ z)
    ·rw [z,hP] at hc
     cases hc
theorem uT {pins:List (Addr×Obj)} {σ:St} {H:Hp} {s:Shared} {h':Heap} {m:Str->Option Value} {tk:Nat} (I:Inv X pins σ H s) (F0:Fr X.base X.env.locals s.heap m) (F:Fr X.base X.env.locals h' m) (N:News X.base X.env.locals h' (iK X.base s.heap X.env.locals)):Inv X pins σ H { s with heap:=h',toks:=tk }:=by
 have kp:∀ b o,b≠X.env.locals->s.heap.get? b=some o->h'.get? b=some o:=fun b o n e=>by
  cases q:X.base.get? b with
  | none=>exact (N _ (iX n q e)).1
  | some o'=>
   have:=I.bk _ _ q
   rw [e] at this
   cases this
   exact F.keep _ _ q
 have nL:∀ b u,H b=some u->b≠X.env.locals:=fun b u e z=>by rw [z,I.free] at e; cases e
 refine I.step (g':=s.gens) (d':=s.drawn) (ch:=[]) (fun _ z=>nomatch z) (fun b o n _ _ e _=>kp b o n e) (fun b o n _ _ e _=>⟨o.slots,kp b o n e⟩) (fun _ _ _ _ n=>n) (fun b o _ e=>?_) (fun _ _ e=>e) (fun _ _ _ e=>e) (fun b ps e=>⟨#[],by rw [e]; simp⟩) (fun m' hm=>?_) (fun b u e=>?_) I.bare
 ·by_cases z:b=X.env.locals
  ·obtain ⟨oL,_,_,hL,_⟩:=F.ns
   exact ⟨oL,by rw [z]; exact hL⟩
  ·exact ⟨o,kp b o z e⟩
 ·obtain ⟨o1,es1,ep1,g1,d1,r1⟩:=F0.ns
  obtain ⟨o2,es2,ep2,g2,d2,r2⟩:=hm
  rw [g1] at g2
  cases g2
  rw [d1] at d2
  cases d2
  obtain ⟨o3,es3,ep3,g3,d3,r3⟩:=F.ns
  have em:m'=m:=by
   funext x
   exact (r2.2 x).symm.trans (r1.2 x)
  rw [em]
  exact F.ns
 ·refine (I.hok b u e).stay (fun c v hc q=>kp c v ?_ q) (fun _ q=>q) fun _ _ q=>q
  rcases hc with rfl | hc
  ·exact nL c u e
  ·exact nL c _ hc
theorem yO {P:Program} {w:World} {K:Frag} {H:Hp} {h:Heap} {a:Addr} {xs:List V} (ok:HOk P w H h) (kin:K.In h) (hq:SqL K H a xs):∃ its:List Value,aE xs its/\h.IsList a its.toArray/\xs.length<=sizeLine:=by
 rcases hq with hq | ⟨o,its,n,hk,hc,hd,hs,hz,r⟩
 ·obtain ⟨z,its,n,r,e⟩:=hq.ok ok
  exact ⟨its,r,⟨_,e,rfl,n,rfl⟩,z⟩
 ·exact ⟨its.toList,r,⟨o,kin _ _ hk,hc,n,by rw [hs,Array.toArray_toList]⟩,Nat.le_trans (Nat.le_of_eq (r.length.trans (Array.length_toList ..))) hz⟩
theorem CQ {P:Program} {w:World} {K:Frag} {H:Hp} {h:Heap} {a:Addr} {xs:List V} (ok:HOk P w H h) (kin:K.In h) (hq:SqT K H a xs):∃ its:List Value,aE xs its/\IsTup h a its.toArray/\xs.length<=sizeLine:=by
 rcases hq with hq | ⟨o,its,n,hk,hc,hs,hz,r⟩
 ·obtain ⟨z,its,r,e⟩:=hq.ok ok
  exact ⟨its,r,e.tup,z⟩
 ·exact ⟨its.toList,r,⟨o,kin _ _ hk,hc,n,by rw [hs,Array.toArray_toList]⟩,Nat.le_trans (Nat.le_of_eq (r.length.trans (Array.length_toList ..))) hz⟩
noncomputable def xx (prog:Program) (w:World) (K:Frag) (scope:Scope) (x y:Str) (body:Expr) (bd:TK):Prop:=
 ∀ (A:Around) (s:Shared) (env:Env) (m:Str->Option Value) (c:Addr) (uy:Value) (vy:V) (H:Hp) (n k:Int) (t:Tok),env.scope=scope->s.heap.Ns env.locals m->m x=some (.int n t)->env.cells.lookup y=some c->s.heap.IsCell c (some uy)->aM vy uy->
  HOk prog w H s.heap->K.In s.heap->bd vy H n k->wpAny (model prog w) A (eval body env) (fun v s'=>∃ t' tk,v=.int k t'/\s'={ s with toks:=tk }) (fun _ _=>False) s
section
variable {params:Arguments} {body:Expr} {scope:Scope} {x y:Str} {bd:TK} {lpos:Pos} {P c:Addr}
structure xy (X:Cx) (params:Arguments) (body:Expr) (scope:Scope) (x y:Str) (j:Nat):Prop where
 bind:∀ (nm q:Str) (cl:List (Str×Addr)) (pm cd ct u:Value),bindArgs (kla_fn nm q params body scope cl pm cd ct) ⟨[u],[]⟩=pure [(x,u)]
 dflt:defaultsOf params X.env=([],[])
 hx:scope.names.lookup x=some .local
 hy:scope.names.lookup y=some .free
 nocell:∀ z∈scope.names,z.2≠.cell
 kind:scope.kind=.function
 co:scope.isCoroutine=false
 gen:scope.isGenerator=false
 free:∀ z∈scope.names,z.2=.free->X.env.scope.names.lookup z.1=some .cell\/X.env.scope.names.lookup z.1=some .free
 slot:X.N[j]?=some y
theorem Ab {pins:List (Addr×Obj)} {σ:St} {H:Hp} {s:Shared} {q c':Addr} {qual:Str} {pm ctv:Value} {m:Str->Option Value} {j:Nat} {vy:V} (Lk:xy X params body scope x y j) (B:xx X.prog X.w X.K scope x y body bd) (hd:X.A.depth < recursionLimit) (I:Inv X pins σ H s) (F0:Fr X.base X.env.locals s.heap m)
  (ho:s.heap.get? q=some (kla_obj "<lambda>" qual params body scope (dH X.env scope.names []) pm c' ctv)) (hq0:X.base.get? q=none) (hqL:q≠X.env.locals) (hcd:s.heap.CodeRec (.ref c') qual) (hc0:X.base.get? c'=none) (hcL:c'≠X.env.locals)
  (hvy:σ[j]?=some (some vy)) {n k:Int} {t:Tok} (hb:bd vy H n k) (h:Heap) (tk:Nat) (own:List (Addr×Obj)) (F:Fr X.base X.env.locals h m) (N:News X.base X.env.locals h (iK X.base s.heap X.env.locals++own)):
  wpAny (model X.prog X.w) X.A.in1 (call (.ref q) [.int n t]) (KskEnd X.base X.env.locals m (iK X.base s.heap X.env.locals++own) k { s with heap:=h,toks:=tk }) (fun _ _=>False) { s with heap:=h,toks:=tk }:=by
 have Ih:Inv X pins σ H { s with heap:=h,toks:=tk }:=uT I F0 F fun p hp=>N p (List.mem_append_left _ hp)
 have hoh:h.get? q=some _:=(N _ (List.mem_append_left _ (iX hqL hq0 ho))).1
 have hch:h.CodeRec (.ref c') qual:=by
  obtain ⟨c2,oc,vs,tq,e2,hoc,hd',hv⟩:=hcd
  cases e2
  exact ⟨_,oc,vs,tq,rfl,(N _ (List.mem_append_left _ (iX hcL hc0 hoc))).1,hd',hv⟩
 obtain ⟨cy,hcy⟩:∃ cy,X.env.cells.lookup y=some cy:=I.ok.has y (Lk.free _ (PySem.mem_of_lookup Lk.hy) rfl)
 obtain ⟨mh,hnh,hlh⟩:=Ih.loc
 obtain ⟨uy,ruy,look⟩:=hlh j y vy Lk.slot hvy (by
  rcases Lk.free _ (PySem.mem_of_lookup Lk.hy) rfl with z | z
  ·exact .inr (.inl z)
  ·exact .inr (.inr z))
 have hcell:h.IsCell cy (some uy):=by
  rcases look with ⟨z,_⟩ | ⟨_,c2,e2,z⟩
  ·have z':X.env.scope.names.lookup y=some .local:=z
   rcases Lk.free _ (PySem.mem_of_lookup Lk.hy) rfl with z2 | z2
   ·rw [z'] at z2
    cases z2
   ·rw [z'] at z2
    cases z2
  ·rw [hcy] at e2
   cases e2
   exact z
 refine wpAny_call (kla_callFunE (s:={ s with heap:=h,toks:=tk }) hd hoh rfl Lk.co Lk.gen rfl hch ?_)
 rw [Lk.bind]
 refine wpAny_pure (wpAny_newFunctionEnv Lk.nocell (fun z hz=>by rw [List.mem_singleton.mp hz]; exact Lk.hx) (fun h₁ hns hsb=>?_) Lk.kind)
 have hk₁:∀ b o,h.get? b=some o->h₁.get? b=some o:=fun b o e=>hsb.extBut b o (Nat.ne_of_lt (Heap.lt_size e)) (Heap.get?_push_of_some _ e)
 refine ⟨Ih.nolimit.keeps hk₁,kla_codeExpr (wpAny_mono (B _ { s with heap:=h₁,toks:=tk + 1 } _ _ cy uy vy H n k t rfl hns (by simp) ?_ ?_ ruy (Ih.hok.kept hk₁) (Ih.kIn.keeps hk₁) hb) (fun v s' hv=>?_) fun _ _ z=>z.elim)⟩
 ·exact mz (PySem.mem_of_lookup Lk.hy) hcy
 ·obtain ⟨o,e1,e2⟩:=hcell
  exact ⟨o,hk₁ _ _ e1,e2⟩
 ·obtain ⟨t',tk',rfl,rfl⟩:=hv
  exact ⟨h₁,tk',t',rfl,rfl,F.kept hk₁,N.grown hk₁⟩
noncomputable def CS (X:Cx) (params:Arguments) (body:Expr) (scope:Scope) (qual:Str) (q:Addr) (H:Hp):Prop:=
 ∃ c':Addr,H q=some (.ext fun h=>∃ pm ctv,h.get? q=some (kla_obj "<lambda>" qual params body scope (dH X.env scope.names []) pm c' ctv))/\H c'=some (.ext fun h=>h.CodeRec (.ref c') qual)
noncomputable def DS (X:Cx) (params:Arguments) (body:Expr) (scope:Scope) (P:Addr) (lpos:Pos) (qual:Str):TE:=fun _ H Q=>iz P lpos qual H/\∀ (q:Addr) (H':Hp),bP H H'->iz P lpos qual H'->CS X params body scope qual q H'->Q (.ref q) H'
theorem CT {j:Nat} (Lk:xy X params body scope x y j) (hcode:X.env.code=.ref c) (hC:codeHdIn X.K c P=true) (bm:BM X.base X.mg):PE X (.Lambda params body scope lpos) (DS X params body scope P lpos (X.env.qual++"<lambda>")):=by
 intro pins s σ H Q I ⟨hL,h⟩
 refine kla_eval Lk.dflt ?_
 have hcl:closureFor scope X.env=pure (dH X.env scope.names []):=lw fun z hz hk=>I.ok.has z.1 (Lk.free z hz hk)
 have hgs:=I.mod.glob.keeps I.bk
 have CH:CodeHd s.heap c P:=codeHd_of_K I.kIn hC
 have new:∀ (H2:Hp) (s2:Shared) (pm ctv:Value) (c':Addr),Inv X pins σ H2 s2->bP H H2->iz P lpos (X.env.qual++"<lambda>") H2->H2 c'=some (.ext fun h=>h.CodeRec (.ref c') (X.env.qual++"<lambda>"))->
   EP X pins σ Q (.ref s2.heap.objs.size) { s2 with heap:=s2.heap.push (kla_obj "<lambda>" (X.env.qual++"<lambda>") params body scope (dH X.env scope.names []) pm c' ctv) }:=by
  intro H2 s2 pm ctv c' I2 st L2 hc'
  have hf:H2 s2.heap.objs.size=none:=I2.hok.fresh (Nat.le_refl _)
  have sn:=aP hf (.ext fun h=>∃ pm ctv,h.get? s2.heap.objs.size=some (kla_obj "<lambda>" (X.env.qual++"<lambda>") params body scope (dH X.env scope.names []) pm c' ctv))
  refine ⟨.ref s2.heap.objs.size,_,I2.laid (t':=s2.toks) (fun b u e=>Heap.get?_push_of_some _ e) (Nat.le_refl _) ?_,rfl,h _ _ (st.trans sn.toT) (L2.same sn) ⟨c',av,sn _ _ hc'⟩⟩
  exact ⟨⟨pm,ctv,Heap.get?_push_size _ rfl⟩,⟨_,Heap.get?_push_size _ rfl⟩,fun h1 h2 ⟨pm,ctv,e⟩ k=>⟨pm,ctv,k _ e⟩⟩
 rcases hL with hL | ⟨c0,hL,hc0⟩
 ·have hP:s.heap.get? P=some (tabObj #[]):=I.hok P _ hL
  have hgP:mainGlobals≠P:=fun z=>by
   obtain ⟨o,es,ep,e,hd,_⟩:=hgs
   rw [z,hP] at e
   cases e
   cases hd
  refine kla_makeFunction hcl I.ok.glob hgs hcode CH hP trivial rfl hgP (bm.at I hP) fun c' ctv h' tk hx hge hlt hrec htb=>?_
  have I2:=CP (tk:=tk) I hL hx hge hlt hrec htb
  have hn:H c'=none:=I.hok.fresh hge
  refine new _ _ _ ctv c' I2 (fun b o n e=>?_) (.inr ⟨c',?_,av⟩) av
  ·rw [aF (aJ e hn),aF (fun z=>by rw [z,hL] at e; cases e; exact n _ rfl)]
   exact e
  ·rw [aF (aJ hL hn),av]
   rfl
 ·have hP:s.heap.get? P=some (tabObj #[rawInt lpos.line,rawInt lpos.col,.ref c0]):=I.hok P _ hL
  refine kla_makeFunctionHit (cv:=.ref c0) hcl I.ok.glob hgs hcode CH hP trivial ?_ (bm.at I hP) fun ctv h' tk hk hsz=>?_
  ·show codeAmong lpos [rawInt lpos.line,rawInt lpos.col,.ref c0]=some (.ref c0)
   simp [codeAmong,rawInt]
  ·exact new H _ _ ctv c0 (I.kept (h':=h') (t':=tk) hk) (bP.refl H) (.inr ⟨c0,hL,hc0⟩) hc0
theorem Bp {j:Nat} {el:Expr} {p pos kp:Pos} {t:TA} (hc:X.calm=true) (hm:X.mg "min"=none) (hd:X.A.depth < recursionLimit) (hcode:X.env.code=.ref c) (hC:codeHdIn X.K c P=true) (bm:BM X.base X.mg) (Lk:xy X params body scope x y j) (B:xx X.prog X.w X.K scope x y body bd) (hbk:∀ vy H H' n k,bP H H'->bd vy H n k->bd vy H' n k) (ha:PA X [el] t) (hg:Gl X "min":=by rfl)
  (he:backTo pos (starEach [el] X.env)=(false,eval el X.env) :: backTo pos (starEach [] X.env):=by rfl) (hpl:(backTo pos (starEach [el] X.env)).any (·.1)=false:=by rfl):
  PE X (.Call (.Name "min" p) [el] [⟨some "key",.Lambda params body scope lpos,kp⟩] pos) (xr X.K (iz P lpos (X.env.qual++"<lambda>")) j bd t):=by
 intro pins s σ H Q I h
 refine wpAny_Call_Name_kw (h8 I hg hm boot_min ?_ (by decide) (by decide))
 refine PyProof.Rows.callWith_kw (thn (ha pos pins s σ H _ I h) fun us s1 ⟨vs,H1,I1,r1,q1⟩=>?_) he hpl
 obtain ⟨l,ns,vy,kf,rfl,hq,hne,hvy,hb,hL,q⟩:=q1
 obtain ⟨u,rfl,rx⟩:=r1.one
 cases rx
 refine thn ((AR (CT Lk hcode hC bm) BP) pos pins s1 σ H1 (fun zs H2=>∃ f,zs=[.ref f]/\bP H1 H2/\iz P lpos (X.env.qual++"<lambda>") H2/\CS X params body scope (X.env.qual++"<lambda>") f H2) I1 ⟨hL,fun f H' a b d=>⟨f,rfl,a,b,d⟩⟩) fun ws s2 ⟨zs,H2,I2,rz,f,ez,st,L2,c',hf,hc'⟩=>?_
 subst ez
 obtain ⟨wv,rfl,rw'⟩:=rz.one
 cases rw'
 obtain ⟨its,rv,il,hz⟩:=yO I2.hok I2.kIn (st.seq hq)
 obtain ⟨m,F0⟩:=I2.fr
 obtain ⟨⟨pm,ctv,ho⟩,_,_⟩:=I2.hok f _ hf
 obtain ⟨hcd,_,_⟩:=I2.hok c' _ hc'
 have nb:∀ b u,H2 b=some u->X.base.get? b=none/\b≠X.env.locals:=fun b u e=>by
  refine ⟨?_,fun z=>by rw [z,I2.free] at e; cases e⟩
  cases z:X.base.get? b with
  | none=>rfl
  | some o=>
   rw [(I2.bs b o z).2] at e
   cases e
 have lenV:=rv.length
 have lenV':ns.length=its.length:=by rw [<-lenV,List.length_map]
 have at_:∀ (i:Nat) (v:Value),its[i]?=some v->∃ n t,v=.int n t/\ns[i]?=some n:=fun i v e=>by
  have hi:=(List.getElem?_eq_some_iff.mp e).1
  have hn:(ns.map V.int)[i]?=some (.int (ns[i]'(by omega))):=by rw [List.getElem?_map,List.getElem?_eq_getElem (by omega)]; rfl
  obtain ⟨u,e2,r2⟩:=rv.get hn
  rw [e] at e2
  cases e2
  obtain ⟨t,rfl⟩:=r2
  exact ⟨_,t,rfl,List.getElem?_eq_getElem (by omega)⟩
 refine kmk_min (vs:=its) kf (I2.ok.hd hc) F0 zd (fun h F N=>?_) (by omega) (fun i v hv h tk own F N=>?_) fun i v h' tk' hv best F N=>?_
 ·obtain ⟨o,e1,e2,n,e3⟩:=il
  refine ⟨o,?_,e2,n,e3⟩
  have nL:l≠X.env.locals:=fun z=>by
   obtain ⟨o',es,ep,g1,g2,_⟩:=F0.ns
   rw [z,g1] at e1
   cases e1
   rw [g2] at e3
   cases e3
  cases z:X.base.get? l with
  | none=>exact (N _ (iX nL z e1)).1
  | some o'=>
   have:=I2.bk _ _ z
   rw [e1] at this
   cases this
   exact F.keep _ _ z
 ·obtain ⟨n,t,rfl,hn⟩:=at_ i v hv
  exact Ab Lk B hd I2 F0 ho (nb f _ hf).1 (nb f _ hf).2 hcd (nb c' _ hc').1 (nb c' _ hc').2 hvy (hbk _ _ _ _ _ st (hb i n hn)) h tk own F N
 ·obtain ⟨n,t,rfl,hn⟩:=at_ i v hv
  exact ⟨.int n,H2,uT I2 F0 F N,⟨t,rfl⟩,q i n H2 st L2 hn fun k hk=>best k (by omega)⟩
end
end
theorem Ac {X:Cx} {scope sc:Scope} (h:X.env.scope=sc) (k:∀ z∈scope.names,z.2=.free->sc.names.lookup z.1=some .cell\/sc.names.lookup z.1=some .free):∀ z∈scope.names,z.2=.free->X.env.scope.names.lookup z.1=some .cell\/X.env.scope.names.lookup z.1=some .free:=by
 rw [h]
 exact k
end L2
end
section
namespace L2
open PySem PySem.Spec PyProof.Rows PySem.W
theorem iz.sameN {P:Addr} {pos:Pos} {qual:Str} {H H':Hp} (l:iz P pos qual H) (s:tp H H'):iz P pos qual H':=by
 rcases l with l | ⟨c',l1,l2⟩
 ·exact .inl (s _ _ (fun _ z=>nomatch z) l)
 ·exact .inr ⟨c',s _ _ (fun _ z=>nomatch z) l1,s _ _ (fun _ z=>nomatch z) l2⟩
theorem Ad {prog:Program} {w:World} {K:Frag} {scope:Scope} {x y:Str} {p1 p2 p3 p4 p5:Pos} {j0:Nat} (hk:scope.kind=.function) (hx:scope.names.lookup x=some .local) (hy:scope.names.lookup y=some .free) (dx:(x == ("__debug__":Str))=false:=by decide) (dy:(y == ("__debug__":Str))=false:=by decide) (cy:(y == ("__classdict__":Str))=false:=by decide):
  xx prog w K scope x y (.Subscript (.Subscript (.Name y p1) (.Name x p2) p3) (.Constant (.int 0) j0 p4) p5) (xq K):=by
 intro A s env m c uy vy H n k t hsc hns hm hc hcl rv ok kin h
 obtain ⟨z,ys,tt,ts,rfl,hq,hn,ha,hqt,hat⟩:=h
 cases rv
 obtain ⟨its,r,il,hz⟩:=yO ok kin hq
 obtain ⟨its2,r2,it2,hz2⟩:=CQ ok kin hqt
 have h63:=mt
 have hkf:env.scope.kind=.function:=by rw [hsc]; exact hk
 have k1:env.kindOf y=some .free:=by show env.scope.names.lookup y=_; rw [hsc]; exact hy
 have k2:env.kindOf x=some .local:=by show env.scope.names.lookup x=_; rw [hsc]; exact hx
 obtain ⟨j,h1,h2,h3,h4,h5⟩:=nj ha
 obtain ⟨u,eu,ru⟩:=r.get h2
 cases ru
 have hl:=r.length
 have hj:n.toNat=j:=by
  rw [seqIndex_of hn h5] at h1
  exact Option.some.inj h1
 obtain ⟨j2,g1,g2,g3,g4,g5⟩:=nj hat
 obtain ⟨u2,eu2,ru2⟩:=r2.get g2
 obtain ⟨t',rfl⟩:=ru2
 have hl2:=r2.length
 have hj2:(0:Int).toNat=j2:=by
  rw [seqIndex_of (by decide) g5] at g1
  exact Option.some.inj g1
 refine Subscript_ (Subscript_ (wpAny_Name (wpAny_loadName_free hkf k1 hc hcl (wpAny_Name (wpAny_loadName_local hkf k2 hns hm ?_) dx) cy) dy))
 refine item_listR il hn (by omega) (by rw [hj]; simpa using eu) ?_ rfl
 refine wpAny_Constant_int ?_
 exact subscriptTail_builtinR (x:=.int k t') it2.typeIs slot_tuple_getitem.lookup
  (getItem_tuple (j:=j2) (Q:=fun r s'=>r=.int k t'/\∃ t'' tk,r=.int k t''/\s'={ s with toks:=tk }) it2 (by decide) (by decide) (by rw [List.size_toArray,<-hl2]; exact g1) (by simpa using eu2) ⟨rfl,t',_,rfl,rfl⟩) rfl
theorem yP {K:PySem.W.Frag}:∀ (vy:V) (H H':Hp) (n k:Int),bP H H'->xq K vy H n k->xq K vy H' n k:=fun _ _ _ _ _ st ⟨z,ys,t,ts,e,q,n0,a,qt,at_⟩=>⟨z,ys,t,ts,e,st.seq q,n0,a,by
 rcases qt with (h | ⟨o,h⟩) | h
 ·exact .inl (.inl (st.tup h))
 ·exact .inl (.inr ⟨o,st _ _ (fun _ z=>nomatch z) h⟩)
 ·exact .inr h,at_⟩
end L2
end
section
namespace L2
open PySem PySem.Spec PyProof.Rows PySem.W
theorem Fun.okC {P:Program} {w:World} {K:PySem.W.Frag} {mg:Str->Option Value} {base:Heap} {x qual:Str} {st:Stmt} {f:Addr} {fd:FuncData} {N ps:List Str} {k:Nat} {sp:Sp} (F:Fun K x qual st f fd) (S:aG N ps (aa st)) (len:∀ vs H Q E,sp vs H Q E->vs.length=ps.length)
  (hbody:∀ (cdv:Value) (A:Around) (outer:List Env) (s:Shared) (H:Hp) (vs:List V) (Q:VK) (E:XK),cdv=fd.code->dG k (A.deeper (envOfC qual (aa st) s.heap.objs.size f cdv))->sp vs H Q E->
   ∃ t,PSs (lq CX0 P w K mg base N qual (aa st) f cdv A outer s H E).nox (aD st) t/\t { nx:=fun _ H'=>Q .non H',rt:=Q } (start N vs) H):iL P w K mg base CX0 (k + 1) f fd ps sp:=by
 obtain ⟨oc,od,kV,doc,pm,an,cdv,ct,osl,rfl,lk,hcd⟩:=F.ex
 refine Ay lk hcd S len fun A outer s H vs Q E hr hsp=>?_
 obtain ⟨t,h,q⟩:=hbody cdv A outer s H vs Q E rfl hr hsp
 exact ⟨t,h.nox,q⟩
theorem Def.okC {P:Program} {w:World} {K:PySem.W.Frag} {mg:Str->Option Value} {base:Heap} {x:Str} {st:Stmt} {N ps:List Str} {f:Addr} {fd:FuncData} {k:Nat} {sp:Sp} (D:Def K mg x st ps f fd) (S:aG N ps (aa st)) (len:∀ vs H Q E,sp vs H Q E->vs.length=ps.length)
  (hbody:∀ (cdv:Value) (A:Around) (outer:List Env) (s:Shared) (H:Hp) (vs:List V) (Q:VK) (E:XK),cdv=fd.code->dG k (A.deeper (envOfC x (aa st) s.heap.objs.size f cdv))->sp vs H Q E->
   ∃ t,PSs (lq CX0 P w K mg base N x (aa st) f cdv A outer s H E).nox (aD st) t/\t { nx:=fun _ H'=>Q .non H',rt:=Q } (start N vs) H):FnB P w K mg base (k + 1) x ps sp:=
 ⟨f,fd,D.fn.okC S len hbody,D.m,D.fn.kp,D.b⟩
theorem yQ {Pg:Program} {w:World} {K:PySem.W.Frag} {mg mb:Str->Option Value} {k:Nat} {fa a P c:Addr} {lpos:Pos} {qual:Str} {fd:FuncData} {x:Str} {s₁:Shared} {vs:List Value} {ns:List Int}
  (KX:K.In s₁.heap) (hns:s₁.heap.Ns mainGlobals mg) (hb:s₁.heap.Ns builtinsNs mb) (hbb:∀ x:Str,x≠"__name__"->mb x=bootBuiltins x) (hlim:s₁.heap.NoLimit) (hg:s₁.gens=#[])
  (ha:s₁.heap.get? a=some { cls:=.type "list",data:=.seq vs.toArray }) (hi:IntsAre vs ns) (hl:ns.length<=sizeLine) (hr:dG k callerA) (hPk:K.lookup P=none) (hP:s₁.heap.get? P=some (tabObj #[])) (hC:codeHdIn K c P=true) (hbm:BM s₁.heap mg)
  (F:∀ base:Heap,K.In base->base.Ns mainGlobals mg->BM base mg->iL Pg w K mg base CX0 k fa fd [x] (kK K (iz P lpos qual))) (hbind:∀ (s:Shared) (u:Value),BindsTo s fd ⟨[u],[]⟩ [(x,u)])
  (hsc:ns.length<=63/\∀ n∈ns,Builtin.Int.intBits n<=1048576):
  codeAny (model Pg w) callerA (.call (.ref fa) ⟨[.ref a],[]⟩) (fun r s'=>r=.ok (.ret (.bool true))/\OldK s₁.heap s'.heap/\s'.os=s₁.os/\AllBare s'.gens) s₁:=by
 have rv:=mw hi
 have lenV:=hi.length
 have naP:a≠P:=fun z=>by rw [z,hP] at ha; cases ha
 generalize hH:(fun b=>if b=P then some (HO.tbl #[]) else if b=a/\K.lookup a=none then some (HO.frz { cls:=.type "list",data:=.seq vs.toArray } (.lst (ns.map V.int))) else none:Hp)=H
 have HP:H P=some (.tbl #[]):=by rw [<-hH]; exact if_pos rfl
 have HA:K.lookup a=none->H a=some (.frz { cls:=.type "list",data:=.seq vs.toArray } (.lst (ns.map V.int))):=fun z=>by rw [<-hH]; show (if a=P then _ else _)=_; rw [if_neg naP,if_pos ⟨rfl,z⟩]
 have cs:∀ b,H b=none\/b=P\/(b=a/\K.lookup a=none):=fun b=>by
  by_cases z:b=P
  ·exact .inr (.inl z)
  ·by_cases z2:b=a/\K.lookup a=none
   ·exact .inr (.inr z2)
   ·refine .inl ?_
    rw [<-hH]
    show (if b=P then _ else _)=_
    rw [if_neg z,if_neg z2]
 have hok:HOk Pg w H s₁.heap:=fun b u e=>by
  rcases cs b with z | z | z
  ·rw [z] at e
   cases e
  ·subst z
   rw [HP] at e
   cases e
   exact hP
  ·obtain ⟨rfl,z⟩:=z
   rw [HA z] at e
   cases e
   exact ⟨ha,by rw [List.length_map]; exact hl,vs,_,rv,ha⟩
 have free:∀ {b:Addr} {o:Obj},s₁.heap.get? b=some o->(∀ ps,o.data≠.fields ps)->(∀ xs n,o.data≠.seq xs n)->H b=none:=fun {b o} e n1 n2=>by
  rcases cs b with z | z | z
  ·exact z
  ·rw [z,hP] at e
   cases e
   exact absurd rfl (n1 _)
  ·rw [z.1,ha] at e
   cases e
   exact absurd rfl (n2 _ _)
 have nsK:∀ {b:Addr} {m:Str->Option Value},s₁.heap.Ns b m->(h7 s₁.heap H).Ns b m:=fun {b m} ⟨o,es,ep,e,d,r⟩=>⟨o,es,ep,ll e (free e (fun ps z=>by rw [d] at z; cases z) (fun xs n z=>by rw [d] at z; cases z)),d,r⟩
 have hKb:K.In (h7 s₁.heap H):=fun b o e=>ll (KX b o e) (by
  rcases cs b with z | z | z
  ·exact z
  ·rw [z,hPk] at e
   cases e
  ·rw [z.1,z.2] at e
   cases e)
 have hBb:BM (h7 s₁.heap H) mg:=by
  obtain ⟨bm,ob,b1,b2,b3,b4,b5,b6⟩:=hbm
  exact ⟨bm,ob,b1,b2,ll b3 (free b3 (fun ps z=>by rw [b6] at z; cases z) (fun xs n z=>by rw [b6] at z; cases z)),b4,b5,b6⟩
 have hM:Mod K mg (h7 s₁.heap H):=⟨hKb,nsK hns,⟨mb,nsK hb,hbb⟩,let ⟨mc,h1,h2⟩:=hlim; ⟨mc,nsK h1,h2⟩⟩
 have e0:tR Pg w K mg (h7 s₁.heap H) callerA [] s₁ H:=⟨rfl,hM,fun b o e=>vY e,Nat.le_of_eq (rj _ _),trivial,fun b hb=>absurd (show b∈([]:List Addr) from hb) (by simp),hok,.of_eq hg⟩
 have sq:SqL K H a (ns.map V.int):=by
  cases hk:K.lookup a with
  | some o=>
   have e:=KX a o hk
   rw [ha] at e
   cases e
   exact .inr ⟨_,vs.toArray,_,hk,rfl,rfl,rfl,by rw [List.size_toArray,lenV]; exact hl,by simpa using rv⟩
  | none=>exact .inl (.inr ⟨_,HA hk⟩)
 refine codeAny_mono ((F _ hKb (nsK hns) hBb).run callerA [] s₁ H ⟨[.ref a],[]⟩ [.ref a] [.ref a] (fun v _=>v=.bl true) (fun _ _ _=>False) hr e0 (hbind s₁ (.ref a)) (.cons rfl .nil) ⟨a,ns,rfl,⟨sq,hsc⟩,.inl HP,fun _=>rfl⟩) fun r s' h=>?_
 cases r with
 | error e=>exact False.elim h
 | ok fl=>
  cases fl with
  | next=>exact False.elim h
  | brk=>exact False.elim h
  | cont=>exact False.elim h
  | ret u=>
   obtain ⟨v,H',os,bare,un,hok',r',q⟩:=h
   have q':v=.bl true:=q
   subst q'
   obtain rfl:u=Value.bool true:=r'
   have tbl:∃ more,s'.heap.get? P=some (tabObj (#[]++more)):=by
    obtain ⟨more,e⟩:=un.tbls P #[] HP
    exact ⟨more,hok' P _ e⟩
   have kp:∀ b o,b≠P->s₁.heap.get? b=some o->s'.heap.get? b=some o:=fun b o n e=>by
    rcases cs b with z | z | z
    ·exact un.keep b o e z (by intro z; exact absurd (show b∈([]:List Addr) from z) (by simp)) (by simp)
    ·exact absurd z n
    ·have z2:=un.frzs b _ _ (by rw [z.1]; exact HA z.2)
     obtain ⟨e2,_⟩:=hok' b _ z2
     rw [z.1,ha] at e
     cases e
     exact e2
   refine ⟨rfl,⟨fun b o e=>?_,fun b o e=>?_⟩,os,bare⟩
   ·by_cases z:b=P
    ·subst z
     rw [hP] at e
     cases e
     obtain ⟨more,e2⟩:=tbl
     exact .inr (.inl ⟨((codeHd_of_K KX hC).tab hP).isCodeTable,rfl,#[],more,rfl,e2⟩)
    ·exact .inl (kp b o z e)
   ·by_cases z:b=P
    ·obtain ⟨more,e2⟩:=tbl
     exact ⟨_,by rw [z]; exact e2⟩
    ·exact ⟨o,kp b o z e⟩
theorem Ae {l:PySem.W.OpenLaw} {k:Nat} {q:Program} {loose:List Str} {XP:(Str->Option Value)->Heap->Prop} {YP:World->Heap->Prop} {d:DefRec} {K:Params->PySem.W.Frag} {x:Str} {P c:Addr} {lpos:Pos} {qual:Str}
  (hn:l.most=some 63) (hdf:d.params.defaults=[]) (hr:dG k callerA) (hY:∀ (w:World) (h:Heap),YP w h->(K w.params).In h) (hT:∀ (w:World) (h:Heap),YP w h->h.get? P=some (tabObj #[])) (hPk:∀ w:World,(K w.params).lookup P=none) (hC:∀ w:World,codeHdIn (K w.params) c P=true)
  (F:∀ (w:World) (mg:Str->Option Value) (fa:Addr) (h:Heap),(K w.params).In h->h.Ns mainGlobals mg->mg d.name=some (.ref fa)->
   ∃ fd:FuncData,(∀ (s:Shared) (u:Value),BindsTo s fd ⟨[u],[]⟩ [(x,u)])/\
    ∀ base:Heap,(K w.params).In base->base.Ns mainGlobals mg->BM base mg->iL l.prog w (K w.params) mg base CX0 k fa fd [x] (kK (K w.params) (iz P lpos qual))):
  PySem.W.WalkO q loose XP YP l.row.toRowW d [] (fun f vs=>PySem.call f vs):=by
 intro w s₀ s₁ mg mb G Y fa o pm cd doc dV kV ho hd hcd hD hmg hg args vals as hpre hlay hrd hwl hlo
 obtain rfl:dV=.none:=PySem.W.Dflts.none hD hdf
 obtain rfl:kV=.none:=PySem.W.Dflts.noKw hD
 obtain ⟨a,vs,ns,rfl,rfl,hobj,hints,hlen⟩:=Att.rD hn hpre hwl
 have hbits:=vp hlay
 have KX:=hY w _ Y
 obtain ⟨fd,hb,hF⟩:=F w mg fa _ KX G.T.g hmg
 have c:=yQ KX G.T.g G.T.b G.T.builtins G.T.nolimit hg hobj hints (Nat.le_trans hlen (by decide)) hr (hPk w) (hT w _ Y) (hC w) G.T.bmain hF hb ⟨hlen,hbits⟩
 refine PySem.W.enter_call (codeAny_mono c fun r s' hq=>?_)
 obtain ⟨rfl,h2,h3,h4⟩:=hq
 exact ⟨.inl ⟨.bool true,.bool true,[],rfl,fun _=>rfl,.bool true,Att.rE l _,fun _=>⟨List.Pairwise.nil,fun _ hm=>(nomatch hm)⟩⟩,h2,h3,h4⟩
end L2
end
section
namespace L2
open PySem PySem.Spec PyProof.Rows
theorem CU {X:Cx}:SlR X (zz X.K):=fun pins s σ H x v vl vu lo hi sl Q I rx hs pl pu ⟨a,xs,e,h,n,q⟩=>BR pins s σ H x v vl vu lo hi sl Q I rx hs pl pu ⟨a,xs,e,h,n,q.upd⟩
section
variable {X:Cx} {o i:Expr} {pos:Pos} {td ty:TE} {a:Addr} {kvs:List (Str×V)}
end
end L2
end
section
namespace L2
open PySem PySem.Spec PyProof.Rows
theorem DA.stay {a:Addr} {kvs:List (IA×V)} {h1 h2:Heap} (d:DA a kvs h1) (k:∀ o,h1.get? a=some o->h2.get? a=some o):DA a kvs h2:=by
 obtain ⟨z,y,P,w,vs,r,o,es,ep,e,c⟩:=d
 exact ⟨z,y,P,w,vs,r,o,es,ep,k _ e,c⟩
theorem DB.stay {a:Addr} {zs:List (List IK×Addr×V)} {h1 h2:Heap} (d:DB a zs h1) (k:∀ o,h1.get? a=some o->h2.get? a=some o):DB a zs h2:=by
 obtain ⟨z,y,xs,r,o,es,ep,e,c⟩:=d
 exact ⟨z,y,xs,r,o,es,ep,k _ e,c⟩
theorem DA.ok {P:Program} {w:World} {H:Hp} {h:Heap} {a:Addr} {kvs:List (IA×V)} (d:DA a kvs h):bZ P w H h a (dA a kvs):=by
 obtain ⟨_,_,_,_,_,_,o,_,_,e,_⟩:=id d
 exact ⟨d,⟨o,e⟩,fun _ _ d k=>d.stay k⟩
theorem DB.ok {P:Program} {w:World} {H:Hp} {h:Heap} {a:Addr} {zs:List (List IK×Addr×V)} (d:DB a zs h):bZ P w H h a (dB a zs):=by
 obtain ⟨_,_,_,_,o,_,_,e,_⟩:=id d
 exact ⟨d,⟨o,e⟩,fun _ _ d k=>d.stay k⟩
theorem ZX.length {zs:List (List IK×Addr×V)} {xs:List (List IK×Addr×Value)} (r:ZX zs xs):zs.length=xs.length:=Paired.length r
theorem ZX.val {zs:List (List IK×Addr×V)} {xs:List (List IK×Addr×Value)} (r:ZX zs xs) (k:List IK):jJ (atZ zs k) ((atKey xs k).map (·.2)):=by
 unfold ZX at r
 induction r with
 | nil=>exact True.intro
 | @cons p q ps qs h t ih=>
  obtain ⟨h1,_,h2⟩:=h
  by_cases e:p.1=k
  ·have e':q.1=k:=h1.symm.trans e
   have b:atKey (q :: qs) k=some q.2:=by simp [atKey,List.find?_cons,e']
   have c:atZ (p :: ps) k=some p.2.2:=by simp [atZ,List.find?_cons,e]
   rw [c,b]; exact h2
  ·have e':¬ q.1=k:=fun z=>e (h1.trans z)
   have b:atKey (q :: qs) k=atKey qs k:=by simp [atKey,List.find?_cons,e']
   have c:atZ (p :: ps) k=atZ ps k:=by simp [atZ,List.find?_cons,e]
   rw [c,b]; exact ih
noncomputable def jV (zs:List (List IK×Addr×V)) (k:List IK) (b:Addr) (v:V):List (List IK×Addr×V):=
 if (atZ zs k).isSome then zs.map (fun x=>if x.1=k then (x.1,x.2.1,v) else x) else zs++[(k,b,v)]
theorem ZX.repl {zs:List (List IK×Addr×V)} {xs:List (List IK×Addr×Value)} (r:ZX zs xs) (k:List IK) {v:V} {u:Value} (rv:aM v u):ZX (zs.map fun x=>if x.1=k then (x.1,x.2.1,v) else x) (xs.map (putAt k u)):=by
 unfold ZX at r ⊢
 induction r with
 | nil=>exact .nil
 | @cons p q ps qs h t ih=>
  rw [List.map_cons,List.map_cons]
  refine .cons ?_ ih
  obtain ⟨h1,h2,h3⟩:=h
  unfold putAt
  by_cases e:p.1=k
  ·rw [if_pos e,if_pos (h1.symm.trans e)]; exact ⟨h1,h2,rv⟩
  ·rw [if_neg e,if_neg (fun z=>e (h1.trans z))]; exact ⟨h1,h2,h3⟩
theorem ZX.put {zs:List (List IK×Addr×V)} {xs:List (List IK×Addr×Value)} (r:ZX zs xs) (k:List IK) {b:Addr} {v:V} {u:Value} (rv:aM v u):ZX (jV zs k b v) (storedH xs k b u):=by
 have e:(atZ zs k).isSome=(atKey xs k).isSome:=by
  rw [(r.val k).isSome_eq,Option.isSome_map]
 unfold jV storedH
 rw [e]
 by_cases q:(atKey xs k).isSome=true
 ·rw [if_pos q,if_pos q]; exact r.repl k rv
 ·rw [if_neg q,if_neg q]; exact Paired.snoc r ⟨rfl,rfl,rv⟩
theorem Bq (zs:List (List IK×Addr×V)) (k j:List IK) (b:Addr) (v:V):atZ (jV zs k b v) j=if j=k then some v else atZ zs j:=by
 have hm:∀ ys:List (List IK×Addr×V),atZ (ys.map fun x=>if x.1=k then (x.1,x.2.1,v) else x) j=(atZ ys j).map fun y=>if j=k then v else y:=by
  intro ys
  induction ys with
  | nil=>rfl
  | cons p r ih=>
   rw [List.map_cons]
   unfold atZ at ih ⊢
   by_cases h:p.1=k
   ·rw [if_pos h]
    by_cases e:p.1=j
    ·simp [List.find?_cons,e,e.symm.trans h]
    ·simp [List.find?_cons,e]; simpa using ih
   ·rw [if_neg h]
    by_cases e:p.1=j
    ·have:¬ j=k:=fun z=>h (e.trans z)
     simp [List.find?_cons,e,this]
    ·simp [List.find?_cons,e]; simpa using ih
 have ha:∀ ys:List (List IK×Addr×V),atZ ys k=none->atZ (ys++[(k,b,v)]) j=if j=k then some v else atZ ys j:=by
  intro ys
  induction ys with
  | nil=>
   intro _
   by_cases e:k=j
   ·simp [atZ,List.find?_cons,e]
   ·have:¬ j=k:=fun z=>e z.symm
    simp [atZ,List.find?_cons,e,this]
  | cons p r ih=>
   intro hn
   have hk:¬ p.1=k:=fun z=>by simp [atZ,List.find?_cons,z] at hn
   have hn':atZ r k=none:=by simpa [atZ,List.find?_cons,hk] using hn
   have ih':=ih hn'
   by_cases e:p.1=j
   ·have:¬ j=k:=fun z=>hk (e.trans z)
    simp [atZ,List.find?_cons,e,this]
   ·have c:atZ (p :: (r++[(k,b,v)])) j=atZ (r++[(k,b,v)]) j:=by simp [atZ,List.find?_cons,e]
    have c':atZ (p :: r) j=atZ r j:=by simp [atZ,List.find?_cons,e]
    rw [List.cons_append,c,c',ih']
 unfold jV
 cases q:atZ zs k with
 | some y=>
  rw [if_pos (show (some y).isSome=true from rfl),hm]
  by_cases e:j=k
  ·subst e; rw [q,if_pos rfl]; simp
  ·rw [if_neg e]; cases atZ zs j <;> simp [e]
 | none=>rw [if_neg (show ¬ (none:Option V).isSome=true by decide)]; exact ha zs q
theorem nY (zs:List (List IK×Addr×V)) (k:List IK) (b:Addr) (v:V):(jV zs k b v).length<=zs.length + 1:=by
 unfold jV
 split
 ·rw [List.length_map]; omega
 ·rw [List.length_append,List.length_cons,List.length_nil]; omega
theorem Af {zs:List (List IK×Addr×V)} {k:List IK} {b:Addr} {v:V} {z:List IK×Addr×V} (h:z∈jV zs k b v):(∃ z0∈zs,z.1=z0.1/\z.2.1=z0.2.1)\/(z.1=k/\z.2.1=b):=by
 unfold jV at h
 split at h
 ·obtain ⟨z0,h0,rfl⟩:=List.mem_map.mp h
  refine .inl ⟨z0,h0,?_⟩
  split <;> exact ⟨rfl,rfl⟩
 ·rcases List.mem_append.mp h with h | h
  ·exact .inl ⟨z,h,rfl,rfl⟩
  ·rw [List.mem_singleton.mp h]; exact .inr ⟨rfl,rfl⟩
section
variable {X:Cx} {pins:List (Addr×Obj)} {σ:St} {H:Hp} {s:Shared} {a:Addr} {y v:V} {u r:Value} {A:Around} {E:Value->Shared->Prop} {srt:Bool} {f:MK->Option V} {n:Nat} {k:MK}
theorem pK {k:IA} (h:iaV y=some k) (ry:aM y u):lz k u=true:=by
 cases y with
 | non=>cases h; cases ry; rfl
 | bl b=>cases h; cases ry; simp [lz]
 | int i=>cases h; obtain ⟨t,rfl⟩:=ry; simp [lz]
 | _=>cases h
theorem wu {P:Program} {w:World}:∀ {ks:List IA} {ys:List V} {us:List Value},ys.map iaV=ks.map some->aE ys us->ItemsAre (df P w) ks us
 | [],[],_,_,.nil=>.nil
 | k :: ks,y :: ys,_,e,.cons h t=>by
  rw [List.map_cons,List.map_cons] at e
  injection e with e1 e2
  exact .cons (pK e1 h) (wu e2 t)
 | [],_ :: _,_,e,_=>by simp at e
 | _ :: _,[],_,e,_=>by simp at e
theorem yR (ok:HOk X.prog X.w H s.heap) {c:Addr} {xs:List V} (e:H c=some (.tup xs)):∃ its,aE xs its/\∃ o n,s.heap.get? c=some o/\o.cls=.type "tuple"/\o.data=.seq its.toArray n:=by
 obtain ⟨_,its,r,o,h1,h2,⟨n,h3⟩,_⟩:=(show bZ X.prog X.w H s.heap c (.tup xs) from ok c _ e)
 exact ⟨its,r,o,n,h1,h2,h3⟩
theorem Br (ok:HOk X.prog X.w H s.heap) {k:IK} (h:j8 H y k) (ry:aM y u):dg X.prog X.w s.heap k u:=by
 cases k with
 | inl a=>exact pK h ry
 | inr as=>
  obtain ⟨c,ys,rfl,e,q⟩:=h
  cases ry
  obtain ⟨its,rv,o,n,h1,h2,h3⟩:=yR ok e
  exact ⟨c,rfl,o,its.toArray,n,h1,h2,h3,by simpa using wu q rv⟩
theorem Ag (ok:HOk X.prog X.w H s.heap) {xs:List V} {ks:List IK} {us:List Value} (p:Paired (j8 H) xs ks):aE xs us->Paired (dg X.prog X.w s.heap) ks us:=by
 induction p generalizing us with
 | nil=>intro q; cases q; exact .nil
 | cons h t ih=>intro q; cases q with
  | cons r q=>exact .cons (Br ok h r) (ih q)
theorem tw (ok:HOk X.prog X.w H s.heap) {c:Addr} {ks:List IK} (h:cL H (.ref c) (.inr ks)):gF X.prog X.w s.heap ks c:=by
 obtain ⟨c',xs,e,ec,q⟩:=h
 cases e
 obtain ⟨its,rv,o,n,h1,h2,h3⟩:=yR ok ec
 exact ⟨o,its.toArray,n,h1,h2,h3,by simpa using Ag ok q rv⟩
theorem qH (h:cL H y k) (hs:gn k=true):∃ c ks,y=.ref c/\k=.inr ks:=by
 cases k with
 | inl _=>cases hs
 | inr ks=>obtain ⟨c,xs,e,_⟩:=h; exact ⟨c,ks,e,rfl⟩
theorem yS {P P':Program} {w w':World} {es:List DictEntry} {vs:List (IA×Value)} (h:Pairs (df P w) es vs):Pairs (df P' w') es vs:=by
 induction h with
 | nil=>exact .nil
 | cons a b _ ih=>exact .cons a b ih
theorem tz {kvs:List (IA×V)} (ok:HOk X.prog X.w H s.heap) (e:H a=some (dA a kvs)):kvs.length<=sizeLine/\(a == sysModules)=false/\∃ vs,KV kvs vs/\s.heap.DictOf (df X.prog X.w) a vs:=by
 obtain ⟨⟨z,y,P,w,vs,r,o,es,ep,h1,h2,h3,h4,h5,h6⟩,_⟩:=(show bZ X.prog X.w H s.heap a (dA a kvs) from ok a _ e)
 exact ⟨z,y,vs,r,o,es,ep,h1,h2,h3,h4,yS h5,h6⟩
theorem tD {zs:List (List IK×Addr×V)} (ok:HOk X.prog X.w H s.heap) (e:H a=some (dB a zs)) (hk:∀ z∈zs,cL H (.ref z.2.1) (.inr z.1)):zs.length<=sizeLine/\(a == sysModules)=false/\∃ xs,ZX zs xs/\s.heap.DictOfH (kD X.prog X.w) a xs:=by
 obtain ⟨⟨z,y,xs,r,o,es,ep,h1,h2,h3,h4,h5⟩,_⟩:=(show bZ X.prog X.w H s.heap a (dB a zs) from ok a _ e)
 refine ⟨z,y,xs,r,o,es,ep,h1,h2,h3,h4,?_,h5⟩
 have all:∀ {l:List (List IK×Addr×V)} {m:List (List IK×Addr×Value)},ZX l m->(∀ z∈l,cL H (.ref z.2.1) (.inr z.1))->∀ x∈m,(kD X.prog X.w).is s.heap x.1 x.2.1:=by
  intro l m q
  unfold ZX at q
  induction q with
  | nil=>intro _ x hx; exact nomatch hx
  | @cons p q ps qs hq t ih=>
   intro hk x hx
   rcases List.mem_cons.mp hx with e | hx
   ·subst e
    have:=hk p (List.mem_cons_self ..)
    rw [hq.1,hq.2.1] at this
    exact tw ok this
   ·exact ih (fun z hz=>hk z (List.mem_cons_of_mem _ hz)) x hx
 exact all r hk
theorem Bs {Q:Value->Shared->Prop} (hu:A.units + 2 < cLine) (I:Inv X pins σ H s) (d:Dx H a srt f n) (hk:cL H y k) (hs:gn k=srt) (ry:aM y u) (h:∀ s',Inv X pins σ H s'->Q (.bool (f k).isNone) s'):
  wpAny (model X.prog X.w) A (compareOp .NotIn u (.ref a)) Q E s:=by
 rcases d with ⟨rfl,kvs,e,hf,_⟩ | ⟨rfl,zs,e,hz,hf,_⟩
 ·cases k with
  | inr _=>cases hs
  | inl k=>
   obtain ⟨z,hd,vs,rel,dd⟩:=tz I.hok e
   refine wpAny_notIn_of (knd:=df X.prog X.w) (pK hk ry) hd dd.mapOf ?_
   rw [<-(rel.val k).isSome_eq,hf k]
   rw [show (!(f (.inl k)).isSome)=(f (.inl k)).isNone by cases f (.inl k) <;> rfl]
   exact h _ (I.tok _)
 ·obtain ⟨c,ks,rfl,rfl⟩:=qH hk hs
  cases ry
  obtain ⟨z,hd,xs,rel,dd⟩:=tD I.hok e hz
  refine wpAny_notIn_heap (knd:=kD X.prog X.w) hu (tw I.hok hk) hd dd ?_
  have q:=(rel.val ks).isSome_eq
  rw [Option.isSome_map,hf ks] at q
  rw [<-q,show (!(f (.inr ks)).isSome)=(f (.inr ks)).isNone by cases f (.inr ks) <;> rfl]
  exact h _ (I.tok _)
theorem Du {Q:Value->Shared->Prop} (hu:A.units + 2 < cLine) (I:Inv X pins σ H s) (d:Dx H a srt f n) (hk:cL H y k) (hs:gn k=srt) (ry:aM y u) (ev:f k=some v) (h:∀ w' s',Inv X pins σ H s'->aM v w'->Q w' s'):
  wpAny (model X.prog X.w) A (getItem (.ref a) u) Q E s:=by
 rcases d with ⟨rfl,kvs,e,hf,_⟩ | ⟨rfl,zs,e,hz,hf,_⟩
 ·cases k with
  | inr _=>cases hs
  | inl k=>
   obtain ⟨z,hd,vs,rel,dd⟩:=tz I.hok e
   obtain ⟨w',hw,rw'⟩:=jJ.some_of (v:=v) (o:=valueAt vs k) (by rw [<-ev,<-hf k]; exact rel.val k)
   exact wpAny_getItem_of (knd:=df X.prog X.w) (pK hk ry) dd.mapOf hw (h w' _ (I.tok _) rw')
 ·obtain ⟨c,ks,rfl,rfl⟩:=qH hk hs
  cases ry
  obtain ⟨z,hd,xs,rel,dd⟩:=tD I.hok e hz
  obtain ⟨w',hw,rw'⟩:=jJ.some_of (v:=v) (o:=(atKey xs ks).map (·.2)) (by rw [<-ev,<-hf ks]; exact rel.val ks)
  obtain ⟨p,hp,hp2⟩:=Option.map_eq_some_iff.mp hw
  refine wpAny_getItem_heap (knd:=kD X.prog X.w) hu (tw I.hok hk) dd hp ?_
  rw [hp2]
  exact h w' _ (I.tok _) rw'
theorem oD {o:HO}:Off a H (upd H a o):=fun b hb=>aF hb
theorem CV {h':Heap} {t':Nat} {kvs kvs':List (IA×V)} {vs':List (IA×Value)} (I:Inv X pins σ H s) (e:H a=some (dA a kvs)) (hs:Heap.SameBut a s.heap h') (z:kvs'.length<=sizeLine) (hd:(a == sysModules)=false) (rel:KV kvs' vs') (dd:h'.DictOf (df X.prog X.w) a vs'):
  Inv X pins σ (upd H a (dA a kvs')) { s with heap:=h',toks:=t' }:=by
 have he:∃ q,h'.get? a=some q:=let ⟨q,_,_,hq,_⟩:=dd; ⟨q,hq⟩
 exact wg I (by rw [e]; exact True.intro) hs he (DA.ok ⟨z,hd,X.prog,X.w,vs',rel,dd⟩)
theorem CW {h':Heap} {t':Nat} {zs zs':List (List IK×Addr×V)} {xs':List (List IK×Addr×Value)} (I:Inv X pins σ H s) (e:H a=some (dB a zs)) (hs:Heap.SameBut a s.heap h') (z:zs'.length<=sizeLine) (hd:(a == sysModules)=false) (rel:ZX zs' xs') (dd:h'.DictOfH (kD X.prog X.w) a xs'):
  Inv X pins σ (upd H a (dB a zs')) { s with heap:=h',toks:=t' }:=by
 obtain ⟨o,es,ep,h1,h2,h3,h4,_,h5⟩:=dd
 exact wg I (by rw [e]; exact True.intro) hs ⟨o,h1⟩ (DB.ok ⟨z,hd,xs',rel,o,es,ep,h1,h2,h3,h4,h5⟩)
theorem Bt {kvs:List (IA×V)} {k:IA} (e:H a=some (dA a kvs)) (hf:∀ k,fS kvs k=f (.inl k)) (hn:kvs.length<=n):Dx (upd H a (dA a (mH kvs k v))) a false (lA f (.inl k) v) (n + 1):=by
 refine .inl ⟨rfl,_,av,fun j=>?_,?_⟩
 ·rw [zB]
  unfold lA
  by_cases q:j=k
  ·rw [if_pos q,if_pos (by rw [q])]
  ·rw [if_neg q,if_neg (fun z=>q (Sum.inl.inj z)),hf j]
 ·have:=nQ kvs k v; omega
theorem Bu {zs:List (List IK×Addr×V)} {k:List IK} {c:Addr} (e:H a=some (dB a zs)) (hz:∀ z∈zs,cL H (.ref z.2.1) (.inr z.1)) (hk:cL H (.ref c) (.inr k)) (hf:∀ k,atZ zs k=f (.inr k)) (hn:zs.length<=n):
  Dx (upd H a (dB a (jV zs k c v))) a true (lA f (.inr k) v) (n + 1):=by
 have kp:eY H (upd H a (dB a (jV zs k c v))):=oD.keepD fun xs q=>by rw [e] at q; cases q
 refine .inr ⟨rfl,_,av,fun z h=>?_,fun j=>?_,?_⟩
 ·rcases Af h with ⟨z0,h0,e1,e2⟩ | ⟨e1,e2⟩
  ·rw [e1,e2]; exact (hz z0 h0).keep kp
  ·rw [e1,e2]; exact hk.keep kp
 ·rw [Bq]
  unfold lA
  by_cases q:j=k
  ·rw [if_pos q,if_pos (by rw [q])]
  ·rw [if_neg q,if_neg (fun z=>q (Sum.inr.inj z)),hf j]
 ·have:=nY zs k c v; omega
theorem Dv {Q:Unit->Shared->Prop} (hu:A.units + 2 < cLine) (I:Inv X pins σ H s) (d:Dx H a srt f n) (hk:cL H y k) (hs:gn k=srt) (hn:n < sizeLine) (ry:aM y u) (rv:aM v r)
  (h:∀ H' s',Off a H H'->Dx H' a srt (lA f k v) (n + 1)->Inv X pins σ H' s'->Q () s'):wpAny (model X.prog X.w) A (setItem (.ref a) u r) Q E s:=by
 rcases d with ⟨rfl,kvs,e,hf,hl⟩ | ⟨rfl,zs,e,hz,hf,hl⟩
 ·cases k with
  | inr _=>cases hs
  | inl k=>
   obtain ⟨z,hd,vs,rel,dd⟩:=tz I.hok e
   have hvz:vs.length<=sizeLine:=by rw [<-rel.length]; exact z
   have hl':(mH kvs k v).length<=sizeLine:=by have:=nQ kvs k v; omega
   refine wpAny_setItem_pairs (knd:=df X.prog X.w) (hsz:=hvz) (pK hk ry) dd fun h' dd' hs'=>h _ _ oD (Bt e hf hl) ?_
   exact CV I e hs' hl' hd (rel.put k rv) dd'
 ·obtain ⟨c,ks,rfl,rfl⟩:=qH hk hs
  cases ry
  obtain ⟨z,hd,xs,rel,dd⟩:=tD I.hok e hz
  have hvz:xs.length<=sizeLine:=by rw [<-rel.length]; exact z
  have hl':(jV zs ks c v).length<=sizeLine:=by have:=nY zs ks c v; omega
  refine wpAny_setItem_heap (knd:=kD X.prog X.w) (hsz:=hvz) hu (tw I.hok hk) dd fun h' dd' hs'=>h _ _ oD (Bu (c:=c) e hz hk hf hl) ?_
  exact CW I e hs' hl' hd (rel.put ks rv) dd'
theorem CY (I:Inv X pins σ H s) (d:Dx H a srt f n):s.TypeIs (.ref a) "dict"/\∀ b,Value.ref a=.ref b->∃ ob,s.heap.get? b=some ob/\ob.dict=none:=by
 rcases d with ⟨_,kvs,e,_,_⟩ | ⟨_,zs,e,hz,_,_⟩
 ·obtain ⟨_,_,vs,_,dd⟩:=tz I.hok e
  refine ⟨dd.typeIs,fun b q=>?_⟩
  cases q
  obtain ⟨ob,_,_,h1,h2,_⟩:=dd
  exact ⟨ob,h1,h2.2.1⟩
 ·obtain ⟨_,_,xs,_,dd⟩:=tD I.hok e hz
  refine ⟨dd.typeIs,fun b q=>?_⟩
  cases q
  obtain ⟨ob,_,_,h1,h2,_⟩:=dd
  exact ⟨ob,h1,h2.2.1⟩
end
section
variable {X:Cx}
theorem yT (hu:X.A.units + 64 < cLine):OpR X (compareOp .NotIn) (zF true):=by
 intro pins s σ H x y v u Q I rx ry h
 obtain ⟨a,srt,f,n,k,rfl,d,hk,hs,q⟩:=h
 cases ry
 exact Bs (by omega) I d hk hs rx fun s' I'=>⟨.bl _,H,I',rfl,q⟩
theorem Bv {o i:Expr} {pos:Pos} {td ty:TE} (hu:X.A.units + 64 < cLine) (ho:PE X o td) (hi:PE X i ty) (hs:Cw i):PE X (.Subscript o i pos) (tOp wW td ty):=by
 intro pins s σ H Q I h
 refine Ba PySem.F.slot_dict_getitem.lookup hs (thn (ho pins s σ H _ I h) fun u s1 ⟨x,H1,I1,rx,q1⟩=>thn (hi pins s1 σ H1 _ I1 q1) fun iv s2 ⟨y,H2,I2,ry,a,srt,f,n,k,v,ex,d,hk,hs',ev,q2⟩=>?_)
 subst ex
 obtain rfl:u=Value.ref a:=rx
 exact ⟨(CY I2 d).1,Du (by omega) I2 d hk hs' ry ev fun w' s3 I3 rw'=>⟨v,H2,I3,rw',q2⟩⟩
theorem Dw (hu:X.A.units + 64 < cLine):wE X wX:=by
 intro pins s σ H o i v ov iv u Q I ro ri rv h
 obtain ⟨a,srt,f,n,k,rfl,d,hk,hs,hn,q⟩:=h
 cases ro
 exact Dv (by omega) I d hk hs hn ri rv fun H' s' o' d' I'=>⟨H',I',q H' o' d'⟩
theorem Ah {pos:Pos}:PE X (.Dict [] [] pos) uh:=fun pins s σ H Q I h=>by
 obtain ⟨srt,h⟩:=h
 have hd:(s.heap.objs.size == sysModules)=false:=beq_eq_false_iff_ne.mpr (Ne.symm (Nat.ne_of_lt I.big))
 have hp:=I.hok.fresh (Nat.le_refl s.heap.objs.size)
 cases srt with
 | false=>
  refine wpAny_Dict_empty ⟨.ref s.heap.objs.size,_,I.laid (a:=s.heap.objs.size) (o:=dA s.heap.objs.size []) (t':=s.toks) (fun _ _ q=>Heap.get?_push_of_some _ q) (Nat.le_refl _) (DA.ok ⟨Nat.zero_le _,hd,X.prog,X.w,[],.nil,Heap.DictOf.new s.heap⟩),rfl,?_⟩
  exact h _ _ hp (aP hp _) (.inl ⟨rfl,[],av,fun _=>rfl,Nat.le_refl _⟩)
 | true=>
  refine wpAny_Dict_empty ⟨.ref s.heap.objs.size,_,I.laid (a:=s.heap.objs.size) (o:=dB s.heap.objs.size []) (t':=s.toks) (fun _ _ q=>Heap.get?_push_of_some _ q) (Nat.le_refl _) (DB.ok ⟨Nat.zero_le _,hd,[],.nil,_,#[],0,Heap.get?_push_size _ rfl,⟨rfl,rfl,rfl⟩,rfl,rfl,List.nodup_nil⟩),rfl,?_⟩
  exact h _ _ hp (aP hp _) (.inr ⟨rfl,[],av,fun z hz=>(nomatch hz),fun _=>rfl,Nat.le_refl _⟩)
end
end L2
end
section
namespace L2
open PySem PySem.Spec PyProof.Rows
section
variable {X:Cx}
end
end L2
end
section
namespace L2
open PySem PySem.Spec PyProof.Rows
mutual
inductive Dat (K:PySem.W.Frag) (H:Hp):V->PyData->Prop where
 | non:Dat K H .non .none
 | bl (b:Bool):Dat K H (.bl b) (.bool b)
 | int (i:Int):Dat K H (.int i) (.int i)
 | str (x:Str):Dat K H (.str x) (.str x)
 | lst {a:Addr} {xs:List V} {ds:List PyData} (e:SqL K H a xs) (h:jq K H xs ds):Dat K H (.ref a) (.list ds)
 | tup {a:Addr} {xs:List V} {ds:List PyData} (e:SqT K H a xs) (h:jq K H xs ds):Dat K H (.ref a) (.tuple ds)
inductive jq (K:PySem.W.Frag) (H:Hp):List V->List PyData->Prop where
 | nil:jq K H [] []
 | cons {x:V} {xs:List V} {d:PyData} {ds:List PyData} (h:Dat K H x d) (t:jq K H xs ds):jq K H (x :: xs) (d :: ds)
end
section
variable {X:Cx} {pins:List (Addr×Obj)} {σ:St} {H:Hp} {s:Shared}
mutual
theorem Dat.reads (I:Inv X pins σ H s):∀ {x:V} {d:PyData} {u:Value},Dat X.K H x d->aM x u->∃ as,Reads s.heap u d as
 | _,_,_,.non,r=>by cases r; exact ⟨_,.none⟩
 | _,_,_,.bl b,r=>by cases r; exact ⟨_,.bool b⟩
 | _,_,_,.int i,r=>by obtain ⟨t,rfl⟩:=r; exact ⟨_,.int i t⟩
 | _,_,_,.str x,r=>by obtain ⟨t,rfl⟩:=r; exact ⟨_,.str x t⟩
 | _,_,_,.lst e h,r=>by
  cases r
  obtain ⟨its,rv,⟨o,n,h1,h2,h3,h4⟩,_⟩:=I.list e
  obtain ⟨as,ra⟩:=jq.reads I h rv
  exact ⟨_,.list h1 h2 h4 (by simpa using ra)⟩
 | _,_,_,.tup e h,r=>by
  cases r
  obtain ⟨its,rv,⟨o,h1,h2,n,h3⟩,_⟩:=I.tuple e
  obtain ⟨as,ra⟩:=jq.reads I h rv
  exact ⟨_,.tuple h1 h2 h3 (by simpa using ra)⟩
theorem jq.reads (I:Inv X pins σ H s):∀ {xs:List V} {ds:List PyData} {us:List Value},jq X.K H xs ds->aE xs us->∃ as,ReadsAll s.heap us ds as
 | _,_,_,.nil,.nil=>⟨_,.nil⟩
 | _,_,_,.cons h t,.cons r q=>by
  obtain ⟨as,ra⟩:=Dat.reads I h r
  obtain ⟨bs,rb⟩:=jq.reads I t q
  exact ⟨_,.cons ra rb⟩
end
end
section
variable {X:Cx}
end
end L2
end
section
namespace L2
open PySem PySem.Spec PyProof.Rows
mutual
theorem DT {K:PySem.W.Frag} {H:Hp}:∀ {n:Nat} {x y:V},lE K H n x y->∃ d,Dat K H x d/\Dat K H y d/\d.canLay0=true/\d.depth<=n
 | n,x,_,.flat h=>by
  cases x with
  | non=>exact ⟨_,.non,.non,rfl,Nat.zero_le _⟩
  | bl b=>exact ⟨_,.bl b,.bl b,rfl,Nat.zero_le _⟩
  | int i=>exact ⟨_,.int i,.int i,rfl,Nat.zero_le _⟩
  | _=>cases h
 | _,_,_,.lst (xs:=xs) (ys:=ys) e1 e2 hl h=>by
  obtain ⟨ds,h1,h2,h3,h4⟩:=xz xs ys hl h
  exact ⟨_,.lst e1 h1,.lst e2 h2,h3,Nat.succ_le_succ h4⟩
 | _,_,_,.tup (xs:=xs) (ys:=ys) e1 e2 hl h=>by
  obtain ⟨ds,h1,h2,h3,h4⟩:=xz xs ys hl h
  exact ⟨_,.tup e1 h1,.tup e2 h2,h3,Nat.succ_le_succ h4⟩
theorem xz {K:PySem.W.Frag} {H:Hp} {n:Nat}:∀ (xs ys:List V),xs.length=ys.length->(∀ (i:Nat) (x y:V),xs[i]?=some x->ys[i]?=some y->lE K H n x y)->∃ ds,jq K H xs ds/\jq K H ys ds/\PyData.canLayAll0 ds=true/\PyData.depthAll ds<=n
 | [],[],_,_=>⟨[],.nil,.nil,rfl,Nat.zero_le _⟩
 | x :: xs,y :: ys,hl,h=>by
  obtain ⟨d,a1,a2,a3,a4⟩:=DT (h 0 x y rfl rfl)
  obtain ⟨ds,b1,b2,b3,b4⟩:=xz xs ys (by simpa using hl) (fun i x y hx hy=>h (i + 1) x y hx hy)
  refine ⟨d :: ds,.cons a1 b1,.cons a2 b2,?_,?_⟩
  ·show (d.canLay0 && PyData.canLayAll0 ds)=true
   rw [a3,b3]; rfl
  ·show max d.depth (PyData.depthAll ds)<=n
   omega
 | [],_ :: _,hl,_=>by simp at hl
 | _ :: _,[],hl,_=>by simp at hl
end
section
variable {X:Cx}
theorem yU:OpR X (compareOp .Is) xc:=by
 intro pins s σ H x y v u Q I rx ry h
 obtain ⟨a,b,rfl,rfl,q⟩:=h
 cases rx
 cases ry
 refine wpAny_is_plain rfl ⟨.bl (a == b),H,I,?_,q⟩
 cases a <;> cases b <;> rfl
end
end L2
end
section
namespace L2
open PySem PySem.Spec PyProof.Rows
section
variable {X:Cx}
theorem yV:ee X (.type "range") AJ:=by
 intro pins s σ H xs us Q I r h
 obtain ⟨n,rfl,hn,q⟩:=h
 obtain ⟨u,rfl,rx⟩:=ln r
 obtain ⟨t,rfl⟩:=rx
 exact call_range_1 ⟨.ref s.heap.objs.size,_,I.laid (a:=s.heap.objs.size) (o:=.rng 0 (n:Int)) (t':=s.toks + 1 + 1) (fun _ _ q=>Heap.get?_push_of_some _ q) (Nat.le_refl _) ⟨_,_,_,Heap.get?_push_size _ rfl⟩,rfl,q.upd _ (I.hok.fresh (Nat.le_refl _))⟩
theorem yW {n:Nat} {acc:Array Value} (h:ItemsOf (fun i v=>∃ t,v=.int ((0:Int) + i * 1) t) acc n):aE ((List.range n).map fun (i:Nat)=>V.int ((i:Nat):Int)) acc.toList:=by
 obtain ⟨hl,hi⟩:=h
 have go:∀ (xs:List V) (us:List Value),xs.length=us.length->(∀ (j:Nat) (x:V) (u:Value),xs[j]?=some x->us[j]?=some u->aM x u)->aE xs us:=by
  intro xs
  induction xs with
  | nil=>intro us hl _; cases us with
   | nil=>exact .nil
   | cons _ _=>simp at hl
  | cons x r ih=>intro us hl h; cases us with
   | nil=>simp at hl
   | cons u t=>exact .cons (h 0 x u rfl rfl) (ih t (by simpa using hl) fun j x u hx hu=>h (j + 1) x u hx hu)
 refine go _ _ (by simp [hl]) fun j x u hx hu=>?_
 rw [List.getElem?_map] at hx
 cases e:(List.range n)[j]? with
 | none=>rw [e] at hx; cases hx
 | some z=>
  rw [e] at hx
  cases hx
  obtain ⟨h1,h2⟩:=List.getElem?_eq_some_iff.mp e
  rw [List.getElem_range] at h2
  subst h2
  obtain ⟨t,rfl⟩:=hi j u (by rw [<-Array.getElem?_toList]; exact hu)
  exact ⟨t,by simp⟩
theorem yX (hc:X.calm=true):ee X (.type "list") tm:=by
 intro pins s σ H xs us Q I r h
 obtain ⟨p,n,rfl,e,hn,q⟩:=h
 obtain ⟨u,rfl,rx⟩:=ln r
 cases rx
 obtain ⟨t,u,v,hr⟩:=(show bZ X.prog X.w H s.heap p (.rng 0 (n:Int)) from I.hok p _ e)
 refine call_list_range (n:=n) (show X.A.handled=none from I.ok.hd hc) hr (small_one (by omega) (by omega) (by omega) (by omega)) ?_ (by omega) fun h' tk acc' c' kp e' it=>?_
 ·rw [rangeSize_one]; split <;> omega
 ·exact ⟨.ref s.heap.objs.size,_,I.laid (t':=tk) kp (Nat.le_refl _) (show bZ X.prog X.w _ h' _ (.lst _) from ⟨by rw [List.length_map,List.length_range,sizeLine_eq]; omega,acc'.toList,c',yW it,by simpa using e'⟩),rfl,q.upd _ (I.hok.fresh (Nat.le_refl _))⟩
end
end L2
end
section
namespace L2
open PySem PySem.Spec PyProof.Rows
end L2
end
section
namespace L2
open PySem PySem.Spec PyProof.Rows
section
variable {prog:Program} {w:World} {A:Around} {E:Value->Shared->Prop} {s:Shared}
end
section
variable {prog:Program} {w:World} {A:Around} {s:Shared} {R:Result->Shared->Prop}
end
end L2
end
section
namespace L2
open PySem PySem.Spec PyProof.Rows
section
variable {prog:Program} {w:World} {A:Around} {E:Value->Shared->Prop} {s:Shared}
end
section
variable {X:Cx}
end
end L2
end
section
namespace L2
open PySem PySem.Spec PyProof.Rows
section
variable {X:Cx}
theorem yY:OpR X (compareOp .Is) qy:=by
 intro pins s σ H x y v u Q I rx ry h
 obtain ⟨rfl,q⟩:=h
 cases ry
 refine wpAny_is_plain (by cases x <;> (first | (obtain ⟨t,rfl⟩:=rx; rfl) | (cases rx; rfl))) ⟨.bl (isN x),H,I,?_,q⟩
 cases x <;> (first | (obtain ⟨t,rfl⟩:=rx; rfl) | (cases rx; rfl))
theorem xA:OpR X (compareOp .IsNot) oA:=by
 intro pins s σ H x y v u Q I rx ry h
 obtain ⟨rfl,q⟩:=h
 cases ry
 refine wpAny_isNot_plain (by cases x <;> (first | (obtain ⟨t,rfl⟩:=rx; rfl) | (cases rx; rfl))) ⟨.bl (!isN x),H,I,?_,q⟩
 cases x <;> (first | (obtain ⟨t,rfl⟩:=rx; rfl) | (cases rx; rfl))
end
end L2
end
section
namespace L2
open PySem PySem.Spec PyProof.Rows
section
variable {prog:Program} {w:World} {A:Around} {E:Value->Shared->Prop} {s:Shared}
theorem Ai {r l:Addr} {i:Int} {Q:Bool->Shared->Prop} (hr:s.heap.IsRevIter r l i) (h:Q false s):wpAny (model prog w) A (Builtin.List.listLengthHint (.ref r)) Q E s:=by
 unfold Builtin.List.listLengthHint
 refine wpAny_bind (wpAny_specialOf hr.typeIs (show typeLookup (.type "list_reverseiterator") "__len__"=pure none by rw [typeLookup_type,builtinLookup_eq_fast]; kernel_rfl) ?_)
 show wpAny _ _ (specialOf (Value.ref r) (Str.ofString "__length_hint__") >>= _) _ _ _
 refine wpAny_bind (wpAny_specialOf hr.typeIs (show typeLookup (.type "list_reverseiterator") "__length_hint__"=pure (some (.builtin "list_reverseiterator.__length_hint__")) by rw [typeLookup_type,builtinLookup_eq_fast]; kernel_rfl) ?_)
 generalize hid:("list_reverseiterator.__length_hint__":String)=id0
 wp_delta
 rw [show splitId id0=some ("list_reverseiterator","__length_hint__") from by subst hid; decide +kernel]
 subst hid
 refine wpAny_bind (wpAny_isInstance (b:=true) hr.typeIs (by rw [isSubtype_type]; kernel_rfl) ?_)
 exact wpAny_pure h
theorem xB {r l S:Addr} {items:Array Value} {R:Result->Shared->Prop} (hh:A.handled=none) (hlr:l≠r) (hr:s.heap.IsRevIter r l ((items.size:Int) - 1)) (hl:s.heap.IsList l items) (hn:items.size<=sizeLine) (hSl:S≠l) (hSr:S≠r) {c₀:Nat}
  (hS:s.heap.get? S=some { cls:=.type "list",data:=.seq #[] c₀ })
  (hR:∀ h' tk acc c,(∀ b o,b≠r->b≠S->s.heap.get? b=some o->h'.get? b=some o)->h'.get? S=some { cls:=.type "list",dict:=none,data:=.seq acc c,slots:=#[] }->ItemsOf (fun i v=>items[items.size - 1 - i]?=some v) acc items.size->R (.ok (.ret .none)) { s with heap:=h',toks:=tk }):
  wpAny (model prog w) A.in1 (Builtin.List.listExtendWith (.ref S) (.ref r) .none)
   (fun fin s'=>match fin with | .done f=>R (.ok f) s' | .again c'=>c'.quiet=true/\codeAny (model prog w) A c' R s') (fun e s'=>R (.error e) s') s:=by
 have W:=(Walks.listRev (prog:=prog) (w:=w) (A:=A.in1) hh r l hlr items).toS
 have hSf:S∉[r,l]:=fun hm=>by
  simp only [List.mem_cons,List.not_mem_nil,or_false] at hm
  rcases hm with e | e
  ·exact hSr e
  ·exact hSl e
 unfold Builtin.List.listExtendWith
 refine wpAny_bind (wpAny_typeOf (T:="list_reverseiterator") hr.typeIs ?_)
 have h1:Builtin.List.listSameRef (.ref S) (.ref r)=false:=by simp [Builtin.List.listSameRef,hSr]
 have h2:(Value.type "list_reverseiterator" == Value.type "list")=false:=by decide
 have h3:(Value.type "list_reverseiterator" == Value.type "tuple")=false:=by decide
 simp only [h1,h2,h3,Bool.or_false,Bool.false_eq_true,if_false]
 refine wpAny_bind (wpAny_pyIter_revIter hr ?_)
 refine wpAny_bind (wpAny_holding (Ai hr ?_))
 rw [if_neg (by decide)]
 refine wpAny_pure ⟨plainId_quiet PySem.F.plain_extend_loop _,codeAny_extend_loopS W hn S hSf .none items.size 0 s #[] c₀ (Nat.sub_zero _) (Nat.zero_le _) ⟨Nat.zero_le _,by simpa using hr,hl⟩ hS (ItemsOf.nil _) fun s' acc' c' hm hS' hacc=>?_⟩
 rw [Moved.eq_with hm]
 refine hR s'.heap s'.toks acc' c' (fun b o h1 h2 e=>hm.heap b o (fun hmem=>?_) e) hS' hacc
 simp only [List.mem_cons,List.not_mem_nil,or_false] at hmem
 rcases hmem with e | e
 ·exact h2 e
 ·exact h1 e
theorem Aj {r l:Addr} {items:Array Value} {Q:Value->Shared->Prop} (hh:A.handled=none) (hlr:l≠r) (hr:s.heap.IsRevIter r l ((items.size:Int) - 1)) (hl:s.heap.IsList l items) (hn:items.size<=sizeLine)
  (hQ:∀ h' tk acc c,(∀ b o,b≠r->s.heap.get? b=some o->h'.get? b=some o)->h'.get? s.heap.objs.size=some { cls:=.type "list",dict:=none,data:=.seq acc c,slots:=#[] }->ItemsOf (fun i v=>items[items.size - 1 - i]?=some v) acc items.size->Q (.ref s.heap.objs.size) { s with heap:=h',toks:=tk }):
  wpAny (model prog w) A (call (.type "list") [.ref r]) Q E s:=by
 refine callType_codes (Q₁:=fun obj s₁=>obj=.ref s.heap.objs.size/\s₁={ s with heap:=s.heap.push { cls:=.type "list",data:=.seq #[] } }) PySem.F.called_list (PySem.F.typeCall_list_1 _) PySem.F.entry_list_init
  (code_list_new _ ⟨rfl,rfl⟩) fun obj s₁ h₁=>?_
 obtain ⟨rfl,rfl⟩:=h₁
 have hS:(s.heap.push { cls:=.type "list",data:=.seq #[] }).get? s.heap.objs.size=some { cls:=.type "list",data:=.seq #[] }:=Heap.get?_push_size _ rfl
 refine ⟨⟨_,hS,rfl⟩,PySem.F.args_list_init_2 _ _,?_⟩
 show wpAny _ _ (do let old <-Builtin.List.listItems (.ref s.heap.objs.size); Builtin.List.listUpdate (.ref s.heap.objs.size) (fun _=>#[]); letGo old.toList.reverse; Builtin.List.listExtendWith (.ref s.heap.objs.size) (.ref r) .none) _ _ _
 refine wpAny_bind ?_
 unfold Builtin.List.listItems
 refine wpAny_bind (wpAny_seqItems hS rfl (wpAny_pure ?_))
 show wpAny _ _ (updateSeq s.heap.objs.size (fun _=>#[]) >>= fun _=>letGo (#[]:Array Value).toList.reverse >>= fun _=>Builtin.List.listExtendWith (.ref s.heap.objs.size) (.ref r) .none) _ _ _
 refine wpAny_bind (wpAny_updateSeq hS rfl ?_)
 have hS₂:=Heap.get?_update_self (Obj.mapSeq (fun _=>(#[]:Array Value))) hS rfl
 have oth':∀ b o,s.heap.get? b=some o->((s.heap.push { cls:=.type "list",data:=.seq #[] }).update s.heap.objs.size (Obj.mapSeq (fun _=>(#[]:Array Value)))).get? b=some o:=fun b o e=>(Heap.get?_update_other _ _ (Nat.ne_of_lt (Heap.lt_size e)).symm).trans (Heap.get?_push_of_some _ e)
 obtain ⟨ol,hol,_⟩:=id hl
 obtain ⟨ro,hro,_⟩:=id hr
 refine wpAny_bind (wpAny_letGo ?_)
 refine xB (A:=A.in1) hh hlr (hr.at fun o e=>oth' _ _ e) (hl.at fun o e=>oth' _ _ e) hn (Nat.ne_of_gt (Heap.lt_size hol)) (Nat.ne_of_gt (Heap.lt_size hro)) hS₂ fun h' tk acc c hk hS' hit=>?_
 exact ⟨rfl,hQ h' tk acc c (fun b o hb e=>hk b o hb (Nat.ne_of_lt (Heap.lt_size e)) (oth' b o e)) hS' hit⟩
end
section
variable {X:Cx}
theorem Ak {us:List Value} {xs:List V} {acc:Array Value} (r:aE xs us) (h:ItemsOf (fun i v=>us.toArray[us.toArray.size - 1 - i]?=some v) acc us.toArray.size):aE xs.reverse acc.toList:=by
 obtain ⟨hl,hi⟩:=h
 have go:∀ (xs:List V) (us:List Value),xs.length=us.length->(∀ (j:Nat) (x:V) (u:Value),xs[j]?=some x->us[j]?=some u->aM x u)->aE xs us:=by
  intro xs
  induction xs with
  | nil=>intro us hl _; cases us with
   | nil=>exact .nil
   | cons _ _=>simp at hl
  | cons x r ih=>intro us hl h; cases us with
   | nil=>simp at hl
   | cons u t=>exact .cons (h 0 x u rfl rfl) (ih t (by simpa using hl) fun j x u hx hu=>h (j + 1) x u hx hu)
 have hlen:=r.length
 have hl':acc.toList.length=us.length:=by simpa using hl
 refine go _ _ (by rw [List.length_reverse,hl']; exact hlen) fun j x u hx hu=>?_
 have hj:j < xs.length:=by
  have:=(List.getElem?_eq_some_iff.mp hx).1
  simpa using this
 rw [List.getElem?_reverse hj] at hx
 obtain ⟨u',hu',ru⟩:=r.get hx
 have q:=hi j u (by rw [<-Array.getElem?_toList]; exact hu)
 have q':us[us.length - 1 - j]?=some u:=by simpa using q
 rw [<-hlen] at q'
 rw [hu'] at q'
 cases q'
 exact ru
theorem Bw {a:Expr} {ta:TA} {p pos p2 pos2:Pos} (hc:X.calm=true) (hgl:Gl X "list") (hml:X.mg "list"=none) (hg:Gl X "reversed") (hm:X.mg "reversed"=none) (ha:PA X [a] ta)
  (hs:starEach [a] X.env=[(false,eval a X.env)]:=by rfl)
  (hs3:starEach [.Call (.Name "reversed" p2) [a] [] pos2] X.env=[(false,eval (.Call (.Name "reversed" p2) [a] [] pos2) X.env)]:=by rfl):
  PE X (.Call (.Name "list" p) [.Call (.Name "reversed" p2) [a] [] pos2] [] pos) (xf X.K ta):=by
 intro pins s σ H Q I h
 refine wpAny_Call_Name_kw (h8 I hgl hml boot_list (PyProof.Rows.callWith_type1 ?_ hs3 rfl))
 rw [hs3]
 show wpAny _ _ (spliced [(false,eval (.Call (.Name "reversed" p2) [a] [] pos2) X.env)]) _ _ s
 refine Calls.spliced_cons ?_
 refine Call_ (h8 I hg hm boot_reversed (PyProof.Rows.callWith_type1 (thn (ha pos2 pins s σ H _ I h) fun us s1 ⟨vs,H1,I1,r1,q1⟩=>?_) (by rw [hs]; rfl) rfl))
 obtain ⟨l,xs,e,hq,q⟩:=q1
 subst e
 obtain ⟨u,rfl,ru⟩:=ln r1
 cases ru
 obtain ⟨us1,rv,p1,hsz⟩:=bu.get I1 hq
 have p1':s1.heap.IsList l us1.toArray:=p1
 refine call_reversed_list p1' (Calls.spliced_nil ?_)
 obtain ⟨ol,hol,_⟩:=id p1'
 have llt:=Heap.lt_size hol
 have kp:∀ c o,s1.heap.get? c=some o->(s1.heap.push (revObj l ((us1.toArray.size:Int) - 1))).get? c=some o:=fun c o e=>Heap.get?_push_of_some _ e
 have sz:(s1.heap.push (revObj l ((us1.toArray.size:Int) - 1))).objs.size=s1.heap.objs.size + 1:=Heap.size_push _ _
 refine Aj (s:={ s1 with heap:=s1.heap.push (revObj l ((us1.toArray.size:Int) - 1)) }) (I1.ok.hd hc) (Nat.ne_of_lt llt) ⟨_,Heap.get?_push_size _ rfl,rfl,rfl⟩ (p1'.at fun o e=>kp _ _ e) (by have:=rv.length; simpa [this] using hsz) fun h' tk acc c hk hS' hit=>?_
 have old:∀ b o,s1.heap.get? b=some o->h'.get? b=some o:=fun b o e=>hk b o (Nat.ne_of_lt (Heap.lt_size e)) (kp b o e)
 have hv:=Ak rv hit
 refine ⟨.ref _,_,I1.laid (t':=tk) (a:=s1.heap.objs.size + 1) old (Nat.le_succ _) (show bZ X.prog X.w _ h' _ (.lst xs.reverse) from ⟨by rw [List.length_reverse]; exact hsz,acc.toList,c,hv,?_⟩),by rw [<-sz]; rfl,q.upd _ (I1.hok.fresh (Nat.le_succ _))⟩
 rw [<-sz]
 simpa using hS'
end
end L2
end
section
namespace L2
open PySem PySem.Spec PyProof.Rows
section
variable {prog:Program} {w:World} {A:Around} {R:Result->Shared->Prop} {I:Addr} {fp wr:List Addr} {n:Nat} {P:Nat->Value->Prop} {St:Nat->Heap->Prop} {kw:List (Str×Value)}
end
end L2
end
section
namespace L2
open PySem PySem.Spec PyProof.Rows
section
variable {prog:Program} {w:World} {A:Around} {E:Value->Shared->Prop} {s:Shared}
end
end L2
end
section
namespace L2
open PySem PySem.Spec PyProof.Rows
section
variable {X:Cx}
end
end L2
end
namespace Kc_k29
open PySem L2 PyProof.Rows
noncomputable abbrev LL (Pt:Addr):Hp->Prop:=iz Pt ⟨85,55,85,84⟩ ((("common_why":Str)++(".<locals>.":Str))++("<lambda>":Str))
seal L2.PE L2.PA L2.PS L2.PSs L2.PT L2.PW L2.PI L2.PG L2.PGs L2.PO L2.PTL L2.OpR L2.UnR L2.ee L2.SlR L2.IxR L2.wE
noncomputable def top (i:Nat):Stmt:=PySem.Challenge.pw_knowcards_k29_whole_reasons_and_truths.main.body.getD i (.Pass ⟨0,0,0,0⟩)
noncomputable abbrev dO:Stmt:=top 5
theorem vO:aG ["thing"] ["thing"] (aa dO):=⟨rfl,rfl,rfl,by decide +kernel,rfl,by decide +kernel,by decide +kernel⟩
theorem mT:ag ["thing"] (aa dO) 0 "thing":=⟨rfl,by first | exact Or.inl rfl | exact Or.inr (Or.inl rfl) | exact Or.inr (Or.inr rfl),by decide,by decide⟩
noncomputable abbrev cF:Stmt:=top 6
theorem uU:aG ["thing","least","most"] ["thing","least","most"] (aa cF):=⟨rfl,rfl,rfl,by decide +kernel,rfl,by decide +kernel,by decide +kernel⟩
theorem lT:ag ["thing","least","most"] (aa cF) 0 "thing":=⟨rfl,by first | exact Or.inl rfl | exact Or.inr (Or.inl rfl) | exact Or.inr (Or.inr rfl),by decide,by decide⟩
theorem sx:ag ["thing","least","most"] (aa cF) 1 "least":=⟨rfl,by first | exact Or.inl rfl | exact Or.inr (Or.inl rfl) | exact Or.inr (Or.inr rfl),by decide,by decide⟩
theorem sA:ag ["thing","least","most"] (aa cF) 2 "most":=⟨rfl,by first | exact Or.inl rfl | exact Or.inr (Or.inl rfl) | exact Or.inr (Or.inr rfl),by decide,by decide⟩
noncomputable abbrev dw:Stmt:=top 11
theorem xC:aG ["cards","sizes"] ["cards","sizes"] (aa dw):=⟨rfl,rfl,rfl,by decide +kernel,rfl,by decide +kernel,by decide +kernel⟩
theorem nZ:ag ["cards","sizes"] (aa dw) 0 "cards":=⟨rfl,by first | exact Or.inl rfl | exact Or.inr (Or.inl rfl) | exact Or.inr (Or.inr rfl),by decide,by decide⟩
theorem je:ag ["cards","sizes"] (aa dw) 1 "sizes":=⟨rfl,by first | exact Or.inl rfl | exact Or.inr (Or.inl rfl) | exact Or.inr (Or.inr rfl),by decide,by decide⟩
noncomputable abbrev ck:Stmt:=top 12
theorem fQ:aG ["cards","sizes","many","left","size"] ["cards","sizes"] (aa ck):=⟨rfl,rfl,rfl,by decide +kernel,rfl,by decide +kernel,by decide +kernel⟩
theorem mU:ag ["cards","sizes","many","left","size"] (aa ck) 0 "cards":=⟨rfl,by first | exact Or.inl rfl | exact Or.inr (Or.inl rfl) | exact Or.inr (Or.inr rfl),by decide,by decide⟩
theorem mV:ag ["cards","sizes","many","left","size"] (aa ck) 1 "sizes":=⟨rfl,by first | exact Or.inl rfl | exact Or.inr (Or.inl rfl) | exact Or.inr (Or.inr rfl),by decide,by decide⟩
theorem mW:ag ["cards","sizes","many","left","size"] (aa ck) 2 "many":=⟨rfl,by first | exact Or.inl rfl | exact Or.inr (Or.inl rfl) | exact Or.inr (Or.inr rfl),by decide,by decide⟩
theorem mX:ag ["cards","sizes","many","left","size"] (aa ck) 3 "left":=⟨rfl,by first | exact Or.inl rfl | exact Or.inr (Or.inl rfl) | exact Or.inr (Or.inr rfl),by decide,by decide⟩
theorem mY:ag ["cards","sizes","many","left","size"] (aa ck) 4 "size":=⟨rfl,by first | exact Or.inl rfl | exact Or.inr (Or.inl rfl) | exact Or.inr (Or.inr rfl),by decide,by decide⟩
noncomputable abbrev da:Stmt:=top 13
theorem jD:aG ["many","taken","ways","step"] ["many","taken"] (aa da):=⟨rfl,rfl,rfl,by decide +kernel,rfl,by decide +kernel,by decide +kernel⟩
theorem vP:ag ["many","taken","ways","step"] (aa da) 0 "many":=⟨rfl,by first | exact Or.inl rfl | exact Or.inr (Or.inl rfl) | exact Or.inr (Or.inr rfl),by decide,by decide⟩
theorem vQ:ag ["many","taken","ways","step"] (aa da) 1 "taken":=⟨rfl,by first | exact Or.inl rfl | exact Or.inr (Or.inl rfl) | exact Or.inr (Or.inr rfl),by decide,by decide⟩
theorem n4:ag ["many","taken","ways","step"] (aa da) 2 "ways":=⟨rfl,by first | exact Or.inl rfl | exact Or.inr (Or.inl rfl) | exact Or.inr (Or.inr rfl),by decide,by decide⟩
theorem n6:ag ["many","taken","ways","step"] (aa da) 3 "step":=⟨rfl,by first | exact Or.inl rfl | exact Or.inr (Or.inl rfl) | exact Or.inr (Or.inr rfl),by decide,by decide⟩
noncomputable abbrev cI:Stmt:=top 14
theorem gJ:aG ["cards","sizes","room","begun","card"] ["cards","sizes"] (aa cI):=⟨rfl,rfl,rfl,by decide +kernel,rfl,by decide +kernel,by decide +kernel⟩
theorem jW:ag ["cards","sizes","room","begun","card"] (aa cI) 0 "cards":=⟨rfl,by first | exact Or.inl rfl | exact Or.inr (Or.inl rfl) | exact Or.inr (Or.inr rfl),by decide,by decide⟩
theorem jX:ag ["cards","sizes","room","begun","card"] (aa cI) 1 "sizes":=⟨rfl,by first | exact Or.inl rfl | exact Or.inr (Or.inl rfl) | exact Or.inr (Or.inr rfl),by decide,by decide⟩
theorem uV:ag ["cards","sizes","room","begun","card"] (aa cI) 2 "room":=⟨rfl,by first | exact Or.inl rfl | exact Or.inr (Or.inl rfl) | exact Or.inr (Or.inr rfl),by decide,by decide⟩
theorem mZ:ag ["cards","sizes","room","begun","card"] (aa cI) 3 "begun":=⟨rfl,by first | exact Or.inl rfl | exact Or.inr (Or.inl rfl) | exact Or.inr (Or.inr rfl),by decide,by decide⟩
noncomputable abbrev be:Stmt:=top 15
theorem d6:aG ["begun","room","longer","deal","who","most"] ["begun","room"] (aa be):=⟨rfl,rfl,rfl,by decide +kernel,rfl,by decide +kernel,by decide +kernel⟩
theorem nJ:ag ["begun","room","longer","deal","who","most"] (aa be) 0 "begun":=⟨rfl,by first | exact Or.inl rfl | exact Or.inr (Or.inl rfl) | exact Or.inr (Or.inr rfl),by decide,by decide⟩
theorem nK:ag ["begun","room","longer","deal","who","most"] (aa be) 1 "room":=⟨rfl,by first | exact Or.inl rfl | exact Or.inr (Or.inl rfl) | exact Or.inr (Or.inr rfl),by decide,by decide⟩
theorem jv:ag ["begun","room","longer","deal","who","most"] (aa be) 2 "longer":=⟨rfl,by first | exact Or.inl rfl | exact Or.inr (Or.inl rfl) | exact Or.inr (Or.inr rfl),by decide,by decide⟩
theorem jw:ag ["begun","room","longer","deal","who","most"] (aa be) 3 "deal":=⟨rfl,by first | exact Or.inl rfl | exact Or.inr (Or.inl rfl) | exact Or.inr (Or.inr rfl),by decide,by decide⟩
theorem jx:ag ["begun","room","longer","deal","who","most"] (aa be) 4 "who":=⟨rfl,by first | exact Or.inl rfl | exact Or.inr (Or.inl rfl) | exact Or.inr (Or.inr rfl),by decide,by decide⟩
theorem nN:ag ["begun","room","longer","deal","who","most"] (aa be) 5 "most":=⟨rfl,by first | exact Or.inl rfl | exact Or.inr (Or.inl rfl) | exact Or.inr (Or.inr rfl),by decide,by decide⟩
noncomputable abbrev dq:Stmt:=top 16
theorem vR:aG ["deal","who"] ["deal","who"] (aa dq):=⟨rfl,rfl,rfl,by decide +kernel,rfl,by decide +kernel,by decide +kernel⟩
theorem uW:ag ["deal","who"] (aa dq) 0 "deal":=⟨rfl,by first | exact Or.inl rfl | exact Or.inr (Or.inl rfl) | exact Or.inr (Or.inr rfl),by decide,by decide⟩
noncomputable abbrev b9:Stmt:=top 18
theorem sB:aG ["view","one","other"] ["view","one","other"] (aa b9):=⟨rfl,rfl,rfl,by decide +kernel,rfl,by decide +kernel,by decide +kernel⟩
theorem kM:ag ["view","one","other"] (aa b9) 0 "view":=⟨rfl,by first | exact Or.inl rfl | exact Or.inr (Or.inl rfl) | exact Or.inr (Or.inr rfl),by decide,by decide⟩
theorem qI:ag ["view","one","other"] (aa b9) 1 "one":=⟨rfl,by first | exact Or.inl rfl | exact Or.inr (Or.inl rfl) | exact Or.inr (Or.inr rfl),by decide,by decide⟩
theorem qJ:ag ["view","one","other"] (aa b9) 2 "other":=⟨rfl,by first | exact Or.inl rfl | exact Or.inr (Or.inl rfl) | exact Or.inr (Or.inr rfl),by decide,by decide⟩
noncomputable abbrev cM:Stmt:=top 19
theorem jl:aG ["many","views","points","view","thing","least"] ["many","views"] (aa cM):=⟨rfl,rfl,rfl,by decide +kernel,rfl,by decide +kernel,by decide +kernel⟩
theorem pL:ag ["many","views","points","view","thing","least"] (aa cM) 0 "many":=⟨rfl,by first | exact Or.inl rfl | exact Or.inr (Or.inl rfl) | exact Or.inr (Or.inr rfl),by decide,by decide⟩
theorem xD:ag ["many","views","points","view","thing","least"] (aa cM) 1 "views":=⟨rfl,by first | exact Or.inl rfl | exact Or.inr (Or.inl rfl) | exact Or.inr (Or.inr rfl),by decide,by decide⟩
theorem xE:ag ["many","views","points","view","thing","least"] (aa cM) 2 "points":=⟨rfl,by first | exact Or.inl rfl | exact Or.inr (Or.inl rfl) | exact Or.inr (Or.inr rfl),by decide,by decide⟩
theorem xF:ag ["many","views","points","view","thing","least"] (aa cM) 3 "view":=⟨rfl,by first | exact Or.inl rfl | exact Or.inr (Or.inl rfl) | exact Or.inr (Or.inr rfl),by decide,by decide⟩
theorem xG:ag ["many","views","points","view","thing","least"] (aa cM) 4 "thing":=⟨rfl,by first | exact Or.inl rfl | exact Or.inr (Or.inl rfl) | exact Or.inr (Or.inr rfl),by decide,by decide⟩
theorem xH:ag ["many","views","points","view","thing","least"] (aa cM) 5 "least":=⟨rfl,by first | exact Or.inl rfl | exact Or.inr (Or.inl rfl) | exact Or.inr (Or.inr rfl),by decide,by decide⟩
noncomputable abbrev fi:Stmt:=top 20
theorem qK:aG ["points","one","other","first","second"] ["points","one","other"] (aa fi):=⟨rfl,rfl,rfl,by decide +kernel,rfl,by decide +kernel,by decide +kernel⟩
theorem oE:ag ["points","one","other","first","second"] (aa fi) 0 "points":=⟨rfl,by first | exact Or.inl rfl | exact Or.inr (Or.inl rfl) | exact Or.inr (Or.inr rfl),by decide,by decide⟩
theorem Al:ag ["points","one","other","first","second"] (aa fi) 1 "one":=⟨rfl,by first | exact Or.inl rfl | exact Or.inr (Or.inl rfl) | exact Or.inr (Or.inr rfl),by decide,by decide⟩
theorem Am:ag ["points","one","other","first","second"] (aa fi) 2 "other":=⟨rfl,by first | exact Or.inl rfl | exact Or.inr (Or.inl rfl) | exact Or.inr (Or.inr rfl),by decide,by decide⟩
theorem uX:ag ["points","one","other","first","second"] (aa fi) 3 "first":=⟨rfl,by first | exact Or.inl rfl | exact Or.inr (Or.inl rfl) | exact Or.inr (Or.inr rfl),by decide,by decide⟩
theorem uY:ag ["points","one","other","first","second"] (aa fi) 4 "second":=⟨rfl,by first | exact Or.inl rfl | exact Or.inr (Or.inl rfl) | exact Or.inr (Or.inr rfl),by decide,by decide⟩
noncomputable abbrev d7:Stmt:=top 21
theorem m6:aG ["points","thing","end"] ["points","thing"] (aa d7):=⟨rfl,rfl,rfl,by decide +kernel,rfl,by decide +kernel,by decide +kernel⟩
theorem iA:ag ["points","thing","end"] (aa d7) 0 "points":=⟨rfl,by first | exact Or.inl rfl | exact Or.inr (Or.inl rfl) | exact Or.inr (Or.inr rfl),by decide,by decide⟩
theorem xI:ag ["points","thing","end"] (aa d7) 1 "thing":=⟨rfl,by first | exact Or.inl rfl | exact Or.inr (Or.inl rfl) | exact Or.inr (Or.inr rfl),by decide,by decide⟩
theorem gD:ag ["points","thing","end"] (aa d7) 2 "end":=⟨rfl,by first | exact Or.inl rfl | exact Or.inr (Or.inl rfl) | exact Or.inr (Or.inr rfl),by decide,by decide⟩
noncomputable abbrev bW:Stmt:=top 23
theorem jY:aG ["view","truths","deal","alike","wrong"] ["view","truths","deal"] (aa bW):=⟨rfl,rfl,rfl,by decide +kernel,rfl,by decide +kernel,by decide +kernel⟩
theorem sC:ag ["view","truths","deal","alike","wrong"] (aa bW) 0 "view":=⟨rfl,by first | exact Or.inl rfl | exact Or.inr (Or.inl rfl) | exact Or.inr (Or.inr rfl),by decide,by decide⟩
theorem lU:ag ["view","truths","deal","alike","wrong"] (aa bW) 3 "alike":=⟨rfl,by first | exact Or.inl rfl | exact Or.inr (Or.inl rfl) | exact Or.inr (Or.inr rfl),by decide,by decide⟩
theorem lV:ag ["view","truths","deal","alike","wrong"] (aa bW) 4 "wrong":=⟨rfl,by first | exact Or.inl rfl | exact Or.inr (Or.inl rfl) | exact Or.inr (Or.inr rfl),by decide,by decide⟩
noncomputable abbrev bj:Stmt:=top 24
theorem gS:aG ["views","truths","deal","roads","reached","wrong"] ["views","truths","deal"] (aa bj):=⟨rfl,rfl,rfl,by decide +kernel,rfl,by decide +kernel,by decide +kernel⟩
theorem qL:ag ["views","truths","deal","roads","reached","wrong"] (aa bj) 0 "views":=⟨rfl,by first | exact Or.inl rfl | exact Or.inr (Or.inl rfl) | exact Or.inr (Or.inr rfl),by decide,by decide⟩
theorem qM:ag ["views","truths","deal","roads","reached","wrong"] (aa bj) 1 "truths":=⟨rfl,by first | exact Or.inl rfl | exact Or.inr (Or.inl rfl) | exact Or.inr (Or.inr rfl),by decide,by decide⟩
theorem qN:ag ["views","truths","deal","roads","reached","wrong"] (aa bj) 2 "deal":=⟨rfl,by first | exact Or.inl rfl | exact Or.inr (Or.inl rfl) | exact Or.inr (Or.inr rfl),by decide,by decide⟩
theorem kN:ag ["views","truths","deal","roads","reached","wrong"] (aa bj) 3 "roads":=⟨rfl,by first | exact Or.inl rfl | exact Or.inr (Or.inl rfl) | exact Or.inr (Or.inr rfl),by decide,by decide⟩
theorem kO:ag ["views","truths","deal","roads","reached","wrong"] (aa bj) 4 "reached":=⟨rfl,by first | exact Or.inl rfl | exact Or.inr (Or.inl rfl) | exact Or.inr (Or.inr rfl),by decide,by decide⟩
theorem kP:ag ["views","truths","deal","roads","reached","wrong"] (aa bj) 5 "wrong":=⟨rfl,by first | exact Or.inl rfl | exact Or.inr (Or.inl rfl) | exact Or.inr (Or.inr rfl),by decide,by decide⟩
noncomputable abbrev bz:Stmt:=top 25
theorem fC:aG ["many","views","deal","groups","roads","newest"] ["many","views","deal"] (aa bz):=⟨rfl,rfl,rfl,by decide +kernel,rfl,by decide +kernel,by decide +kernel⟩
theorem qO:ag ["many","views","deal","groups","roads","newest"] (aa bz) 0 "many":=⟨rfl,by first | exact Or.inl rfl | exact Or.inr (Or.inl rfl) | exact Or.inr (Or.inr rfl),by decide,by decide⟩
theorem kQ:ag ["many","views","deal","groups","roads","newest"] (aa bz) 1 "views":=⟨rfl,by first | exact Or.inl rfl | exact Or.inr (Or.inl rfl) | exact Or.inr (Or.inr rfl),by decide,by decide⟩
theorem kR:ag ["many","views","deal","groups","roads","newest"] (aa bz) 2 "deal":=⟨rfl,by first | exact Or.inl rfl | exact Or.inr (Or.inl rfl) | exact Or.inr (Or.inr rfl),by decide,by decide⟩
theorem qP:ag ["many","views","deal","groups","roads","newest"] (aa bz) 3 "groups":=⟨rfl,by first | exact Or.inl rfl | exact Or.inr (Or.inl rfl) | exact Or.inr (Or.inr rfl),by decide,by decide⟩
theorem iT:ag ["many","views","deal","groups","roads","newest"] (aa bz) 4 "roads":=⟨rfl,by first | exact Or.inl rfl | exact Or.inr (Or.inl rfl) | exact Or.inr (Or.inr rfl),by decide,by decide⟩
theorem kS:ag ["many","views","deal","groups","roads","newest"] (aa bz) 5 "newest":=⟨rfl,by first | exact Or.inl rfl | exact Or.inr (Or.inl rfl) | exact Or.inr (Or.inr rfl),by decide,by decide⟩
noncomputable abbrev bX:Stmt:=top 26
theorem iB:aG ["view","groups","thing","least"] ["view"] (aa bX):=⟨rfl,rfl,rfl,by decide +kernel,rfl,by decide +kernel,by decide +kernel⟩
theorem lW:ag ["view","groups","thing","least"] (aa bX) 0 "view":=⟨rfl,by first | exact Or.inl rfl | exact Or.inr (Or.inl rfl) | exact Or.inr (Or.inr rfl),by decide,by decide⟩
theorem lX:ag ["view","groups","thing","least"] (aa bX) 1 "groups":=⟨rfl,by first | exact Or.inl rfl | exact Or.inr (Or.inl rfl) | exact Or.inr (Or.inr rfl),by decide,by decide⟩
theorem sD:ag ["view","groups","thing","least"] (aa bX) 2 "thing":=⟨rfl,by first | exact Or.inl rfl | exact Or.inr (Or.inl rfl) | exact Or.inr (Or.inr rfl),by decide,by decide⟩
theorem sE:ag ["view","groups","thing","least"] (aa bX) 3 "least":=⟨rfl,by first | exact Or.inl rfl | exact Or.inr (Or.inl rfl) | exact Or.inr (Or.inr rfl),by decide,by decide⟩
noncomputable abbrev bc:Stmt:=top 27
theorem dW:aG ["views","groups","roads","newest","further","thing","k","view","other"] ["views","groups","roads","newest"] (aa bc):=⟨rfl,rfl,rfl,by decide +kernel,rfl,by decide +kernel,by decide +kernel⟩
theorem pM:ag ["views","groups","roads","newest","further","thing","k","view","other"] (aa bc) 0 "views":=⟨rfl,by first | exact Or.inl rfl | exact Or.inr (Or.inl rfl) | exact Or.inr (Or.inr rfl),by decide,by decide⟩
theorem kh:ag ["views","groups","roads","newest","further","thing","k","view","other"] (aa bc) 1 "groups":=⟨rfl,by first | exact Or.inl rfl | exact Or.inr (Or.inl rfl) | exact Or.inr (Or.inr rfl),by decide,by decide⟩
theorem iC:ag ["views","groups","roads","newest","further","thing","k","view","other"] (aa bc) 2 "roads":=⟨rfl,by first | exact Or.inl rfl | exact Or.inr (Or.inl rfl) | exact Or.inr (Or.inr rfl),by decide,by decide⟩
theorem pN:ag ["views","groups","roads","newest","further","thing","k","view","other"] (aa bc) 3 "newest":=⟨rfl,by first | exact Or.inl rfl | exact Or.inr (Or.inl rfl) | exact Or.inr (Or.inr rfl),by decide,by decide⟩
theorem ki:ag ["views","groups","roads","newest","further","thing","k","view","other"] (aa bc) 4 "further":=⟨rfl,by first | exact Or.inl rfl | exact Or.inr (Or.inl rfl) | exact Or.inr (Or.inr rfl),by decide,by decide⟩
theorem fT:ag ["views","groups","roads","newest","further","thing","k","view","other"] (aa bc) 5 "thing":=⟨rfl,by first | exact Or.inl rfl | exact Or.inr (Or.inl rfl) | exact Or.inr (Or.inr rfl),by decide,by decide⟩
theorem iD:ag ["views","groups","roads","newest","further","thing","k","view","other"] (aa bc) 6 "k":=⟨rfl,by first | exact Or.inl rfl | exact Or.inr (Or.inl rfl) | exact Or.inr (Or.inr rfl),by decide,by decide⟩
theorem kj:ag ["views","groups","roads","newest","further","thing","k","view","other"] (aa bc) 7 "view":=⟨rfl,by first | exact Or.inl rfl | exact Or.inr (Or.inl rfl) | exact Or.inr (Or.inr rfl),by decide,by decide⟩
theorem iE:ag ["views","groups","roads","newest","further","thing","k","view","other"] (aa bc) 8 "other":=⟨rfl,by first | exact Or.inl rfl | exact Or.inr (Or.inl rfl) | exact Or.inr (Or.inr rfl),by decide,by decide⟩
noncomputable abbrev cJ:Stmt:=top 28
theorem jf:aG ["roads","goal","steps","thing"] ["roads","goal"] (aa cJ):=⟨rfl,rfl,rfl,by decide +kernel,rfl,by decide +kernel,by decide +kernel⟩
theorem jZ:ag ["roads","goal","steps","thing"] (aa cJ) 0 "roads":=⟨rfl,by first | exact Or.inl rfl | exact Or.inr (Or.inl rfl) | exact Or.inr (Or.inr rfl),by decide,by decide⟩
theorem uZ:ag ["roads","goal","steps","thing"] (aa cJ) 1 "goal":=⟨rfl,by first | exact Or.inl rfl | exact Or.inr (Or.inl rfl) | exact Or.inr (Or.inr rfl),by decide,by decide⟩
theorem m7:ag ["roads","goal","steps","thing"] (aa cJ) 2 "steps":=⟨rfl,by first | exact Or.inl rfl | exact Or.inr (Or.inl rfl) | exact Or.inr (Or.inr rfl),by decide,by decide⟩
theorem iF:ag ["roads","goal","steps","thing"] (aa cJ) 3 "thing":=⟨rfl,by first | exact Or.inl rfl | exact Or.inr (Or.inl rfl) | exact Or.inr (Or.inr rfl),by decide,by decide⟩
noncomputable abbrev bo:Stmt:=top 30
theorem gd:aG ["deals","views","S","word","inner","some"] ["deals","views","S"] (aa bo):=⟨rfl,rfl,rfl,by decide +kernel,rfl,by decide +kernel,by decide +kernel⟩
theorem cK:ag ["deals","views","S","word","inner","some"] (aa bo) 0 "deals":=⟨rfl,by first | exact Or.inl rfl | exact Or.inr (Or.inl rfl) | exact Or.inr (Or.inr rfl),by decide,by decide⟩
theorem db:ag ["deals","views","S","word","inner","some"] (aa bo) 1 "views":=⟨rfl,by first | exact Or.inl rfl | exact Or.inr (Or.inl rfl) | exact Or.inr (Or.inr rfl),by decide,by decide⟩
theorem ce:ag ["deals","views","S","word","inner","some"] (aa bo) 2 "S":=⟨rfl,by first | exact Or.inl rfl | exact Or.inr (Or.inl rfl) | exact Or.inr (Or.inr rfl),by decide,by decide⟩
theorem dJ:ag ["deals","views","S","word","inner","some"] (aa bo) 3 "word":=⟨rfl,by first | exact Or.inl rfl | exact Or.inr (Or.inl rfl) | exact Or.inr (Or.inr rfl),by decide,by decide⟩
theorem jr:ag ["deals","views","S","word","inner","some"] (aa bo) 4 "inner":=⟨rfl,by first | exact Or.inl rfl | exact Or.inr (Or.inl rfl) | exact Or.inr (Or.inr rfl),by decide,by decide⟩
theorem lY:ag ["deals","views","S","word","inner","some"] (aa bo) 5 "some":=⟨rfl,by first | exact Or.inl rfl | exact Or.inr (Or.inl rfl) | exact Or.inr (Or.inr rfl),by decide,by decide⟩
noncomputable abbrev ge:Stmt:=top 31
theorem Bx:aG ["ones","others"] ["ones","others"] (aa ge):=⟨rfl,rfl,rfl,by decide +kernel,rfl,by decide +kernel,by decide +kernel⟩
theorem An:ag ["ones","others"] (aa ge) 0 "ones":=⟨rfl,by first | exact Or.inl rfl | exact Or.inr (Or.inl rfl) | exact Or.inr (Or.inr rfl),by decide,by decide⟩
theorem Ao:ag ["ones","others"] (aa ge) 1 "others":=⟨rfl,by first | exact Or.inl rfl | exact Or.inr (Or.inl rfl) | exact Or.inr (Or.inr rfl),by decide,by decide⟩
noncomputable abbrev d8:Stmt:=top 32
theorem yZ:aG ["ones","others"] ["ones","others"] (aa d8):=⟨rfl,rfl,rfl,by decide +kernel,rfl,by decide +kernel,by decide +kernel⟩
theorem xJ:ag ["ones","others"] (aa d8) 0 "ones":=⟨rfl,by first | exact Or.inl rfl | exact Or.inr (Or.inl rfl) | exact Or.inr (Or.inr rfl),by decide,by decide⟩
theorem xK:ag ["ones","others"] (aa d8) 1 "others":=⟨rfl,by first | exact Or.inl rfl | exact Or.inr (Or.inl rfl) | exact Or.inr (Or.inr rfl),by decide,by decide⟩
noncomputable abbrev dE:Stmt:=top 33
theorem lN:aG ["view","truths","sure","least","truth"] ["view","truths"] (aa dE):=⟨rfl,rfl,rfl,by decide +kernel,rfl,by decide +kernel,by decide +kernel⟩
theorem nh:ag ["view","truths","sure","least","truth"] (aa dE) 0 "view":=⟨rfl,by first | exact Or.inl rfl | exact Or.inr (Or.inl rfl) | exact Or.inr (Or.inr rfl),by decide,by decide⟩
theorem y0:ag ["view","truths","sure","least","truth"] (aa dE) 1 "truths":=⟨rfl,by first | exact Or.inl rfl | exact Or.inr (Or.inl rfl) | exact Or.inr (Or.inr rfl),by decide,by decide⟩
theorem y6:ag ["view","truths","sure","least","truth"] (aa dE) 2 "sure":=⟨rfl,by first | exact Or.inl rfl | exact Or.inr (Or.inl rfl) | exact Or.inr (Or.inr rfl),by decide,by decide⟩
theorem y7:ag ["view","truths","sure","least","truth"] (aa dE) 3 "least":=⟨rfl,by first | exact Or.inl rfl | exact Or.inr (Or.inl rfl) | exact Or.inr (Or.inr rfl),by decide,by decide⟩
theorem y8:ag ["view","truths","sure","least","truth"] (aa dE) 4 "truth":=⟨rfl,by first | exact Or.inl rfl | exact Or.inr (Or.inl rfl) | exact Or.inr (Or.inr rfl),by decide,by decide⟩
noncomputable abbrev bH:Stmt:=top 34
theorem fU:aG ["views","truths","answers","view"] ["views","truths"] (aa bH):=⟨rfl,rfl,rfl,by decide +kernel,rfl,by decide +kernel,by decide +kernel⟩
theorem oF:ag ["views","truths","answers","view"] (aa bH) 0 "views":=⟨rfl,by first | exact Or.inl rfl | exact Or.inr (Or.inl rfl) | exact Or.inr (Or.inr rfl),by decide,by decide⟩
theorem j3:ag ["views","truths","answers","view"] (aa bH) 1 "truths":=⟨rfl,by first | exact Or.inl rfl | exact Or.inr (Or.inl rfl) | exact Or.inr (Or.inr rfl),by decide,by decide⟩
theorem j4:ag ["views","truths","answers","view"] (aa bH) 2 "answers":=⟨rfl,by first | exact Or.inl rfl | exact Or.inr (Or.inl rfl) | exact Or.inr (Or.inr rfl),by decide,by decide⟩
theorem oG:ag ["views","truths","answers","view"] (aa bH) 3 "view":=⟨rfl,by first | exact Or.inl rfl | exact Or.inr (Or.inl rfl) | exact Or.inr (Or.inr rfl),by decide,by decide⟩
noncomputable abbrev gf:Stmt:=top 35
theorem By:aG ["piles","view"] ["piles","view"] (aa gf):=⟨rfl,rfl,rfl,by decide +kernel,rfl,by decide +kernel,by decide +kernel⟩
theorem Ap:ag ["piles","view"] (aa gf) 0 "piles":=⟨rfl,by first | exact Or.inl rfl | exact Or.inr (Or.inl rfl) | exact Or.inr (Or.inr rfl),by decide,by decide⟩
theorem u9:ag ["piles","view"] (aa gf) 1 "view":=⟨rfl,by first | exact Or.inl rfl | exact Or.inr (Or.inl rfl) | exact Or.inr (Or.inr rfl),by decide,by decide⟩
noncomputable abbrev ca:Stmt:=top 37
theorem js:aG ["_law_base","_law_k","_law_number"] ["_law_base","_law_k"] (aa ca):=⟨rfl,rfl,rfl,by decide +kernel,rfl,by decide +kernel,by decide +kernel⟩
theorem qQ:ag ["_law_base","_law_k","_law_number"] (aa ca) 0 "_law_base":=⟨rfl,by first | exact Or.inl rfl | exact Or.inr (Or.inl rfl) | exact Or.inr (Or.inr rfl),by decide,by decide⟩
theorem kT:ag ["_law_base","_law_k","_law_number"] (aa ca) 1 "_law_k":=⟨rfl,by first | exact Or.inl rfl | exact Or.inr (Or.inl rfl) | exact Or.inr (Or.inr rfl),by decide,by decide⟩
theorem iU:ag ["_law_base","_law_k","_law_number"] (aa ca) 2 "_law_number":=⟨rfl,by first | exact Or.inl rfl | exact Or.inr (Or.inl rfl) | exact Or.inr (Or.inr rfl),by decide,by decide⟩
noncomputable abbrev cG:Stmt:=top 38
theorem iG:aG ["_law_script","_law_k","_law_number"] ["_law_script","_law_k"] (aa cG):=⟨rfl,rfl,rfl,by decide +kernel,rfl,by decide +kernel,by decide +kernel⟩
theorem fD:ag ["_law_script","_law_k","_law_number"] (aa cG) 0 "_law_script":=⟨rfl,by first | exact Or.inl rfl | exact Or.inr (Or.inl rfl) | exact Or.inr (Or.inr rfl),by decide,by decide⟩
theorem eG:ag ["_law_script","_law_k","_law_number"] (aa cG) 1 "_law_k":=⟨rfl,by first | exact Or.inl rfl | exact Or.inr (Or.inl rfl) | exact Or.inr (Or.inr rfl),by decide,by decide⟩
theorem gT:ag ["_law_script","_law_k","_law_number"] (aa cG) 2 "_law_number":=⟨rfl,by first | exact Or.inl rfl | exact Or.inr (Or.inl rfl) | exact Or.inr (Or.inr rfl),by decide,by decide⟩
noncomputable abbrev bM:Stmt:=top 39
theorem fV:aG ["_law_many","_law_found","_law_k"] ["_law_many"] (aa bM):=⟨rfl,rfl,rfl,by decide +kernel,rfl,by decide +kernel,by decide +kernel⟩
theorem oH:ag ["_law_many","_law_found","_law_k"] (aa bM) 0 "_law_many":=⟨rfl,by first | exact Or.inl rfl | exact Or.inr (Or.inl rfl) | exact Or.inr (Or.inr rfl),by decide,by decide⟩
theorem j5:ag ["_law_many","_law_found","_law_k"] (aa bM) 1 "_law_found":=⟨rfl,by first | exact Or.inl rfl | exact Or.inr (Or.inl rfl) | exact Or.inr (Or.inr rfl),by decide,by decide⟩
theorem oI:ag ["_law_many","_law_found","_law_k"] (aa bM) 2 "_law_k":=⟨rfl,by first | exact Or.inl rfl | exact Or.inr (Or.inl rfl) | exact Or.inr (Or.inr rfl),by decide,by decide⟩
noncomputable abbrev bT:Stmt:=top 40
theorem gU:aG ["_law_cards","_law_sizes","_law_found","_law_many"] ["_law_cards","_law_sizes"] (aa bT):=⟨rfl,rfl,rfl,by decide +kernel,rfl,by decide +kernel,by decide +kernel⟩
theorem kU:ag ["_law_cards","_law_sizes","_law_found","_law_many"] (aa bT) 0 "_law_cards":=⟨rfl,by first | exact Or.inl rfl | exact Or.inr (Or.inl rfl) | exact Or.inr (Or.inr rfl),by decide,by decide⟩
theorem kW:ag ["_law_cards","_law_sizes","_law_found","_law_many"] (aa bT) 1 "_law_sizes":=⟨rfl,by first | exact Or.inl rfl | exact Or.inr (Or.inl rfl) | exact Or.inr (Or.inr rfl),by decide,by decide⟩
theorem kX:ag ["_law_cards","_law_sizes","_law_found","_law_many"] (aa bT) 2 "_law_found":=⟨rfl,by first | exact Or.inl rfl | exact Or.inr (Or.inl rfl) | exact Or.inr (Or.inr rfl),by decide,by decide⟩
theorem qR:ag ["_law_cards","_law_sizes","_law_found","_law_many"] (aa bT) 3 "_law_many":=⟨rfl,by first | exact Or.inl rfl | exact Or.inr (Or.inl rfl) | exact Or.inr (Or.inr rfl),by decide,by decide⟩
noncomputable abbrev bQ:Stmt:=top 41
theorem fj:aG ["_law_script","_law_at","_law_most","_law_cards","_law_sizes","_law_k"] ["_law_script","_law_at","_law_most"] (aa bQ):=⟨rfl,rfl,rfl,by decide +kernel,rfl,by decide +kernel,by decide +kernel⟩
theorem fE:ag ["_law_script","_law_at","_law_most","_law_cards","_law_sizes","_law_k"] (aa bQ) 0 "_law_script":=⟨rfl,by first | exact Or.inl rfl | exact Or.inr (Or.inl rfl) | exact Or.inr (Or.inr rfl),by decide,by decide⟩
theorem fF:ag ["_law_script","_law_at","_law_most","_law_cards","_law_sizes","_law_k"] (aa bQ) 1 "_law_at":=⟨rfl,by first | exact Or.inl rfl | exact Or.inr (Or.inl rfl) | exact Or.inr (Or.inr rfl),by decide,by decide⟩
theorem sF:ag ["_law_script","_law_at","_law_most","_law_cards","_law_sizes","_law_k"] (aa bQ) 2 "_law_most":=⟨rfl,by first | exact Or.inl rfl | exact Or.inr (Or.inl rfl) | exact Or.inr (Or.inr rfl),by decide,by decide⟩
theorem fG:ag ["_law_script","_law_at","_law_most","_law_cards","_law_sizes","_law_k"] (aa bQ) 3 "_law_cards":=⟨rfl,by first | exact Or.inl rfl | exact Or.inr (Or.inl rfl) | exact Or.inr (Or.inr rfl),by decide,by decide⟩
theorem cf:ag ["_law_script","_law_at","_law_most","_law_cards","_law_sizes","_law_k"] (aa bQ) 4 "_law_sizes":=⟨rfl,by first | exact Or.inl rfl | exact Or.inr (Or.inl rfl) | exact Or.inr (Or.inr rfl),by decide,by decide⟩
theorem sG:ag ["_law_script","_law_at","_law_most","_law_cards","_law_sizes","_law_k"] (aa bQ) 5 "_law_k":=⟨rfl,by first | exact Or.inl rfl | exact Or.inr (Or.inl rfl) | exact Or.inr (Or.inr rfl),by decide,by decide⟩
noncomputable abbrev bN:Stmt:=top 42
theorem fH:aG ["_law_signs","_law_first","_law_found","_law_place","_law_sign"] ["_law_signs"] (aa bN):=⟨rfl,rfl,rfl,by decide +kernel,rfl,by decide +kernel,by decide +kernel⟩
theorem qS:ag ["_law_signs","_law_first","_law_found","_law_place","_law_sign"] (aa bN) 0 "_law_signs":=⟨rfl,by first | exact Or.inl rfl | exact Or.inr (Or.inl rfl) | exact Or.inr (Or.inr rfl),by decide,by decide⟩
theorem iV:ag ["_law_signs","_law_first","_law_found","_law_place","_law_sign"] (aa bN) 1 "_law_first":=⟨rfl,by first | exact Or.inl rfl | exact Or.inr (Or.inl rfl) | exact Or.inr (Or.inr rfl),by decide,by decide⟩
theorem kY:ag ["_law_signs","_law_first","_law_found","_law_place","_law_sign"] (aa bN) 2 "_law_found":=⟨rfl,by first | exact Or.inl rfl | exact Or.inr (Or.inl rfl) | exact Or.inr (Or.inr rfl),by decide,by decide⟩
theorem qT:ag ["_law_signs","_law_first","_law_found","_law_place","_law_sign"] (aa bN) 3 "_law_place":=⟨rfl,by first | exact Or.inl rfl | exact Or.inr (Or.inl rfl) | exact Or.inr (Or.inr rfl),by decide,by decide⟩
theorem iW:ag ["_law_signs","_law_first","_law_found","_law_place","_law_sign"] (aa bN) 4 "_law_sign":=⟨rfl,by first | exact Or.inl rfl | exact Or.inr (Or.inl rfl) | exact Or.inr (Or.inr rfl),by decide,by decide⟩
noncomputable abbrev aN:Stmt:=top 44
theorem cg:aG ["_law_script","_law_at","_law_deals","_law_hands","_law_views_here","_law_hand","_law_way","_law_base","_law_signs","_law_place","_law_deal","_law_number","_law_own"] ["_law_script","_law_at","_law_deals","_law_hands"] (aa aN):=⟨rfl,rfl,rfl,by decide +kernel,rfl,by decide +kernel,by decide +kernel⟩
theorem kZ:ag ["_law_script","_law_at","_law_deals","_law_hands","_law_views_here","_law_hand","_law_way","_law_base","_law_signs","_law_place","_law_deal","_law_number","_law_own"] (aa aN) 0 "_law_script":=⟨rfl,by first | exact Or.inl rfl | exact Or.inr (Or.inl rfl) | exact Or.inr (Or.inr rfl),by decide,by decide⟩
theorem lc:ag ["_law_script","_law_at","_law_deals","_law_hands","_law_views_here","_law_hand","_law_way","_law_base","_law_signs","_law_place","_law_deal","_law_number","_law_own"] (aa aN) 1 "_law_at":=⟨rfl,by first | exact Or.inl rfl | exact Or.inr (Or.inl rfl) | exact Or.inr (Or.inr rfl),by decide,by decide⟩
theorem qU:ag ["_law_script","_law_at","_law_deals","_law_hands","_law_views_here","_law_hand","_law_way","_law_base","_law_signs","_law_place","_law_deal","_law_number","_law_own"] (aa aN) 2 "_law_deals":=⟨rfl,by first | exact Or.inl rfl | exact Or.inr (Or.inl rfl) | exact Or.inr (Or.inr rfl),by decide,by decide⟩
theorem qV:ag ["_law_script","_law_at","_law_deals","_law_hands","_law_views_here","_law_hand","_law_way","_law_base","_law_signs","_law_place","_law_deal","_law_number","_law_own"] (aa aN) 3 "_law_hands":=⟨rfl,by first | exact Or.inl rfl | exact Or.inr (Or.inl rfl) | exact Or.inr (Or.inr rfl),by decide,by decide⟩
theorem ld:ag ["_law_script","_law_at","_law_deals","_law_hands","_law_views_here","_law_hand","_law_way","_law_base","_law_signs","_law_place","_law_deal","_law_number","_law_own"] (aa aN) 4 "_law_views_here":=⟨rfl,by first | exact Or.inl rfl | exact Or.inr (Or.inl rfl) | exact Or.inr (Or.inr rfl),by decide,by decide⟩
theorem lf:ag ["_law_script","_law_at","_law_deals","_law_hands","_law_views_here","_law_hand","_law_way","_law_base","_law_signs","_law_place","_law_deal","_law_number","_law_own"] (aa aN) 5 "_law_hand":=⟨rfl,by first | exact Or.inl rfl | exact Or.inr (Or.inl rfl) | exact Or.inr (Or.inr rfl),by decide,by decide⟩
theorem qW:ag ["_law_script","_law_at","_law_deals","_law_hands","_law_views_here","_law_hand","_law_way","_law_base","_law_signs","_law_place","_law_deal","_law_number","_law_own"] (aa aN) 6 "_law_way":=⟨rfl,by first | exact Or.inl rfl | exact Or.inr (Or.inl rfl) | exact Or.inr (Or.inr rfl),by decide,by decide⟩
theorem lg:ag ["_law_script","_law_at","_law_deals","_law_hands","_law_views_here","_law_hand","_law_way","_law_base","_law_signs","_law_place","_law_deal","_law_number","_law_own"] (aa aN) 7 "_law_base":=⟨rfl,by first | exact Or.inl rfl | exact Or.inr (Or.inl rfl) | exact Or.inr (Or.inr rfl),by decide,by decide⟩
theorem lh:ag ["_law_script","_law_at","_law_deals","_law_hands","_law_views_here","_law_hand","_law_way","_law_base","_law_signs","_law_place","_law_deal","_law_number","_law_own"] (aa aN) 8 "_law_signs":=⟨rfl,by first | exact Or.inl rfl | exact Or.inr (Or.inl rfl) | exact Or.inr (Or.inr rfl),by decide,by decide⟩
theorem qX:ag ["_law_script","_law_at","_law_deals","_law_hands","_law_views_here","_law_hand","_law_way","_law_base","_law_signs","_law_place","_law_deal","_law_number","_law_own"] (aa aN) 9 "_law_place":=⟨rfl,by first | exact Or.inl rfl | exact Or.inr (Or.inl rfl) | exact Or.inr (Or.inr rfl),by decide,by decide⟩
theorem pO:ag ["_law_script","_law_at","_law_deals","_law_hands","_law_views_here","_law_hand","_law_way","_law_base","_law_signs","_law_place","_law_deal","_law_number","_law_own"] (aa aN) 10 "_law_deal":=⟨rfl,by first | exact Or.inl rfl | exact Or.inr (Or.inl rfl) | exact Or.inr (Or.inr rfl),by decide,by decide⟩
theorem kl:ag ["_law_script","_law_at","_law_deals","_law_hands","_law_views_here","_law_hand","_law_way","_law_base","_law_signs","_law_place","_law_deal","_law_number","_law_own"] (aa aN) 11 "_law_number":=⟨rfl,by first | exact Or.inl rfl | exact Or.inr (Or.inl rfl) | exact Or.inr (Or.inr rfl),by decide,by decide⟩
theorem km:ag ["_law_script","_law_at","_law_deals","_law_hands","_law_views_here","_law_hand","_law_way","_law_base","_law_signs","_law_place","_law_deal","_law_number","_law_own"] (aa aN) 12 "_law_own":=⟨rfl,by first | exact Or.inl rfl | exact Or.inr (Or.inl rfl) | exact Or.inr (Or.inr rfl),by decide,by decide⟩
noncomputable abbrev cb:Stmt:=top 45
theorem fI:aG ["_law_saying_here","_law_found","_law_part"] ["_law_saying_here"] (aa cb):=⟨rfl,rfl,rfl,by decide +kernel,rfl,by decide +kernel,by decide +kernel⟩
theorem qY:ag ["_law_saying_here","_law_found","_law_part"] (aa cb) 0 "_law_saying_here":=⟨rfl,by first | exact Or.inl rfl | exact Or.inr (Or.inl rfl) | exact Or.inr (Or.inr rfl),by decide,by decide⟩
theorem li:ag ["_law_saying_here","_law_found","_law_part"] (aa cb) 1 "_law_found":=⟨rfl,by first | exact Or.inl rfl | exact Or.inr (Or.inl rfl) | exact Or.inr (Or.inr rfl),by decide,by decide⟩
theorem gE:ag ["_law_saying_here","_law_found","_law_part"] (aa cb) 2 "_law_part":=⟨rfl,by first | exact Or.inl rfl | exact Or.inr (Or.inl rfl) | exact Or.inr (Or.inr rfl),by decide,by decide⟩
noncomputable abbrev cH:Stmt:=top 46
theorem sH:aG ["_law_number","_law_hands"] ["_law_number","_law_hands"] (aa cH):=⟨rfl,rfl,rfl,by decide +kernel,rfl,by decide +kernel,by decide +kernel⟩
theorem qZ:ag ["_law_number","_law_hands"] (aa cH) 1 "_law_hands":=⟨rfl,by first | exact Or.inl rfl | exact Or.inr (Or.inl rfl) | exact Or.inr (Or.inr rfl),by decide,by decide⟩
noncomputable abbrev bJ:Stmt:=top 47
theorem iH:aG ["_law_script","_law_at","_law_cards","_law_hands","_law_pool_here","_law_k","_law_cell_here"] ["_law_script","_law_at","_law_cards","_law_hands"] (aa bJ):=⟨rfl,rfl,rfl,by decide +kernel,rfl,by decide +kernel,by decide +kernel⟩
theorem lZ:ag ["_law_script","_law_at","_law_cards","_law_hands","_law_pool_here","_law_k","_law_cell_here"] (aa bJ) 0 "_law_script":=⟨rfl,by first | exact Or.inl rfl | exact Or.inr (Or.inl rfl) | exact Or.inr (Or.inr rfl),by decide,by decide⟩
theorem ma:ag ["_law_script","_law_at","_law_cards","_law_hands","_law_pool_here","_law_k","_law_cell_here"] (aa bJ) 1 "_law_at":=⟨rfl,by first | exact Or.inl rfl | exact Or.inr (Or.inl rfl) | exact Or.inr (Or.inr rfl),by decide,by decide⟩
theorem md:ag ["_law_script","_law_at","_law_cards","_law_hands","_law_pool_here","_law_k","_law_cell_here"] (aa bJ) 2 "_law_cards":=⟨rfl,by first | exact Or.inl rfl | exact Or.inr (Or.inl rfl) | exact Or.inr (Or.inr rfl),by decide,by decide⟩
theorem me:ag ["_law_script","_law_at","_law_cards","_law_hands","_law_pool_here","_law_k","_law_cell_here"] (aa bJ) 3 "_law_hands":=⟨rfl,by first | exact Or.inl rfl | exact Or.inr (Or.inl rfl) | exact Or.inr (Or.inr rfl),by decide,by decide⟩
theorem mf:ag ["_law_script","_law_at","_law_cards","_law_hands","_law_pool_here","_law_k","_law_cell_here"] (aa bJ) 4 "_law_pool_here":=⟨rfl,by first | exact Or.inl rfl | exact Or.inr (Or.inl rfl) | exact Or.inr (Or.inr rfl),by decide,by decide⟩
theorem sI:ag ["_law_script","_law_at","_law_cards","_law_hands","_law_pool_here","_law_k","_law_cell_here"] (aa bJ) 5 "_law_k":=⟨rfl,by first | exact Or.inl rfl | exact Or.inr (Or.inl rfl) | exact Or.inr (Or.inr rfl),by decide,by decide⟩
theorem mi:ag ["_law_script","_law_at","_law_cards","_law_hands","_law_pool_here","_law_k","_law_cell_here"] (aa bJ) 6 "_law_cell_here":=⟨rfl,by first | exact Or.inl rfl | exact Or.inr (Or.inl rfl) | exact Or.inr (Or.inr rfl),by decide,by decide⟩
noncomputable abbrev aT:Stmt:=top 48
theorem bO:aG ["_law_script","_law_at","_law_cards","_law_hands","_law_most","_law_pool_here","_law_k","_law_cell_here","_law_one","_law_other","_law_some"] ["_law_script","_law_at","_law_cards","_law_hands","_law_most"] (aa aT):=⟨rfl,rfl,rfl,by decide +kernel,rfl,by decide +kernel,by decide +kernel⟩
theorem iI:ag ["_law_script","_law_at","_law_cards","_law_hands","_law_most","_law_pool_here","_law_k","_law_cell_here","_law_one","_law_other","_law_some"] (aa aT) 0 "_law_script":=⟨rfl,by first | exact Or.inl rfl | exact Or.inr (Or.inl rfl) | exact Or.inr (Or.inr rfl),by decide,by decide⟩
theorem iJ:ag ["_law_script","_law_at","_law_cards","_law_hands","_law_most","_law_pool_here","_law_k","_law_cell_here","_law_one","_law_other","_law_some"] (aa aT) 1 "_law_at":=⟨rfl,by first | exact Or.inl rfl | exact Or.inr (Or.inl rfl) | exact Or.inr (Or.inr rfl),by decide,by decide⟩
theorem pP:ag ["_law_script","_law_at","_law_cards","_law_hands","_law_most","_law_pool_here","_law_k","_law_cell_here","_law_one","_law_other","_law_some"] (aa aT) 2 "_law_cards":=⟨rfl,by first | exact Or.inl rfl | exact Or.inr (Or.inl rfl) | exact Or.inr (Or.inr rfl),by decide,by decide⟩
theorem cA:ag ["_law_script","_law_at","_law_cards","_law_hands","_law_most","_law_pool_here","_law_k","_law_cell_here","_law_one","_law_other","_law_some"] (aa aT) 3 "_law_hands":=⟨rfl,by first | exact Or.inl rfl | exact Or.inr (Or.inl rfl) | exact Or.inr (Or.inr rfl),by decide,by decide⟩
theorem pQ:ag ["_law_script","_law_at","_law_cards","_law_hands","_law_most","_law_pool_here","_law_k","_law_cell_here","_law_one","_law_other","_law_some"] (aa aT) 4 "_law_most":=⟨rfl,by first | exact Or.inl rfl | exact Or.inr (Or.inl rfl) | exact Or.inr (Or.inr rfl),by decide,by decide⟩
theorem eP:ag ["_law_script","_law_at","_law_cards","_law_hands","_law_most","_law_pool_here","_law_k","_law_cell_here","_law_one","_law_other","_law_some"] (aa aT) 5 "_law_pool_here":=⟨rfl,by first | exact Or.inl rfl | exact Or.inr (Or.inl rfl) | exact Or.inr (Or.inr rfl),by decide,by decide⟩
theorem pR:ag ["_law_script","_law_at","_law_cards","_law_hands","_law_most","_law_pool_here","_law_k","_law_cell_here","_law_one","_law_other","_law_some"] (aa aT) 6 "_law_k":=⟨rfl,by first | exact Or.inl rfl | exact Or.inr (Or.inl rfl) | exact Or.inr (Or.inr rfl),by decide,by decide⟩
theorem bR:ag ["_law_script","_law_at","_law_cards","_law_hands","_law_most","_law_pool_here","_law_k","_law_cell_here","_law_one","_law_other","_law_some"] (aa aT) 7 "_law_cell_here":=⟨rfl,by first | exact Or.inl rfl | exact Or.inr (Or.inl rfl) | exact Or.inr (Or.inr rfl),by decide,by decide⟩
theorem b7:ag ["_law_script","_law_at","_law_cards","_law_hands","_law_most","_law_pool_here","_law_k","_law_cell_here","_law_one","_law_other","_law_some"] (aa aT) 8 "_law_one":=⟨rfl,by first | exact Or.inl rfl | exact Or.inr (Or.inl rfl) | exact Or.inr (Or.inr rfl),by decide,by decide⟩
theorem cS:ag ["_law_script","_law_at","_law_cards","_law_hands","_law_most","_law_pool_here","_law_k","_law_cell_here","_law_one","_law_other","_law_some"] (aa aT) 9 "_law_other":=⟨rfl,by first | exact Or.inl rfl | exact Or.inr (Or.inl rfl) | exact Or.inr (Or.inr rfl),by decide,by decide⟩
theorem dl:ag ["_law_script","_law_at","_law_cards","_law_hands","_law_most","_law_pool_here","_law_k","_law_cell_here","_law_one","_law_other","_law_some"] (aa aT) 10 "_law_some":=⟨rfl,by first | exact Or.inl rfl | exact Or.inr (Or.inl rfl) | exact Or.inr (Or.inr rfl),by decide,by decide⟩
noncomputable abbrev bp:Stmt:=top 49
theorem fk:aG ["_law_views_here","_law_some","_law_view","_law_inside","_law_place","_law_least_here"] ["_law_views_here","_law_some"] (aa bp):=⟨rfl,rfl,rfl,by decide +kernel,rfl,by decide +kernel,by decide +kernel⟩
theorem pS:ag ["_law_views_here","_law_some","_law_view","_law_inside","_law_place","_law_least_here"] (aa bp) 0 "_law_views_here":=⟨rfl,by first | exact Or.inl rfl | exact Or.inr (Or.inl rfl) | exact Or.inr (Or.inr rfl),by decide,by decide⟩
theorem kn:ag ["_law_views_here","_law_some","_law_view","_law_inside","_law_place","_law_least_here"] (aa bp) 1 "_law_some":=⟨rfl,by first | exact Or.inl rfl | exact Or.inr (Or.inl rfl) | exact Or.inr (Or.inr rfl),by decide,by decide⟩
theorem pT:ag ["_law_views_here","_law_some","_law_view","_law_inside","_law_place","_law_least_here"] (aa bp) 2 "_law_view":=⟨rfl,by first | exact Or.inl rfl | exact Or.inr (Or.inl rfl) | exact Or.inr (Or.inr rfl),by decide,by decide⟩
theorem pU:ag ["_law_views_here","_law_some","_law_view","_law_inside","_law_place","_law_least_here"] (aa bp) 3 "_law_inside":=⟨rfl,by first | exact Or.inl rfl | exact Or.inr (Or.inl rfl) | exact Or.inr (Or.inr rfl),by decide,by decide⟩
theorem pV:ag ["_law_views_here","_law_some","_law_view","_law_inside","_law_place","_law_least_here"] (aa bp) 4 "_law_place":=⟨rfl,by first | exact Or.inl rfl | exact Or.inr (Or.inl rfl) | exact Or.inr (Or.inr rfl),by decide,by decide⟩
theorem pW:ag ["_law_views_here","_law_some","_law_view","_law_inside","_law_place","_law_least_here"] (aa bp) 5 "_law_least_here":=⟨rfl,by first | exact Or.inl rfl | exact Or.inr (Or.inl rfl) | exact Or.inr (Or.inr rfl),by decide,by decide⟩
noncomputable abbrev bf:Stmt:=top 50
theorem fm:aG ["_law_told","_law_views_here","_law_facts","_law_shared_here","_law_deal","_law_last","_law_k","_law_place"] ["_law_told","_law_views_here","_law_facts","_law_shared_here","_law_deal"] (aa bf):=⟨rfl,rfl,rfl,by decide +kernel,rfl,by decide +kernel,by decide +kernel⟩
theorem dF:ag ["_law_told","_law_views_here","_law_facts","_law_shared_here","_law_deal","_law_last","_law_k","_law_place"] (aa bf) 0 "_law_told":=⟨rfl,by first | exact Or.inl rfl | exact Or.inr (Or.inl rfl) | exact Or.inr (Or.inr rfl),by decide,by decide⟩
theorem pX:ag ["_law_told","_law_views_here","_law_facts","_law_shared_here","_law_deal","_law_last","_law_k","_law_place"] (aa bf) 1 "_law_views_here":=⟨rfl,by first | exact Or.inl rfl | exact Or.inr (Or.inl rfl) | exact Or.inr (Or.inr rfl),by decide,by decide⟩
theorem pY:ag ["_law_told","_law_views_here","_law_facts","_law_shared_here","_law_deal","_law_last","_law_k","_law_place"] (aa bf) 2 "_law_facts":=⟨rfl,by first | exact Or.inl rfl | exact Or.inr (Or.inl rfl) | exact Or.inr (Or.inr rfl),by decide,by decide⟩
theorem pZ:ag ["_law_told","_law_views_here","_law_facts","_law_shared_here","_law_deal","_law_last","_law_k","_law_place"] (aa bf) 3 "_law_shared_here":=⟨rfl,by first | exact Or.inl rfl | exact Or.inr (Or.inl rfl) | exact Or.inr (Or.inr rfl),by decide,by decide⟩
theorem ko:ag ["_law_told","_law_views_here","_law_facts","_law_shared_here","_law_deal","_law_last","_law_k","_law_place"] (aa bf) 4 "_law_deal":=⟨rfl,by first | exact Or.inl rfl | exact Or.inr (Or.inl rfl) | exact Or.inr (Or.inr rfl),by decide,by decide⟩
theorem p0:ag ["_law_told","_law_views_here","_law_facts","_law_shared_here","_law_deal","_law_last","_law_k","_law_place"] (aa bf) 5 "_law_last":=⟨rfl,by first | exact Or.inl rfl | exact Or.inr (Or.inl rfl) | exact Or.inr (Or.inr rfl),by decide,by decide⟩
theorem p6:ag ["_law_told","_law_views_here","_law_facts","_law_shared_here","_law_deal","_law_last","_law_k","_law_place"] (aa bf) 7 "_law_place":=⟨rfl,by first | exact Or.inl rfl | exact Or.inr (Or.inl rfl) | exact Or.inr (Or.inr rfl),by decide,by decide⟩
noncomputable abbrev bY:Stmt:=top 51
theorem va:aG ["_law_told","_law_facts","_law_owned","_law_deal"] ["_law_told","_law_facts","_law_owned","_law_deal"] (aa bY):=⟨rfl,rfl,rfl,by decide +kernel,rfl,by decide +kernel,by decide +kernel⟩
theorem eH:ag ["_law_told","_law_facts","_law_owned","_law_deal"] (aa bY) 0 "_law_told":=⟨rfl,by first | exact Or.inl rfl | exact Or.inr (Or.inl rfl) | exact Or.inr (Or.inr rfl),by decide,by decide⟩
theorem sJ:ag ["_law_told","_law_facts","_law_owned","_law_deal"] (aa bY) 1 "_law_facts":=⟨rfl,by first | exact Or.inl rfl | exact Or.inr (Or.inl rfl) | exact Or.inr (Or.inr rfl),by decide,by decide⟩
theorem sK:ag ["_law_told","_law_facts","_law_owned","_law_deal"] (aa bY) 2 "_law_owned":=⟨rfl,by first | exact Or.inl rfl | exact Or.inr (Or.inl rfl) | exact Or.inr (Or.inr rfl),by decide,by decide⟩
theorem mj:ag ["_law_told","_law_facts","_law_owned","_law_deal"] (aa bY) 3 "_law_deal":=⟨rfl,by first | exact Or.inl rfl | exact Or.inr (Or.inl rfl) | exact Or.inr (Or.inr rfl),by decide,by decide⟩
noncomputable abbrev cq:Stmt:=top 52
theorem d9:aG ["_law_script","_law_cards","_law_sizes","_law_hands","_law_deals","_law_views_here","_law_saying_here","_law_hand","_law_group_here","_law_some","_law_facts","_law_owned","_law_shared_here","_law_k","_law_deal"] ["_law_script"] (aa cq):=⟨rfl,rfl,rfl,by decide +kernel,rfl,by decide +kernel,by decide +kernel⟩
theorem jI:ag ["_law_script","_law_cards","_law_sizes","_law_hands","_law_deals","_law_views_here","_law_saying_here","_law_hand","_law_group_here","_law_some","_law_facts","_law_owned","_law_shared_here","_law_k","_law_deal"] (aa cq) 0 "_law_script":=⟨rfl,by first | exact Or.inl rfl | exact Or.inr (Or.inl rfl) | exact Or.inr (Or.inr rfl),by decide,by decide⟩
theorem ww:ag ["_law_script","_law_cards","_law_sizes","_law_hands","_law_deals","_law_views_here","_law_saying_here","_law_hand","_law_group_here","_law_some","_law_facts","_law_owned","_law_shared_here","_law_k","_law_deal"] (aa cq) 1 "_law_cards":=⟨rfl,by first | exact Or.inl rfl | exact Or.inr (Or.inl rfl) | exact Or.inr (Or.inr rfl),by decide,by decide⟩
theorem wz:ag ["_law_script","_law_cards","_law_sizes","_law_hands","_law_deals","_law_views_here","_law_saying_here","_law_hand","_law_group_here","_law_some","_law_facts","_law_owned","_law_shared_here","_law_k","_law_deal"] (aa cq) 2 "_law_sizes":=⟨rfl,by first | exact Or.inl rfl | exact Or.inr (Or.inl rfl) | exact Or.inr (Or.inr rfl),by decide,by decide⟩
theorem nD:ag ["_law_script","_law_cards","_law_sizes","_law_hands","_law_deals","_law_views_here","_law_saying_here","_law_hand","_law_group_here","_law_some","_law_facts","_law_owned","_law_shared_here","_law_k","_law_deal"] (aa cq) 3 "_law_hands":=⟨rfl,by first | exact Or.inl rfl | exact Or.inr (Or.inl rfl) | exact Or.inr (Or.inr rfl),by decide,by decide⟩
theorem lj:ag ["_law_script","_law_cards","_law_sizes","_law_hands","_law_deals","_law_views_here","_law_saying_here","_law_hand","_law_group_here","_law_some","_law_facts","_law_owned","_law_shared_here","_law_k","_law_deal"] (aa cq) 4 "_law_deals":=⟨rfl,by first | exact Or.inl rfl | exact Or.inr (Or.inl rfl) | exact Or.inr (Or.inr rfl),by decide,by decide⟩
theorem nE:ag ["_law_script","_law_cards","_law_sizes","_law_hands","_law_deals","_law_views_here","_law_saying_here","_law_hand","_law_group_here","_law_some","_law_facts","_law_owned","_law_shared_here","_law_k","_law_deal"] (aa cq) 5 "_law_views_here":=⟨rfl,by first | exact Or.inl rfl | exact Or.inr (Or.inl rfl) | exact Or.inr (Or.inr rfl),by decide,by decide⟩
theorem q8:ag ["_law_script","_law_cards","_law_sizes","_law_hands","_law_deals","_law_views_here","_law_saying_here","_law_hand","_law_group_here","_law_some","_law_facts","_law_owned","_law_shared_here","_law_k","_law_deal"] (aa cq) 6 "_law_saying_here":=⟨rfl,by first | exact Or.inl rfl | exact Or.inr (Or.inl rfl) | exact Or.inr (Or.inr rfl),by decide,by decide⟩
theorem wA:ag ["_law_script","_law_cards","_law_sizes","_law_hands","_law_deals","_law_views_here","_law_saying_here","_law_hand","_law_group_here","_law_some","_law_facts","_law_owned","_law_shared_here","_law_k","_law_deal"] (aa cq) 7 "_law_hand":=⟨rfl,by first | exact Or.inl rfl | exact Or.inr (Or.inl rfl) | exact Or.inr (Or.inr rfl),by decide,by decide⟩
theorem wB:ag ["_law_script","_law_cards","_law_sizes","_law_hands","_law_deals","_law_views_here","_law_saying_here","_law_hand","_law_group_here","_law_some","_law_facts","_law_owned","_law_shared_here","_law_k","_law_deal"] (aa cq) 8 "_law_group_here":=⟨rfl,by first | exact Or.inl rfl | exact Or.inr (Or.inl rfl) | exact Or.inr (Or.inr rfl),by decide,by decide⟩
theorem wC:ag ["_law_script","_law_cards","_law_sizes","_law_hands","_law_deals","_law_views_here","_law_saying_here","_law_hand","_law_group_here","_law_some","_law_facts","_law_owned","_law_shared_here","_law_k","_law_deal"] (aa cq) 9 "_law_some":=⟨rfl,by first | exact Or.inl rfl | exact Or.inr (Or.inl rfl) | exact Or.inr (Or.inr rfl),by decide,by decide⟩
theorem lO:ag ["_law_script","_law_cards","_law_sizes","_law_hands","_law_deals","_law_views_here","_law_saying_here","_law_hand","_law_group_here","_law_some","_law_facts","_law_owned","_law_shared_here","_law_k","_law_deal"] (aa cq) 10 "_law_facts":=⟨rfl,by first | exact Or.inl rfl | exact Or.inr (Or.inl rfl) | exact Or.inr (Or.inr rfl),by decide,by decide⟩
theorem Aq:ag ["_law_script","_law_cards","_law_sizes","_law_hands","_law_deals","_law_views_here","_law_saying_here","_law_hand","_law_group_here","_law_some","_law_facts","_law_owned","_law_shared_here","_law_k","_law_deal"] (aa cq) 11 "_law_owned":=⟨rfl,by first | exact Or.inl rfl | exact Or.inr (Or.inl rfl) | exact Or.inr (Or.inr rfl),by decide,by decide⟩
theorem Ar:ag ["_law_script","_law_cards","_law_sizes","_law_hands","_law_deals","_law_views_here","_law_saying_here","_law_hand","_law_group_here","_law_some","_law_facts","_law_owned","_law_shared_here","_law_k","_law_deal"] (aa cq) 12 "_law_shared_here":=⟨rfl,by first | exact Or.inl rfl | exact Or.inr (Or.inl rfl) | exact Or.inr (Or.inr rfl),by decide,by decide⟩
theorem As:ag ["_law_script","_law_cards","_law_sizes","_law_hands","_law_deals","_law_views_here","_law_saying_here","_law_hand","_law_group_here","_law_some","_law_facts","_law_owned","_law_shared_here","_law_k","_law_deal"] (aa cq) 13 "_law_k":=⟨rfl,by first | exact Or.inl rfl | exact Or.inr (Or.inl rfl) | exact Or.inr (Or.inr rfl),by decide,by decide⟩
theorem lP:ag ["_law_script","_law_cards","_law_sizes","_law_hands","_law_deals","_law_views_here","_law_saying_here","_law_hand","_law_group_here","_law_some","_law_facts","_law_owned","_law_shared_here","_law_k","_law_deal"] (aa cq) 14 "_law_deal":=⟨rfl,by first | exact Or.inl rfl | exact Or.inr (Or.inl rfl) | exact Or.inr (Or.inr rfl),by decide,by decide⟩
section
variable {P:Program} {w:World} {K:PySem.W.Frag} {mg:Str->Option Value} {base:Heap}
theorem vS {f:Addr} {fd:FuncData} (D:Def K mg "is_whole" dO ["thing"] f fd) (B:Blt mg):FnB P w K mg base 1 "is_whole" ["thing"] (fL K):=by
 refine D.ok vO (fun vs H Q E h=>uq h) (fun cdv A outer s H vs Q E hr h=>?_)
 have hu:=hr.units0
 have hux:=hr.units64
 exact ⟨o9 K,(am (aC (kz (aO jO rfl B.isinstance boot_isinstance (ad (pvQ mT rfl rfl) (ad (ku (v:=.ty "int") rfl B.int boot_int rfl) ae))) (jL (xO (aO jO rfl B.isinstance boot_isinstance (ad (pvQ mT rfl rfl) (ad (ku (v:=.ty "bool") rfl B.bool boot_bool rfl) ae)))))))),vB h⟩
theorem vb {f:Addr} {fd:FuncData} (D:Def K mg "is_within" cF ["thing","least","most"] f fd) (B:Blt mg) (F_is_whole:FnB P w K mg base 1 "is_whole" ["thing"] (fL K)):FnB P w K mg base 2 "is_within" ["thing","least","most"] (du K):=by
 refine D.ok uU (fun vs H Q E h=>rX h) (fun cdv A outer s H vs Q E hr h=>?_)
 have hu:=hr.units0
 have hux:=hr.units64
 exact ⟨nW K,(am (aC (kz (aq F_is_whole (hr.mono (by decide)) (ad (pvQ lT rfl rfl) ae)) (jL (zi sX sX (pvQ sx rfl rfl) (pvQ lT rfl rfl) (pvQ sA rfl rfl)))))),ur h⟩
theorem xL {f:Addr} {fd:FuncData} (D:Def K mg "is_pack" dw ["cards","sizes"] f fd) (B:Blt mg) {t_MOST_CARDS:Tok} (m_MOST_CARDS:mg "MOST_CARDS"=some (.int 12 t_MOST_CARDS)) {t_MOST_HANDS:Tok} (m_MOST_HANDS:mg "MOST_HANDS"=some (.int 5 t_MOST_HANDS)) (F_is_within:FnB P w K mg base 2 "is_within" ["thing","least","most"] (du K)):FnB P w K mg base 3 "is_pack" ["cards","sizes"] (gu K):=by
 refine D.ok xC (fun vs H Q E h=>vC h) (fun cdv A outer s H vs Q E hr h=>?_)
 have hu:=hr.units0
 have hux:=hr.units64
 exact ⟨rO K,(af (bU (h9 (fB (aq F_is_within (hr.mono (by decide)) (ad (pvQ nZ rfl rfl) (ao aj (ad (qb (v:=(.int 12)) rfl m_MOST_CARDS ⟨_,rfl⟩) ae)))))) (am (aC eU)) bg)
  (af (bU (PW.pt (wD (h9 (fB (aO jO rfl B.isinstance boot_isinstance (ad (pvQ je rfl rfl) (ad (ku (v:=.ty "list") rfl B.list boot_list rfl) ae))))) (tH (h9 (fB (aq F_is_within (hr.mono (by decide)) (bF (aO br rfl B.len boot_len (ad (pvQ je rfl rfl) ae)) (ao aj (ad (qb (v:=(.int 5)) rfl m_MOST_HANDS ⟨_,rfl⟩) ae))))))))) (am (aC eU)) bg)
  (am (aC (kz (aO (x8 rfl) rfl B.all boot_all (fh (dz (sc:=(aa dw)) (NX:=["cards","sizes"]) (N:=["size","cards"]) (ix:=[none,some 0]) rfl (by refine ⟨rfl,?_,?_,?_,?_,rfl,?_⟩ <;> decide +kernel) (bV (pvQ je rfl rfl)) (by intros; exact (aw (i:=0) (show (["size","cards"]:List Str).Nodup by decide +kernel) rfl (Or.inl rfl))) (by intros; exact cV) (by intros; exact (aq F_is_within (hr.mono (by decide)) (ad (pv 0) (ao aj (ad (pv 1) ae)))))) ae)) (jL (ek sX (aO (ji rfl) rfl B.sum boot_sum (ad (pvQ je rfl rfl) ae)) (pvQ nZ rfl rfl) (aW _)))))))),w9 h⟩
theorem vT {f:Addr} {fd:FuncData} (D:Def K mg "how_many" ck ["cards","sizes"] f fd) (B:Blt mg) (F_choices:FnB P w K mg base 1 "choices" ["many","taken"] (gv K)) (F_is_pack:FnB P w K mg base 3 "is_pack" ["cards","sizes"] (gu K)):FnB P w K mg base 4 "how_many" ["cards","sizes"] (fM K):=by
 refine D.ok fQ (fun vs H Q E h=>uu h) (fun cdv A outer s H vs Q E hr h=>?_)
 have hu:=hr.units0
 have hux:=hr.units64
 exact ⟨pc K,(af (bU (h9 (fB (aq F_is_pack (hr.mono (by decide)) (ad (pvQ mU rfl rfl) (ad (pvQ mV rfl rfl) ae))))) (am tK) bg)
  (af (ax (i:=2) fQ.nd rfl (Or.inl rfl) aj)
  (af (ax (i:=3) fQ.nd rfl (Or.inl rfl) (pvQ mU rfl rfl))
  (af (bS PassesOwn.never rfl (bV (pvQ mV rfl rfl)) (aw (i:=4) fQ.nd rfl (Or.inl rfl)) (af (ax (i:=2) fQ.nd rfl (Or.inl rfl) (ar di (pvQ mW rfl rfl) (aq F_choices (hr.mono (by decide)) (ad (pvQ mX rfl rfl) (ad (pvQ mY rfl rfl) ae)))))
  (am (ax (i:=3) fQ.nd rfl (Or.inl rfl) (ar jh (pvQ mX rfl rfl) (pvQ mY rfl rfl))))))
  (am (aC (pvQ mW rfl rfl))))))),vE h⟩
theorem xM {f:Addr} {fd:FuncData} (D:Def K mg "choices" da ["many","taken"] f fd) (B:Blt mg):FnB P w K mg base 1 "choices" ["many","taken"] (gv K):=by
 refine D.ok jD (fun vs H Q E h=>vD h) (fun cdv A outer s H vs Q E hr h=>?_)
 have hu:=hr.units0
 have hux:=hr.units64
 exact ⟨rP K,(af (ax (i:=2) jD.nd rfl (Or.inl rfl) aj)
  (af (bS PassesOwn.never rfl (dr rfl B.range (ad (pvQ vQ rfl rfl) ae)) (aw (i:=3) jD.nd rfl (Or.inl rfl)) (am (ax (i:=2) jD.nd rfl (Or.inl rfl) (ar cU (ar di (pvQ n4 rfl rfl) (ar jh (pvQ vP rfl rfl) (pvQ n6 rfl rfl))) (ar bL (pvQ n6 rfl rfl) aj)))))
  (am (aC (pvQ n4 rfl rfl))))),xa h⟩
theorem vU {f:Addr} {fd:FuncData} (D:Def K mg "deals_of" cI ["cards","sizes"] f fd) (B:Blt mg) {t_MOST_DEALS:Tok} (m_MOST_DEALS:mg "MOST_DEALS"=some (.int 2000 t_MOST_DEALS)) (F_how_many:FnB P w K mg base 4 "how_many" ["cards","sizes"] (fM K)) (F_with_one_more:FnB P w K mg base 1 "with_one_more" ["begun","room"] (dj K)):FnB P w K mg base 5 "deals_of" ["cards","sizes"] (fN K):=by
 refine D.ok gJ (fun vs H Q E h=>uv h) (fun cdv A outer s H vs Q E hr h=>?_)
 have hu:=hr.units0
 have hux:=hr.units64
 exact ⟨pd K,(af (bU (aU jz (aq F_how_many (hr.mono (by decide)) (ad (pvQ jW rfl rfl) (ad (pvQ jX rfl rfl) ae))) (qb (v:=(.int 2000)) rfl m_MOST_DEALS ⟨_,rfl⟩) (aW _)) (am tK) bg)
  (af (ax (i:=2) gJ.nd rfl (Or.inl rfl) (ar x0 (pvQ jX rfl rfl) (tQ (aR (ar jh (pvQ jW rfl rfl) (aO (ji rfl) rfl B.sum boot_sum (ad (pvQ jX rfl rfl) ae))) ae))))
  (af (ax (i:=3) gJ.nd rfl (Or.inl rfl) (tQ (bq (xX ae) ae)))
  (af (bS PassesOwn.never rfl (dr rfl B.range (ad (pvQ jW rfl rfl) ae)) (aw (i:=4) gJ.nd rfl (Or.inl rfl)) (am (ax (i:=3) gJ.nd rfl (Or.inl rfl) (aq F_with_one_more (hr.mono (by decide)) (ad (pvQ mZ rfl rfl) (ad (pvQ uV rfl rfl) ae))))))
  (am (aC (pvQ mZ rfl rfl))))))),vF h⟩
theorem oJ {f:Addr} {fd:FuncData} (D:Def K mg "with_one_more" be ["begun","room"] f fd) (B:Blt mg):FnB P w K mg base 1 "with_one_more" ["begun","room"] (dj K):=by
 refine D.ok d6 (fun vs H Q E h=>nI h) (fun cdv A outer s H vs Q E hr h=>?_)
 have hu:=hr.units0
 have hux:=hr.units64
 exact ⟨kb K,(af (ax (i:=2) d6.nd rfl (Or.inl rfl) (tQ ae))
  (af (bS PassesOwn.never rfl (bV (pvQ nJ rfl rfl)) (aw (i:=3) d6.nd rfl (Or.inl rfl)) (am (bS PassesOwn.never rfl (fK bu rfl B.enumerate (by decide) (ad (pvQ nK rfl rfl) ae)) (dL rfl (aS (aw (i:=4) d6.nd rfl (Or.inl rfl)) (aS (aw (i:=5) d6.nd rfl (Or.inl rfl)) cT))) (am (bU (aU Aw (C6 PySem.F.plainAttrs_tuple PySem.F.slot_tuple_count PySem.F.type_tuple_count yd (pvQ jw rfl rfl) (ad (pvQ jx rfl rfl) ae)) (pvQ nN rfl rfl) (aW _)) (am (eV (ic PySem.F.plainAttrs_list PySem.F.slot_list_append PySem.F.type_list_append dt (pvQ jv rfl rfl) (aR (ar A1 (pvQ jw rfl rfl) (xX (ad (pvQ jx rfl rfl) ae))) ae)))) bg)))))
  (am (aC (pvQ jv rfl rfl))))),oq h⟩
theorem vV {f:Addr} {fd:FuncData} (D:Def K mg "cards_of" dq ["deal","who"] f fd) (B:Blt mg):FnB P w K mg base 1 "cards_of" ["deal","who"] (fO K):=by
 refine D.ok vR (fun vs H Q E h=>uw h) (fun cdv A outer s H vs Q E hr h=>?_)
 have hu:=hr.units0
 have hux:=hr.units64
 exact ⟨pe K,(am (aC (g9 lQ rfl B.tuple boot_tuple (fh (dz (sc:=(aa dq)) (NX:=["deal","who"]) (N:=["card","holder","who"]) (ix:=[none,none,some 1]) rfl (by refine ⟨rfl,?_,?_,?_,?_,rfl,?_⟩ <;> decide +kernel) (fK mE rfl B.enumerate (by decide) (ad (pvQ uW rfl rfl) ae)) (by intros; exact (dL rfl (aS (aw (i:=0) (show (["card","holder","who"]:List Str).Nodup by decide +kernel) rfl (Or.inl rfl)) (aS (aw (i:=1) (show (["card","holder","who"]:List Str).Nodup by decide +kernel) rfl (Or.inl rfl)) cT)))) (by intros; exact (iM (aU eI (pv 1) (pv 2) (aW _)))) (by intros; exact (pv 0))) ae)))),vG h⟩
theorem sL {f:Addr} {fd:FuncData} (D:Def K mg "look_alike" b9 ["view","one","other"] f fd) (B:Blt mg):FnB P w K mg base 1 "look_alike" ["view","one","other"] (eD K):=by
 refine D.ok sB (fun vs H Q E h=>qx h) (fun cdv A outer s H vs Q E hr h=>?_)
 have hu:=hr.units0
 have hux:=hr.units64
 exact ⟨ir K,(am (aC (ek eI (aA aI (pvQ kM rfl rfl) (pvQ qI rfl rfl) (fun _ _=>rfl)) (aA aI (pvQ kM rfl rfl) (pvQ qJ rfl rfl) (fun _ _=>rfl)) (aW _)))),sk h⟩
theorem y9 {f:Addr} {fd:FuncData} (D:Def K mg "joined" cM ["many","views"] f fd) (B:Blt mg) (F_end_of:FnB P w K mg base 1 "end_of" ["points","thing"] (eN K)) (F_link:FnB P w K mg base 2 "link" ["points","one","other"] (jF K)):FnB P w K mg base 3 "joined" ["many","views"] (hJ K):=by
 refine D.ok jl (fun vs H Q E h=>xj h) (fun cdv A outer s H vs Q E hr h=>?_)
 have hu:=hr.units0
 have hux:=hr.units64
 exact ⟨lG K,(af (ax (i:=2) jl.nd rfl (Or.inr rfl) (g9 (yX rfl) rfl B.list boot_list (bF (g9 yV rfl B.range boot_range (ad (pvQ pL rfl rfl) ae)) ae)))
  (af (bS PassesOwn.never rfl (bV (pvQ xD rfl rfl)) (aw (i:=3) jl.nd rfl (Or.inl rfl)) (am (bS PassesOwn.never rfl (fK bu rfl B.enumerate (by decide) (ad (pvQ xF rfl rfl) ae)) (dL rfl (aS (aw (i:=4) jl.nd rfl (Or.inl rfl)) (aS (aw (i:=5) jl.nd rfl (Or.inl rfl)) cT))) (am (eV (aq F_link (hr.mono (by decide)) (ad (pvQ xE rfl rfl) (ad (pvQ xG rfl rfl) (ad (pvQ xH rfl rfl) ae)))))))))
  (am (aC (dz (sc:=(aa cM)) (NX:=["many","views","points","view","thing","least"]) (N:=["thing","points"]) (ix:=[none,some 2]) rfl (by refine ⟨rfl,?_,?_,?_,?_,rfl,?_⟩ <;> decide +kernel) (dr rfl B.range (ad (pvQ pL rfl rfl) ae)) (by intros; exact (aw (i:=0) (show (["thing","points"]:List Str).Nodup by decide +kernel) rfl (Or.inl rfl))) (by intros; exact cV) (by intros; exact (aq F_end_of (hr.mono (by decide)) (ad (pv 1) (ad (pv 0) ae))))))))),yB h⟩
theorem Bz {f:Addr} {fd:FuncData} (D:Def K mg "link" fi ["points","one","other"] f fd) (B:Blt mg) (F_end_of:FnB P w K mg base 1 "end_of" ["points","thing"] (eN K)):FnB P w K mg base 2 "link" ["points","one","other"] (jF K):=by
 refine D.ok qK (fun vs H Q E h=>zR h) (fun cdv A outer s H vs Q E hr h=>?_)
 have hu:=hr.units0
 have hux:=hr.units64
 exact ⟨pi K,(af (ax (i:=3) qK.nd rfl (Or.inl rfl) (aq F_end_of (hr.mono (by decide)) (ad (pvQ oE rfl rfl) (ad (pvQ Al rfl rfl) ae))))
  (af (ax (i:=4) qK.nd rfl (Or.inl rfl) (aq F_end_of (hr.mono (by decide)) (ad (pvQ oE rfl rfl) (ad (pvQ Am rfl rfl) ae))))
  (am (ib (aO (rl rfl) rfl B.min boot_min (ad (pvQ uX rfl rfl) (ad (pvQ uY rfl rfl) ae))) (jg (pvQ oE rfl rfl) (aO (xT rfl) rfl B.max boot_max (ad (pvQ uX rfl rfl) (ad (pvQ uY rfl rfl) ae))) gW))))),Bg h⟩
theorem za {f:Addr} {fd:FuncData} (D:Def K mg "end_of" d7 ["points","thing"] f fd) (B:Blt mg):FnB P w K mg base 1 "end_of" ["points","thing"] (eN K):=by
 refine D.ok m6 (fun vs H Q E h=>xh h) (fun cdv A outer s H vs Q E hr h=>?_)
 have hu:=hr.units0
 have hux:=hr.units64
 exact ⟨lF K,(af (ax (i:=2) m6.nd rfl (Or.inl rfl) (pvQ xI rfl rfl))
  (af (lm PassesOwn.never (aU wI (aA aI (pvQ iA rfl rfl) (pvQ gD rfl rfl) (fun _ _=>rfl)) (pvQ gD rfl rfl) (aW _)) (af (ib (aA aI (pvQ iA rfl rfl) (aA aI (pvQ iA rfl rfl) (pvQ gD rfl rfl) (fun _ _=>rfl)) (fun _ _=>rfl)) (jg (pvQ iA rfl rfl) (pvQ gD rfl rfl) gW))
  (am (ax (i:=2) m6.nd rfl (Or.inl rfl) (aA aI (pvQ iA rfl rfl) (pvQ gD rfl rfl) (fun _ _=>rfl))))))
  (am (aC (pvQ gD rfl rfl))))),yA h⟩
theorem vc {f:Addr} {fd:FuncData} (D:Def K mg "knows_why" bW ["view","truths","deal"] f fd) (B:Blt mg) (F_look_alike:FnB P w K mg base 1 "look_alike" ["view","one","other"] (eD K)):FnB P w K mg base 2 "knows_why" ["view","truths","deal"] (fe K):=by
 refine D.ok jY (fun vs H Q E h=>so h) (fun cdv A outer s H vs Q E hr h=>?_)
 have hu:=hr.units0
 have hux:=hr.units64
 exact ⟨jb K,(af (dM (i:=3) jY.nd rfl rfl (sc:=(aa bW)) (NX:=["view","truths","deal","alike","wrong"]) (N:=["other","view","deal"]) (ix:=[none,some 0,some 2]) rfl (by refine ⟨rfl,?_,?_,?_,?_,rfl,?_⟩ <;> decide +kernel) (dr rfl B.range (bF (aO br rfl B.len boot_len (ad (pvQ sC rfl rfl) ae)) ae)) (by intros; exact (aw (i:=0) (show (["other","view","deal"]:List Str).Nodup by decide +kernel) rfl (Or.inl rfl))) (by intros; exact (iM (fB (aq F_look_alike (hr.mono (by decide)) (ad (pv 1) (ad (pv 2) (ad (pv 0) ae))))))) (by intros; exact (pv 0)))
  (af (dM (i:=4) jY.nd rfl rfl (sc:=(aa bW)) (NX:=["view","truths","deal","alike","wrong"]) (N:=["other","truths"]) (ix:=[none,some 1]) rfl (by refine ⟨rfl,?_,?_,?_,?_,rfl,?_⟩ <;> decide +kernel) (bV (pvQ lU rfl rfl)) (by intros; exact (aw (i:=0) (show (["other","truths"]:List Str).Nodup by decide +kernel) rfl (Or.inl rfl))) (by intros; exact (iM (h9 (fB (aA aI (pv 1) (pv 0) (fun _ _=>rfl)))))) (by intros; exact (pv 0)))
  (af (bU (aU jz (aO br rfl B.len boot_len (ad (pvQ lV rfl rfl) ae)) aj (aW _)) (am (aC (bx (ao ba (bb (aA aI (pvQ lV rfl rfl) aj (fun _ _=>rfl)) ae))))) bg)
  (am (aC (bx (ao ba (ad (pvQ lU rfl rfl) ae)))))))),uG h⟩
theorem sN {f:Addr} {fd:FuncData} (D:Def K mg "common_why" bj ["views","truths","deal"] f fd) (B:Blt mg) {Pt:Addr} {ct0:Addr} (hfc:fd.code=.ref ct0) (hC:PySem.W.codeHdIn K ct0 Pt=true) (bm:BM base mg) (F_roads_from:FnB P w K mg base 2 "roads_from" ["many","views","deal"] (eE K)) (F_steps_to:FnB P w K mg base 1 "steps_to" ["roads","goal"] (fP K)):FnB P w K mg base 3 "common_why" ["views","truths","deal"] (eF K (LL Pt)):=by
 refine D.okC gS (fun vs H Q E h=>qD h) (fun cdv A outer s H vs Q E hcd hr h=>?_)
 have hu:=hr.units0
 have hux:=hr.units64
 exact ⟨iw K (LL Pt),(af (ax (i:=3) gS.nd rfl (Or.inr rfl) (aq F_roads_from (hr.mono (by decide)) (bF (aO br rfl B.len boot_len (ad (pvQ qM rfl rfl) ae)) (ad (pvQ qL rfl rfl) (ad (pvQ qN rfl rfl) ae)))))
  (af (dM (i:=4) gS.nd rfl rfl (sc:=(aa bj)) (NX:=["views","truths","deal","roads","reached","wrong"]) (N:=["thing","road"]) (ix:=[none,none]) rfl (by refine ⟨rfl,?_,?_,?_,?_,rfl,?_⟩ <;> decide +kernel) (fK bu rfl B.enumerate (by decide) (ad (pvQ kN rfl rfl) ae)) (by intros; exact (dL rfl (aS (aw (i:=0) (show (["thing","road"]:List Str).Nodup by decide +kernel) rfl (Or.inl rfl)) (aS (aw (i:=1) (show (["thing","road"]:List Str).Nodup by decide +kernel) rfl (Or.inl rfl)) cT)))) (by intros; exact (iM (aU xA (pv 1) mm (aW _)))) (by intros; exact (pv 0)))
  (af (dM (i:=5) gS.nd rfl rfl (sc:=(aa bj)) (NX:=["views","truths","deal","roads","reached","wrong"]) (N:=["thing","truths"]) (ix:=[none,some 1]) rfl (by refine ⟨rfl,?_,?_,?_,?_,rfl,?_⟩ <;> decide +kernel) (bV (pvQ kO rfl rfl)) (by intros; exact (aw (i:=0) (show (["thing","truths"]:List Str).Nodup by decide +kernel) rfl (Or.inl rfl))) (by intros; exact (iM (h9 (fB (aA aI (pv 1) (pv 0) (fun _ _=>rfl)))))) (by intros; exact (pv 0)))
  (af (bU (aU jz (aO br rfl B.len boot_len (ad (pvQ kP rfl rfl) ae)) aj (aW _)) (am (aC (bx (ao ba (bF (aq F_steps_to (hr.mono (by decide)) (ad (pvQ kN rfl rfl) (bF (Bp (j:=3) (x:="thing") (y:="roads") rfl B.min hr.depth (hcd.trans hfc) hC bm ⟨fun _ _ _ _ _ _ _=>rfl,rfl,rfl,rfl,by decide +kernel,rfl,rfl,rfl,Ac (sc:=(aa bj)) rfl (by decide +kernel),rfl⟩ (Ad rfl rfl rfl) yP (ad (pvQ kP rfl rfl) ae)) ae))) ae))))) bg)
  (am (aC (bx (ao ba (ad (pvQ kO rfl rfl) ae))))))))),sv (fun _ _ l s=>l.sameN s) h⟩
theorem sO {f:Addr} {fd:FuncData} (D:Def K mg "roads_from" bz ["many","views","deal"] f fd) (B:Blt mg) (F_groups_of:FnB P w K mg base 1 "groups_of" ["view"] (ff K)) (F_one_step_on:FnB P w K mg base 1 "one_step_on" ["views","groups","roads","newest"] (dR K)):FnB P w K mg base 2 "roads_from" ["many","views","deal"] (eE K):=by
 refine D.ok fC (fun vs H Q E h=>qC h) (fun cdv A outer s H vs Q E hr h=>?_)
 have hu:=hr.units0
 have hux:=hr.units64
 exact ⟨iu K,(af (dM (i:=3) fC.nd rfl rfl (sc:=(aa bz)) (NX:=["many","views","deal","groups","roads","newest"]) (N:=["view"]) (ix:=[none]) rfl (by refine ⟨rfl,?_,?_,?_,?_,rfl,?_⟩ <;> decide +kernel) (bV (pvQ kQ rfl rfl)) (by intros; exact (aw (i:=0) (show (["view"]:List Str).Nodup by decide +kernel) rfl (Or.inl rfl))) (by intros; exact cV) (by intros; exact (aq F_groups_of (hr.mono (by decide)) (ad (pv 0) ae))))
  (af (ax (i:=4) fC.nd rfl (Or.inl rfl) (ar uR (cE (ao mm ae)) (pvQ qO rfl rfl)))
  (af (ib (bx (ao aj (ao mm (ao mm ae)))) (jg (pvQ iT rfl rfl) (pvQ kR rfl rfl) gW))
  (af (ax (i:=5) fC.nd rfl (Or.inl rfl) (cE (ad (pvQ kR rfl rfl) ae)))
  (af (lm PassesOwn.never (aU jz (aO br rfl B.len boot_len (ad (pvQ kS rfl rfl) ae)) aj (aW _)) (am (ax (i:=5) fC.nd rfl (Or.inl rfl) (aq F_one_step_on (hr.mono (by decide)) (ad (pvQ kQ rfl rfl) (ad (pvQ qP rfl rfl) (ad (pvQ iT rfl rfl) (ad (pvQ kS rfl rfl) ae))))))))
  (am (aC (pvQ iT rfl rfl)))))))),su h⟩
theorem vd {f:Addr} {fd:FuncData} (D:Def K mg "groups_of" bX ["view"] f fd) (B:Blt mg):FnB P w K mg base 1 "groups_of" ["view"] (ff K):=by
 refine D.ok iB (fun vs H Q E h=>sr h) (fun cdv A outer s H vs Q E hr h=>?_)
 have hu:=hr.units0
 have hux:=hr.units64
 exact ⟨jc K,(af (dM (i:=1) iB.nd rfl rfl (sc:=(aa bX)) (NX:=["view","groups","thing","least"]) (N:=["thing"]) (ix:=[none]) rfl (by refine ⟨rfl,?_,?_,?_,?_,rfl,?_⟩ <;> decide +kernel) (bV (pvQ lW rfl rfl)) (by intros; exact (aw (i:=0) (show (["thing"]:List Str).Nodup by decide +kernel) rfl (Or.inl rfl))) (by intros; exact cV) (by intros; exact (cE ae)))
  (af (bS PassesOwn.never rfl (fK bu rfl B.enumerate (by decide) (ad (pvQ lW rfl rfl) ae)) (dL rfl (aS (aw (i:=2) iB.nd rfl (Or.inl rfl)) (aS (aw (i:=3) iB.nd rfl (Or.inl rfl)) cT))) (am (eV (ic PySem.F.plainAttrs_list PySem.F.slot_list_append PySem.F.type_list_append dt (aA aI (pvQ lX rfl rfl) (pvQ sE rfl rfl) (fun _ _=>rfl)) (ad (pvQ sD rfl rfl) ae)))))
  (am (aC (pvQ lX rfl rfl))))),uJ h⟩
theorem q9 {f:Addr} {fd:FuncData} (D:Def K mg "one_step_on" bc ["views","groups","roads","newest"] f fd) (B:Blt mg):FnB P w K mg base 1 "one_step_on" ["views","groups","roads","newest"] (dR K):=by
 refine D.ok dW (fun vs H Q E h=>pH h) (fun cdv A outer s H vs Q E hr h=>?_)
 have hu:=hr.units0
 have hux:=hr.units64
 exact ⟨gP K,(af (ax (i:=4) dW.nd rfl (Or.inl rfl) (cE ae))
  (af (bS PassesOwn.never rfl (bV (pvQ pN rfl rfl)) (aw (i:=5) dW.nd rfl (Or.inl rfl)) (am (bS PassesOwn.never rfl (fK bu rfl B.enumerate (by decide) (ad (pvQ pM rfl rfl) ae)) (dL rfl (aS (aw (i:=6) dW.nd rfl (Or.inl rfl)) (aS (aw (i:=7) dW.nd rfl (Or.inl rfl)) cT))) (af (bS PassesOwn.never rfl (bV (aA aI (aA aI (pvQ kh rfl rfl) (pvQ iD rfl rfl) (fun _ _=>rfl)) (aA aI (pvQ kj rfl rfl) (pvQ fT rfl rfl) (fun _ _=>rfl)) (fun _ _=>rfl))) (aw (i:=8) dW.nd rfl (Or.inl rfl)) (am (bU (aU yY (aA aI (pvQ iC rfl rfl) (pvQ iE rfl rfl) (fun _ _=>rfl)) mm (aW _)) (af (ib (bx (aR (ar bL (aA bC (aA aI (pvQ iC rfl rfl) (pvQ fT rfl rfl) (fun _ _=>rfl)) aj (fun _ _=>rfl)) aj) (ad (pvQ iD rfl rfl) (ad (pvQ fT rfl rfl) ae)))) (jg (pvQ iC rfl rfl) (pvQ iE rfl rfl) gW))
  (am (eV (ic PySem.F.plainAttrs_list PySem.F.slot_list_append PySem.F.type_list_append dt (pvQ ki rfl rfl) (ad (pvQ iE rfl rfl) ae))))) bg)))
  (am (ib (cE ae) (jg (aA aI (pvQ kh rfl rfl) (pvQ iD rfl rfl) (fun _ _=>rfl)) (aA aI (pvQ kj rfl rfl) (pvQ fT rfl rfl) (fun _ _=>rfl)) gW)))))))
  (am (aC (pvQ ki rfl rfl))))),qB h⟩
theorem vW {f:Addr} {fd:FuncData} (D:Def K mg "steps_to" cJ ["roads","goal"] f fd) (B:Blt mg) (m_reversed:mg "reversed"=none):FnB P w K mg base 1 "steps_to" ["roads","goal"] (fP K):=by
 refine D.ok jf (fun vs H Q E h=>uK h) (fun cdv A outer s H vs Q E hr h=>?_)
 have hu:=hr.units0
 have hux:=hr.units64
 exact ⟨jC K,(af (ax (i:=2) jf.nd rfl (Or.inl rfl) (cE ae))
  (af (ax (i:=3) jf.nd rfl (Or.inl rfl) (pvQ uZ rfl rfl))
  (af (lm PassesOwn.never (aU jz (aA bC (aA aI (pvQ jZ rfl rfl) (pvQ iF rfl rfl) (fun _ _=>rfl)) aj (fun _ _=>rfl)) aj (aW _)) (af (eV (ic PySem.F.plainAttrs_list PySem.F.slot_list_append PySem.F.type_list_append dt (pvQ m7 rfl rfl) (bq (bx (bb (aA bC (aA aI (pvQ jZ rfl rfl) (pvQ iF rfl rfl) (fun _ _=>rfl)) aj (fun _ _=>rfl)) (ad (pvQ iF rfl rfl) ae))) ae)))
  (am (ax (i:=3) jf.nd rfl (Or.inl rfl) (aA bC (aA aI (pvQ jZ rfl rfl) (pvQ iF rfl rfl) (fun _ _=>rfl)) aj (fun _ _=>rfl))))))
  (am (aC (Bw rfl rfl B.list rfl m_reversed (ad (pvQ m7 rfl rfl) ae))))))),vK h⟩
theorem ni {f:Addr} {fd:FuncData} (D:Def K mg "truths_of" bo ["deals","views","S"] f fd) (B:Blt mg) (F_both:FnB P w K mg base 1 "both" ["ones","others"] (hU K)) (F_cards_of:FnB P w K mg base 1 "cards_of" ["deal","who"] (fO K)) (F_either:FnB P w K mg base 1 "either" ["ones","others"] (hW K)) (F_joined:FnB P w K mg base 3 "joined" ["many","views"] (hJ K)) (F_known:FnB P w K mg base 1 "known" ["view","truths"] (d5 K)) (F_known_to_all:FnB P w K mg base 2 "known_to_all" ["views","truths"] (dD K)) (F_seen:FnB P w K mg base 2 "seen" ["piles","view"] (jH K)):∀ n,FnB P w K mg base (4 + n) "truths_of" ["deals","views","S"] (bw K n)
 | 0=>D.ok (k:=3) gd (fun vs H Q E h=>(mM h).elim) (fun cdv A outer s H vs Q E hr h=>(mM h).elim)
 | n + 1=>by
  have F_truths_of:=ni D B F_both F_cards_of F_either F_joined F_known F_known_to_all F_seen n
  refine D.ok (k:=4 + n) gd (fun vs H Q E h=>r9 h) (fun cdv A outer s H vs Q E hr h=>?_)
  have hu:=hr.units0
  have hux:=hr.units64
  exact ⟨i6 K n,(af (ax (i:=3) gd.nd rfl (Or.inl rfl) (aA bC (pvQ ce rfl rfl) aj (fun _ _=>rfl)))
  (af (bU (aU eI (pvQ dJ rfl rfl) ba (aW _)) (am (aC (dz (sc:=(aa bo)) (NX:=["deals","views","S","word","inner","some"]) (N:=["deal","S"]) (ix:=[none,some 2]) rfl (by refine ⟨rfl,?_,?_,?_,?_,rfl,?_⟩ <;> decide +kernel) (bV (pvQ cK rfl rfl)) (by intros; exact (aw (i:=0) (show (["deal","S"]:List Str).Nodup by decide +kernel) rfl (Or.inl rfl))) (by intros; exact cV) (by intros; exact (ek eI (aA bC (pv 0) (aA bC (pv 1) aj (fun _ _=>rfl)) (fun _ _=>rfl)) (aA bC (pv 1) aj (fun _ _=>rfl)) (aW _)))))) bg)
  (af (bU (aU eI (pvQ dJ rfl rfl) ba (aW _)) (am (aC (aq F_seen (hr.mono (by omega)) (fh (dz (sc:=(aa bo)) (NX:=["deals","views","S","word","inner","some"]) (N:=["deal","views"]) (ix:=[none,some 1]) rfl (by refine ⟨rfl,?_,?_,?_,?_,rfl,?_⟩ <;> decide +kernel) (bV (pvQ cK rfl rfl)) (by intros; exact (aw (i:=0) (show (["deal","views"]:List Str).Nodup by decide +kernel) rfl (Or.inl rfl))) (by intros; exact cV) (by intros; exact (aq F_cards_of (hr.mono (by omega)) (ad (pv 0) (bF (aO br rfl B.len boot_len (ad (pv 1) ae)) ae))))) (bb (aA aI (pvQ db rfl rfl) (aA bC (pvQ ce rfl rfl) aj (fun _ _=>rfl)) (fun _ _=>rfl)) ae))))) bg)
  (af (bU (aU eI (pvQ dJ rfl rfl) ba (aW _)) (am (aC (dz (sc:=(aa bo)) (NX:=["deals","views","S","word","inner","some"]) (N:=["truth"]) (ix:=[none]) rfl (by refine ⟨rfl,?_,?_,?_,?_,rfl,?_⟩ <;> decide +kernel) (bV (aq F_truths_of (hr.mono (by omega)) (ad (pvQ cK rfl rfl) (ad (pvQ db rfl rfl) (bb (aA bC (pvQ ce rfl rfl) aj (fun _ _=>rfl)) ae))))) (by intros; exact (aw (i:=0) (show (["truth"]:List Str).Nodup by decide +kernel) rfl (Or.inl rfl))) (by intros; exact cV) (by intros; exact (xO (pv 0)))))) bg)
  (af (bU (aU eI (pvQ dJ rfl rfl) ba (aW _)) (am (aC (aq F_both (hr.mono (by omega)) (bF (aq F_truths_of (hr.mono (by omega)) (ad (pvQ cK rfl rfl) (ad (pvQ db rfl rfl) (bb (aA bC (pvQ ce rfl rfl) aj (fun _ _=>rfl)) ae)))) (bF (aq F_truths_of (hr.mono (by omega)) (ad (pvQ cK rfl rfl) (ad (pvQ db rfl rfl) (bb (aA bC (pvQ ce rfl rfl) aj (fun _ _=>rfl)) ae)))) ae))))) bg)
  (af (bU (aU eI (pvQ dJ rfl rfl) ba (aW _)) (am (aC (aq F_either (hr.mono (by omega)) (bF (aq F_truths_of (hr.mono (by omega)) (ad (pvQ cK rfl rfl) (ad (pvQ db rfl rfl) (bb (aA bC (pvQ ce rfl rfl) aj (fun _ _=>rfl)) ae)))) (bF (aq F_truths_of (hr.mono (by omega)) (ad (pvQ cK rfl rfl) (ad (pvQ db rfl rfl) (bb (aA bC (pvQ ce rfl rfl) aj (fun _ _=>rfl)) ae)))) ae))))) bg)
  (af (ax (i:=4) gd.nd rfl (Or.inl rfl) (aq F_truths_of (hr.mono (by omega)) (ad (pvQ cK rfl rfl) (ad (pvQ db rfl rfl) (bb (aA bC (pvQ ce rfl rfl) aj (fun _ _=>rfl)) ae)))))
  (af (bU (aU eI (pvQ dJ rfl rfl) ba (aW _)) (am (aC (aq F_known (hr.mono (by omega)) (bb (aA aI (pvQ db rfl rfl) (aA bC (pvQ ce rfl rfl) aj (fun _ _=>rfl)) (fun _ _=>rfl)) (ad (pvQ jr rfl rfl) ae))))) bg)
  (af (dM (i:=5) gd.nd rfl rfl (sc:=(aa bo)) (NX:=["deals","views","S","word","inner","some"]) (N:=["hand","views"]) (ix:=[none,some 1]) rfl (by refine ⟨rfl,?_,?_,?_,?_,rfl,?_⟩ <;> decide +kernel) (tN (aA bC (pvQ ce rfl rfl) aj (fun _ _=>rfl))) (by intros; exact (aw (i:=0) (show (["hand","views"]:List Str).Nodup by decide +kernel) rfl (Or.inl rfl))) (by intros; exact cV) (by intros; exact (aA aI (pv 1) (pv 0) (fun _ _=>rfl))))
  (af (bU (aU eI (pvQ dJ rfl rfl) ba (aW _)) (am (aC (aq F_known_to_all (hr.mono (by omega)) (ad (pvQ lY rfl rfl) (ad (pvQ jr rfl rfl) ae))))) bg)
  (am (aC (aq F_known (hr.mono (by omega)) (bF (aq F_joined (hr.mono (by omega)) (bF (aO br rfl B.len boot_len (ad (pvQ cK rfl rfl) ae)) (ad (pvQ lY rfl rfl) ae))) (ad (pvQ jr rfl rfl) ae))))))))))))))),uB h⟩
theorem BA {f:Addr} {fd:FuncData} (D:Def K mg "both" ge ["ones","others"] f fd) (B:Blt mg):FnB P w K mg base 1 "both" ["ones","others"] (hU K):=by
 refine D.ok Bx (fun vs H Q E h=>zT h) (fun cdv A outer s H vs Q E hr h=>?_)
 have hu:=hr.units0
 have hux:=hr.units64
 exact ⟨pj K,(am (aC (dz (sc:=(aa ge)) (NX:=["ones","others"]) (N:=["one","other"]) (ix:=[none,none]) rfl (by refine ⟨rfl,?_,?_,?_,?_,rfl,?_⟩ <;> decide +kernel) (oT bu bu rfl B.zip (ad (pvQ An rfl rfl) (ad (pvQ Ao rfl rfl) ae))) (by intros; exact (dL rfl (aS (aw (i:=0) (show (["one","other"]:List Str).Nodup by decide +kernel) rfl (Or.inl rfl)) (aS (aw (i:=1) (show (["one","other"]:List Str).Nodup by decide +kernel) rfl (Or.inl rfl)) cT)))) (by intros; exact cV) (by intros; exact (kz (pv 0) (jL (pv 1))))))),Bi h⟩
theorem zb {f:Addr} {fd:FuncData} (D:Def K mg "either" d8 ["ones","others"] f fd) (B:Blt mg):FnB P w K mg base 1 "either" ["ones","others"] (hW K):=by
 refine D.ok yZ (fun vs H Q E h=>xk h) (fun cdv A outer s H vs Q E hr h=>?_)
 have hu:=hr.units0
 have hux:=hr.units64
 exact ⟨lJ K,(am (aC (dz (sc:=(aa d8)) (NX:=["ones","others"]) (N:=["one","other"]) (ix:=[none,none]) rfl (by refine ⟨rfl,?_,?_,?_,?_,rfl,?_⟩ <;> decide +kernel) (oT bu bu rfl B.zip (ad (pvQ xJ rfl rfl) (ad (pvQ xK rfl rfl) ae))) (by intros; exact (dL rfl (aS (aw (i:=0) (show (["one","other"]:List Str).Nodup by decide +kernel) rfl (Or.inl rfl)) (aS (aw (i:=1) (show (["one","other"]:List Str).Nodup by decide +kernel) rfl (Or.inl rfl)) cT)))) (by intros; exact cV) (by intros; exact (C0 (pv 0) (jL (pv 1))))))),yD h⟩
theorem At {f:Addr} {fd:FuncData} (D:Def K mg "known" dE ["view","truths"] f fd) (B:Blt mg):FnB P w K mg base 1 "known" ["view","truths"] (d5 K):=by
 refine D.ok lN (fun vs H Q E h=>yE h) (fun cdv A outer s H vs Q E hr h=>?_)
 have hu:=hr.units0
 have hux:=hr.units64
 exact ⟨ny K,(af (ax (i:=2) lN.nd rfl (Or.inr rfl) (ar uR (cE (ao eU ae)) (aO br rfl B.len boot_len (ad (pvQ nh rfl rfl) ae))))
  (af (bS PassesOwn.never rfl (oT bu bu rfl B.zip (ad (pvQ nh rfl rfl) (ad (pvQ y0 rfl rfl) ae))) (dL rfl (aS (aw (i:=3) lN.nd rfl (Or.inl rfl)) (aS (aw (i:=4) lN.nd rfl (Or.inl rfl)) cT))) (am (bU (h9 (fB (pvQ y8 rfl rfl))) (am (ib eU (jg (pvQ y6 rfl rfl) (pvQ y7 rfl rfl) gW))) bg)))
  (am (aC (dz (sc:=(aa dE)) (NX:=["view","truths","sure","least","truth"]) (N:=["least","sure"]) (ix:=[none,some 2]) rfl (by refine ⟨rfl,?_,?_,?_,?_,rfl,?_⟩ <;> decide +kernel) (bV (pvQ nh rfl rfl)) (by intros; exact (aw (i:=0) (show (["least","sure"]:List Str).Nodup by decide +kernel) rfl (Or.inl rfl))) (by intros; exact cV) (by intros; exact (aA aI (pv 1) (pv 0) (fun _ _=>rfl)))))))),zU h⟩
theorem p8 {f:Addr} {fd:FuncData} (D:Def K mg "known_to_all" bH ["views","truths"] f fd) (B:Blt mg) (F_both:FnB P w K mg base 1 "both" ["ones","others"] (hU K)) (F_known:FnB P w K mg base 1 "known" ["view","truths"] (d5 K)):FnB P w K mg base 2 "known_to_all" ["views","truths"] (dD K):=by
 refine D.ok fU (fun vs H Q E h=>oz h) (fun cdv A outer s H vs Q E hr h=>?_)
 have hu:=hr.units0
 have hux:=hr.units64
 exact ⟨gz K,(af (ax (i:=2) fU.nd rfl (Or.inl rfl) (ar uR (cE (ao eU ae)) (aO br rfl B.len boot_len (ad (pvQ j3 rfl rfl) ae))))
  (af (bS PassesOwn.never rfl (bV (pvQ oF rfl rfl)) (aw (i:=3) fU.nd rfl (Or.inl rfl)) (am (ax (i:=2) fU.nd rfl (Or.inl rfl) (aq F_both (hr.mono (by decide)) (ad (pvQ j4 rfl rfl) (bF (aq F_known (hr.mono (by decide)) (ad (pvQ oG rfl rfl) (ad (pvQ j3 rfl rfl) ae))) ae))))))
  (am (aC (pvQ j4 rfl rfl))))),pp h⟩
theorem BB {f:Addr} {fd:FuncData} (D:Def K mg "seen" gf ["piles","view"] f fd) (B:Blt mg) (F_known:FnB P w K mg base 1 "known" ["view","truths"] (d5 K)):FnB P w K mg base 2 "seen" ["piles","view"] (jH K):=by
 refine D.ok By (fun vs H Q E h=>zV h) (fun cdv A outer s H vs Q E hr h=>?_)
 have hu:=hr.units0
 have hux:=hr.units64
 exact ⟨pz K,(am (aC (aq F_known (hr.mono (by decide)) (ad (pvQ u9 rfl rfl) (fh (dz (sc:=(aa gf)) (NX:=["piles","view"]) (N:=["pile","least","piles"]) (ix:=[none,none,some 0]) rfl (by refine ⟨rfl,?_,?_,?_,?_,rfl,?_⟩ <;> decide +kernel) (oT bu bu rfl B.zip (ad (pvQ Ap rfl rfl) (ad (pvQ u9 rfl rfl) ae))) (by intros; exact (dL rfl (aS (aw (i:=0) (show (["pile","least","piles"]:List Str).Nodup by decide +kernel) rfl (Or.inl rfl)) (aS (aw (i:=1) (show (["pile","least","piles"]:List Str).Nodup by decide +kernel) rfl (Or.inl rfl)) cT)))) (by intros; exact cV) (by intros; exact (ek (BW hu) (pv 0) (aA aI (pv 2) (pv 1) (fun _ _=>rfl)) (aW _)))) ae))))),Bk h⟩
theorem sP {f:Addr} {fd:FuncData} (D:Def K mg "_law_mixed" ca ["_law_base","_law_k"] f fd) (B:Blt mg):FnB P w K mg base 1 "_law_mixed" ["_law_base","_law_k"] (eA K):=by
 refine D.ok js (fun vs H Q E h=>ql h) (fun cdv A outer s H vs Q E hr h=>?_)
 have hu:=hr.units0
 have hux:=hr.units64
 exact ⟨ii K,(af (ax (i:=2) js.nd rfl (Or.inl rfl) (ar bA (ar di (ar bL (ar bL (pvQ qQ rfl rfl) (ar di (pvQ kT rfl rfl) aj)) aj) aj) aj))
  (af (ax (i:=2) js.nd rfl (Or.inl rfl) (ar bA (ar bL (ar di (pvQ iU rfl rfl) (pvQ iU rfl rfl)) (ar di (pvQ kT rfl rfl) aj)) aj))
  (am (aC (ar cU (ar bA (ar di (pvQ iU rfl rfl) aj) aj) aj))))),r0 h⟩
theorem ve {f:Addr} {fd:FuncData} (D:Def K mg "_law_cell" cG ["_law_script","_law_k"] f fd) (B:Blt mg):FnB P w K mg base 1 "_law_cell" ["_law_script","_law_k"] (aK K):=by
 refine D.ok iG (fun vs H Q E h=>rY h) (fun cdv A outer s H vs Q E hr h=>?_)
 have hu:=hr.units0
 have hux:=hr.units64
 exact ⟨i5 K,(af (bU (aU Aw (pvQ eG rfl rfl) (aO br rfl B.len boot_len (ad (pvQ fD rfl rfl) ae)) (aW _)) (am (aC (aA aI (pvQ fD rfl rfl) (pvQ eG rfl rfl) (fun _ _=>rfl)))) bg)
  (af (ax (i:=2) iG.nd rfl (Or.inl rfl) (ar bL (ar di (pvQ eG rfl rfl) aj) aj))
  (af (bU (aU jz (aO br rfl B.len boot_len (ad (pvQ fD rfl rfl) ae)) aj (aW _)) (am (ax (i:=2) iG.nd rfl (Or.inl rfl) (ar bL (ar di (aA aI (pvQ fD rfl rfl) (ar bA (ar di (pvQ eG rfl rfl) aj) (aO br rfl B.len boot_len (ad (pvQ fD rfl rfl) ae))) (fun _ _=>rfl)) aj) (ar di (pvQ eG rfl rfl) aj)))) bg)
  (af (ax (i:=2) iG.nd rfl (Or.inl rfl) (ar bA (ar di (pvQ gT rfl rfl) (pvQ gT rfl rfl)) aj))
  (am (aC (ar bA (ar di (ar bL (pvQ gT rfl rfl) (pvQ eG rfl rfl)) (ar bL (pvQ gT rfl rfl) aj)) aj))))))),ux h⟩
theorem p9 {f:Addr} {fd:FuncData} (D:Def K mg "_law_product" bM ["_law_many"] f fd) (B:Blt mg):FnB P w K mg base 1 "_law_product" ["_law_many"] (cR K):=by
 refine D.ok fV (fun vs H Q E h=>ou h) (fun cdv A outer s H vs Q E hr h=>?_)
 have hu:=hr.units0
 have hux:=hr.units64
 exact ⟨gx K,(af (ax (i:=1) fV.nd rfl (Or.inl rfl) aj)
  (af (bS PassesOwn.never rfl (dr rfl B.range (ad (pvQ oH rfl rfl) ae)) (aw (i:=2) fV.nd rfl (Or.inl rfl)) (am (ax (i:=1) fV.nd rfl (Or.inl rfl) (ar di (pvQ j5 rfl rfl) (ar bL (pvQ oI rfl rfl) aj)))))
  (am (aC (pvQ j5 rfl rfl))))),pf h⟩
theorem sQ {f:Addr} {fd:FuncData} (D:Def K mg "_law_count" bT ["_law_cards","_law_sizes"] f fd) (B:Blt mg) (F__law_product:FnB P w K mg base 1 "_law_product" ["_law_many"] (cR K)):FnB P w K mg base 2 "_law_count" ["_law_cards","_law_sizes"] (dI K):=by
 refine D.ok gU (fun vs H Q E h=>qk h) (fun cdv A outer s H vs Q E hr h=>?_)
 have hu:=hr.units0
 have hux:=hr.units64
 exact ⟨ig K,(af (ax (i:=2) gU.nd rfl (Or.inl rfl) (aq F__law_product (hr.mono (by decide)) (ad (pvQ kU rfl rfl) ae)))
  (af (bS PassesOwn.never rfl (bV (ar mS (pvQ kW rfl rfl) (cE (aR (ar jh (pvQ kU rfl rfl) (aO (ji rfl) rfl B.sum boot_sum (ad (pvQ kW rfl rfl) ae))) ae)))) (aw (i:=3) gU.nd rfl (Or.inl rfl)) (am (ax (i:=2) gU.nd rfl (Or.inl rfl) (ar cU (pvQ kX rfl rfl) (aq F__law_product (hr.mono (by decide)) (ad (pvQ qR rfl rfl) ae))))))
  (am (aC (pvQ kX rfl rfl))))),rZ h⟩
theorem vf {f:Addr} {fd:FuncData} (D:Def K mg "_law_pack" bQ ["_law_script","_law_at","_law_most"] f fd) (B:Blt mg) (F__law_cell:FnB P w K mg base 1 "_law_cell" ["_law_script","_law_k"] (aK K)) (F__law_count:FnB P w K mg base 2 "_law_count" ["_law_cards","_law_sizes"] (dI K)):FnB P w K mg base 3 "_law_pack" ["_law_script","_law_at","_law_most"] (fb K):=by
 refine D.ok fj (fun vs H Q E h=>sd h) (fun cdv A outer s H vs Q E hr h=>?_)
 have hu:=hr.units0
 have hux:=hr.units64
 exact ⟨i8 K,(af (ax (i:=3) fj.nd rfl (Or.inl rfl) (ar bA (aq F__law_cell (hr.mono (by decide)) (ad (pvQ fE rfl rfl) (ad (pvQ fF rfl rfl) ae))) aj))
  (af (bU (aU eI (ar bA (ar cU (aq F__law_cell (hr.mono (by decide)) (ad (pvQ fE rfl rfl) (ad (pvQ fF rfl rfl) ae))) aj) aj) aj (aW _)) (am (ax (i:=3) fj.nd rfl (Or.inl rfl) (ar bL aj (ar bA (ar cU (aq F__law_cell (hr.mono (by decide)) (ad (pvQ fE rfl rfl) (ad (pvQ fF rfl rfl) ae))) aj) aj)))) bg)
  (af (ax (i:=4) fj.nd rfl (Or.inl rfl) (cE ae))
  (af (bS PassesOwn.never rfl (dr rfl B.range (aR (ar bL aj (ar bA (aq F__law_cell (hr.mono (by decide)) (ad (pvQ fE rfl rfl) (aR (ar bL (pvQ fF rfl rfl) aj) ae))) aj)) ae)) (aw (i:=5) fj.nd rfl (Or.inl rfl)) (am (eV (ic PySem.F.plainAttrs_list PySem.F.slot_list_append PySem.F.type_list_append dt (pvQ cf rfl rfl) (aR (ar bA (aq F__law_cell (hr.mono (by decide)) (ad (pvQ fE rfl rfl) (aR (ar bL (ar bL (pvQ fF rfl rfl) aj) (pvQ sG rfl rfl)) ae))) (ar bL (aO (rl rfl) rfl B.min boot_min (ao aj (aR (ar jh (pvQ fG rfl rfl) (aO (ji rfl) rfl B.sum boot_sum (ad (pvQ cf rfl rfl) ae))) ae))) aj)) ae)))))
  (af (lm PassesOwn.never (aU jz (aq F__law_count (hr.mono (by decide)) (ad (pvQ fG rfl rfl) (ad (pvQ cf rfl rfl) ae))) (pvQ sF rfl rfl) (aW _)) (af (bU (aU jz (aO (mF rfl) rfl B.max boot_max (ad (pvQ cf rfl rfl) ae)) (ar jh (pvQ fG rfl rfl) (aO (ji rfl) rfl B.sum boot_sum (ad (pvQ cf rfl rfl) ae))) (aW _)) (am (ib (ar jh (aO (mF rfl) rfl B.max boot_max (ad (pvQ cf rfl rfl) ae)) aj) (jg (pvQ cf rfl rfl) (ic PySem.F.plainAttrs_list PySem.F.slot_list_index PySem.F.type_list_index zv (pvQ cf rfl rfl) (bF (aO (mF rfl) rfl B.max boot_max (ad (pvQ cf rfl rfl) ae)) ae)) gW))) bg)
  (am (ax (i:=3) fj.nd rfl (Or.inl rfl) (ar jh (pvQ fG rfl rfl) aj)))))
  (am (aC (bx (ad (pvQ fG rfl rfl) (ad (pvQ cf rfl rfl) ae)))))))))),uC h⟩
theorem sR {f:Addr} {fd:FuncData} (D:Def K mg "_law_least" bN ["_law_signs"] f fd) (B:Blt mg):FnB P w K mg base 1 "_law_least" ["_law_signs"] (eB K):=by
 refine D.ok fH (fun vs H Q E h=>qm h) (fun cdv A outer s H vs Q E hr h=>?_)
 have hu:=hr.units0
 have hux:=hr.units64
 exact ⟨ij K,(af (ax (i:=1) fH.nd rfl (Or.inl rfl) Ah)
  (af (ax (i:=2) fH.nd rfl (Or.inl rfl) (cE ae))
  (af (bS PassesOwn.never rfl (fK bu rfl B.enumerate (by decide) (ad (pvQ qS rfl rfl) ae)) (dL rfl (aS (aw (i:=3) fH.nd rfl (Or.inl rfl)) (aS (aw (i:=4) fH.nd rfl (Or.inl rfl)) cT))) (af (bU (aU (yT hux) (pvQ iW rfl rfl) (pvQ iV rfl rfl) rfl) (am (ib (pvQ qT rfl rfl) (jg (pvQ iV rfl rfl) (pvQ iW rfl rfl) (Dw hux)))) bg)
  (am (eV (ic PySem.F.plainAttrs_list PySem.F.slot_list_append PySem.F.type_list_append dt (pvQ kY rfl rfl) (bb (Bv hux (pvQ iV rfl rfl) (pvQ iW rfl rfl) (fun _ _=>rfl)) ae))))))
  (am (aC (pvQ kY rfl rfl)))))),r6 h⟩
theorem sS {f:Addr} {fd:FuncData} (D:Def K mg "_law_views" aN ["_law_script","_law_at","_law_deals","_law_hands"] f fd) (B:Blt mg) (F__law_cell:FnB P w K mg base 1 "_law_cell" ["_law_script","_law_k"] (aK K)) (F__law_least:FnB P w K mg base 1 "_law_least" ["_law_signs"] (eB K)) (F__law_mixed:FnB P w K mg base 1 "_law_mixed" ["_law_base","_law_k"] (eA K)):FnB P w K mg base 2 "_law_views" ["_law_script","_law_at","_law_deals","_law_hands"] (eC K):=by
 refine D.ok cg (fun vs H Q E h=>qq h) (fun cdv A outer s H vs Q E hr h=>?_)
 have hu:=hr.units0
 have hux:=hr.units64
 exact ⟨ik K,(af (ax (i:=4) cg.nd rfl (Or.inl rfl) (cE ae))
  (af (bS PassesOwn.never rfl (dr rfl B.range (ad (pvQ qV rfl rfl) ae)) (aw (i:=5) cg.nd rfl (Or.inr rfl)) (af (ax (i:=6) cg.nd rfl (Or.inl rfl) (ar bA (aq F__law_cell (hr.mono (by decide)) (ad (pvQ kZ rfl rfl) (aR (ar bL (pvQ lc rfl rfl) (pvQ lf rfl rfl)) ae))) aj))
  (af (ax (i:=7) cg.nd rfl (Or.inl rfl) (ar bA (ar cU (aq F__law_cell (hr.mono (by decide)) (ad (pvQ kZ rfl rfl) (aR (ar bL (pvQ lc rfl rfl) (pvQ lf rfl rfl)) ae))) aj) (ar BL aj aj)))
  (af (ax (i:=8) cg.nd rfl (Or.inl rfl) (cE ae))
  (af (bS PassesOwn.never rfl (fK bu rfl B.enumerate (by decide) (ad (pvQ qU rfl rfl) ae)) (dL rfl (aS (aw (i:=9) cg.nd rfl (Or.inl rfl)) (aS (aw (i:=10) cg.nd rfl (Or.inl rfl)) cT))) (af (ax (i:=11) cg.nd rfl (Or.inl rfl) (aq F__law_mixed (hr.mono (by decide)) (ad (pvQ lg rfl rfl) (ad (pvQ qX rfl rfl) ae))))
  (af (ax (i:=12) cg.nd rfl (Or.inl rfl) (g9 uS rfl B.tuple boot_tuple (fh (dz (sc:=(aa aN)) (NX:=["_law_script","_law_at","_law_deals","_law_hands","_law_views_here","_law_hand","_law_way","_law_base","_law_signs","_law_place","_law_deal","_law_number","_law_own"]) (N:=["_law_card","_law_who","_law_hand"]) (ix:=[none,none,some 5]) rfl (by refine ⟨rfl,?_,?_,?_,?_,rfl,?_⟩ <;> decide +kernel) (fK mE rfl B.enumerate (by decide) (ad (pvQ pO rfl rfl) ae)) (by intros; exact (dL rfl (aS (aw (i:=0) (show (["_law_card","_law_who","_law_hand"]:List Str).Nodup by decide +kernel) rfl (Or.inl rfl)) (aS (aw (i:=1) (show (["_law_card","_law_who","_law_hand"]:List Str).Nodup by decide +kernel) rfl (Or.inl rfl)) cT)))) (by intros; exact (iM (aU eI (pv 1) (pv 2) (aW _)))) (by intros; exact (pv 0))) ae)))
  (am (eV (ic PySem.F.plainAttrs_list PySem.F.slot_list_append PySem.F.type_list_append dt (pvQ lh rfl rfl) (bb (aA aI (cE (ad (pvQ km rfl rfl) (bq (bx (ad (pvQ km rfl rfl) (aR (ar bA (pvQ kl rfl rfl) aj) ae))) (aR (ar bA (pvQ kl rfl rfl) (ar bL aj (ar bA (pvQ lg rfl rfl) aj))) ae)))) (pvQ qW rfl rfl) (fun _ _=>rfl)) ae)))))))
  (am (eV (ic PySem.F.plainAttrs_list PySem.F.slot_list_append PySem.F.type_list_append dt (pvQ ld rfl rfl) (bF (aq F__law_least (hr.mono (by decide)) (ad (pvQ lh rfl rfl) ae)) ae)))))))))
  (am (aC (pvQ ld rfl rfl))))),se h⟩
theorem ml {f:Addr} {fd:FuncData} (D:Def K mg "_law_words" cb ["_law_saying_here"] f fd) (B:Blt mg):∀ n,FnB P w K mg base (1 + n) "_law_words" ["_law_saying_here"] (cZ K n)
 | 0=>D.ok (k:=0) fI (fun vs H Q E h=>(lS h).elim) (fun cdv A outer s H vs Q E hr h=>(lS h).elim)
 | n + 1=>by
  have F__law_words:=ml D B n
  refine D.ok (k:=1 + n) fI (fun vs H Q E h=>qu h) (fun cdv A outer s H vs Q E hr h=>?_)
  have hu:=hr.units0
  have hux:=hr.units64
  exact ⟨ip K n,(af (ax (i:=1) fI.nd rfl (Or.inl rfl) aj)
  (af (bS PassesOwn.never rfl (tN (zl CU (pvQ qY rfl rfl) (AU aj) AT)) (aw (i:=2) fI.nd rfl (Or.inl rfl)) (am (bU (PW.pt (tI (fB (aO jO rfl B.isinstance boot_isinstance (ad (pvQ gE rfl rfl) (ad (ku (v:=.ty "tuple") rfl B.tuple boot_tuple rfl) ae)))) (tI (aU (BX hu) (pvQ gE rfl rfl) (bx ae) (aW _)) (v2 (fB (aO jO rfl B.isinstance boot_isinstance (bb (aA bC (pvQ gE rfl rfl) aj (fun _ _=>rfl)) (ad (ku (v:=.ty "str") rfl B.str boot_str rfl) ae)))))))) (am (ax (i:=1) fI.nd rfl (Or.inl rfl) (ar bL (pvQ li rfl rfl) (aq F__law_words (hr.mono (by omega)) (ad (pvQ gE rfl rfl) ae))))) bg)))
  (am (aC (pvQ li rfl rfl))))),si h⟩
theorem sU {f:Addr} {fd:FuncData} (D:Def K mg "_law_group" cH ["_law_number","_law_hands"] f fd) (B:Blt mg):FnB P w K mg base 1 "_law_group" ["_law_number","_law_hands"] (cc K):=by
 refine D.ok sH (fun vs H Q E h=>qr h) (fun cdv A outer s H vs Q E hr h=>?_)
 have hu:=hr.units0
 have hux:=hr.units64
 exact ⟨im K,(am (aC (g9 uS rfl B.tuple boot_tuple (fh (dz (sc:=(aa cH)) (NX:=["_law_number","_law_hands"]) (N:=["_law_hand","_law_number"]) (ix:=[none,some 0]) rfl (by refine ⟨rfl,?_,?_,?_,?_,rfl,?_⟩ <;> decide +kernel) (dr rfl B.range (ad (pvQ qZ rfl rfl) ae)) (by intros; exact (aw (i:=0) (show (["_law_hand","_law_number"]:List Str).Nodup by decide +kernel) rfl (Or.inl rfl))) (by intros; exact (iM (aU eI (ar bA (ar cU (pv 1) (aA aI (cE (ao aj (ao aj (ao aj (ao aj (ao aj ae)))))) (pv 0) (fun _ _=>rfl))) aj) aj (aW _)))) (by intros; exact (pv 0))) ae)))),sf h⟩
theorem vg {f:Addr} {fd:FuncData} (D:Def K mg "_law_pool" bJ ["_law_script","_law_at","_law_cards","_law_hands"] f fd) (B:Blt mg) (F__law_cell:FnB P w K mg base 1 "_law_cell" ["_law_script","_law_k"] (aK K)):FnB P w K mg base 2 "_law_pool" ["_law_script","_law_at","_law_cards","_law_hands"] (fc K):=by
 refine D.ok iH (fun vs H Q E h=>sj h) (fun cdv A outer s H vs Q E hr h=>?_)
 have hu:=hr.units0
 have hux:=hr.units64
 exact ⟨ja K,(af (ax (i:=4) iH.nd rfl (Or.inl rfl) (cE (bq (bx (ao ba (aR (ar bA (aq F__law_cell (hr.mono (by decide)) (ad (pvQ lZ rfl rfl) (ad (pvQ ma rfl rfl) ae))) (pvQ me rfl rfl)) ae))) ae)))
  (af (bS PassesOwn.never rfl (dr rfl B.range (aR (ar di aj (g9 xU rfl B.int boot_int (vN (ek jz (pvQ md rfl rfl) aj (aW _)) ae))) ae)) (aw (i:=5) iH.nd rfl (Or.inl rfl)) (af (ax (i:=6) iH.nd rfl (Or.inl rfl) (aq F__law_cell (hr.mono (by decide)) (ad (pvQ lZ rfl rfl) (aR (ar bL (ar bL (pvQ ma rfl rfl) aj) (pvQ sI rfl rfl)) ae))))
  (am (eV (ic PySem.F.plainAttrs_list PySem.F.slot_list_append PySem.F.type_list_append dt (pvQ mf rfl rfl) (bq (bx (ao ba (aR (ar bA (pvQ mi rfl rfl) (ar bL (pvQ me rfl rfl) aj)) (aR (ar bA (ar cU (pvQ mi rfl rfl) aj) (pvQ md rfl rfl)) ae)))) ae))))))
  (am (aC (pvQ mf rfl rfl))))),uE h⟩
theorem re {f:Addr} {fd:FuncData} (D:Def K mg "_law_saying" aT ["_law_script","_law_at","_law_cards","_law_hands","_law_most"] f fd) (B:Blt mg) (F__law_cell:FnB P w K mg base 1 "_law_cell" ["_law_script","_law_k"] (aK K)) (F__law_group:FnB P w K mg base 1 "_law_group" ["_law_number","_law_hands"] (cc K)) (F__law_pool:FnB P w K mg base 2 "_law_pool" ["_law_script","_law_at","_law_cards","_law_hands"] (fc K)) (F__law_words:FnB P w K mg base 71 "_law_words" ["_law_saying_here"] (cZ K 70)):FnB P w K mg base 72 "_law_saying" ["_law_script","_law_at","_law_cards","_law_hands","_law_most"] (dQ K):=by
 refine D.ok bO (fun vs H Q E h=>pF h) (fun cdv A outer s H vs Q E hr h=>?_)
 have hu:=hr.units0
 have hux:=hr.units64
 exact ⟨gN K,(af (ax (i:=5) bO.nd rfl (Or.inl rfl) (aq F__law_pool (hr.mono (by decide)) (ad (pvQ iI rfl rfl) (ad (pvQ iJ rfl rfl) (ad (pvQ pP rfl rfl) (ad (pvQ cA rfl rfl) ae))))))
  (af (bS PassesOwn.never rfl (dr rfl B.range (aR (ar bA (aq F__law_cell (hr.mono (by decide)) (ad (pvQ iI rfl rfl) (aR (ar bL (pvQ iJ rfl rfl) aj) ae))) aj) ae)) (aw (i:=6) bO.nd rfl (Or.inl rfl)) (af (ax (i:=7) bO.nd rfl (Or.inl rfl) (aq F__law_cell (hr.mono (by decide)) (ad (pvQ iI rfl rfl) (aR (ar bL (ar bL (pvQ iJ rfl rfl) aj) (pvQ pR rfl rfl)) ae))))
  (af (ax (i:=8) bO.nd rfl (Or.inl rfl) (aA aI (pvQ eP rfl rfl) (Av xR aj) (fun _ _=>rfl)))
  (af (ax (i:=9) bO.nd rfl (Or.inl rfl) (aA aI (pvQ eP rfl rfl) (ar bA (ar cU (pvQ bR rfl rfl) aj) (aO br rfl B.len boot_len (ad (pvQ eP rfl rfl) ae))) (fun _ _=>rfl)))
  (af (ax (i:=10) bO.nd rfl (Or.inl rfl) (cE (bq (bx (ao ba (ad (pvQ b7 rfl rfl) ae))) (bq (bx (ao ba (ad (pvQ b7 rfl rfl) (ad (pvQ cS rfl rfl) ae)))) (bq (bx (ao ba (ad (pvQ cS rfl rfl) (ad (pvQ b7 rfl rfl) ae)))) (bq (bx (ao ba (ad (pvQ cS rfl rfl) ae))) ae))))))
  (af (ax (i:=10) bO.nd rfl (Or.inl rfl) (ar mS (pvQ dl rfl rfl) (cE (bq (bx (ao ba (aR (ar bA (ar cU (pvQ bR rfl rfl) aj) (pvQ cA rfl rfl)) (ad (pvQ b7 rfl rfl) ae)))) (bq (bx (ao ba (aR (ar bA (ar cU (pvQ bR rfl rfl) aj) (pvQ cA rfl rfl)) (bq (bx (ao ba (ad (pvQ b7 rfl rfl) ae))) ae)))) ae)))))
  (af (ax (i:=10) bO.nd rfl (Or.inl rfl) (ar mS (pvQ dl rfl rfl) (cE (bq (bx (ao ba (bF (aq F__law_group (hr.mono (by decide)) (aR (ar cU (pvQ bR rfl rfl) aj) (ad (pvQ cA rfl rfl) ae))) (ad (pvQ b7 rfl rfl) ae)))) (bq (bx (ao ba (bF (aq F__law_group (hr.mono (by decide)) (aR (ar cU (pvQ bR rfl rfl) aj) (ad (pvQ cA rfl rfl) ae))) (ad (pvQ cS rfl rfl) ae)))) ae)))))
  (af (ax (i:=10) bO.nd rfl (Or.inl rfl) (ar mS (pvQ dl rfl rfl) (cE (bq (bx (ao ba (bF (aq F__law_group (hr.mono (by decide)) (aR (ar cU (pvQ bR rfl rfl) aj) (ad (pvQ cA rfl rfl) ae))) (ad (pvQ b7 rfl rfl) ae)))) (bq (bx (ao ba (aR (ar bA (ar cU (pvQ bR rfl rfl) aj) (pvQ cA rfl rfl)) (ad (pvQ cS rfl rfl) ae)))) ae)))))
  (af (ax (i:=10) bO.nd rfl (Or.inl rfl) (ar mS (pvQ dl rfl rfl) (cE (bq (bx (ao ba (ad (pvQ cS rfl rfl) (bq (bx (ao ba (ad (pvQ b7 rfl rfl) ae))) ae)))) (bq (bx (ao ba (ad (pvQ b7 rfl rfl) (bq (bx (ao ba (aR (ar bA (ar cU (pvQ bR rfl rfl) aj) (pvQ cA rfl rfl)) (ad (pvQ cS rfl rfl) ae)))) ae)))) ae)))))
  (am (bU (aU sX (aq F__law_words (hr.mono (by decide)) (bb (aA aI (pvQ dl rfl rfl) (ar bA (pvQ bR rfl rfl) aj) (fun _ _=>rfl)) ae)) (pvQ pQ rfl rfl) (aW _)) (am (eV (ic PySem.F.plainAttrs_list PySem.F.slot_list_append PySem.F.type_list_append dt (pvQ eP rfl rfl) (bb (aA aI (pvQ dl rfl rfl) (ar bA (pvQ bR rfl rfl) aj) (fun _ _=>rfl)) ae)))) bg)))))))))))
  (am (aC (aA aI (pvQ eP rfl rfl) (Av xR aj) (fun _ _=>rfl)))))),qv h⟩
theorem rf {f:Addr} {fd:FuncData} (D:Def K mg "_law_closed" bp ["_law_views_here","_law_some"] f fd) (B:Blt mg):FnB P w K mg base 1 "_law_closed" ["_law_views_here","_law_some"] (dS K):=by
 refine D.ok fk (fun vs H Q E h=>pI h) (fun cdv A outer s H vs Q E hr h=>?_)
 have hu:=hr.units0
 have hux:=hr.units64
 exact ⟨gQ K,(af (bS PassesOwn.never rfl (bV (pvQ pS rfl rfl)) (aw (i:=2) fk.nd rfl (Or.inr rfl)) (af (dM (i:=3) fk.nd rfl rfl (sc:=(aa bp)) (NX:=["_law_views_here","_law_some","_law_view","_law_inside","_law_place","_law_least_here"]) (N:=["_law_place","_law_view"]) (ix:=[none,some 2]) rfl (by refine ⟨rfl,?_,?_,?_,?_,rfl,?_⟩ <;> decide +kernel) (bV (pvQ kn rfl rfl)) (by intros; exact (aw (i:=0) (show (["_law_place","_law_view"]:List Str).Nodup by decide +kernel) rfl (Or.inl rfl))) (by intros; exact cV) (by intros; exact (aA aI (pv 1) (pv 0) (fun _ _=>rfl))))
  (am (bS PassesOwn.never rfl (fK bu rfl B.enumerate (by decide) (ad (pvQ pT rfl rfl) ae)) (dL rfl (aS (aw (i:=4) fk.nd rfl (Or.inl rfl)) (aS (aw (i:=5) fk.nd rfl (Or.inl rfl)) cT))) (am (bU (PW.pt (tI (aU rB (pvQ pW rfl rfl) (pvQ pU rfl rfl) rfl) (v2 (aU fX (pvQ pV rfl rfl) (pvQ kn rfl rfl) rfl)))) (am (aC eU)) bg))))))
  (am (aC eU))),qE h⟩
theorem rg {f:Addr} {fd:FuncData} (D:Def K mg "_law_shared" bf ["_law_told","_law_views_here","_law_facts","_law_shared_here","_law_deal"] f fd) (B:Blt mg) (F__law_closed:FnB P w K mg base 1 "_law_closed" ["_law_views_here","_law_some"] (dS K)):FnB P w K mg base 2 "_law_shared" ["_law_told","_law_views_here","_law_facts","_law_shared_here","_law_deal"] (dU K):=by
 refine D.ok fm (fun vs H Q E h=>pJ h) (fun cdv A outer s H vs Q E hr h=>?_)
 have hu:=hr.units0
 have hux:=hr.units64
 exact ⟨gR K,(af (bU (PW.pt (wD (aU fX (aA bC (pvQ dF rfl rfl) aj (fun _ _=>rfl)) (bx (ao ba (ao ba ae))) rfl) (tH (aU wI (ek eI (aA bC (pvQ dF rfl rfl) aj (fun _ _=>rfl)) ba (aW _)) (aA aI (pvQ pZ rfl rfl) (pvQ ko rfl rfl) (fun _ _=>rfl)) (aW _))))) (am (aC eU)) bg)
  (af (bU (aU eI (aA bC (pvQ dF rfl rfl) aj (fun _ _=>rfl)) ba (aW _)) (am (aC (kz (aq F__law_closed (hr.mono (by decide)) (ad (pvQ pX rfl rfl) (bb (aA bC (pvQ dF rfl rfl) aj (fun _ _=>rfl)) ae))) (jL (ek fX eU (dz (sc:=(aa bf)) (NX:=["_law_told","_law_views_here","_law_facts","_law_shared_here","_law_deal","_law_last","_law_k","_law_place"]) (N:=["_law_place","_law_facts"]) (ix:=[none,some 2]) rfl (by refine ⟨rfl,?_,?_,?_,?_,rfl,?_⟩ <;> decide +kernel) (bV (aA bC (pvQ dF rfl rfl) aj (fun _ _=>rfl))) (by intros; exact (aw (i:=0) (show (["_law_place","_law_facts"]:List Str).Nodup by decide +kernel) rfl (Or.inl rfl))) (by intros; exact cV) (by intros; exact (aA aI (pv 1) (pv 0) (fun _ _=>rfl)))) rfl))))) bg)
  (af (ax (i:=5) fm.nd rfl (Or.inl rfl) (pvQ ko rfl rfl))
  (af (bS PassesOwn.never rfl (bV (aA bC (pvQ dF rfl rfl) aj (fun _ _=>rfl))) (dL rfl (aS (aw (i:=6) fm.nd rfl (Or.inl rfl)) (aS (aw (i:=7) fm.nd rfl (Or.inl rfl)) cT))) (am (ax (i:=5) fm.nd rfl (Or.inl rfl) (pvQ p6 rfl rfl))))
  (am (aC (ek yU (aA aI (pvQ pY rfl rfl) (pvQ p0 rfl rfl) (fun _ _=>rfl)) eU (aW _)))))))),qF h⟩
theorem vh {f:Addr} {fd:FuncData} (D:Def K mg "_law_held" bY ["_law_told","_law_facts","_law_owned","_law_deal"] f fd) (B:Blt mg):FnB P w K mg base 1 "_law_held" ["_law_told","_law_facts","_law_owned","_law_deal"] (fg K):=by
 refine D.ok va (fun vs H Q E h=>sw h) (fun cdv A outer s H vs Q E hr h=>?_)
 have hu:=hr.units0
 have hux:=hr.units64
 exact ⟨jd K,(af (bU (PW.pt (wD (aU fX (aA bC (pvQ eH rfl rfl) aj (fun _ _=>rfl)) (bx (ao ba (ao ba ae))) rfl) (tH (aU wI (ek eI (aA bC (pvQ eH rfl rfl) aj (fun _ _=>rfl)) ba (aW _)) (aA aI (pvQ sK rfl rfl) (pvQ mj rfl rfl) (fun _ _=>rfl)) (aW _))))) (am (aC eU)) bg)
  (af (bU (aU eI (aA bC (pvQ eH rfl rfl) aj (fun _ _=>rfl)) ba (aW _)) (am (aC (ek yU (aA aI (pvQ sJ rfl rfl) (aA bC (pvQ eH rfl rfl) aj (fun _ _=>rfl)) (fun _ _=>rfl)) eU (aW _)))) bg)
  (am (aC (kz (ek rB (pvQ mj rfl rfl) (aA bC (pvQ eH rfl rfl) aj (fun _ _=>rfl)) rfl) (jL (ek fX eU (dz (sc:=(aa bY)) (NX:=["_law_told","_law_facts","_law_owned","_law_deal"]) (N:=["_law_place","_law_facts"]) (ix:=[none,some 1]) rfl (by refine ⟨rfl,?_,?_,?_,?_,rfl,?_⟩ <;> decide +kernel) (bV (aA bC (pvQ eH rfl rfl) aj (fun _ _=>rfl))) (by intros; exact (aw (i:=0) (show (["_law_place","_law_facts"]:List Str).Nodup by decide +kernel) rfl (Or.inl rfl))) (by intros; exact cV) (by intros; exact (aA aI (pv 1) (pv 0) (fun _ _=>rfl)))) rfl))))))),uQ h⟩
theorem CZ {f:Addr} {fd:FuncData} (D:Def K mg "law" cq ["_law_script"] f fd) (B:Blt mg) {Pt:Addr} (F__law_cell:FnB P w K mg base 1 "_law_cell" ["_law_script","_law_k"] (aK K)) (F__law_group:FnB P w K mg base 1 "_law_group" ["_law_number","_law_hands"] (cc K)) (F__law_held:FnB P w K mg base 1 "_law_held" ["_law_told","_law_facts","_law_owned","_law_deal"] (fg K)) (F__law_pack:FnB P w K mg base 3 "_law_pack" ["_law_script","_law_at","_law_most"] (fb K)) (F__law_saying:FnB P w K mg base 72 "_law_saying" ["_law_script","_law_at","_law_cards","_law_hands","_law_most"] (dQ K)) (F__law_shared:FnB P w K mg base 2 "_law_shared" ["_law_told","_law_views_here","_law_facts","_law_shared_here","_law_deal"] (dU K)) (F__law_views:FnB P w K mg base 2 "_law_views" ["_law_script","_law_at","_law_deals","_law_hands"] (eC K)) (F_common_why:FnB P w K mg base 3 "common_why" ["views","truths","deal"] (eF K (LL Pt))) (F_deals_of:FnB P w K mg base 5 "deals_of" ["cards","sizes"] (fN K)) (F_knows_why:FnB P w K mg base 2 "knows_why" ["view","truths","deal"] (fe K)) (F_truths_of:FnB P w K mg base 39 "truths_of" ["deals","views","S"] (bw K 35)):iL P w K mg base CX0 73 f fd ["_law_script"] (kK K (LL Pt)):=by
 refine D.fn.ok d9 (fun vs H Q E h=>Bo h) (fun cdv A outer s H vs Q E hr h=>?_)
 have hu:=hr.units0
 have hux:=hr.units64
 exact ⟨tu K (LL Pt),(af (ib (aq F__law_pack (hr.mono (by decide)) (ad (pvQ jI rfl rfl) (ao aj (ao aj ae)))) (dL rfl (aS (aw (i:=1) d9.nd rfl (Or.inl rfl)) (aS (aw (i:=2) d9.nd rfl (Or.inl rfl)) cT))))
  (af (ax (i:=3) d9.nd rfl (Or.inl rfl) (aO br rfl B.len boot_len (ad (pvQ wz rfl rfl) ae)))
  (af (ax (i:=4) d9.nd rfl (Or.inl rfl) (aq F_deals_of (hr.mono (by decide)) (ad (pvQ ww rfl rfl) (ad (pvQ wz rfl rfl) ae))))
  (af (ax (i:=5) d9.nd rfl (Or.inr rfl) (aq F__law_views (hr.mono (by decide)) (ad (pvQ jI rfl rfl) (ao aj (ad (pvQ lj rfl rfl) (ad (pvQ nD rfl rfl) ae))))))
  (af (ax (i:=6) d9.nd rfl (Or.inl rfl) (aq F__law_saying (hr.mono (by decide)) (ad (pvQ jI rfl rfl) (ao aj (ad (pvQ ww rfl rfl) (ad (pvQ nD rfl rfl) (ao aj ae)))))))
  (af (ax (i:=7) d9.nd rfl (Or.inl rfl) (ar bA (aq F__law_cell (hr.mono (by decide)) (ad (pvQ jI rfl rfl) (ao aj ae))) (pvQ nD rfl rfl)))
  (af (ax (i:=8) d9.nd rfl (Or.inl rfl) (aq F__law_group (hr.mono (by decide)) (bF (aq F__law_cell (hr.mono (by decide)) (ad (pvQ jI rfl rfl) (ao aj ae))) (ad (pvQ nD rfl rfl) ae))))
  (af (dM (i:=9) d9.nd rfl rfl (sc:=(aa cq)) (NX:=["_law_script","_law_cards","_law_sizes","_law_hands","_law_deals","_law_views_here","_law_saying_here","_law_hand","_law_group_here","_law_some","_law_facts","_law_owned","_law_shared_here","_law_k","_law_deal"]) (N:=["_law_one","_law_views_here"]) (ix:=[none,some 5]) rfl (by refine ⟨rfl,?_,?_,?_,?_,rfl,?_⟩ <;> decide +kernel) (tN (pvQ wB rfl rfl)) (by intros; exact (aw (i:=0) (show (["_law_one","_law_views_here"]:List Str).Nodup by decide +kernel) rfl (Or.inl rfl))) (by intros; exact cV) (by intros; exact (aA aI (pv 1) (pv 0) (fun _ _=>rfl))))
  (af (ax (i:=10) d9.nd rfl (Or.inl rfl) (aq F_truths_of (hr.mono (by decide)) (ad (pvQ lj rfl rfl) (ad (pvQ nE rfl rfl) (ad (pvQ q8 rfl rfl) ae)))))
  (af (ax (i:=11) d9.nd rfl (Or.inl rfl) (aq F_truths_of (hr.mono (by decide)) (ad (pvQ lj rfl rfl) (ad (pvQ nE rfl rfl) (bq (bx (ao ba (ad (pvQ wA rfl rfl) (ad (pvQ q8 rfl rfl) ae)))) ae)))))
  (af (ax (i:=12) d9.nd rfl (Or.inl rfl) (aq F_truths_of (hr.mono (by decide)) (ad (pvQ lj rfl rfl) (ad (pvQ nE rfl rfl) (bq (bx (ao ba (ad (pvQ wB rfl rfl) (ad (pvQ q8 rfl rfl) ae)))) ae)))))
  (af (bS PassesOwn.never rfl (dr rfl B.range (ao aj ae)) (aw (i:=13) d9.nd rfl (Or.inl rfl)) (af (ax (i:=14) d9.nd rfl (Or.inl rfl) (ar bA (aq F__law_cell (hr.mono (by decide)) (ad (pvQ jI rfl rfl) (aR (ar bL aj (pvQ As rfl rfl)) ae))) (aO br rfl B.len boot_len (ad (pvQ lj rfl rfl) ae))))
  (af (bU (h9 (fB (aq F__law_held (hr.mono (by decide)) (bF (aq F_knows_why (hr.mono (by decide)) (bb (aA aI (pvQ nE rfl rfl) (pvQ wA rfl rfl) (fun _ _=>rfl)) (ad (pvQ lO rfl rfl) (ad (pvQ lP rfl rfl) ae)))) (ad (pvQ lO rfl rfl) (ad (pvQ Aq rfl rfl) (ad (pvQ lP rfl rfl) ae))))))) (am (aC eU)) bg)
  (am (bU (h9 (fB (aq F__law_shared (hr.mono (by decide)) (bF (aq F_common_why (hr.mono (by decide)) (ad (pvQ wC rfl rfl) (ad (pvQ lO rfl rfl) (ad (pvQ lP rfl rfl) ae)))) (ad (pvQ wC rfl rfl) (ad (pvQ lO rfl rfl) (ad (pvQ Ar rfl rfl) (ad (pvQ lP rfl rfl) ae)))))))) (am (aC eU)) bg)))))
  (am (aC eU)))))))))))))),CO (fun _ _ l s=>l.sameN s) h⟩
theorem Dy (B:Blt mg) {f1:Addr} {fd1:FuncData} (D_is_whole:Def K mg "is_whole" dO ["thing"] f1 fd1) {f2:Addr} {fd2:FuncData} (D_is_within:Def K mg "is_within" cF ["thing","least","most"] f2 fd2) {f3:Addr} {fd3:FuncData} (D_is_pack:Def K mg "is_pack" dw ["cards","sizes"] f3 fd3) {f4:Addr} {fd4:FuncData} (D_how_many:Def K mg "how_many" ck ["cards","sizes"] f4 fd4) {f5:Addr} {fd5:FuncData} (D_choices:Def K mg "choices" da ["many","taken"] f5 fd5) {f6:Addr} {fd6:FuncData} (D_deals_of:Def K mg "deals_of" cI ["cards","sizes"] f6 fd6) {f7:Addr} {fd7:FuncData} (D_with_one_more:Def K mg "with_one_more" be ["begun","room"] f7 fd7) {f8:Addr} {fd8:FuncData} (D_cards_of:Def K mg "cards_of" dq ["deal","who"] f8 fd8) {f9:Addr} {fd9:FuncData} (D_look_alike:Def K mg "look_alike" b9 ["view","one","other"] f9 fd9) {f10:Addr} {fd10:FuncData} (D_joined:Def K mg "joined" cM ["many","views"] f10 fd10) {f11:Addr} {fd11:FuncData} (D_link:Def K mg "link" fi ["points","one","other"] f11 fd11) {f12:Addr} {fd12:FuncData} (D_end_of:Def K mg "end_of" d7 ["points","thing"] f12 fd12) {f13:Addr} {fd13:FuncData} (D_knows_why:Def K mg "knows_why" bW ["view","truths","deal"] f13 fd13) {f14:Addr} {fd14:FuncData} (D_common_why:Def K mg "common_why" bj ["views","truths","deal"] f14 fd14) {f15:Addr} {fd15:FuncData} (D_roads_from:Def K mg "roads_from" bz ["many","views","deal"] f15 fd15) {f16:Addr} {fd16:FuncData} (D_groups_of:Def K mg "groups_of" bX ["view"] f16 fd16) {f17:Addr} {fd17:FuncData} (D_one_step_on:Def K mg "one_step_on" bc ["views","groups","roads","newest"] f17 fd17) {f18:Addr} {fd18:FuncData} (D_steps_to:Def K mg "steps_to" cJ ["roads","goal"] f18 fd18) {f19:Addr} {fd19:FuncData} (D_truths_of:Def K mg "truths_of" bo ["deals","views","S"] f19 fd19) {f20:Addr} {fd20:FuncData} (D_both:Def K mg "both" ge ["ones","others"] f20 fd20) {f21:Addr} {fd21:FuncData} (D_either:Def K mg "either" d8 ["ones","others"] f21 fd21) {f22:Addr} {fd22:FuncData} (D_known:Def K mg "known" dE ["view","truths"] f22 fd22) {f23:Addr} {fd23:FuncData} (D_known_to_all:Def K mg "known_to_all" bH ["views","truths"] f23 fd23) {f24:Addr} {fd24:FuncData} (D_seen:Def K mg "seen" gf ["piles","view"] f24 fd24) {f25:Addr} {fd25:FuncData} (D__law_mixed:Def K mg "_law_mixed" ca ["_law_base","_law_k"] f25 fd25) {f26:Addr} {fd26:FuncData} (D__law_cell:Def K mg "_law_cell" cG ["_law_script","_law_k"] f26 fd26) {f27:Addr} {fd27:FuncData} (D__law_product:Def K mg "_law_product" bM ["_law_many"] f27 fd27) {f28:Addr} {fd28:FuncData} (D__law_count:Def K mg "_law_count" bT ["_law_cards","_law_sizes"] f28 fd28) {f29:Addr} {fd29:FuncData} (D__law_pack:Def K mg "_law_pack" bQ ["_law_script","_law_at","_law_most"] f29 fd29) {f30:Addr} {fd30:FuncData} (D__law_least:Def K mg "_law_least" bN ["_law_signs"] f30 fd30) {f31:Addr} {fd31:FuncData} (D__law_views:Def K mg "_law_views" aN ["_law_script","_law_at","_law_deals","_law_hands"] f31 fd31) {f32:Addr} {fd32:FuncData} (D__law_words:Def K mg "_law_words" cb ["_law_saying_here"] f32 fd32) {f33:Addr} {fd33:FuncData} (D__law_group:Def K mg "_law_group" cH ["_law_number","_law_hands"] f33 fd33) {f34:Addr} {fd34:FuncData} (D__law_pool:Def K mg "_law_pool" bJ ["_law_script","_law_at","_law_cards","_law_hands"] f34 fd34) {f35:Addr} {fd35:FuncData} (D__law_saying:Def K mg "_law_saying" aT ["_law_script","_law_at","_law_cards","_law_hands","_law_most"] f35 fd35) {f36:Addr} {fd36:FuncData} (D__law_closed:Def K mg "_law_closed" bp ["_law_views_here","_law_some"] f36 fd36) {f37:Addr} {fd37:FuncData} (D__law_shared:Def K mg "_law_shared" bf ["_law_told","_law_views_here","_law_facts","_law_shared_here","_law_deal"] f37 fd37) {f38:Addr} {fd38:FuncData} (D__law_held:Def K mg "_law_held" bY ["_law_told","_law_facts","_law_owned","_law_deal"] f38 fd38) {f39:Addr} {fd39:FuncData} (D_law:Def K mg "law" cq ["_law_script"] f39 fd39) {Pt ct0:Addr} (hfc:fd14.code=.ref ct0) (hC:PySem.W.codeHdIn K ct0 Pt=true) (bm:BM base mg) {t_MOST_CARDS:Tok} (m_MOST_CARDS:mg "MOST_CARDS"=some (.int 12 t_MOST_CARDS)) {t_MOST_HANDS:Tok} (m_MOST_HANDS:mg "MOST_HANDS"=some (.int 5 t_MOST_HANDS)) {t_MOST_DEALS:Tok} (m_MOST_DEALS:mg "MOST_DEALS"=some (.int 2000 t_MOST_DEALS)) (m_reversed:mg "reversed"=none):iL P w K mg base CX0 73 f39 fd39 ["_law_script"] (kK K (LL Pt)):=by
 have F__law_cell:FnB P w K mg base 1 "_law_cell" ["_law_script","_law_k"] (aK K):=ve D__law_cell B
 have F__law_group:FnB P w K mg base 1 "_law_group" ["_law_number","_law_hands"] (cc K):=sU D__law_group B
 have F__law_held:FnB P w K mg base 1 "_law_held" ["_law_told","_law_facts","_law_owned","_law_deal"] (fg K):=vh D__law_held B
 have F__law_product:FnB P w K mg base 1 "_law_product" ["_law_many"] (cR K):=p9 D__law_product B
 have F__law_count:FnB P w K mg base 2 "_law_count" ["_law_cards","_law_sizes"] (dI K):=sQ D__law_count B F__law_product
 have F__law_pack:FnB P w K mg base 3 "_law_pack" ["_law_script","_law_at","_law_most"] (fb K):=vf D__law_pack B F__law_cell F__law_count
 have F__law_pool:FnB P w K mg base 2 "_law_pool" ["_law_script","_law_at","_law_cards","_law_hands"] (fc K):=vg D__law_pool B F__law_cell
 have F__law_words:FnB P w K mg base 71 "_law_words" ["_law_saying_here"] (cZ K 70):=ml D__law_words B 70
 have F__law_saying:FnB P w K mg base 72 "_law_saying" ["_law_script","_law_at","_law_cards","_law_hands","_law_most"] (dQ K):=re D__law_saying B F__law_cell F__law_group F__law_pool F__law_words
 have F__law_closed:FnB P w K mg base 1 "_law_closed" ["_law_views_here","_law_some"] (dS K):=rf D__law_closed B
 have F__law_shared:FnB P w K mg base 2 "_law_shared" ["_law_told","_law_views_here","_law_facts","_law_shared_here","_law_deal"] (dU K):=rg D__law_shared B F__law_closed
 have F__law_least:FnB P w K mg base 1 "_law_least" ["_law_signs"] (eB K):=sR D__law_least B
 have F__law_mixed:FnB P w K mg base 1 "_law_mixed" ["_law_base","_law_k"] (eA K):=sP D__law_mixed B
 have F__law_views:FnB P w K mg base 2 "_law_views" ["_law_script","_law_at","_law_deals","_law_hands"] (eC K):=sS D__law_views B F__law_cell F__law_least F__law_mixed
 have F_groups_of:FnB P w K mg base 1 "groups_of" ["view"] (ff K):=vd D_groups_of B
 have F_one_step_on:FnB P w K mg base 1 "one_step_on" ["views","groups","roads","newest"] (dR K):=q9 D_one_step_on B
 have F_roads_from:FnB P w K mg base 2 "roads_from" ["many","views","deal"] (eE K):=sO D_roads_from B F_groups_of F_one_step_on
 have F_steps_to:FnB P w K mg base 1 "steps_to" ["roads","goal"] (fP K):=vW D_steps_to B m_reversed
 have F_common_why:FnB P w K mg base 3 "common_why" ["views","truths","deal"] (eF K (LL Pt)):=sN D_common_why B hfc hC bm F_roads_from F_steps_to
 have F_choices:FnB P w K mg base 1 "choices" ["many","taken"] (gv K):=xM D_choices B
 have F_is_whole:FnB P w K mg base 1 "is_whole" ["thing"] (fL K):=vS D_is_whole B
 have F_is_within:FnB P w K mg base 2 "is_within" ["thing","least","most"] (du K):=vb D_is_within B F_is_whole
 have F_is_pack:FnB P w K mg base 3 "is_pack" ["cards","sizes"] (gu K):=xL D_is_pack B m_MOST_CARDS m_MOST_HANDS F_is_within
 have F_how_many:FnB P w K mg base 4 "how_many" ["cards","sizes"] (fM K):=vT D_how_many B F_choices F_is_pack
 have F_with_one_more:FnB P w K mg base 1 "with_one_more" ["begun","room"] (dj K):=oJ D_with_one_more B
 have F_deals_of:FnB P w K mg base 5 "deals_of" ["cards","sizes"] (fN K):=vU D_deals_of B m_MOST_DEALS F_how_many F_with_one_more
 have F_look_alike:FnB P w K mg base 1 "look_alike" ["view","one","other"] (eD K):=sL D_look_alike B
 have F_knows_why:FnB P w K mg base 2 "knows_why" ["view","truths","deal"] (fe K):=vc D_knows_why B F_look_alike
 have F_both:FnB P w K mg base 1 "both" ["ones","others"] (hU K):=BA D_both B
 have F_cards_of:FnB P w K mg base 1 "cards_of" ["deal","who"] (fO K):=vV D_cards_of B
 have F_either:FnB P w K mg base 1 "either" ["ones","others"] (hW K):=zb D_either B
 have F_end_of:FnB P w K mg base 1 "end_of" ["points","thing"] (eN K):=za D_end_of B
 have F_link:FnB P w K mg base 2 "link" ["points","one","other"] (jF K):=Bz D_link B F_end_of
 have F_joined:FnB P w K mg base 3 "joined" ["many","views"] (hJ K):=y9 D_joined B F_end_of F_link
 have F_known:FnB P w K mg base 1 "known" ["view","truths"] (d5 K):=At D_known B
 have F_known_to_all:FnB P w K mg base 2 "known_to_all" ["views","truths"] (dD K):=p8 D_known_to_all B F_both F_known
 have F_seen:FnB P w K mg base 2 "seen" ["piles","view"] (jH K):=BB D_seen B F_known
 have F_truths_of:FnB P w K mg base 39 "truths_of" ["deals","views","S"] (bw K 35):=ni D_truths_of B F_both F_cards_of F_either F_joined F_known F_known_to_all F_seen 35
 exact CZ D_law B F__law_cell F__law_group F__law_held F__law_pack F__law_saying F__law_shared F__law_views F_common_why F_deals_of F_knows_why F_truths_of
end
@[elab_as_elim] theorem ofLen1 {α:Type} {P:List α->Prop} (us:List α) (hl:us.length=1) (h:∀ a0:α,P [a0]):P us:=match us,hl with | [a0],_=>h a0
@[elab_as_elim] theorem ofLen2 {α:Type} {P:List α->Prop} (us:List α) (hl:us.length=2) (h:∀ a0 a1:α,P [a0,a1]):P us:=match us,hl with | [a0,a1],_=>h a0 a1
@[elab_as_elim] theorem ofLen3 {α:Type} {P:List α->Prop} (us:List α) (hl:us.length=3) (h:∀ a0 a1 a2:α,P [a0,a1,a2]):P us:=match us,hl with | [a0,a1,a2],_=>h a0 a1 a2
@[elab_as_elim] theorem ofLen4 {α:Type} {P:List α->Prop} (us:List α) (hl:us.length=4) (h:∀ a0 a1 a2 a3:α,P [a0,a1,a2,a3]):P us:=match us,hl with | [a0,a1,a2,a3],_=>h a0 a1 a2 a3
@[elab_as_elim] theorem ofLen5 {α:Type} {P:List α->Prop} (us:List α) (hl:us.length=5) (h:∀ a0 a1 a2 a3 a4:α,P [a0,a1,a2,a3,a4]):P us:=match us,hl with | [a0,a1,a2,a3,a4],_=>h a0 a1 a2 a3 a4
theorem all_mk {l:PySem.W.OpenLaw} {w:World} {K:PySem.W.Frag} {h:Heap} {mg:Str->Option Value} {fa f1 f2 f3 f4 f5 f6 f7 f8 f9 f10 f11 f12 f13 f14 f15 f16 f17 f18 f19 f20 f21 f22 f23 f24 f25 f26 f27 f28 f29 f30 f31 f32 f33 f34 f35 f36 f37 f38 f39:Addr} (X:K.In h) (G:h.Ns mainGlobals mg) (hfa:mg "law"=some (.ref fa))
  {od1 an1 od2 an2 od3 an3 od4 an4 od5 an5 od6 an6 od7 an7 od8 an8 od9 an9 od10 an10 od11 an11 od12 an12 od13 an13 od14 an14 od15 an15 od16 an16 od17 an17 od18 an18 od19 an19 od20 an20 od21 an21 od22 an22 od23 an23 od24 an24 od25 an25 od26 an26 od27 an27 od28 an28 od29 an29 od30 an30 od31 an31 od32 an32 od33 an33 od34 an34 od35 an35 od36 an36 od37 an37 od38 an38 od39 an39:Option Addr} {sl1 sl2 sl3 sl4 sl5 sl6 sl7 sl8 sl9 sl10 sl11 sl12 sl13 sl14 sl15 sl16 sl17 sl18 sl19 sl20 sl21 sl22 sl23 sl24 sl25 sl26 sl27 sl28 sl29 sl30 sl31 sl32 sl33 sl34 sl35 sl36 sl37 sl38 sl39:Array (Option Value)} {oc1 kV1 dc1 pm1 cd1 ct1 oc2 kV2 dc2 pm2 cd2 ct2 oc3 kV3 dc3 pm3 cd3 ct3 oc4 kV4 dc4 pm4 cd4 ct4 oc5 kV5 dc5 pm5 cd5 ct5 oc6 kV6 dc6 pm6 cd6 ct6 oc7 kV7 dc7 pm7 cd7 ct7 oc8 kV8 dc8 pm8 cd8 ct8 oc9 kV9 dc9 pm9 cd9 ct9 oc10 kV10 dc10 pm10 cd10 ct10 oc11 kV11 dc11 pm11 cd11 ct11 oc12 kV12 dc12 pm12 cd12 ct12 oc13 kV13 dc13 pm13 cd13 ct13 oc14 kV14 dc14 pm14 cd14 ct14 oc15 kV15 dc15 pm15 cd15 ct15 oc16 kV16 dc16 pm16 cd16 ct16 oc17 kV17 dc17 pm17 cd17 ct17 oc18 kV18 dc18 pm18 cd18 ct18 oc19 kV19 dc19 pm19 cd19 ct19 oc20 kV20 dc20 pm20 cd20 ct20 oc21 kV21 dc21 pm21 cd21 ct21 oc22 kV22 dc22 pm22 cd22 ct22 oc23 kV23 dc23 pm23 cd23 ct23 oc24 kV24 dc24 pm24 cd24 ct24 oc25 kV25 dc25 pm25 cd25 ct25 oc26 kV26 dc26 pm26 cd26 ct26 oc27 kV27 dc27 pm27 cd27 ct27 oc28 kV28 dc28 pm28 cd28 ct28 oc29 kV29 dc29 pm29 cd29 ct29 oc30 kV30 dc30 pm30 cd30 ct30 oc31 kV31 dc31 pm31 cd31 ct31 oc32 kV32 dc32 pm32 cd32 ct32 oc33 kV33 dc33 pm33 cd33 ct33 oc34 kV34 dc34 pm34 cd34 ct34 oc35 kV35 dc35 pm35 cd35 ct35 oc36 kV36 dc36 pm36 cd36 ct36 oc37 kV37 dc37 pm37 cd37 ct37 oc38 kV38 dc38 pm38 cd38 ct38 oc39 kV39 dc39 pm39 cd39 ct39:Value} {t_MOST_CARDS:Tok}  {t_MOST_HANDS:Tok}  {t_MOST_DEALS:Tok}
  (a1:PySem.W.nsIn K mainGlobals "is_whole"=some (some (.ref f1))) (l1:K.lookup f1=some ⟨oc1,od1,.func (PySem.W.fnOf "is_whole" "is_whole" (aH dO) (aD dO) (aa dO) .none kV1 dc1 pm1 an1 cd1 ct1),sl1⟩) (c1:PySem.W.codeIn K cd1 "is_whole"=true) (k1:PySem.W.keepIn K (.ref f1)=true)
  (a2:PySem.W.nsIn K mainGlobals "is_within"=some (some (.ref f2))) (l2:K.lookup f2=some ⟨oc2,od2,.func (PySem.W.fnOf "is_within" "is_within" (aH cF) (aD cF) (aa cF) .none kV2 dc2 pm2 an2 cd2 ct2),sl2⟩) (c2:PySem.W.codeIn K cd2 "is_within"=true) (k2:PySem.W.keepIn K (.ref f2)=true)
  (a3:PySem.W.nsIn K mainGlobals "is_pack"=some (some (.ref f3))) (l3:K.lookup f3=some ⟨oc3,od3,.func (PySem.W.fnOf "is_pack" "is_pack" (aH dw) (aD dw) (aa dw) .none kV3 dc3 pm3 an3 cd3 ct3),sl3⟩) (c3:PySem.W.codeIn K cd3 "is_pack"=true) (k3:PySem.W.keepIn K (.ref f3)=true)
  (a4:PySem.W.nsIn K mainGlobals "how_many"=some (some (.ref f4))) (l4:K.lookup f4=some ⟨oc4,od4,.func (PySem.W.fnOf "how_many" "how_many" (aH ck) (aD ck) (aa ck) .none kV4 dc4 pm4 an4 cd4 ct4),sl4⟩) (c4:PySem.W.codeIn K cd4 "how_many"=true) (k4:PySem.W.keepIn K (.ref f4)=true)
  (a5:PySem.W.nsIn K mainGlobals "choices"=some (some (.ref f5))) (l5:K.lookup f5=some ⟨oc5,od5,.func (PySem.W.fnOf "choices" "choices" (aH da) (aD da) (aa da) .none kV5 dc5 pm5 an5 cd5 ct5),sl5⟩) (c5:PySem.W.codeIn K cd5 "choices"=true) (k5:PySem.W.keepIn K (.ref f5)=true)
  (a6:PySem.W.nsIn K mainGlobals "deals_of"=some (some (.ref f6))) (l6:K.lookup f6=some ⟨oc6,od6,.func (PySem.W.fnOf "deals_of" "deals_of" (aH cI) (aD cI) (aa cI) .none kV6 dc6 pm6 an6 cd6 ct6),sl6⟩) (c6:PySem.W.codeIn K cd6 "deals_of"=true) (k6:PySem.W.keepIn K (.ref f6)=true)
  (a7:PySem.W.nsIn K mainGlobals "with_one_more"=some (some (.ref f7))) (l7:K.lookup f7=some ⟨oc7,od7,.func (PySem.W.fnOf "with_one_more" "with_one_more" (aH be) (aD be) (aa be) .none kV7 dc7 pm7 an7 cd7 ct7),sl7⟩) (c7:PySem.W.codeIn K cd7 "with_one_more"=true) (k7:PySem.W.keepIn K (.ref f7)=true)
  (a8:PySem.W.nsIn K mainGlobals "cards_of"=some (some (.ref f8))) (l8:K.lookup f8=some ⟨oc8,od8,.func (PySem.W.fnOf "cards_of" "cards_of" (aH dq) (aD dq) (aa dq) .none kV8 dc8 pm8 an8 cd8 ct8),sl8⟩) (c8:PySem.W.codeIn K cd8 "cards_of"=true) (k8:PySem.W.keepIn K (.ref f8)=true)
  (a9:PySem.W.nsIn K mainGlobals "look_alike"=some (some (.ref f9))) (l9:K.lookup f9=some ⟨oc9,od9,.func (PySem.W.fnOf "look_alike" "look_alike" (aH b9) (aD b9) (aa b9) .none kV9 dc9 pm9 an9 cd9 ct9),sl9⟩) (c9:PySem.W.codeIn K cd9 "look_alike"=true) (k9:PySem.W.keepIn K (.ref f9)=true)
  (a10:PySem.W.nsIn K mainGlobals "joined"=some (some (.ref f10))) (l10:K.lookup f10=some ⟨oc10,od10,.func (PySem.W.fnOf "joined" "joined" (aH cM) (aD cM) (aa cM) .none kV10 dc10 pm10 an10 cd10 ct10),sl10⟩) (c10:PySem.W.codeIn K cd10 "joined"=true) (k10:PySem.W.keepIn K (.ref f10)=true)
  (a11:PySem.W.nsIn K mainGlobals "link"=some (some (.ref f11))) (l11:K.lookup f11=some ⟨oc11,od11,.func (PySem.W.fnOf "link" "link" (aH fi) (aD fi) (aa fi) .none kV11 dc11 pm11 an11 cd11 ct11),sl11⟩) (c11:PySem.W.codeIn K cd11 "link"=true) (k11:PySem.W.keepIn K (.ref f11)=true)
  (a12:PySem.W.nsIn K mainGlobals "end_of"=some (some (.ref f12))) (l12:K.lookup f12=some ⟨oc12,od12,.func (PySem.W.fnOf "end_of" "end_of" (aH d7) (aD d7) (aa d7) .none kV12 dc12 pm12 an12 cd12 ct12),sl12⟩) (c12:PySem.W.codeIn K cd12 "end_of"=true) (k12:PySem.W.keepIn K (.ref f12)=true)
  (a13:PySem.W.nsIn K mainGlobals "knows_why"=some (some (.ref f13))) (l13:K.lookup f13=some ⟨oc13,od13,.func (PySem.W.fnOf "knows_why" "knows_why" (aH bW) (aD bW) (aa bW) .none kV13 dc13 pm13 an13 cd13 ct13),sl13⟩) (c13:PySem.W.codeIn K cd13 "knows_why"=true) (k13:PySem.W.keepIn K (.ref f13)=true)
  (a14:PySem.W.nsIn K mainGlobals "common_why"=some (some (.ref f14))) (l14:K.lookup f14=some ⟨oc14,od14,.func (PySem.W.fnOf "common_why" "common_why" (aH bj) (aD bj) (aa bj) .none kV14 dc14 pm14 an14 cd14 ct14),sl14⟩) (c14:PySem.W.codeIn K cd14 "common_why"=true) (k14:PySem.W.keepIn K (.ref f14)=true)
  (a15:PySem.W.nsIn K mainGlobals "roads_from"=some (some (.ref f15))) (l15:K.lookup f15=some ⟨oc15,od15,.func (PySem.W.fnOf "roads_from" "roads_from" (aH bz) (aD bz) (aa bz) .none kV15 dc15 pm15 an15 cd15 ct15),sl15⟩) (c15:PySem.W.codeIn K cd15 "roads_from"=true) (k15:PySem.W.keepIn K (.ref f15)=true)
  (a16:PySem.W.nsIn K mainGlobals "groups_of"=some (some (.ref f16))) (l16:K.lookup f16=some ⟨oc16,od16,.func (PySem.W.fnOf "groups_of" "groups_of" (aH bX) (aD bX) (aa bX) .none kV16 dc16 pm16 an16 cd16 ct16),sl16⟩) (c16:PySem.W.codeIn K cd16 "groups_of"=true) (k16:PySem.W.keepIn K (.ref f16)=true)
  (a17:PySem.W.nsIn K mainGlobals "one_step_on"=some (some (.ref f17))) (l17:K.lookup f17=some ⟨oc17,od17,.func (PySem.W.fnOf "one_step_on" "one_step_on" (aH bc) (aD bc) (aa bc) .none kV17 dc17 pm17 an17 cd17 ct17),sl17⟩) (c17:PySem.W.codeIn K cd17 "one_step_on"=true) (k17:PySem.W.keepIn K (.ref f17)=true)
  (a18:PySem.W.nsIn K mainGlobals "steps_to"=some (some (.ref f18))) (l18:K.lookup f18=some ⟨oc18,od18,.func (PySem.W.fnOf "steps_to" "steps_to" (aH cJ) (aD cJ) (aa cJ) .none kV18 dc18 pm18 an18 cd18 ct18),sl18⟩) (c18:PySem.W.codeIn K cd18 "steps_to"=true) (k18:PySem.W.keepIn K (.ref f18)=true)
  (a19:PySem.W.nsIn K mainGlobals "truths_of"=some (some (.ref f19))) (l19:K.lookup f19=some ⟨oc19,od19,.func (PySem.W.fnOf "truths_of" "truths_of" (aH bo) (aD bo) (aa bo) .none kV19 dc19 pm19 an19 cd19 ct19),sl19⟩) (c19:PySem.W.codeIn K cd19 "truths_of"=true) (k19:PySem.W.keepIn K (.ref f19)=true)
  (a20:PySem.W.nsIn K mainGlobals "both"=some (some (.ref f20))) (l20:K.lookup f20=some ⟨oc20,od20,.func (PySem.W.fnOf "both" "both" (aH ge) (aD ge) (aa ge) .none kV20 dc20 pm20 an20 cd20 ct20),sl20⟩) (c20:PySem.W.codeIn K cd20 "both"=true) (k20:PySem.W.keepIn K (.ref f20)=true)
  (a21:PySem.W.nsIn K mainGlobals "either"=some (some (.ref f21))) (l21:K.lookup f21=some ⟨oc21,od21,.func (PySem.W.fnOf "either" "either" (aH d8) (aD d8) (aa d8) .none kV21 dc21 pm21 an21 cd21 ct21),sl21⟩) (c21:PySem.W.codeIn K cd21 "either"=true) (k21:PySem.W.keepIn K (.ref f21)=true)
  (a22:PySem.W.nsIn K mainGlobals "known"=some (some (.ref f22))) (l22:K.lookup f22=some ⟨oc22,od22,.func (PySem.W.fnOf "known" "known" (aH dE) (aD dE) (aa dE) .none kV22 dc22 pm22 an22 cd22 ct22),sl22⟩) (c22:PySem.W.codeIn K cd22 "known"=true) (k22:PySem.W.keepIn K (.ref f22)=true)
  (a23:PySem.W.nsIn K mainGlobals "known_to_all"=some (some (.ref f23))) (l23:K.lookup f23=some ⟨oc23,od23,.func (PySem.W.fnOf "known_to_all" "known_to_all" (aH bH) (aD bH) (aa bH) .none kV23 dc23 pm23 an23 cd23 ct23),sl23⟩) (c23:PySem.W.codeIn K cd23 "known_to_all"=true) (k23:PySem.W.keepIn K (.ref f23)=true)
  (a24:PySem.W.nsIn K mainGlobals "seen"=some (some (.ref f24))) (l24:K.lookup f24=some ⟨oc24,od24,.func (PySem.W.fnOf "seen" "seen" (aH gf) (aD gf) (aa gf) .none kV24 dc24 pm24 an24 cd24 ct24),sl24⟩) (c24:PySem.W.codeIn K cd24 "seen"=true) (k24:PySem.W.keepIn K (.ref f24)=true)
  (a25:PySem.W.nsIn K mainGlobals "_law_mixed"=some (some (.ref f25))) (l25:K.lookup f25=some ⟨oc25,od25,.func (PySem.W.fnOf "_law_mixed" "_law_mixed" (aH ca) (aD ca) (aa ca) .none kV25 dc25 pm25 an25 cd25 ct25),sl25⟩) (c25:PySem.W.codeIn K cd25 "_law_mixed"=true) (k25:PySem.W.keepIn K (.ref f25)=true)
  (a26:PySem.W.nsIn K mainGlobals "_law_cell"=some (some (.ref f26))) (l26:K.lookup f26=some ⟨oc26,od26,.func (PySem.W.fnOf "_law_cell" "_law_cell" (aH cG) (aD cG) (aa cG) .none kV26 dc26 pm26 an26 cd26 ct26),sl26⟩) (c26:PySem.W.codeIn K cd26 "_law_cell"=true) (k26:PySem.W.keepIn K (.ref f26)=true)
  (a27:PySem.W.nsIn K mainGlobals "_law_product"=some (some (.ref f27))) (l27:K.lookup f27=some ⟨oc27,od27,.func (PySem.W.fnOf "_law_product" "_law_product" (aH bM) (aD bM) (aa bM) .none kV27 dc27 pm27 an27 cd27 ct27),sl27⟩) (c27:PySem.W.codeIn K cd27 "_law_product"=true) (k27:PySem.W.keepIn K (.ref f27)=true)
  (a28:PySem.W.nsIn K mainGlobals "_law_count"=some (some (.ref f28))) (l28:K.lookup f28=some ⟨oc28,od28,.func (PySem.W.fnOf "_law_count" "_law_count" (aH bT) (aD bT) (aa bT) .none kV28 dc28 pm28 an28 cd28 ct28),sl28⟩) (c28:PySem.W.codeIn K cd28 "_law_count"=true) (k28:PySem.W.keepIn K (.ref f28)=true)
  (a29:PySem.W.nsIn K mainGlobals "_law_pack"=some (some (.ref f29))) (l29:K.lookup f29=some ⟨oc29,od29,.func (PySem.W.fnOf "_law_pack" "_law_pack" (aH bQ) (aD bQ) (aa bQ) .none kV29 dc29 pm29 an29 cd29 ct29),sl29⟩) (c29:PySem.W.codeIn K cd29 "_law_pack"=true) (k29:PySem.W.keepIn K (.ref f29)=true)
  (a30:PySem.W.nsIn K mainGlobals "_law_least"=some (some (.ref f30))) (l30:K.lookup f30=some ⟨oc30,od30,.func (PySem.W.fnOf "_law_least" "_law_least" (aH bN) (aD bN) (aa bN) .none kV30 dc30 pm30 an30 cd30 ct30),sl30⟩) (c30:PySem.W.codeIn K cd30 "_law_least"=true) (k30:PySem.W.keepIn K (.ref f30)=true)
  (a31:PySem.W.nsIn K mainGlobals "_law_views"=some (some (.ref f31))) (l31:K.lookup f31=some ⟨oc31,od31,.func (PySem.W.fnOf "_law_views" "_law_views" (aH aN) (aD aN) (aa aN) .none kV31 dc31 pm31 an31 cd31 ct31),sl31⟩) (c31:PySem.W.codeIn K cd31 "_law_views"=true) (k31:PySem.W.keepIn K (.ref f31)=true)
  (a32:PySem.W.nsIn K mainGlobals "_law_words"=some (some (.ref f32))) (l32:K.lookup f32=some ⟨oc32,od32,.func (PySem.W.fnOf "_law_words" "_law_words" (aH cb) (aD cb) (aa cb) .none kV32 dc32 pm32 an32 cd32 ct32),sl32⟩) (c32:PySem.W.codeIn K cd32 "_law_words"=true) (k32:PySem.W.keepIn K (.ref f32)=true)
  (a33:PySem.W.nsIn K mainGlobals "_law_group"=some (some (.ref f33))) (l33:K.lookup f33=some ⟨oc33,od33,.func (PySem.W.fnOf "_law_group" "_law_group" (aH cH) (aD cH) (aa cH) .none kV33 dc33 pm33 an33 cd33 ct33),sl33⟩) (c33:PySem.W.codeIn K cd33 "_law_group"=true) (k33:PySem.W.keepIn K (.ref f33)=true)
  (a34:PySem.W.nsIn K mainGlobals "_law_pool"=some (some (.ref f34))) (l34:K.lookup f34=some ⟨oc34,od34,.func (PySem.W.fnOf "_law_pool" "_law_pool" (aH bJ) (aD bJ) (aa bJ) .none kV34 dc34 pm34 an34 cd34 ct34),sl34⟩) (c34:PySem.W.codeIn K cd34 "_law_pool"=true) (k34:PySem.W.keepIn K (.ref f34)=true)
  (a35:PySem.W.nsIn K mainGlobals "_law_saying"=some (some (.ref f35))) (l35:K.lookup f35=some ⟨oc35,od35,.func (PySem.W.fnOf "_law_saying" "_law_saying" (aH aT) (aD aT) (aa aT) .none kV35 dc35 pm35 an35 cd35 ct35),sl35⟩) (c35:PySem.W.codeIn K cd35 "_law_saying"=true) (k35:PySem.W.keepIn K (.ref f35)=true)
  (a36:PySem.W.nsIn K mainGlobals "_law_closed"=some (some (.ref f36))) (l36:K.lookup f36=some ⟨oc36,od36,.func (PySem.W.fnOf "_law_closed" "_law_closed" (aH bp) (aD bp) (aa bp) .none kV36 dc36 pm36 an36 cd36 ct36),sl36⟩) (c36:PySem.W.codeIn K cd36 "_law_closed"=true) (k36:PySem.W.keepIn K (.ref f36)=true)
  (a37:PySem.W.nsIn K mainGlobals "_law_shared"=some (some (.ref f37))) (l37:K.lookup f37=some ⟨oc37,od37,.func (PySem.W.fnOf "_law_shared" "_law_shared" (aH bf) (aD bf) (aa bf) .none kV37 dc37 pm37 an37 cd37 ct37),sl37⟩) (c37:PySem.W.codeIn K cd37 "_law_shared"=true) (k37:PySem.W.keepIn K (.ref f37)=true)
  (a38:PySem.W.nsIn K mainGlobals "_law_held"=some (some (.ref f38))) (l38:K.lookup f38=some ⟨oc38,od38,.func (PySem.W.fnOf "_law_held" "_law_held" (aH bY) (aD bY) (aa bY) .none kV38 dc38 pm38 an38 cd38 ct38),sl38⟩) (c38:PySem.W.codeIn K cd38 "_law_held"=true) (k38:PySem.W.keepIn K (.ref f38)=true)
  (a39:PySem.W.nsIn K mainGlobals "law"=some (some (.ref f39))) (l39:K.lookup f39=some ⟨oc39,od39,.func (PySem.W.fnOf "law" "law" (aH cq) (aD cq) (aa cq) .none kV39 dc39 pm39 an39 cd39 ct39),sl39⟩) (c39:PySem.W.codeIn K cd39 "law"=true) (k39:PySem.W.keepIn K (.ref f39)=true)
  (y1:PySem.W.nsIn K mainGlobals "MOST_CARDS"=some (some (.int 12 t_MOST_CARDS)))
  (y2:PySem.W.nsIn K mainGlobals "MOST_HANDS"=some (some (.int 5 t_MOST_HANDS)))
  (y3:PySem.W.nsIn K mainGlobals "MOST_DEALS"=some (some (.int 2000 t_MOST_DEALS)))
  (y4:PySem.W.nsIn K mainGlobals "reversed"=some none)
  {Pt ct0:Addr} (hfc:cd14=.ref ct0) (hC:PySem.W.codeHdIn K ct0 Pt=true)
  (z1:PySem.W.nsIn K mainGlobals "len"=some none) (z2:PySem.W.nsIn K mainGlobals "range"=some none) (z3:PySem.W.nsIn K mainGlobals "tuple"=some none) (z4:PySem.W.nsIn K mainGlobals "list"=some none) (z5:PySem.W.nsIn K mainGlobals "int"=some none) (z6:PySem.W.nsIn K mainGlobals "bool"=some none) (z7:PySem.W.nsIn K mainGlobals "str"=some none) (z8:PySem.W.nsIn K mainGlobals "dict"=some none) (z9:PySem.W.nsIn K mainGlobals "sum"=some none) (z10:PySem.W.nsIn K mainGlobals "all"=some none) (z11:PySem.W.nsIn K mainGlobals "min"=some none) (z12:PySem.W.nsIn K mainGlobals "max"=some none) (z13:PySem.W.nsIn K mainGlobals "sorted"=some none) (z14:PySem.W.nsIn K mainGlobals "enumerate"=some none) (z15:PySem.W.nsIn K mainGlobals "zip"=some none) (z16:PySem.W.nsIn K mainGlobals "isinstance"=some none):
  ∃ fd:FuncData,(∀ (s:Shared) (v:Value),BindsTo s fd ⟨[v],[]⟩ [("_law_script",v)])/\∀ base:Heap,K.In base->base.Ns mainGlobals mg->BM base mg->iL l.prog w K mg base CX0 73 fa fd ["_law_script"] (kK K (LL Pt)):=by
 have e:=hfa.symm.trans (PySem.W.mg_of X G a39)
 cases e
 have B:Blt mg:=⟨PySem.W.mg_none_of X G z1,PySem.W.mg_none_of X G z2,PySem.W.mg_none_of X G z3,PySem.W.mg_none_of X G z4,PySem.W.mg_none_of X G z5,PySem.W.mg_none_of X G z6,PySem.W.mg_none_of X G z7,PySem.W.mg_none_of X G z8,PySem.W.mg_none_of X G z9,PySem.W.mg_none_of X G z10,PySem.W.mg_none_of X G z11,PySem.W.mg_none_of X G z12,PySem.W.mg_none_of X G z13,PySem.W.mg_none_of X G z14,PySem.W.mg_none_of X G z15,PySem.W.mg_none_of X G z16⟩
 have F1:=aX (st:=dO) l1 c1 k1
 have D1:Def K mg "is_whole" dO ["thing"] _ _:=⟨F1,PySem.W.mg_of X G a1,F1.binds (ps:=["thing"]) fun _ _ _ _ _ _ us hl=>ofLen1 us hl fun _=>rfl⟩
 have F2:=aX (st:=cF) l2 c2 k2
 have D2:Def K mg "is_within" cF ["thing","least","most"] _ _:=⟨F2,PySem.W.mg_of X G a2,F2.binds (ps:=["thing","least","most"]) fun _ _ _ _ _ _ us hl=>ofLen3 us hl fun _ _ _=>rfl⟩
 have F3:=aX (st:=dw) l3 c3 k3
 have D3:Def K mg "is_pack" dw ["cards","sizes"] _ _:=⟨F3,PySem.W.mg_of X G a3,F3.binds (ps:=["cards","sizes"]) fun _ _ _ _ _ _ us hl=>ofLen2 us hl fun _ _=>rfl⟩
 have F4:=aX (st:=ck) l4 c4 k4
 have D4:Def K mg "how_many" ck ["cards","sizes"] _ _:=⟨F4,PySem.W.mg_of X G a4,F4.binds (ps:=["cards","sizes"]) fun _ _ _ _ _ _ us hl=>ofLen2 us hl fun _ _=>rfl⟩
 have F5:=aX (st:=da) l5 c5 k5
 have D5:Def K mg "choices" da ["many","taken"] _ _:=⟨F5,PySem.W.mg_of X G a5,F5.binds (ps:=["many","taken"]) fun _ _ _ _ _ _ us hl=>ofLen2 us hl fun _ _=>rfl⟩
 have F6:=aX (st:=cI) l6 c6 k6
 have D6:Def K mg "deals_of" cI ["cards","sizes"] _ _:=⟨F6,PySem.W.mg_of X G a6,F6.binds (ps:=["cards","sizes"]) fun _ _ _ _ _ _ us hl=>ofLen2 us hl fun _ _=>rfl⟩
 have F7:=aX (st:=be) l7 c7 k7
 have D7:Def K mg "with_one_more" be ["begun","room"] _ _:=⟨F7,PySem.W.mg_of X G a7,F7.binds (ps:=["begun","room"]) fun _ _ _ _ _ _ us hl=>ofLen2 us hl fun _ _=>rfl⟩
 have F8:=aX (st:=dq) l8 c8 k8
 have D8:Def K mg "cards_of" dq ["deal","who"] _ _:=⟨F8,PySem.W.mg_of X G a8,F8.binds (ps:=["deal","who"]) fun _ _ _ _ _ _ us hl=>ofLen2 us hl fun _ _=>rfl⟩
 have F9:=aX (st:=b9) l9 c9 k9
 have D9:Def K mg "look_alike" b9 ["view","one","other"] _ _:=⟨F9,PySem.W.mg_of X G a9,F9.binds (ps:=["view","one","other"]) fun _ _ _ _ _ _ us hl=>ofLen3 us hl fun _ _ _=>rfl⟩
 have F10:=aX (st:=cM) l10 c10 k10
 have D10:Def K mg "joined" cM ["many","views"] _ _:=⟨F10,PySem.W.mg_of X G a10,F10.binds (ps:=["many","views"]) fun _ _ _ _ _ _ us hl=>ofLen2 us hl fun _ _=>rfl⟩
 have F11:=aX (st:=fi) l11 c11 k11
 have D11:Def K mg "link" fi ["points","one","other"] _ _:=⟨F11,PySem.W.mg_of X G a11,F11.binds (ps:=["points","one","other"]) fun _ _ _ _ _ _ us hl=>ofLen3 us hl fun _ _ _=>rfl⟩
 have F12:=aX (st:=d7) l12 c12 k12
 have D12:Def K mg "end_of" d7 ["points","thing"] _ _:=⟨F12,PySem.W.mg_of X G a12,F12.binds (ps:=["points","thing"]) fun _ _ _ _ _ _ us hl=>ofLen2 us hl fun _ _=>rfl⟩
 have F13:=aX (st:=bW) l13 c13 k13
 have D13:Def K mg "knows_why" bW ["view","truths","deal"] _ _:=⟨F13,PySem.W.mg_of X G a13,F13.binds (ps:=["view","truths","deal"]) fun _ _ _ _ _ _ us hl=>ofLen3 us hl fun _ _ _=>rfl⟩
 have F14:=aX (st:=bj) l14 c14 k14
 have D14:Def K mg "common_why" bj ["views","truths","deal"] _ _:=⟨F14,PySem.W.mg_of X G a14,F14.binds (ps:=["views","truths","deal"]) fun _ _ _ _ _ _ us hl=>ofLen3 us hl fun _ _ _=>rfl⟩
 have F15:=aX (st:=bz) l15 c15 k15
 have D15:Def K mg "roads_from" bz ["many","views","deal"] _ _:=⟨F15,PySem.W.mg_of X G a15,F15.binds (ps:=["many","views","deal"]) fun _ _ _ _ _ _ us hl=>ofLen3 us hl fun _ _ _=>rfl⟩
 have F16:=aX (st:=bX) l16 c16 k16
 have D16:Def K mg "groups_of" bX ["view"] _ _:=⟨F16,PySem.W.mg_of X G a16,F16.binds (ps:=["view"]) fun _ _ _ _ _ _ us hl=>ofLen1 us hl fun _=>rfl⟩
 have F17:=aX (st:=bc) l17 c17 k17
 have D17:Def K mg "one_step_on" bc ["views","groups","roads","newest"] _ _:=⟨F17,PySem.W.mg_of X G a17,F17.binds (ps:=["views","groups","roads","newest"]) fun _ _ _ _ _ _ us hl=>ofLen4 us hl fun _ _ _ _=>rfl⟩
 have F18:=aX (st:=cJ) l18 c18 k18
 have D18:Def K mg "steps_to" cJ ["roads","goal"] _ _:=⟨F18,PySem.W.mg_of X G a18,F18.binds (ps:=["roads","goal"]) fun _ _ _ _ _ _ us hl=>ofLen2 us hl fun _ _=>rfl⟩
 have F19:=aX (st:=bo) l19 c19 k19
 have D19:Def K mg "truths_of" bo ["deals","views","S"] _ _:=⟨F19,PySem.W.mg_of X G a19,F19.binds (ps:=["deals","views","S"]) fun _ _ _ _ _ _ us hl=>ofLen3 us hl fun _ _ _=>rfl⟩
 have F20:=aX (st:=ge) l20 c20 k20
 have D20:Def K mg "both" ge ["ones","others"] _ _:=⟨F20,PySem.W.mg_of X G a20,F20.binds (ps:=["ones","others"]) fun _ _ _ _ _ _ us hl=>ofLen2 us hl fun _ _=>rfl⟩
 have F21:=aX (st:=d8) l21 c21 k21
 have D21:Def K mg "either" d8 ["ones","others"] _ _:=⟨F21,PySem.W.mg_of X G a21,F21.binds (ps:=["ones","others"]) fun _ _ _ _ _ _ us hl=>ofLen2 us hl fun _ _=>rfl⟩
 have F22:=aX (st:=dE) l22 c22 k22
 have D22:Def K mg "known" dE ["view","truths"] _ _:=⟨F22,PySem.W.mg_of X G a22,F22.binds (ps:=["view","truths"]) fun _ _ _ _ _ _ us hl=>ofLen2 us hl fun _ _=>rfl⟩
 have F23:=aX (st:=bH) l23 c23 k23
 have D23:Def K mg "known_to_all" bH ["views","truths"] _ _:=⟨F23,PySem.W.mg_of X G a23,F23.binds (ps:=["views","truths"]) fun _ _ _ _ _ _ us hl=>ofLen2 us hl fun _ _=>rfl⟩
 have F24:=aX (st:=gf) l24 c24 k24
 have D24:Def K mg "seen" gf ["piles","view"] _ _:=⟨F24,PySem.W.mg_of X G a24,F24.binds (ps:=["piles","view"]) fun _ _ _ _ _ _ us hl=>ofLen2 us hl fun _ _=>rfl⟩
 have F25:=aX (st:=ca) l25 c25 k25
 have D25:Def K mg "_law_mixed" ca ["_law_base","_law_k"] _ _:=⟨F25,PySem.W.mg_of X G a25,F25.binds (ps:=["_law_base","_law_k"]) fun _ _ _ _ _ _ us hl=>ofLen2 us hl fun _ _=>rfl⟩
 have F26:=aX (st:=cG) l26 c26 k26
 have D26:Def K mg "_law_cell" cG ["_law_script","_law_k"] _ _:=⟨F26,PySem.W.mg_of X G a26,F26.binds (ps:=["_law_script","_law_k"]) fun _ _ _ _ _ _ us hl=>ofLen2 us hl fun _ _=>rfl⟩
 have F27:=aX (st:=bM) l27 c27 k27
 have D27:Def K mg "_law_product" bM ["_law_many"] _ _:=⟨F27,PySem.W.mg_of X G a27,F27.binds (ps:=["_law_many"]) fun _ _ _ _ _ _ us hl=>ofLen1 us hl fun _=>rfl⟩
 have F28:=aX (st:=bT) l28 c28 k28
 have D28:Def K mg "_law_count" bT ["_law_cards","_law_sizes"] _ _:=⟨F28,PySem.W.mg_of X G a28,F28.binds (ps:=["_law_cards","_law_sizes"]) fun _ _ _ _ _ _ us hl=>ofLen2 us hl fun _ _=>rfl⟩
 have F29:=aX (st:=bQ) l29 c29 k29
 have D29:Def K mg "_law_pack" bQ ["_law_script","_law_at","_law_most"] _ _:=⟨F29,PySem.W.mg_of X G a29,F29.binds (ps:=["_law_script","_law_at","_law_most"]) fun _ _ _ _ _ _ us hl=>ofLen3 us hl fun _ _ _=>rfl⟩
 have F30:=aX (st:=bN) l30 c30 k30
 have D30:Def K mg "_law_least" bN ["_law_signs"] _ _:=⟨F30,PySem.W.mg_of X G a30,F30.binds (ps:=["_law_signs"]) fun _ _ _ _ _ _ us hl=>ofLen1 us hl fun _=>rfl⟩
 have F31:=aX (st:=aN) l31 c31 k31
 have D31:Def K mg "_law_views" aN ["_law_script","_law_at","_law_deals","_law_hands"] _ _:=⟨F31,PySem.W.mg_of X G a31,F31.binds (ps:=["_law_script","_law_at","_law_deals","_law_hands"]) fun _ _ _ _ _ _ us hl=>ofLen4 us hl fun _ _ _ _=>rfl⟩
 have F32:=aX (st:=cb) l32 c32 k32
 have D32:Def K mg "_law_words" cb ["_law_saying_here"] _ _:=⟨F32,PySem.W.mg_of X G a32,F32.binds (ps:=["_law_saying_here"]) fun _ _ _ _ _ _ us hl=>ofLen1 us hl fun _=>rfl⟩
 have F33:=aX (st:=cH) l33 c33 k33
 have D33:Def K mg "_law_group" cH ["_law_number","_law_hands"] _ _:=⟨F33,PySem.W.mg_of X G a33,F33.binds (ps:=["_law_number","_law_hands"]) fun _ _ _ _ _ _ us hl=>ofLen2 us hl fun _ _=>rfl⟩
 have F34:=aX (st:=bJ) l34 c34 k34
 have D34:Def K mg "_law_pool" bJ ["_law_script","_law_at","_law_cards","_law_hands"] _ _:=⟨F34,PySem.W.mg_of X G a34,F34.binds (ps:=["_law_script","_law_at","_law_cards","_law_hands"]) fun _ _ _ _ _ _ us hl=>ofLen4 us hl fun _ _ _ _=>rfl⟩
 have F35:=aX (st:=aT) l35 c35 k35
 have D35:Def K mg "_law_saying" aT ["_law_script","_law_at","_law_cards","_law_hands","_law_most"] _ _:=⟨F35,PySem.W.mg_of X G a35,F35.binds (ps:=["_law_script","_law_at","_law_cards","_law_hands","_law_most"]) fun _ _ _ _ _ _ us hl=>ofLen5 us hl fun _ _ _ _ _=>rfl⟩
 have F36:=aX (st:=bp) l36 c36 k36
 have D36:Def K mg "_law_closed" bp ["_law_views_here","_law_some"] _ _:=⟨F36,PySem.W.mg_of X G a36,F36.binds (ps:=["_law_views_here","_law_some"]) fun _ _ _ _ _ _ us hl=>ofLen2 us hl fun _ _=>rfl⟩
 have F37:=aX (st:=bf) l37 c37 k37
 have D37:Def K mg "_law_shared" bf ["_law_told","_law_views_here","_law_facts","_law_shared_here","_law_deal"] _ _:=⟨F37,PySem.W.mg_of X G a37,F37.binds (ps:=["_law_told","_law_views_here","_law_facts","_law_shared_here","_law_deal"]) fun _ _ _ _ _ _ us hl=>ofLen5 us hl fun _ _ _ _ _=>rfl⟩
 have F38:=aX (st:=bY) l38 c38 k38
 have D38:Def K mg "_law_held" bY ["_law_told","_law_facts","_law_owned","_law_deal"] _ _:=⟨F38,PySem.W.mg_of X G a38,F38.binds (ps:=["_law_told","_law_facts","_law_owned","_law_deal"]) fun _ _ _ _ _ _ us hl=>ofLen4 us hl fun _ _ _ _=>rfl⟩
 have F39:=aX (st:=cq) l39 c39 k39
 have D39:Def K mg "law" cq ["_law_script"] _ _:=⟨F39,PySem.W.mg_of X G a39,F39.binds (ps:=["_law_script"]) fun _ _ _ _ _ _ us hl=>ofLen1 us hl fun _=>rfl⟩
 refine ⟨PySem.W.fnOf "law" "law" (aH cq) (aD cq) (aa cq) .none kV39 dc39 pm39 an39 cd39 ct39,fun s v=>.of_eq rfl,fun base _ _ bm=>?_⟩
 exact Dy B D1 D2 D3 D4 D5 D6 D7 D8 D9 D10 D11 D12 D13 D14 D15 D16 D17 D18 D19 D20 D21 D22 D23 D24 D25 D26 D27 D28 D29 D30 D31 D32 D33 D34 D35 D36 D37 D38 D39  hfc hC bm (PySem.W.mg_of X G y1) (PySem.W.mg_of X G y2) (PySem.W.mg_of X G y3) (PySem.W.mg_none_of X G y4)
end Kc_k29
noncomputable def PySem.W.Fast.tw11011195761651231586:PySem.Program:=PySem.Challenge.pw_knowcards_k29_whole_reasons_and_truths
theorem PySem.W.Fast.te11011195761651231586:PySem.Challenge.pw_knowcards_k29_whole_reasons_and_truths=PySem.W.Fast.tw11011195761651231586:=rfl
noncomputable def PySem.W.Fast.tw17995853075025707762:PySem.Params->PySem.W.Frag:=fun _=>[]
theorem PySem.W.Fast.te17995853075025707762:(fun _=>[]:PySem.Params->PySem.W.Frag)=PySem.W.Fast.tw17995853075025707762:=rfl
noncomputable def PySem.W.Fast.tw1087764589508911338:PySem.Params->PySem.Heap:=fun _=>default
theorem PySem.W.Fast.te1087764589508911338:(fun _=>default:PySem.Params->PySem.Heap)=PySem.W.Fast.tw1087764589508911338:=rfl
open PySem PySem.W PyProof.Rows
set_option maxRecDepth 100000 in
set_option maxHeartbeats 0 in
theorem PySem.Challenge.cw_knowcards_k29_whole_reasons_and_truths_holds : PySem.Challenge.rw_knowcards_k29_whole_reasons_and_truths.Holds := by
 w_on; o_law; k_head; (case hw=>w_witness2)
 k_fill
 refine L2.Ae (l:=PySem.Challenge.rw_knowcards_k29_whole_reasons_and_truths) (k:=73) (x:="_law_script") (P:=136) (c:=138) (lpos:=⟨85,55,85,84⟩) (qual:=(("common_why":Str)++(".<locals>.":Str))++("<lambda>":Str)) rfl rfl ⟨rfl,by decide,by decide⟩ (fun w h Y=>PySem.W.km_in_of Y) (fun w h Y=>PySem.W.km_tabs_of Y 136 (List.mem_singleton.mpr rfl)) (fun w=>by kernel_rfl) (fun w=>by kernel_rfl) ?F
 case F=>
  intro w mg fa h KX G hmg
  refine' Kc_k29.all_mk KX G hmg ?a1 ?l1 ?c1 ?k1 ?a2 ?l2 ?c2 ?k2 ?a3 ?l3 ?c3 ?k3 ?a4 ?l4 ?c4 ?k4 ?a5 ?l5 ?c5 ?k5 ?a6 ?l6 ?c6 ?k6 ?a7 ?l7 ?c7 ?k7 ?a8 ?l8 ?c8 ?k8 ?a9 ?l9 ?c9 ?k9 ?a10 ?l10 ?c10 ?k10 ?a11 ?l11 ?c11 ?k11 ?a12 ?l12 ?c12 ?k12 ?a13 ?l13 ?c13 ?k13 ?a14 ?l14 ?c14 ?k14 ?a15 ?l15 ?c15 ?k15 ?a16 ?l16 ?c16 ?k16 ?a17 ?l17 ?c17 ?k17 ?a18 ?l18 ?c18 ?k18 ?a19 ?l19 ?c19 ?k19 ?a20 ?l20 ?c20 ?k20 ?a21 ?l21 ?c21 ?k21 ?a22 ?l22 ?c22 ?k22 ?a23 ?l23 ?c23 ?k23 ?a24 ?l24 ?c24 ?k24 ?a25 ?l25 ?c25 ?k25 ?a26 ?l26 ?c26 ?k26 ?a27 ?l27 ?c27 ?k27 ?a28 ?l28 ?c28 ?k28 ?a29 ?l29 ?c29 ?k29 ?a30 ?l30 ?c30 ?k30 ?a31 ?l31 ?c31 ?k31 ?a32 ?l32 ?c32 ?k32 ?a33 ?l33 ?c33 ?k33 ?a34 ?l34 ?c34 ?k34 ?a35 ?l35 ?c35 ?k35 ?a36 ?l36 ?c36 ?k36 ?a37 ?l37 ?c37 ?k37 ?a38 ?l38 ?c38 ?k38 ?a39 ?l39 ?c39 ?k39 ?y1 ?y2 ?y3 ?y4 ?hfc ?hC ?z1 ?z2 ?z3 ?z4 ?z5 ?z6 ?z7 ?z8 ?z9 ?z10 ?z11 ?z12 ?z13 ?z14 ?z15 ?z16
  (case a1=>k_is); (case l1=>k_is); (case c1=>k_is); (case k1=>k_is)
  (case a2=>k_is); (case l2=>k_is); (case c2=>k_is); (case k2=>k_is)
  (case a3=>k_is); (case l3=>k_is); (case c3=>k_is); (case k3=>k_is)
  (case a4=>k_is); (case l4=>k_is); (case c4=>k_is); (case k4=>k_is)
  (case a5=>k_is); (case l5=>k_is); (case c5=>k_is); (case k5=>k_is)
  (case a6=>k_is); (case l6=>k_is); (case c6=>k_is); (case k6=>k_is)
  (case a7=>k_is); (case l7=>k_is); (case c7=>k_is); (case k7=>k_is)
  (case a8=>k_is); (case l8=>k_is); (case c8=>k_is); (case k8=>k_is)
  (case a9=>k_is); (case l9=>k_is); (case c9=>k_is); (case k9=>k_is)
  (case a10=>k_is); (case l10=>k_is); (case c10=>k_is); (case k10=>k_is)
  (case a11=>k_is); (case l11=>k_is); (case c11=>k_is); (case k11=>k_is)
  (case a12=>k_is); (case l12=>k_is); (case c12=>k_is); (case k12=>k_is)
  (case a13=>k_is); (case l13=>k_is); (case c13=>k_is); (case k13=>k_is)
  (case a14=>k_is); (case l14=>k_is); (case c14=>k_is); (case k14=>k_is)
  (case a15=>k_is); (case l15=>k_is); (case c15=>k_is); (case k15=>k_is)
  (case a16=>k_is); (case l16=>k_is); (case c16=>k_is); (case k16=>k_is)
  (case a17=>k_is); (case l17=>k_is); (case c17=>k_is); (case k17=>k_is)
  (case a18=>k_is); (case l18=>k_is); (case c18=>k_is); (case k18=>k_is)
  (case a19=>k_is); (case l19=>k_is); (case c19=>k_is); (case k19=>k_is)
  (case a20=>k_is); (case l20=>k_is); (case c20=>k_is); (case k20=>k_is)
  (case a21=>k_is); (case l21=>k_is); (case c21=>k_is); (case k21=>k_is)
  (case a22=>k_is); (case l22=>k_is); (case c22=>k_is); (case k22=>k_is)
  (case a23=>k_is); (case l23=>k_is); (case c23=>k_is); (case k23=>k_is)
  (case a24=>k_is); (case l24=>k_is); (case c24=>k_is); (case k24=>k_is)
  (case a25=>k_is); (case l25=>k_is); (case c25=>k_is); (case k25=>k_is)
  (case a26=>k_is); (case l26=>k_is); (case c26=>k_is); (case k26=>k_is)
  (case a27=>k_is); (case l27=>k_is); (case c27=>k_is); (case k27=>k_is)
  (case a28=>k_is); (case l28=>k_is); (case c28=>k_is); (case k28=>k_is)
  (case a29=>k_is); (case l29=>k_is); (case c29=>k_is); (case k29=>k_is)
  (case a30=>k_is); (case l30=>k_is); (case c30=>k_is); (case k30=>k_is)
  (case a31=>k_is); (case l31=>k_is); (case c31=>k_is); (case k31=>k_is)
  (case a32=>k_is); (case l32=>k_is); (case c32=>k_is); (case k32=>k_is)
  (case a33=>k_is); (case l33=>k_is); (case c33=>k_is); (case k33=>k_is)
  (case a34=>k_is); (case l34=>k_is); (case c34=>k_is); (case k34=>k_is)
  (case a35=>k_is); (case l35=>k_is); (case c35=>k_is); (case k35=>k_is)
  (case a36=>k_is); (case l36=>k_is); (case c36=>k_is); (case k36=>k_is)
  (case a37=>k_is); (case l37=>k_is); (case c37=>k_is); (case k37=>k_is)
  (case a38=>k_is); (case l38=>k_is); (case c38=>k_is); (case k38=>k_is)
  (case a39=>k_is); (case l39=>k_is); (case c39=>k_is); (case k39=>k_is)
  (case hfc=>rfl); (case hC=>kernel_rfl)
  (case y1=>k_is)
  (case y2=>k_is)
  (case y3=>k_is)
  (case y4=>k_is)
  (case z1=>k_is); (case z2=>k_is); (case z3=>k_is); (case z4=>k_is); (case z5=>k_is); (case z6=>k_is); (case z7=>k_is); (case z8=>k_is); (case z9=>k_is); (case z10=>k_is); (case z11=>k_is); (case z12=>k_is); (case z13=>k_is); (case z14=>k_is); (case z15=>k_is); (case z16=>k_is)
