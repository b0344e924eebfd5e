import PyProof.Rows.All
import Wide.All
import OpenK.AllK
import Wide.FinOn
import Lean
import PyProof.EqAt
import PyProof.EqKinds
import PyProof.TupleCall
import PyProof.NeKinds
import PyProof.SumWalkG
import PyProof.ConsumeWalk
import KE.IntBitsLaws
import PyProof.ZipIter
import KE.KTryMore
import PyProof.ExcArgsOwn
import PyProof.Rows.EqDataRows
import KE.KEqDict
import PySem.Challenge.RW_knowcards_k04_deals_refused
set_option compiler.extract_closed false
section
-- KcLayer
-- CHANGE: your row's module here, as the last of these rows
set_option Elab.async false
set_option linter.all false
set_option maxRecDepth 100000
/-! THE HAND LAYER, for ints, bools, texts, own classes, LISTS and tuples (index, slices, in, append, pop ..), calls, loops. Paste it whole ahead of your own text; what your proof does not reach may be deleted. -/
namespace L2
open PySem PySem.Spec PyProof.Rows

noncomputable abbrev Key := Sum Int Str
noncomputable def keyIs : Key → Value → Bool
  | .inl k, v => Value.isInt k v
  | .inr x, v => Value.isStrOf x v
noncomputable def keyH (w : World) : Key → Int
  | .inl k => hashInt k
  | .inr x => hashStr w x
theorem keyIs_shape : ∀ {k : Key} {v : Value}, keyIs k v = true → (∃ i t, k = Sum.inl i ∧ v = Value.int i t) ∨ (∃ x t, k = Sum.inr x ∧ v = Value.str x t)
  | .inl i, v, h => by
    obtain ⟨t, e⟩ := Value.isInt_shape (k := i) (v := v) h
    exact .inl ⟨i, t, rfl, e⟩
  | .inr x, v, h => by
    obtain ⟨t, e⟩ := Value.isStrOf_shape (x := x) (v := v) h
    exact .inr ⟨x, t, rfl, e⟩
theorem key_ll (a b : Int) : decide ((Sum.inl a : Key) = Sum.inl b) = (a == b) := by
  by_cases e : a = b
  · subst e; simp
  · have h : ¬ (Sum.inl a : Key) = Sum.inl b := fun q => e (Sum.inl.inj q)
    rw [decide_eq_false h]
    exact (beq_eq_false_iff_ne.mpr e).symm
theorem key_rr (a b : Str) : decide ((Sum.inr a : Key) = Sum.inr b) = decide (a = b) := by
  by_cases e : a = b
  · subst e; simp
  · have h : ¬ (Sum.inr a : Key) = Sum.inr b := fun q => e (Sum.inr.inj q)
    rw [decide_eq_false h, decide_eq_false e]
theorem key_lr (a : Int) (b : Str) : decide ((Sum.inl a : Key) = Sum.inr b) = false := decide_eq_false (fun q => nomatch q)
theorem key_rl (a : Str) (b : Int) : decide ((Sum.inr a : Key) = Sum.inl b) = false := decide_eq_false (fun q => nomatch q)

noncomputable def mixKind (prog : Program) (w : World) : PySem.KeyKind prog w Key where
  is := keyIs
  hash := keyH w
  inj := fun v a b ha hb => by
    rcases keyIs_shape ha with ⟨i, t, rfl, rfl⟩ | ⟨x, t, rfl, rfl⟩
    · rcases keyIs_shape hb with ⟨j, u, rfl, e⟩ | ⟨y, u, rfl, e⟩
      · injection e with e1 _; rw [e1]
      · exact nomatch e
    · rcases keyIs_shape hb with ⟨j, u, rfl, e⟩ | ⟨y, u, rfl, e⟩
      · exact nomatch e
      · injection e with e1 _; rw [e1]
  byValue := fun k v h => by
    rcases keyIs_shape h with ⟨i, t, rfl, rfl⟩ | ⟨x, t, rfl, rfl⟩ <;> rfl
  pyHash := fun hv h => by
    rcases keyIs_shape hv with ⟨i, t, rfl, rfl⟩ | ⟨x, t, rfl, rfl⟩
    · exact wpAny_pyHash_int h
    · exact wpAny_pyHash_str h
  eqBool := fun hu hv h => by
    rcases keyIs_shape hu with ⟨i, t, rfl, rfl⟩ | ⟨x, t, rfl, rfl⟩
    · rcases keyIs_shape hv with ⟨j, u, rfl, rfl⟩ | ⟨y, u, rfl, rfl⟩
      · rw [key_ll] at h; exact wpAny_eqBool_int h
      · rw [key_lr] at h; exact SeqAt.EqAt.int_str i t y u _ _ _ _ h
    · rcases keyIs_shape hv with ⟨j, u, rfl, rfl⟩ | ⟨y, u, rfl, rfl⟩
      · rw [key_rl] at h; exact SeqAt.EqAt.str_int x t j u _ _ _ _ h
      · rw [key_rr] at h; exact wpAny_eqBool_str h
  «strs» := fun k x t v h => by
    rcases keyIs_shape h with ⟨i, u, rfl, e⟩ | ⟨y, u, rfl, e⟩
    · exact nomatch e
    · injection e with e1 _
      subst e1
      cases v <;> rfl

end L2

namespace L2
open PySem PySem.Spec PyProof.Rows

inductive V where
  | non | bl (b : Bool) | int (i : Int) | str (x : Str) | byt (b : Array UInt8) | flt (b : UInt64) | ref (a : Addr) | ty (n : String)
  deriving DecidableEq

noncomputable def RelV : V → Value → Prop
  | .non, u => u = Value.none
  | .bl b, u => u = Value.bool b
  | .int i, u => ∃ t, u = Value.int i t
  | .str x, u => ∃ t, u = Value.str x t
  | .byt b, u => ∃ t, u = Value.bytes b t
  | .flt b, u => ∃ t, u = Value.float b t
  | .ref a, u => u = Value.ref a
  | .ty n, u => u = Value.type n

noncomputable abbrev Vals : List V → List Value → Prop := Paired RelV
theorem Vals.length {xs : List V} {us : List Value} (r : Vals xs us) : xs.length = us.length := Paired.length r
theorem Vals.get : ∀ {xs : List V} {us : List Value} {i : Nat} {x : V}, Vals xs us → xs[i]? = some x → ∃ u, us[i]? = some u ∧ RelV x u
  | _, _, _, _, .nil, e => by simp at e
  | _, _, 0, _, .cons r _, e => by simp at e; subst e; exact ⟨_, rfl, r⟩
  | _, _, i + 1, x, .cons _ t, e => by
    obtain ⟨u, h1, h2⟩ := Vals.get (i := i) (x := x) t (by simpa using e)
    exact ⟨u, by simpa using h1, h2⟩
theorem Vals.set {x : V} {u : Value} (r : RelV x u) : ∀ {xs : List V} {us : List Value} (i : Nat), Vals xs us → Vals (xs.set i x) (us.set i u)
  | _, _, _, .nil => .nil
  | _, _, 0, .cons _ t => .cons r t
  | _, _, i + 1, .cons q t => .cons q (Vals.set r i t)
theorem Vals.append : ∀ {xs ys : List V} {us ws : List Value}, Vals xs us → Vals ys ws → Vals (xs ++ ys) (us ++ ws)
  | _, _, _, _, .nil, s => s
  | _, _, _, _, .cons r t, s => .cons r (Vals.append t s)
theorem Vals.take : ∀ {xs : List V} {us : List Value} (n : Nat), Vals xs us → Vals (xs.take n) (us.take n)
  | _, _, 0, _ => .nil
  | _, _, _ + 1, .nil => .nil
  | _, _, n + 1, .cons r t => .cons r (Vals.take n t)
theorem Vals.drop : ∀ {xs : List V} {us : List Value} (n : Nat), Vals xs us → Vals (xs.drop n) (us.drop n)
  | _, _, 0, r => r
  | _, _, _ + 1, .nil => .nil
  | _, _, n + 1, .cons _ t => Vals.drop n t
noncomputable def RelO : Option V → Option Value → Prop
  | some v, some u => RelV v u
  | none, none => True
  | _, _ => False
noncomputable def KV {κ : Type} : List (κ × V) → List (κ × Value) → Prop := Paired fun (p : κ × V) (q : κ × Value) => p.1 = q.1 ∧ RelV p.2 q.2

noncomputable def kV : Key → V
  | .inl i => .int i
  | .inr x => .str x

inductive HO where
  /-- a list -/
  | lst (xs : List V)
  /-- a tuple (never changes) -/
  | tup (xs : List V)
  /-- a dict whose keys are ints and texts; one whose keys are tuples of ints and texts (the empty one is both) -/
  | dK (kvs : List (Key × V)) | dT (kvs : List (List Key × V))
  /-- a set of ints: its members, its size -/
  | set (S : Int → Bool) (n : Nat)
  /-- an instance of the class at C, its dict at dx, its attributes -/
  | ins (C dx : Addr) (fs : List (Str × V))
  /-- the dict of the instance at x -/
  | own (x : Addr)
  /-- the dict of an exception -/
  | xd (fs : List (Str × V))
  /-- a bound method, f of x -/
  | met (f x : Addr)
  /-- a range object lo, lo + 1, .. below hi -/
  | rng (lo hi : Int)
  /-- a thing that is known to the object (the script; a dict while a loop walks it): read, never written while it is so -/
  | frz (o : Obj) (u : HO)
  /-- a code object's table -/
  | tbl (ps : Array Value)
  /-- any other thing, by what is true of its one object (a def of one's own: SetO a S n := HO.ext fun h => ..) -/
  | ext (φ : Heap → Prop)

noncomputable abbrev Hp := Addr → Option HO
noncomputable def upd (H : Hp) (a : Addr) (o : HO) : Hp := fun b => if b = a then some o else H b
theorem upd_same {H : Hp} {a : Addr} {o : HO} : upd H a o a = some o := by unfold upd; rw [if_pos rfl]
theorem upd_ne {H : Hp} {a b : Addr} {o : HO} (h : b ≠ a) : upd H a o b = H b := by unfold upd; rw [if_neg h]
theorem ne_of {H : Hp} {a b : Addr} {o u : HO} (h : H a = some o) (h' : H b = some u) (d : o ≠ u) : a ≠ b := by
  intro e; subst e; rw [h] at h'; exact d (Option.some.inj h')
theorem ne_of_none {H : Hp} {a b : Addr} {o : HO} (h : H a = some o) (h' : H b = none) : a ≠ b := by
  intro e; subst e; rw [h] at h'; cases h'

noncomputable def IsTupD (h : Heap) (a : Addr) (items : Array Value) : Prop := ∃ o, h.get? a = some o ∧ o.cls = .type "tuple" ∧ (∃ n, o.data = .seq items n) ∧ o.dict = none
theorem IsTupD.lt {h : Heap} {a : Addr} {items : Array Value} (x : IsTupD h a items) : a < h.objs.size := let ⟨_, e, _⟩ := x; Heap.lt_size e
theorem IsTupD.tup {h : Heap} {a : Addr} {items : Array Value} (x : IsTupD h a items) : IsTup h a items := let ⟨o, e, c, d, _⟩ := x; ⟨o, e, c, d⟩
theorem IsTupD.new (h : Heap) (items : Array Value) : IsTupD (h.push { cls := .type "tuple", data := .seq items }) h.objs.size items := ⟨_, Heap.get?_push_size _ rfl, rfl, ⟨_, rfl⟩, rfl⟩
section
variable (P : Program) (w : World)
noncomputable def ObjOk (H : Hp) (h : Heap) (a : Addr) : HO → Prop
  | .lst xs => xs.length ≤ sizeLine ∧ ∃ (its : List Value) (n : Nat), Vals xs its ∧ h.get? a = some { cls := .type "list", data := .seq its.toArray n }
  | .tup xs => xs.length ≤ sizeLine ∧ ∃ its : List Value, Vals xs its ∧ IsTupD h a its.toArray
  | .dK kvs => kvs.length ≤ sizeLine ∧ (a == sysModules) = false ∧ ∃ vs, KV kvs vs ∧ h.DictOf (mixKind P w) a vs
  | .dT kvs => kvs.length ≤ sizeLine ∧ (a == sysModules) = false ∧ ∃ xs : List (List Key × Addr × Value),
      Paired (fun (p : List Key × V) (q : List Key × Addr × Value) => p.1 = q.1 ∧ H q.2.1 = some (.tup (p.1.map kV)) ∧ RelV p.2 q.2.2) kvs xs ∧
      ∃ o es ep, h.get? a = some o ∧ o.ExactDict ∧ o.data = .dict es ep ∧ es.toList = xs.map (entryOfKey (tupleKind (mixKind P w))) ∧ (xs.map (·.1)).Nodup
  | .set S n => h.SetOf (intKind P w) a S n
  | .ins C dx fs => H dx = some (.own a) ∧ fs.length ≤ 1000 ∧ dx ≠ a ∧ h.get? a = some (PySem.W.instObj C dx) ∧
      ∃ mA, h.Ns1 dx mA ∧ (∀ f, RelO (fs.lookup f) (mA f)) ∧ PySem.Within mA (fs.map (·.1))
  | .own _ => ∃ o, h.get? a = some o
  | .xd fs => ∃ mA, h.Ns1 a mA ∧ ∀ f, RelO (fs.lookup f) (mA f)
  | .rng lo hi => ∃ t u v, h.get? a = some { cls := .type "range", data := .fields #[.int lo t, .int hi u, .int 1 v] }
  | .frz o u => h.get? a = some o ∧ ObjOk H h a u
  | .tbl ps => h.get? a = some { cls := .none, data := .fields ps }
  | .met f x => h.get? a = some (PySem.W.methodObj (.ref f) (.ref x))
  | .ext φ => φ h ∧ (∃ o, h.get? a = some o) ∧ ∀ h1 h2 : Heap, φ h1 → (∀ o, h1.get? a = some o → h2.get? a = some o) → φ h2
noncomputable def HOk (H : Hp) (h : Heap) : Prop := ∀ a o, H a = some o → ObjOk P w H h a o
end

section
variable {P : Program} {w : World} {H H' : Hp} {h h' : Heap} {a : Addr} {o : HO}
theorem ObjOk.lt (x : ObjOk P w H h a o) : a < h.objs.size := by
  cases o with
  | lst xs => obtain ⟨_, _, _, _, e⟩ := x; exact Heap.lt_size e
  | tup xs => obtain ⟨_, _, _, p⟩ := x; exact p.lt
  | dK kvs => obtain ⟨_, _, _, _, o, _, _, e, _⟩ := x; exact Heap.lt_size e
  | dT kvs => obtain ⟨_, _, _, _, o, _, _, e, _⟩ := x; exact Heap.lt_size e
  | set S n => obtain ⟨o, _, _, _, e, _⟩ := x; exact Heap.lt_size e
  | ins C dx fs => obtain ⟨_, _, _, e, _⟩ := x; exact Heap.lt_size e
  | own y => obtain ⟨_, e⟩ := x; exact Heap.lt_size e
  | xd fs => obtain ⟨_, ⟨_, _, _, e, _⟩, _⟩ := x; exact Heap.lt_size e
  | rng lo hi => obtain ⟨_, _, _, e⟩ := x; exact Heap.lt_size e
  | frz ob u => obtain ⟨e, _⟩ := x; exact Heap.lt_size e
  | tbl ps => exact Heap.lt_size (show h.get? a = some _ from x)
  | met f y => exact Heap.lt_size (show h.get? a = some _ from x)
  | ext φ => obtain ⟨_, ⟨_, e⟩, _⟩ := x; exact Heap.lt_size e
theorem Paired.mapP {α β : Type} {F G : α → β → Prop} : ∀ {l₁ : List α} {l₂ : List β}, Paired F l₁ l₂ → (∀ a b, F a b → G a b) → Paired G l₁ l₂
  | _, _, .nil, _ => .nil
  | _, _, .cons r t, f => .cons (f _ _ r) (Paired.mapP t f)
theorem ObjOk.stay (x : ObjOk P w H h a o) (k : ∀ b u, (b = a ∨ H b = some (.own a)) → h.get? b = some u → h'.get? b = some u)
    (ho : ∀ b, H b = some (.own a) → H' b = some (.own a)) (ht : ∀ b xs, H b = some (.tup xs) → H' b = some (.tup xs)) : ObjOk P w H' h' a o := by
  induction o with
  | lst xs => obtain ⟨z, its, n, r, e⟩ := x; exact ⟨z, its, n, r, k _ _ (.inl rfl) e⟩
  | tup xs => obtain ⟨z, its, r, ob, e, c⟩ := x; exact ⟨z, its, r, ob, k _ _ (.inl rfl) e, c⟩
  | dK kvs => obtain ⟨z, y, vs, r, ob, es, ep, e, c⟩ := x; exact ⟨z, y, vs, r, ob, es, ep, k _ _ (.inl rfl) e, c⟩
  | dT kvs =>
    obtain ⟨z, y, xs, r, ob, es, ep, e, c⟩ := x
    exact ⟨z, y, xs, Paired.mapP r fun p q z => ⟨z.1, ht _ _ z.2.1, z.2.2⟩, ob, es, ep, k _ _ (.inl rfl) e, c⟩
  | set S n => obtain ⟨ob, es, ep, t, e, c⟩ := x; exact ⟨ob, es, ep, t, k _ _ (.inl rfl) e, c⟩
  | ins C dx fs =>
    obtain ⟨d, z, ne, e, mA, ⟨od, es, ep, e2, c⟩, r⟩ := x
    exact ⟨ho _ d, z, ne, k _ _ (.inl rfl) e, mA, ⟨od, es, ep, k _ _ (.inr d) e2, c⟩, r⟩
  | own y => obtain ⟨ob, e⟩ := x; exact ⟨ob, k _ _ (.inl rfl) e⟩
  | xd fs => obtain ⟨mA, ⟨od, es, ep, e, c⟩, r⟩ := x; exact ⟨mA, ⟨od, es, ep, k _ _ (.inl rfl) e, c⟩, r⟩
  | rng lo hi => obtain ⟨t, u, v, e⟩ := x; exact ⟨t, u, v, k _ _ (.inl rfl) e⟩
  | frz ob u ih => obtain ⟨e, q⟩ := x; exact ⟨k _ _ (.inl rfl) e, ih q⟩
  | tbl ps =>
    have e : h.get? a = some { cls := .none, data := .fields ps } := x
    show h'.get? a = some { cls := .none, data := .fields ps }
    exact k a _ (.inl rfl) e
  | met f y =>
    have e : h.get? a = some (PySem.W.methodObj (.ref f) (.ref y)) := x
    show h'.get? a = some (PySem.W.methodObj (.ref f) (.ref y))
    exact k a _ (.inl rfl) e
  | ext φ => obtain ⟨p, ⟨o, e⟩, st⟩ := x; exact ⟨st _ _ p fun o q => k _ _ (.inl rfl) q, ⟨o, k _ _ (.inl rfl) e⟩, st⟩
theorem HOk.lt (x : HOk P w H h) (e : H a = some o) : a < h.objs.size := (x a o e).lt
theorem HOk.fresh (x : HOk P w H h) (e : h.objs.size ≤ a) : H a = none := by
  cases q : H a with
  | none => rfl
  | some u => exact absurd (Nat.lt_of_lt_of_le (x.lt q) e) (Nat.lt_irrefl _)
theorem HOk.kept (x : HOk P w H h) (k : ∀ b u, h.get? b = some u → h'.get? b = some u) : HOk P w H h' := fun a o e =>
  (x a o e).stay (fun b u _ q => k b u q) (fun _ q => q) fun _ _ q => q
theorem HOk.laid (x : HOk P w H h) (k : ∀ b u, h.get? b = some u → h'.get? b = some u) (hp : h.objs.size ≤ a) (new : ObjOk P w (upd H a o) h' a o) : HOk P w (upd H a o) h' := fun b u e => by
  have hn := x.fresh hp
  by_cases hb : b = a
  · subst hb; rw [upd_same] at e; cases e; exact new
  · rw [upd_ne hb] at e
    exact (x b u e).stay (fun c v _ q => k c v q) (fun c q => by rw [upd_ne (ne_of_none q hn)]; exact q) fun c xs q => by rw [upd_ne (ne_of_none q hn)]; exact q
end

noncomputable def Rd (H : Hp) (a : Addr) (u : HO) : Prop := H a = some u ∨ ∃ o, H a = some (.frz o u)
theorem Rd.of {H : Hp} {a : Addr} {u : HO} (h : H a = some u) : Rd H a u := .inl h
theorem Rd.ok {P : Program} {w : World} {H : Hp} {h : Heap} {a : Addr} {u : HO} (r : Rd H a u) (x : HOk P w H h) : ObjOk P w H h a u := by
  rcases r with r | ⟨o, r⟩
  · exact x a u r
  · obtain ⟨_, q⟩ := x a _ r
    exact q
noncomputable def Mut : Option HO → Prop
  | some (.lst _) => True
  | some (.dK _) => True
  | some (.dT _) => True
  | some (.set _ _) => True
  | some (.ins _ _ _) => True
  | some (.ext _) => True
  | _ => False
section
variable {P : Program} {w : World} {H : Hp} {h h' : Heap} {x e : Addr} {o' : HO}
theorem HOk.write (ok : HOk P w H h) (mu : Mut (H x)) (he : e = x ∨ H e = some (.own x)) (k : ∀ b u, b ≠ e → h.get? b = some u → h'.get? b = some u) (heo : ∃ u, h'.get? e = some u)
    (new : ObjOk P w (upd H x o') h' x o') : HOk P w (upd H x o') h' := fun b u q => by
  have nown : ∀ c y, H c = some (.own y) → c ≠ x := fun c y r z => by subst z; rw [r] at mu; exact mu
  have ntup : ∀ c xs, H c = some (.tup xs) → c ≠ x := fun c xs r z => by subst z; rw [r] at mu; exact mu
  by_cases hb : b = x
  · subst hb; rw [upd_same] at q; cases q; exact new
  · rw [upd_ne hb] at q
    by_cases hbe : b = e
    · have q' : H b = some (.own x) := by
        rcases he with z | z
        · exact absurd (hbe.trans z) hb
        · rw [hbe]; exact z
      rw [q] at q'; cases q'
      obtain ⟨v, hv⟩ := heo
      exact ⟨v, by rw [hbe]; exact hv⟩
    · refine (ok b u q).stay (fun c v hc r => k c v ?_ r) (fun c r => by rw [upd_ne (nown c b r)]; exact r) fun c xs r => by rw [upd_ne (ntup c xs r)]; exact r
      rcases hc with rfl | hc
      · exact hbe
      · rintro rfl
        rcases he with z | z
        · exact nown c b hc z
        · rw [hc] at z; cases z; exact hb rfl
end

/-! ### kept unless tracked; of the frames at fs (the callers') the slots may change (an exception that passes writes there); of the records at ex (iterators) nothing is said -/
structure Un (fs ex : List Addr) (H H' : Hp) (h h' : Heap) : Prop where
  keep : ∀ b o, h.get? b = some o → H b = none → b ∉ fs → b ∉ ex → h'.get? b = some o
  slot : ∀ b o, h.get? b = some o → H b = none → b ∈ fs → b ∉ ex → ∃ sl, h'.get? b = some { o with slots := sl }
  free : ∀ b o, h.get? b = some o → H b = none → b ∉ ex → H' b = none
  there : ∀ b o, h.get? b = some o → b ∉ ex → ∃ o', h'.get? b = some o'
  tups : ∀ b xs, H b = some (.tup xs) → H' b = some (.tup xs)
  frzs : ∀ b o u, H b = some (.frz o u) → H' b = some (.frz o u)
  tbls : ∀ b ps, H b = some (.tbl ps) → ∃ more, H' b = some (.tbl (ps ++ more))
section
variable {fs fs' ex ex' : List Addr} {H H1 H2 : Hp} {h h1 h2 h' : Heap} {a x e : Addr} {o : HO}
theorem Un.any (u : Un fs ex H H1 h h1) {b : Addr} {ob : Obj} (q : h.get? b = some ob) (n : H b = none) (hx : b ∉ ex) : ∃ sl, h1.get? b = some { ob with slots := sl } := by
  by_cases hb : b ∈ fs
  · exact u.slot b ob q n hb hx
  · exact ⟨ob.slots, u.keep b ob q n hb hx⟩
theorem Un.trans (a : Un fs ex H H1 h h1) (b : Un fs ex H1 H2 h1 h2) : Un fs ex H H2 h h2 where
  keep := fun c ob q n hc hx => b.keep c ob (a.keep c ob q n hc hx) (a.free c ob q n hx) hc hx
  slot := fun c ob q n hc hx => by
    obtain ⟨sl, e1⟩ := a.slot c ob q n hc hx
    obtain ⟨sl', e2⟩ := b.slot c _ e1 (a.free c ob q n hx) hc hx
    exact ⟨sl', e2⟩
  free := fun c ob q n hx => by
    obtain ⟨o', e1⟩ := a.there c ob q hx
    exact b.free c o' e1 (a.free c ob q n hx) hx
  there := fun c ob q hx => by
    obtain ⟨o', e1⟩ := a.there c ob q hx
    exact b.there c o' e1 hx
  tups := fun c xs q => b.tups c xs (a.tups c xs q)
  frzs := fun c ob xs q => b.frzs c ob xs (a.frzs c ob xs q)
  tbls := fun c ps q => by
    obtain ⟨m1, e1⟩ := a.tbls c ps q
    obtain ⟨m2, e2⟩ := b.tbls c _ e1
    exact ⟨m1 ++ m2, by rw [e2, Array.append_assoc]⟩
theorem Un.kept (k : ∀ b u, h.get? b = some u → h'.get? b = some u) : Un fs ex H H h h' :=
  ⟨fun b ob q _ _ _ => k b ob q, fun b ob q _ _ _ => ⟨ob.slots, k b ob q⟩, fun _ _ _ n _ => n, fun b ob q _ => ⟨ob, k b ob q⟩, fun _ _ q => q, fun _ _ _ q => q, fun _ ps q => ⟨#[], by rw [q]; simp⟩⟩
theorem Un.refl : Un fs ex H H h h := Un.kept fun _ _ q => q
theorem Un.laid (k : ∀ b u, h.get? b = some u → h'.get? b = some u) (hp : h.objs.size ≤ a) (hn : H a = none) : Un fs ex H (upd H a o) h h' where
  keep := fun b u q _ _ _ => k b u q
  slot := fun b u q _ _ _ => ⟨u.slots, k b u q⟩
  free := fun b u q n _ => by rw [upd_ne (Nat.ne_of_lt (Nat.lt_of_lt_of_le (Heap.lt_size q) hp))]; exact n
  there := fun b u q _ => ⟨u, k b u q⟩
  tups := fun b xs q => by rw [upd_ne (ne_of_none q hn)]; exact q
  frzs := fun b u xs q => by rw [upd_ne (ne_of_none q hn)]; exact q
  tbls := fun b ps q => ⟨#[], by rw [upd_ne (ne_of_none q hn), q]; simp⟩
theorem Un.write (mu : Mut (H x)) (he : e = x ∨ H e = some (.own x)) (k : ∀ b u, b ≠ e → h.get? b = some u → h'.get? b = some u) (heo : ∃ u, h'.get? e = some u) : Un fs ex H (upd H x o) h h' := by
  have hx : ∀ b, H b = none → b ≠ x := fun b n z => by subst z; rw [n] at mu; exact mu
  have hb : ∀ b, H b = none → b ≠ e := fun b n z => by
    subst z
    rcases he with r | r
    · exact hx b n r
    · rw [n] at r; cases r
  have hm : ∀ b u, H b = some u → ¬ Mut (some u) → b ≠ x := fun b u q nm z => by subst z; rw [q] at mu; exact nm mu
  refine ⟨fun b u q n _ _ => k b u (hb b n) q, fun b u q n _ _ => ⟨u.slots, k b u (hb b n) q⟩, fun b u q n _ => by rw [upd_ne (hx b n)]; exact n, fun b u q _ => ?_,
    fun b xs q => by rw [upd_ne (hm b _ q fun z => z)]; exact q, fun b u xs q => by rw [upd_ne (hm b _ q fun z => z)]; exact q, fun b ps q => ⟨#[], by rw [upd_ne (hm b _ q fun z => z), q]; simp⟩⟩
  by_cases hbe : b = e
  · subst hbe; exact heo
  · exact ⟨u, k b u hbe q⟩
theorem Un.mono (u : Un fs ex H H1 h h1) (hs : ∀ b ∈ fs, b ∈ fs') (hx : ∀ b ∈ ex, b ∈ ex') : Un fs' ex' H H1 h h1 :=
  ⟨fun b ob q n hb he => u.keep b ob q n (fun z => hb (hs b z)) fun z => he (hx b z), fun _ _ q n _ he => u.any q n fun z => he (hx _ z), fun b ob q n he => u.free b ob q n fun z => he (hx b z), fun b ob q he => u.there b ob q fun z => he (hx b z), u.tups, u.frzs, u.tbls⟩
end

/-! ### the heap without what is tracked -/
noncomputable def trk (h : Heap) (H : Hp) : List Addr := (List.range h.objs.size).filter fun a => (H a).isSome
noncomputable def hidT (h : Heap) (H : Hp) : Heap := PySem.W.hideAll h (trk h H)
theorem hidT_size (h : Heap) (H : Hp) : (hidT h H).objs.size = h.objs.size := PySem.W.hideAll_size _ _
theorem hidT_get {h : Heap} {H : Hp} {b : Addr} {o : Obj} (e : h.get? b = some o) (n : H b = none) : (hidT h H).get? b = some o :=
  PySem.W.hideAll_get _ e fun hm => by
    have q : (H b).isSome = true := (List.mem_filter.mp hm).2
    rw [n] at q; simp at q
theorem of_hidT {h : Heap} {H : Hp} {b : Addr} {o : Obj} (e : (hidT h H).get? b = some o) : h.get? b = some o ∧ H b = none := by
  have e' : h.get? b = some o := PySem.W.of_hideAll (trk h H) e
  refine ⟨e', ?_⟩
  cases q : H b with
  | none => rfl
  | some x =>
    have hm : b ∈ trk h H := List.mem_filter.mpr ⟨List.mem_range.mpr (Heap.lt_size e'), by simp [q]⟩
    have z : (hidT h H).get? b = none := PySem.W.hideAll_none (trk h H) hm
    rw [z] at e; cases e

/-! ### OpenK's ledger, filled with every new object but one -/
noncomputable def allNews (g h : Heap) (L : Addr) : List (Addr × Obj) := (List.range h.objs.size).filterMap fun a => if a = L ∨ (g.get? a).isSome = true then none else (h.get? a).map fun o => (a, o)
noncomputable def rest (g h : Heap) (L d : Addr) : List (Addr × Obj) := (allNews g h L).filter fun p => decide (p.1 ≠ d)
end L2

namespace L2
open PySem PySem.Spec PyProof.Rows

structure Mod (K : PySem.W.Frag) (mg : Str → Option Value) (base : Heap) : Prop where
  kin : K.In base
  glob : base.Ns mainGlobals mg
  blt : ∃ mb, base.Ns builtinsNs mb ∧ ∀ x : Str, x ≠ "__name__" → mb x = bootBuiltins x
  nolimit : base.NoLimit

structure Cx where
  prog : Program
  w : World
  K : PySem.W.Frag
  mg : Str → Option Value
  base : Heap
  A : Around
  N : List Str
  s₀ : Shared
  H₀ : Hp
  env : Env
  outer : List Env
  stack : List Env
  ex : List Addr
  fn : Str → Bool
  calm : Bool
  pn : List (Addr × Obj)
  xe : Value → Shared → Prop
noncomputable def frs (l : List Env) : List Addr := l.filterMap (·.frame)
noncomputable abbrev Cx.fs (X : Cx) : List Addr := frs X.outer

noncomputable def Vis (sc : Scope) (x : Str) : Prop := sc.names.lookup x = some .local ∨ sc.names.lookup x = some .cell ∨ sc.names.lookup x = some .free
noncomputable def Loc (sc : Scope) (x : Str) : Prop := sc.names.lookup x = some .local ∨ sc.names.lookup x = some .cell
noncomputable def Look (env : Env) (h : Heap) (m : Str → Option Value) (x : Str) (u : Value) : Prop :=
  (env.kindOf x = some .local ∧ m x = some u) ∨ ((env.kindOf x = some .cell ∨ env.kindOf x = some .free) ∧ ∃ c, env.cells.lookup x = some c ∧ h.IsCell c (some u))

structure Cx.Ok (X : Cx) : Prop where
  mod : Mod X.K X.mg X.base
  kind : X.env.scope.kind = .function
  glob : X.env.globals = mainGlobals
  blt : X.env.builtins = builtinsNs
  above : X.s₀.heap.objs.size ≤ X.env.locals
  inj : ∀ x y c, X.env.cells.lookup x = some c → X.env.cells.lookup y = some c → x = y
  has : ∀ x, (X.env.kindOf x = some .cell ∨ X.env.kindOf x = some .free) → ∃ c, X.env.cells.lookup x = some c
  cab : ∀ x c, X.fn x = true → X.env.cells.lookup x = some c → X.s₀.heap.objs.size ≤ c
  hd : X.calm = true → X.A.handled = none
  frames : X.A.frames = some X.stack
  stk : X.stack = X.outer ∨ (X.stack = X.env :: X.outer ∧ X.env.frame = some X.env.locals)
  exf : ∀ b ∈ X.ex, b ≠ X.env.locals ∧ ∀ x c, X.env.cells.lookup x = some c → c ≠ b
  bs : ∀ b o, X.base.get? b = some o → X.s₀.heap.get? b = some o ∧ X.H₀ b = none
  bsz : X.base.objs.size ≤ X.s₀.heap.objs.size
  noex : ∀ b o, X.base.get? b = some o → b ∉ X.ex
  exfs : ∀ b ∈ X.ex, b ∉ X.fs
  funs : X.s₀.heap.FunFrames X.base X.outer
  frf : ∀ b ∈ X.fs, X.H₀ b = none

structure Inv (X : Cx) (pins : List (Addr × Obj)) (σ : List (Option V)) (H : Hp) (s : Shared) : Prop where
  ok : X.Ok
  os : s.os = X.s₀.os
  bare : AllBare s.gens
  base : Un X.fs X.ex X.H₀ H X.s₀.heap s.heap
  loc : ∃ m, s.heap.Ns X.env.locals m ∧ ∀ (i : Nat) (x : Str) (v : V), X.N[i]? = some x → σ[i]? = some (some v) → Vis X.env.scope x → ∃ u, RelV v u ∧ Look X.env s.heap m x u
  cell : ∀ x c, X.env.cells.lookup x = some c → ∃ v, s.heap.IsCell c v
  free : H X.env.locals = none
  freeC : ∀ x c, X.env.cells.lookup x = some c → H c = none
  pin : ∀ p ∈ X.pn ++ pins, s.heap.get? p.1 = some p.2 ∧ H p.1 = none ∧ p.1 ≠ X.env.locals ∧ p.1 ∉ X.fs ∧ ∀ v, p.2.data ≠ .cell v
  hok : HOk X.prog X.w H s.heap
  len : σ.length = X.N.length

section
variable {X : Cx} {pins : List (Addr × Obj)} {σ : List (Option V)} {H H' : Hp} {s : Shared} {h' : Heap}

theorem Cx.Ok.nofr (ok : X.Ok) {b : Addr} {o : Obj} (e : X.base.get? b = some o) : b ∉ X.fs := fun hb => by
  have := (ok.funs.mem hb).1
  rw [e] at this; cases this
theorem Inv.bs (I : Inv X pins σ H s) : ∀ b o, X.base.get? b = some o → s.heap.get? b = some o ∧ H b = none := fun b o e =>
  ⟨I.base.keep b o (I.ok.bs b o e).1 (I.ok.bs b o e).2 (I.ok.nofr e) (I.ok.noex b o e), I.base.free b o (I.ok.bs b o e).1 (I.ok.bs b o e).2 (I.ok.noex b o e)⟩
theorem Inv.bk (I : Inv X pins σ H s) : ∀ b o, X.base.get? b = some o → s.heap.get? b = some o := fun b o e => (I.bs b o e).1
theorem Inv.mod (I : Inv X pins σ H s) : Mod X.K X.mg X.base := I.ok.mod
theorem Inv.kIn (I : Inv X pins σ H s) : X.K.In s.heap := I.ok.mod.kin.keeps I.bk
theorem Inv.nolimit (I : Inv X pins σ H s) : s.heap.NoLimit := I.ok.mod.nolimit.keeps I.bk
theorem Inv.lt (I : Inv X pins σ H s) : X.env.locals < s.heap.objs.size := let ⟨_, hn, _⟩ := I.loc; hn.lt
theorem Inv.sz (I : Inv X pins σ H s) : X.s₀.heap.objs.size ≤ s.heap.objs.size := Nat.le_trans I.ok.above (Nat.le_of_lt I.lt)
theorem Inv.nofs (I : Inv X pins σ H s) {a : Addr} (h : s.heap.objs.size ≤ a) : a ∉ X.fs := fun hb => by
  obtain ⟨_, o, ho, _⟩ := I.ok.funs.mem hb
  exact absurd (Nat.lt_of_lt_of_le (Heap.lt_size ho) (Nat.le_trans I.sz h)) (Nat.lt_irrefl _)
theorem Inv.cne (I : Inv X pins σ H s) : ∀ x c, X.env.cells.lookup x = some c → c ≠ X.env.locals := fun x c e z => by
  obtain ⟨v, o, ho, hd⟩ := I.cell x c e
  obtain ⟨m, ⟨o', es, ep, ho', hd', _⟩, _⟩ := I.loc
  rw [z, ho'] at ho; cases ho; rw [hd'] at hd; cases hd
theorem Inv.funs (I : Inv X pins σ H s) : s.heap.FunFrames X.base X.outer := by
  have all : ∀ (l : List Env), (∀ b ∈ frs l, b ∈ X.fs) → X.s₀.heap.FunFrames X.base l → s.heap.FunFrames X.base l := by
    intro l
    induction l with
    | nil => intro _ _; trivial
    | cons env r ih =>
      intro hs hl
      obtain ⟨hk, ⟨L, o, hf, hn, ho, hd⟩, hr⟩ := hl
      have hL : L ∈ X.fs := hs L (by unfold frs; rw [List.filterMap_cons, hf]; exact List.mem_cons_self)
      obtain ⟨sl, e⟩ := I.base.slot L o ho (I.ok.frf L hL) hL fun z => I.ok.exfs L z hL
      exact ⟨hk, ⟨L, _, hf, hn, e, hd⟩, ih (fun b hb => hs b (by unfold frs; rw [List.filterMap_cons, hf]; exact List.mem_cons_of_mem _ hb)) hr⟩
  exact all X.outer (fun _ hb => hb) I.ok.funs

theorem Inv.stack (I : Inv X pins σ H s) : s.heap.FunFrames X.base X.stack := by
  rcases I.ok.stk with e | ⟨e, hf⟩
  · rw [e]; exact I.funs
  · rw [e]
    obtain ⟨m, hn, _⟩ := I.loc
    refine .cons (by rw [I.ok.kind]; decide) hf hn ?_ I.funs
    exact Heap.get?_none_of_le (Nat.le_trans I.ok.bsz I.ok.above)
theorem Inv.stkSub (I : Inv X pins σ H s) : ∀ b ∈ frs X.stack, b ∈ X.env.locals :: X.fs := fun b hb => by
  rcases I.ok.stk with e | ⟨e, hf⟩
  · rw [e] at hb; exact List.mem_cons_of_mem _ hb
  · rw [e] at hb
    unfold frs at hb
    rw [List.filterMap_cons, hf] at hb
    exact hb
theorem Inv.stkFree (I : Inv X pins σ H s) : ∀ b ∈ frs X.stack, H b = none := fun b hb => by
  rcases List.mem_cons.mp (I.stkSub b hb) with e | hb
  · rw [e]; exact I.free
  · obtain ⟨_, o, ho, _⟩ := I.ok.funs.mem hb
    exact I.base.free b o ho (I.ok.frf b hb) fun z => I.ok.exfs b z hb

theorem Inv.step {g' : Array GenState} {t' : Nat} {d' : Drawn} {ch : List Addr} (I : Inv X pins σ H s)
    (hch : ∀ b ∈ ch, (b ∈ X.ex ∨ X.s₀.heap.objs.size ≤ b) ∧ b ≠ X.env.locals ∧ (∀ x c, X.env.cells.lookup x = some c → c ≠ b) ∧ ∀ p ∈ X.pn ++ pins, p.1 ≠ b)
    (keep : ∀ b o, b ≠ X.env.locals → b ∉ X.fs → b ∉ ch → s.heap.get? b = some o → H b = none → h'.get? b = some o)
    (slot : ∀ b o, b ≠ X.env.locals → b ∈ X.fs → b ∉ ch → s.heap.get? b = some o → H b = none → ∃ sl, h'.get? b = some { o with slots := sl }) (free : ∀ b o, b ∉ ch → s.heap.get? b = some o → H b = none → H' b = none)
    (there : ∀ b o, b ∉ ch → s.heap.get? b = some o → ∃ o', h'.get? b = some o')
    (tups : ∀ b xs, H b = some (.tup xs) → H' b = some (.tup xs)) (frzs : ∀ b o u, H b = some (.frz o u) → H' b = some (.frz o u)) (tbls : ∀ b ps, H b = some (.tbl ps) → ∃ more, H' b = some (.tbl (ps ++ more)))
    (ns : ∀ m, s.heap.Ns X.env.locals m → h'.Ns X.env.locals m) (hok : HOk X.prog X.w H' h') (hg : AllBare g') :
    Inv X pins σ H' { s with heap := h', gens := g', drawn := d', toks := t' } := by
  have neL : ∀ b o, X.s₀.heap.get? b = some o → b ≠ X.env.locals := fun b o e => Nat.ne_of_lt (Nat.lt_of_lt_of_le (Heap.lt_size e) I.ok.above)
  have neC : ∀ b o, X.s₀.heap.get? b = some o → b ∉ X.ex → b ∉ ch := fun b o e hx hb => by
    rcases (hch b hb).1 with z | z
    · exact hx z
    · exact absurd (Nat.lt_of_lt_of_le (Heap.lt_size e) z) (Nat.lt_irrefl _)
  have cellK : ∀ x c, X.env.cells.lookup x = some c → ∀ v, s.heap.IsCell c v → h'.IsCell c v := fun x c e v ⟨o, ho, hd⟩ => by
    have nch : c ∉ ch := fun z => (hch c z).2.2.1 x c e rfl
    by_cases hc : c ∈ X.fs
    · obtain ⟨sl, q⟩ := slot c o (I.cne x c e) hc nch ho (I.freeC x c e)
      exact ⟨_, q, hd⟩
    · exact ⟨o, keep c o (I.cne x c e) hc nch ho (I.freeC x c e), hd⟩
  refine ⟨I.ok, I.os, hg, ⟨fun b o e n hb hx => ?_, fun b o e n hb hx => ?_, fun b o e n hx => ?_, fun b o e hx => ?_, fun b xs e => tups b xs (I.base.tups b xs e), fun b o xs e => frzs b o xs (I.base.frzs b o xs e), fun b ps e => ?_⟩, ?_, fun x c e => ?_, ?_, fun x c e => ?_, fun p hp => ?_, hok, I.len⟩
  · exact keep b o (neL b o e) hb (neC b o e hx) (I.base.keep b o e n hb hx) (I.base.free b o e n hx)
  · obtain ⟨sl, e1⟩ := I.base.slot b o e n hb hx
    obtain ⟨sl', e2⟩ := slot b _ (neL b o e) hb (neC b o e hx) e1 (I.base.free b o e n hx)
    exact ⟨sl', e2⟩
  · obtain ⟨o', e1⟩ := I.base.there b o e hx
    exact free b o' (neC b o e hx) e1 (I.base.free b o e n hx)
  · obtain ⟨o', e1⟩ := I.base.there b o e hx
    exact there b o' (neC b o e hx) e1
  · obtain ⟨m1, e1⟩ := I.base.tbls b ps e
    obtain ⟨m2, e2⟩ := tbls b _ e1
    exact ⟨m1 ++ m2, by rw [e2, Array.append_assoc]⟩
  · obtain ⟨m, hn, hl⟩ := I.loc
    refine ⟨m, ns m hn, fun i x v e1 e2 e3 => ?_⟩
    obtain ⟨u, r, l⟩ := hl i x v e1 e2 e3
    refine ⟨u, r, ?_⟩
    rcases l with l | ⟨k, c, e, z⟩
    · exact .inl l
    · exact .inr ⟨k, c, e, cellK x c e _ z⟩
  · obtain ⟨v, z⟩ := I.cell x c e
    exact ⟨v, cellK x c e v z⟩
  · obtain ⟨m, ⟨o, _, _, ho, _⟩, _⟩ := I.loc
    exact free _ o (fun z => (hch _ z).2.1 rfl) ho I.free
  · obtain ⟨v, o, ho, hd⟩ := I.cell x c e
    exact free c o (fun z => (hch c z).2.2.1 x c e rfl) ho (I.freeC x c e)
  · obtain ⟨e, n, ne, nf, d⟩ := I.pin p hp
    have nch : p.1 ∉ ch := fun z => (hch p.1 z).2.2.2 p hp rfl
    exact ⟨keep p.1 p.2 ne nf nch e n, free p.1 p.2 nch e n, ne, nf, d⟩
theorem Inv.un {t' : Nat} (I : Inv X pins σ H s) (u : Un X.fs [] H H' s.heap h') (hok : HOk X.prog X.w H' h') : Inv X pins σ H' { s with heap := h', toks := t' } := by
  obtain ⟨m, ⟨o, es, ep, ho, r⟩, _⟩ := id I.loc
  obtain ⟨sl, hL⟩ := u.any ho I.free (by simp)
  exact I.step (g' := s.gens) (d' := s.drawn) (ch := []) (fun _ z => nomatch z) (fun b o _ hb _ e n => u.keep b o e n hb (by simp)) (fun b o _ hb _ e n => u.slot b o e n hb (by simp)) (fun b o _ e n => u.free b o e n (by simp)) (fun b o _ e => u.there b o e (by simp)) u.tups u.frzs u.tbls (fun m' hm => by
    obtain ⟨o', es', ep', ho', r'⟩ := hm
    rw [ho] at ho'; cases ho'
    exact ⟨_, es', ep', hL, r'⟩) hok I.bare
theorem Inv.call {g' : Array GenState} {t' : Nat} {d' : Drawn} {ch : List Addr} (I : Inv X pins σ H s) (u : Un (frs X.stack) ch H H' s.heap h') (hok : HOk X.prog X.w H' h') (hg : AllBare g')
    (hch : ∀ b ∈ ch, (b ∈ X.ex ∨ X.s₀.heap.objs.size ≤ b) ∧ b ≠ X.env.locals ∧ (∀ x c, X.env.cells.lookup x = some c → c ≠ b) ∧ ∀ p ∈ X.pn ++ pins, p.1 ≠ b) :
    Inv X pins σ H' { s with heap := h', gens := g', drawn := d', toks := t' } := by
  obtain ⟨m, ⟨o, es, ep, ho, r⟩, _⟩ := id I.loc
  obtain ⟨sl, hL⟩ := u.any ho I.free fun z => (hch _ z).2.1 rfl
  exact I.step (ch := ch) hch (fun b o hL hb hc e n => u.keep b o e n (fun z => (List.mem_cons.mp (I.stkSub b z)).elim hL hb) hc) (fun b o _ _ hc e n => u.any e n hc) (fun b o hc e n => u.free b o e n hc) (fun b o hc e => u.there b o e hc) u.tups u.frzs u.tbls (fun m' hm => by
    obtain ⟨o', es', ep', ho', r'⟩ := hm
    rw [ho] at ho'; cases ho'
    exact ⟨_, es', ep', hL, r'⟩) hok hg
theorem Inv.turned {t' : Nat} {it : Addr} (I : Inv X pins σ H s) (k : ∀ b o, b ≠ it → s.heap.get? b = some o → h'.get? b = some o) (hn : H it = none) (hL : it ≠ X.env.locals)
    (h1 : it ∈ X.ex ∨ X.s₀.heap.objs.size ≤ it) (h2 : ∀ x c, X.env.cells.lookup x = some c → c ≠ it) (h3 : ∀ p ∈ X.pn ++ pins, p.1 ≠ it) : Inv X pins σ H { s with heap := h', toks := t' } := by
  have nit : ∀ b u, H b = some u → b ≠ it := fun b u e z => by rw [z, hn] at e; cases e
  refine I.step (g' := s.gens) (d' := s.drawn) (ch := [it]) (fun b hb => ?_) (fun b o _ _ hc e _ => k b o (fun z => hc (by simp [z])) e) (fun b o _ _ hc e _ => ⟨o.slots, k b o (fun z => hc (by simp [z])) e⟩) (fun _ _ _ _ n => n)
    (fun b o hc e => ⟨o, k b o (fun z => hc (by simp [z])) e⟩) (fun _ _ e => e) (fun _ _ _ e => e) (fun b ps e => ⟨#[], by rw [e]; simp⟩) (fun m hm => ?_) (fun b u e => ?_) I.bare
  · have e : b = it := by simpa using hb
    subst e
    exact ⟨h1, hL, h2, h3⟩
  · obtain ⟨o, es, ep, ho, r⟩ := hm
    exact ⟨o, es, ep, k _ o (Ne.symm hL) ho, r⟩
  · refine (I.hok b u e).stay (fun c v hc q => k c v ?_ q) (fun _ q => q) fun _ _ q => q
    rcases hc with z | z
    · rw [z]; exact nit b u e
    · exact nit c _ z
theorem Inv.tok (I : Inv X pins σ H s) (t : Nat) : Inv X pins σ H { s with toks := t } := I.un (h' := s.heap) (t' := t) Un.refl I.hok
theorem Inv.kept {t' : Nat} (I : Inv X pins σ H s) (k : ∀ b u, s.heap.get? b = some u → h'.get? b = some u) : Inv X pins σ H { s with heap := h', toks := t' } := I.un (Un.kept k) (I.hok.kept k)
theorem Inv.laid {a : Addr} {o : HO} {t' : Nat} (I : Inv X pins σ H s) (k : ∀ b u, s.heap.get? b = some u → h'.get? b = some u) (hp : s.heap.objs.size ≤ a) (new : ObjOk X.prog X.w (upd H a o) h' a o) :
    Inv X pins σ (upd H a o) { s with heap := h', toks := t' } := I.un (Un.laid k hp (I.hok.fresh hp)) (I.hok.laid k hp new)
theorem Inv.write {x e : Addr} {o : HO} {t' : Nat} (I : Inv X pins σ H s) (mu : Mut (H x)) (he : e = x ∨ H e = some (.own x)) (k : ∀ b u, b ≠ e → s.heap.get? b = some u → h'.get? b = some u) (heo : ∃ u, h'.get? e = some u)
    (new : ObjOk X.prog X.w (upd H x o) h' x o) : Inv X pins σ (upd H x o) { s with heap := h', toks := t' } := I.un (Un.write mu he k heo) (I.hok.write mu he k heo new)
theorem Inv.weak {σ' : List (Option V)} (I : Inv X pins σ H s) (hl : σ'.length = σ.length) (w : ∀ (i : Nat) v, σ'[i]? = some (some v) → σ[i]? = some (some v)) : Inv X pins σ' H s :=
  ⟨I.ok, I.os, I.bare, I.base, let ⟨m, hn, hl'⟩ := I.loc; ⟨m, hn, fun i x v e1 e2 e3 => hl' i x v e1 (w i v e2) e3⟩, I.cell, I.free, I.freeC, I.pin, I.hok, hl.trans I.len⟩
theorem Inv.pins_of {pins' : List (Addr × Obj)} (I : Inv X pins σ H s) (h : ∀ p ∈ pins', s.heap.get? p.1 = some p.2 ∧ H p.1 = none ∧ p.1 ≠ X.env.locals ∧ p.1 ∉ X.fs ∧ ∀ v, p.2.data ≠ .cell v) : Inv X pins' σ H s :=
  ⟨I.ok, I.os, I.bare, I.base, I.loc, I.cell, I.free, I.freeC, fun p hp => (List.mem_append.mp hp).elim (fun z => I.pin p (List.mem_append_left _ z)) (h p), I.hok, I.len⟩

theorem nodup_ix {N : List Str} (hN : N.Nodup) {i j : Nat} {x : Str} (a : N[i]? = some x) (b : N[j]? = some x) : i = j := by
  obtain ⟨h1, e1⟩ := List.getElem?_eq_some_iff.mp a
  obtain ⟨h2, e2⟩ := List.getElem?_eq_some_iff.mp b
  exact (List.getElem_inj hN).mp (e1.trans e2.symm)

theorem store_ok2 {M : Model} {A : Around} {E : Value → Shared → Prop} {i : Nat} {x : Str} {v : V} {u : Value} {Q : Unit → Shared → Prop} (I : Inv X pins σ H s) (hN : X.N.Nodup) (hi : X.N[i]? = some x) (hx : Loc X.env.scope x) (r : RelV v u)
    (h : ∀ s', Inv X pins (σ.set i (some v)) H s' → (∃ a, Heap.SameBut a s.heap s'.heap ∧ (a = X.env.locals ∨ X.env.cells.lookup x = some a)) → Q () s') (hf : X.fn x = true ∨ X.env.scope.names.lookup x = some .local := by first | exact .inl rfl | exact .inr rfl | assumption) : wpAny M A (storeName X.env x u) Q E s := by
  obtain ⟨m, hn, hl⟩ := id I.loc
  have hcls : (X.env.scope.kind == .class || (X.env.scope.kind == .module && X.env.locals != X.env.globals)) = false := by rw [I.ok.kind]; rfl
  have hiσ : i < σ.length := by rw [I.len]; exact (List.getElem?_eq_some_iff.mp hi).1
  have cne := I.cne
  have tracked : ∀ {a : Addr} {h' : Heap}, (∃ o, s.heap.get? a = some o ∧ H a = none) → Heap.SameBut a s.heap h' → HOk X.prog X.w H h' := fun {a h'} ha hs b ob e => by
    obtain ⟨_, _, hfree⟩ := ha
    refine (I.hok b ob e).stay (fun c w' hc q => (hs.2 c ?_).trans q) (fun _ q => q) fun _ _ q => q
    rintro rfl
    rcases hc with rfl | hc
    · rw [hfree] at e; cases e
    · rw [hfree] at hc; cases hc
  rcases hx with hk | hk
  · refine wpAny_storeName_local hk hn (fun h' hn' hs => ?_) hcls
    obtain ⟨oL, _, _, hoL, _⟩ := id hn
    refine h _ ⟨I.ok, I.os, I.bare, ⟨fun b o e n hb hx => ?_, fun b o e n hb hx => ?_, I.base.free, fun b o e hx => ?_, I.base.tups, I.base.frzs, I.base.tbls⟩, ⟨_, hn', fun j y v' e1 e2 e3 => ?_⟩, fun y c e => ?_, I.free, I.freeC, fun p hp => ?_, tracked ⟨oL, hoL, I.free⟩ hs, by simpa using I.len⟩ ⟨_, hs, .inl rfl⟩
    · exact (hs.2 b (Nat.ne_of_lt (Nat.lt_of_lt_of_le (Heap.lt_size e) I.ok.above))).trans (I.base.keep b o e n hb hx)
    · obtain ⟨sl, e1⟩ := I.base.slot b o e n hb hx
      exact ⟨sl, (hs.2 b (Nat.ne_of_lt (Nat.lt_of_lt_of_le (Heap.lt_size e) I.ok.above))).trans e1⟩
    · obtain ⟨o', e1⟩ := I.base.there b o e hx
      exact ⟨o', (hs.2 b (Nat.ne_of_lt (Nat.lt_of_lt_of_le (Heap.lt_size e) I.ok.above))).trans e1⟩
    · by_cases hj : j = i
      · subst hj
        rw [hi] at e1; cases e1
        rw [List.getElem?_set_self hiσ] at e2
        cases e2
        exact ⟨u, r, .inl ⟨hk, by simp⟩⟩
      · rw [List.getElem?_set_ne (Ne.symm hj)] at e2
        obtain ⟨u', r', q⟩ := hl j y v' e1 e2 e3
        refine ⟨u', r', ?_⟩
        rcases q with ⟨k, e⟩ | ⟨k, c, e, z⟩
        · refine .inl ⟨k, ?_⟩
          have : y ≠ x := fun e => hj (nodup_ix hN e1 (e ▸ hi))
          simp [this, e]
        · exact .inr ⟨k, c, e, z.sameBut hs (cne y c e)⟩
    · obtain ⟨w', z⟩ := I.cell y c e
      exact ⟨w', z.sameBut hs (cne y c e)⟩
    · obtain ⟨e, n, ne, nf, d⟩ := I.pin p hp
      exact ⟨(hs.2 p.1 ne).trans e, n, ne, nf, d⟩
  · have hfn : X.fn x = true := by
      rcases hf with z | z
      · exact z
      · rw [z] at hk; cases hk
    obtain ⟨c, hc⟩ := I.ok.has x (.inl hk)
    obtain ⟨w', z⟩ := I.cell x c hc
    refine wpAny_storeName_cell I.ok.kind hk hc z (fun h' hc' hs => ?_)
    obtain ⟨oc, hoc, hocd⟩ := id z
    refine h { s with heap := h' } ⟨I.ok, I.os, I.bare, ⟨fun b o e n hb hx => ?_, fun b o e n hb hx => ?_, I.base.free, fun b o e hx => ?_, I.base.tups, I.base.frzs, I.base.tbls⟩, ⟨m, hn.sameBut hs (Ne.symm (cne x c hc)), fun j y v' e1 e2 e3 => ?_⟩, fun y c' e => ?_, I.free, I.freeC, fun p hp => ?_, tracked ⟨oc, hoc, I.freeC x c hc⟩ hs, by simpa using I.len⟩ ⟨c, hs, .inr hc⟩
    · exact (hs.2 b (Nat.ne_of_lt (Nat.lt_of_lt_of_le (Heap.lt_size e) (I.ok.cab x c hfn hc)))).trans (I.base.keep b o e n hb hx)
    · obtain ⟨sl, e1⟩ := I.base.slot b o e n hb hx
      exact ⟨sl, (hs.2 b (Nat.ne_of_lt (Nat.lt_of_lt_of_le (Heap.lt_size e) (I.ok.cab x c hfn hc)))).trans e1⟩
    · obtain ⟨o', e1⟩ := I.base.there b o e hx
      exact ⟨o', (hs.2 b (Nat.ne_of_lt (Nat.lt_of_lt_of_le (Heap.lt_size e) (I.ok.cab x c hfn hc)))).trans e1⟩
    · by_cases hj : j = i
      · subst hj
        rw [hi] at e1; cases e1
        rw [List.getElem?_set_self hiσ] at e2
        cases e2
        exact ⟨u, r, .inr ⟨.inl hk, c, hc, hc'⟩⟩
      · rw [List.getElem?_set_ne (Ne.symm hj)] at e2
        obtain ⟨u', r', q⟩ := hl j y v' e1 e2 e3
        refine ⟨u', r', ?_⟩
        rcases q with q | ⟨k, c', e, z'⟩
        · exact .inl q
        · refine .inr ⟨k, c', e, z'.sameBut hs ?_⟩
          rintro rfl
          exact hj (nodup_ix hN e1 (I.ok.inj _ _ _ e hc ▸ hi))
    · by_cases hcc : c' = c
      · subst hcc; exact ⟨_, hc'⟩
      · obtain ⟨w2, z2⟩ := I.cell y c' e
        exact ⟨w2, z2.sameBut hs hcc⟩
    · obtain ⟨e, n, ne, nf, d⟩ := I.pin p hp
      refine ⟨(hs.2 p.1 ?_).trans e, n, ne, nf, d⟩
      intro q
      rw [q, hoc] at e
      have q' : oc = p.2 := Option.some.inj e
      exact d w' (by rw [← q']; exact hocd)
theorem store_ok {M : Model} {A : Around} {E : Value → Shared → Prop} {i : Nat} {x : Str} {v : V} {u : Value} {Q : Unit → Shared → Prop} (I : Inv X pins σ H s) (hN : X.N.Nodup) (hi : X.N[i]? = some x) (hx : Loc X.env.scope x) (r : RelV v u)
    (h : ∀ s', Inv X pins (σ.set i (some v)) H s' → Q () s') (hf : X.fn x = true ∨ X.env.scope.names.lookup x = some .local := by first | exact .inl rfl | exact .inr rfl | assumption) : wpAny M A (storeName X.env x u) Q E s :=
  store_ok2 I hN hi hx r (fun s' I' _ => h s' I') hf
theorem Inv.call' {s' : Shared} {ch : List Addr} (I : Inv X pins σ H s) (ho : s'.os = s.os) (u : Un (frs X.stack) ch H H' s.heap s'.heap) (hok : HOk X.prog X.w H' s'.heap) (hg : AllBare s'.gens)
    (hch : ∀ b ∈ ch, (b ∈ X.ex ∨ X.s₀.heap.objs.size ≤ b) ∧ b ≠ X.env.locals ∧ (∀ x c, X.env.cells.lookup x = some c → c ≠ b) ∧ ∀ p ∈ X.pn ++ pins, p.1 ≠ b) : Inv X pins σ H' s' := by
  obtain ⟨h', g', d', t', o'⟩ := s'
  have e : o' = s.os := ho
  subst e
  exact I.call (g' := g') (t' := t') (d' := d') u hok hg hch
end

/-! ### the judgements -/
noncomputable abbrev XK := Value → Option Addr → Hp → Prop
noncomputable abbrev St := List (Option V)
noncomputable abbrev VK := V → Hp → Prop
noncomputable abbrev TE := St → Hp → VK → Prop
noncomputable abbrev TT := St → Hp → (Bool → Hp → Prop) → Prop
noncomputable abbrev TA := St → Hp → (List V → Hp → Prop) → Prop
structure Ends where
  nx : St → Hp → Prop
  rt : VK
  bk : St → Hp → Prop := fun _ _ => False
  ct : St → Hp → Prop := fun _ _ => False
noncomputable abbrev TS := Ends → St → Hp → Prop

noncomputable def EP (X : Cx) (pins : List (Addr × Obj)) (σ : St) (Q : VK) (u : Value) (s' : Shared) : Prop := ∃ v H', Inv X pins σ H' s' ∧ RelV v u ∧ Q v H'
noncomputable def TP (X : Cx) (pins : List (Addr × Obj)) (σ : St) (Q : Bool → Hp → Prop) (b : Bool) (s' : Shared) : Prop := ∃ H', Inv X pins σ H' s' ∧ Q b H'
noncomputable def AP (X : Cx) (pins : List (Addr × Obj)) (σ : St) (Q : List V → Hp → Prop) (us : List Value) (s' : Shared) : Prop := ∃ vs H', Inv X pins σ H' s' ∧ Vals vs us ∧ Q vs H'
noncomputable def SP (X : Cx) (pins : List (Addr × Obj)) (D : Ends) (f : Flow) (s' : Shared) : Prop :=
  match f with
  | .next => ∃ σ' H', Inv X pins σ' H' s' ∧ D.nx σ' H'
  | .brk => ∃ σ' H', Inv X pins σ' H' s' ∧ D.bk σ' H'
  | .cont => ∃ σ' H', Inv X pins σ' H' s' ∧ D.ct σ' H'
  | .ret u => ∃ v σ' H', Inv X pins σ' H' s' ∧ RelV v u ∧ D.rt v H'

noncomputable def PE (X : Cx) (e : Expr) (t : TE) : Prop :=
  ∀ (pins : List (Addr × Obj)) (s : Shared) (σ : St) (H : Hp) (Q : VK), Inv X pins σ H s → t σ H Q → wpAny (model X.prog X.w) X.A (eval e X.env) (EP X pins σ Q) X.xe s
noncomputable def PT (X : Cx) (e : Expr) (t : TT) : Prop :=
  ∀ (pins : List (Addr × Obj)) (s : Shared) (σ : St) (H : Hp) (Q : Bool → Hp → Prop), Inv X pins σ H s → t σ H Q → wpAny (model X.prog X.w) X.A (isTrue e X.env (eval e X.env)) (TP X pins σ Q) X.xe s
noncomputable def PW (X : Cx) (e : Expr) (t : TT) : Prop :=
  ∀ (whole : Sem Value) (pins : List (Addr × Obj)) (s : Shared) (σ : St) (H : Hp) (Q : Bool → Hp → Prop), Inv X pins σ H s → t σ H Q → wpAny (model X.prog X.w) X.A (isTrue e X.env whole) (TP X pins σ Q) X.xe s
theorem PW.pt {X : Cx} {e : Expr} {t : TT} (h : PW X e t) : PT X e t := h _
noncomputable def PA (X : Cx) (es : List Expr) (t : TA) : Prop :=
  ∀ (pos : Pos) (pins : List (Addr × Obj)) (s : Shared) (σ : St) (H : Hp) (Q : List V → Hp → Prop), Inv X pins σ H s → t σ H Q → wpAny (model X.prog X.w) X.A (spliced (backTo pos (starEach es X.env))) (AP X pins σ Q) X.xe s
noncomputable def PS (X : Cx) (st : Stmt) (t : TS) : Prop :=
  ∀ (pins : List (Addr × Obj)) (s : Shared) (σ : St) (H : Hp) (D : Ends), Inv X pins σ H s → t D σ H → wpAny (model X.prog X.w) X.A (exec st X.env) (SP X pins D) X.xe s
noncomputable def PSs (X : Cx) (st : List Stmt) (t : TS) : Prop :=
  ∀ (pins : List (Addr × Obj)) (s : Shared) (σ : St) (H : Hp) (D : Ends), Inv X pins σ H s → t D σ H → wpAny (model X.prog X.w) X.A (execs st X.env) (SP X pins D) X.xe s
theorem thn {α : Type} {t : Sem α} {Q Q' : α → Shared → Prop} {M : Model} {A : Around} {E : Value → Shared → Prop} {s : Shared} (h : wpAny M A t Q E s) (hQ : ∀ a s, Q a s → Q' a s) : wpAny M A t Q' E s := wpAny_mono h hQ fun _ _ x => x
end L2

namespace L2
open PySem PySem.Spec PyProof.Rows
section
variable {X : Cx}

/-! ### names and constants -/
noncomputable def tVar (i : Nat) : TE := fun σ H Q => ∃ v, σ[i]? = some (some v) ∧ Q v H
noncomputable def tC (v : V) : TE := fun _ H Q => Q v H
theorem pe_var {i : Nat} {x : Str} {pos : Pos} (hN : X.N[i]? = some x) (hv : Vis X.env.scope x) (hd : (x == ("__debug__" : Str)) = false := by decide) (hcd : (x == ("__classdict__" : Str)) = false := by decide) : PE X (.Name x pos) (tVar i) := by
  intro pins s σ H Q I h
  obtain ⟨v, e, h⟩ := h
  obtain ⟨m, hn, hl⟩ := I.loc
  obtain ⟨u, r, l⟩ := hl i x v hN e hv
  have fin : EP X pins σ Q u s := ⟨v, H, I, r, h⟩
  rcases l with ⟨hk, hm⟩ | ⟨hk, c, hc, hcell⟩
  · exact wpAny_Name (wpAny_loadName_local I.ok.kind hk hn hm fin) hd
  · rcases hk with hk | hk
    · exact wpAny_Name (wpAny_loadName_cell I.ok.kind hk hc hcell fin) hd
    · exact wpAny_Name (wpAny_loadName_free I.ok.kind hk hc hcell fin hcd) hd
theorem pe_int {i j pos} : PE X (.Constant (.int i) j pos) (tC (.int i)) := fun _ _ _ H _ I h => wpAny_Constant_int ⟨.int i, H, I.tok _, ⟨_, rfl⟩, h⟩
theorem pe_bl {b j pos} : PE X (.Constant (.bool b) j pos) (tC (.bl b)) := fun _ _ _ H _ I h => Constant_bool ⟨.bl b, H, I, rfl, h⟩
theorem pe_non {j pos} : PE X (.Constant .none j pos) (tC .non) := fun _ _ _ H _ I h => Constant_none ⟨.non, H, I, rfl, h⟩
theorem pe_str {x j pos} : PE X (.Constant (.str x) j pos) (tC (.str x)) := fun _ _ _ H _ I h => Calls.Constant_str ⟨.str x, H, I.tok _, ⟨_, rfl⟩, h⟩

noncomputable def Gl (X : Cx) (x : Str) : Prop := X.env.kindOf x = some .globalImplicit
theorem ld_glob {E : Value → Shared → Prop} {pins : List (Addr × Obj)} {s : Shared} {σ : St} {H : Hp} {x : Str} {u : Value} {pos : Pos} {Q : Value → Shared → Prop} (I : Inv X pins σ H s) (hg : Gl X x) (hm : X.mg x = some u) (h : Q u s)
    (hd : (x == ("__debug__" : Str)) = false := by decide) : wpAny (model X.prog X.w) X.A (eval (.Name x pos) X.env) Q E s :=
  Calls.Name_function_global I.ok.kind hg (Calls.loadGlobal_global (by rw [I.ok.glob]; exact I.mod.glob.keeps I.bk) hm h) hd
theorem ld_blt {E : Value → Shared → Prop} {pins : List (Addr × Obj)} {s : Shared} {σ : St} {H : Hp} {x : Str} {u : Value} {pos : Pos} {Q : Value → Shared → Prop} (I : Inv X pins σ H s) (hg : Gl X x) (hm : X.mg x = none) (hv : bootBuiltins x = some u) (h : Q u s)
    (hn : x ≠ "__name__" := by decide) (hd : (x == ("__debug__" : Str)) = false := by decide) : wpAny (model X.prog X.w) X.A (eval (.Name x pos) X.env) Q E s := by
  obtain ⟨mb, h1, h2⟩ := I.mod.blt
  exact Calls.Name_function_global I.ok.kind hg (Calls.loadGlobal_builtin (by rw [I.ok.glob]; exact I.mod.glob.keeps I.bk) hm (by rw [I.ok.blt]; exact h1.keeps I.bk) ((h2 x hn).trans hv) h) hd
theorem pe_glob {x : Str} {v : V} {u : Value} {pos : Pos} (hg : Gl X x) (hm : X.mg x = some u) (r : RelV v u) (hd : (x == ("__debug__" : Str)) = false := by decide) : PE X (.Name x pos) (tC v) :=
  fun _ _ _ H _ I h => ld_glob I hg hm ⟨v, H, I, r, h⟩ hd
theorem pe_bltn {x : Str} {v : V} {u : Value} {pos : Pos} (hg : Gl X x) (hm : X.mg x = none) (hv : bootBuiltins x = some u) (r : RelV v u) (hn : x ≠ "__name__" := by decide) (hd : (x == ("__debug__" : Str)) = false := by decide) : PE X (.Name x pos) (tC v) :=
  fun _ _ _ H _ I h => ld_blt I hg hm hv ⟨v, H, I, r, h⟩ hn hd

/-! ### arithmetic -/
variable {a b : Expr} {ta tb : TE} {pos : Pos}
/-! ### comparisons -/
noncomputable def tB (t : TE) : TT := fun σ H Q => t σ H fun x H1 => ∃ c, x = .bl c ∧ Q c H1
theorem pt_val {e : Expr} {t : TE} (h : PE X e t) (he : ∀ whole, isTrue e X.env whole = (do let v ← whole; standAt e.pos; holding [v] (truthy v)) := by intro _; rfl) : PT X e (tB t) := by
  intro pins s σ H Q I hw
  refine isTrue_plain (thn (h pins s σ H _ I hw) fun v s1 ⟨x, H1, I1, r1, q1⟩ => ?_) (he _)
  obtain ⟨d, rfl, q⟩ := q1
  cases r1
  exact wpAny_truthy_bool ⟨H1, I1, q⟩

/-! ### and, or, not -/
variable {tA tB' : TT} {rest : List Expr}
noncomputable def tAnd (t u : TT) : TT := fun σ H Q => t σ H fun c H1 => if c = true then u σ H1 Q else Q false H1
noncomputable def tOr (t u : TT) : TT := fun σ H Q => t σ H fun c H1 => if c = true then Q true H1 else u σ H1 Q
noncomputable def tNot (t : TT) : TT := fun σ H Q => t σ H fun c H1 => Q (!c) H1
theorem pw_or1 (ha : PT X a tA) : PW X (.BoolOp .Or [a] pos) tA := by
  intro wh pins s σ H Q I h
  refine isTrue_or (thn (ha pins s σ H Q I h) fun c s1 e => ?_)
  cases c with
  | false => exact isTrue_or_nil e
  | true => exact e
theorem pw_or (ha : PT X a tA) (hb : PW X (.BoolOp .Or (b :: rest) pos) tB') : PW X (.BoolOp .Or (a :: b :: rest) pos) (tOr tA tB') := by
  intro wh pins s σ H Q I h
  refine isTrue_or (thn (ha pins s σ H _ I h) fun c s1 ⟨H1, I1, q1⟩ => ?_)
  cases c with
  | true => exact ⟨H1, I1, q1⟩
  | false => exact hb wh pins s1 σ H1 Q I1 q1
theorem pt_not (ha : PT X a tA) : PT X (.UnaryOp .Not a pos) (tNot tA) := by
  intro pins s σ H Q I h
  exact isTrue_not (ha pins s σ H (fun c H1 => Q (!c) H1) I h)
noncomputable def tAndV (ta tb : TE) : TE := fun σ H Q => ta σ H fun x H1 => ∃ c, x = .bl c ∧ if c = true then tb σ H1 Q else Q (.bl false) H1
noncomputable def tOrV (ta tb : TE) : TE := fun σ H Q => ta σ H fun x H1 => ∃ c, x = .bl c ∧ if c = true then Q (.bl true) H1 else tb σ H1 Q
noncomputable def tNotV (ta : TE) : TE := fun σ H Q => ta σ H fun x H1 => ∃ c, x = .bl c ∧ Q (.bl (!c)) H1
theorem pe_one {op} {t : TE} (h : PE X a t) : PE X (.BoolOp op [a] pos) t := fun pins s σ H Q I hw => BoolOp_one (h pins s σ H Q I hw)
theorem pe_and (ha : PE X a ta) (hb : PE X (.BoolOp .And (b :: rest) pos) tb) : PE X (.BoolOp .And (a :: b :: rest) pos) (tAndV ta tb) := by
  intro pins s σ H Q I h
  refine BoolOp_and (thn (ha pins s σ H _ I h) fun v s1 ⟨x, H1, I1, r1, q1⟩ => ?_)
  obtain ⟨c, rfl, q1⟩ := q1
  cases r1
  refine wpAny_truthy_bool ?_
  cases c with
  | true => exact hb pins s1 σ H1 Q I1 q1
  | false => exact ⟨.bl false, H1, I1, rfl, q1⟩
theorem pe_not (ha : PE X a ta) : PE X (.UnaryOp .Not a pos) (tNotV ta) := by
  intro pins s σ H Q I h
  refine UnaryOp_ (thn (ha pins s σ H _ I h) fun v s1 ⟨x, H1, I1, r1, q1⟩ => ?_)
  obtain ⟨c, rfl, q1⟩ := q1
  cases r1
  exact not_of (wpAny_truthy_bool ⟨.bl (!c), H1, I1, rfl, q1⟩)
noncomputable def tIf (t : TT) (ta tb : TE) : TE := fun σ H Q => t σ H fun c H1 => if c = true then ta σ H1 Q else tb σ H1 Q
end
end L2

namespace L2
open PySem PySem.Spec PyProof.Rows

/-! ### a list, a tuple that is read: tracked, frozen, or an object of the module -/
noncomputable def SqL (K : PySem.W.Frag) (H : Hp) (a : Addr) (xs : List V) : Prop :=
  Rd H a (.lst xs) ∨
    ∃ (o : Obj) (its : Array Value) (n : Nat), K.lookup a = some o ∧ o.cls = .type "list" ∧ o.dict = none ∧ o.data = .seq its n ∧ its.size ≤ sizeLine ∧ Vals xs its.toList
noncomputable def SqT (K : PySem.W.Frag) (H : Hp) (a : Addr) (xs : List V) : Prop :=
  Rd H a (.tup xs) ∨
    ∃ (o : Obj) (its : Array Value) (n : Nat), K.lookup a = some o ∧ o.cls = .type "tuple" ∧ o.data = .seq its n ∧ its.size ≤ sizeLine ∧ Vals xs its.toList
noncomputable def absV : Value → Option V
  | .none => some .non
  | .bool b => some (.bl b)
  | .int i _ => some (.int i)
  | .str x _ => some (.str x)
  | .bytes b _ => some (.byt b)
  | .float b _ => some (.flt b)
  | .ref a => some (.ref a)
  | .type n => some (.ty n)
  | _ => none
theorem RelV.abs {x : V} {u : Value} (r : RelV x u) : absV u = some x := by
  cases x with
  | non => cases r; rfl
  | bl _ => cases r; rfl
  | int _ => obtain ⟨t, rfl⟩ := r; rfl
  | str _ => obtain ⟨t, rfl⟩ := r; rfl
  | byt _ => obtain ⟨t, rfl⟩ := r; rfl
  | flt _ => obtain ⟨t, rfl⟩ := r; rfl
  | ref _ => cases r; rfl
  | ty _ => cases r; rfl
theorem RelV.inj {x y : V} {u : Value} (r : RelV x u) (q : RelV y u) : x = y := Option.some.inj (r.abs.symm.trans q.abs)
theorem Vals.inj {xs ys : List V} {us : List Value} (h : Vals xs us) : Vals ys us → xs = ys := by
  induction h generalizing ys with
  | nil => intro h; cases h; rfl
  | cons r t ih => intro h; cases h with
    | cons r' t' => rw [r.inj r', ih t']
section
variable {X : Cx} {pins : List (Addr × Obj)} {σ : St} {H : Hp} {s : Shared} {a : Addr} {xs ys : List V}
theorem SqL.of {K : PySem.W.Frag} (h : H a = some (.lst xs)) : SqL K H a xs := .inl (.inl h)
theorem SqT.of {K : PySem.W.Frag} (h : H a = some (.tup xs)) : SqT K H a xs := .inl (.inl h)
theorem Inv.list (I : Inv X pins σ H s) (h : SqL X.K H a xs) : ∃ its : List Value, Vals xs its ∧ PlainL s.heap a its.toArray ∧ xs.length ≤ sizeLine := by
  rcases h with h | ⟨o, its, n, hk, hc, hd, hs, hz, r⟩
  · obtain ⟨z, its, n, r, e⟩ := h.ok I.hok
    exact ⟨its, r, ⟨_, n, e, rfl, rfl, rfl⟩, z⟩
  · refine ⟨its.toList, r, ⟨o, n, I.kIn a o hk, hc, hd, by simpa using hs⟩, ?_⟩
    have e := r.length
    simp only [Array.length_toList] at e
    omega
theorem Inv.tuple (I : Inv X pins σ H s) (h : SqT X.K H a xs) : ∃ its : List Value, Vals xs its ∧ IsTup s.heap a its.toArray ∧ xs.length ≤ sizeLine := by
  rcases h with h | ⟨o, its, n, hk, hc, hs, hz, r⟩
  · obtain ⟨z, its, r, p⟩ := h.ok I.hok
    exact ⟨its, r, p.tup, z⟩
  · refine ⟨its.toList, r, ⟨o, I.kIn a o hk, hc, n, by simpa using hs⟩, ?_⟩
    have e := r.length
    simp only [Array.length_toList] at e
    omega
theorem Inv.list_inj (I : Inv X pins σ H s) (h : SqL X.K H a xs) (h' : SqL X.K H a ys) : xs = ys := by
  obtain ⟨its, r, ⟨o, n, e, _, _, d⟩, _⟩ := I.list h
  obtain ⟨its', r', ⟨o', n', e', _, _, d'⟩, _⟩ := I.list h'
  rw [e] at e'; cases e'
  rw [d] at d'
  injection d' with d1 _
  have : its = its' := by simpa using congrArg Array.toList d1
  subst this
  exact r.inj r'
end

/-! ### another wish about exceptions -/
noncomputable abbrev Cx.wish (X : Cx) (E : Value → Shared → Prop) : Cx := { X with xe := E }
noncomputable abbrev Cx.nox (X : Cx) : Cx := X.wish fun _ _ => False
theorem Cx.Ok.wish {X : Cx} (ok : X.Ok) (E : Value → Shared → Prop) : (X.wish E).Ok :=
  ⟨ok.mod, ok.kind, ok.glob, ok.blt, ok.above, ok.inj, ok.has, ok.cab, ok.hd, ok.frames, ok.stk, ok.exf, ok.bs, ok.bsz, ok.noex, ok.exfs, ok.funs, ok.frf⟩
theorem Cx.Ok.unwish {X : Cx} {E : Value → Shared → Prop} (ok : (X.wish E).Ok) : X.Ok :=
  ⟨ok.mod, ok.kind, ok.glob, ok.blt, ok.above, ok.inj, ok.has, ok.cab, ok.hd, ok.frames, ok.stk, ok.exf, ok.bs, ok.bsz, ok.noex, ok.exfs, ok.funs, ok.frf⟩
section
variable {X : Cx} {pins : List (Addr × Obj)} {σ : St} {H : Hp} {s : Shared} {E : Value → Shared → Prop}
theorem Inv.wish (I : Inv X pins σ H s) (E : Value → Shared → Prop) : Inv (X.wish E) pins σ H s := ⟨I.ok.wish E, I.os, I.bare, I.base, I.loc, I.cell, I.free, I.freeC, I.pin, I.hok, I.len⟩
theorem Inv.unwish (I : Inv (X.wish E) pins σ H s) : Inv X pins σ H s := ⟨I.ok.unwish, I.os, I.bare, I.base, I.loc, I.cell, I.free, I.freeC, I.pin, I.hok, I.len⟩
theorem SP.unwish {D : Ends} {f : Flow} {s' : Shared} (h : SP (X.wish E) pins D f s') : SP X pins D f s' := by
  cases f with
  | next => obtain ⟨σ', H', I, q⟩ := h; exact ⟨σ', H', I.unwish, q⟩
  | brk => obtain ⟨σ', H', I, q⟩ := h; exact ⟨σ', H', I.unwish, q⟩
  | cont => obtain ⟨σ', H', I, q⟩ := h; exact ⟨σ', H', I.unwish, q⟩
  | ret u => obtain ⟨v, σ', H', I, r, q⟩ := h; exact ⟨v, σ', H', I.unwish, r, q⟩
theorem PE.nox {e : Expr} {t : TE} (h : PE X.nox e t) : PE X e t := fun pins s σ H Q I hw =>
  wpAny_mono (h pins s σ H Q (I.wish _) hw) (fun _ _ ⟨v, H', I', r, q⟩ => ⟨v, H', I'.unwish, r, q⟩) fun _ _ z => False.elim z
theorem PT.nox {e : Expr} {t : TT} (h : PT X.nox e t) : PT X e t := fun pins s σ H Q I hw =>
  wpAny_mono (h pins s σ H Q (I.wish _) hw) (fun _ _ ⟨H', I', q⟩ => ⟨H', I'.unwish, q⟩) fun _ _ z => False.elim z
theorem PSs.nox {st : List Stmt} {t : TS} (h : PSs X.nox st t) : PSs X st t := fun pins s σ H D I hw =>
  wpAny_mono (h pins s σ H D (I.wish _) hw) (fun _ _ q => q.unwish) fun _ _ z => False.elim z
end

/-! ### blocks and small statements -/
section
variable {X : Cx} {st : Stmt} {rest : List Stmt} {t u : TS} {e : Expr} {te : TE} {pos : Pos}
noncomputable def tNext : TS := fun D σ H => D.nx σ H
noncomputable def tSeq (t u : TS) : TS := fun D σ H => t { D with nx := u D } σ H
theorem pss_nil : PSs X [] tNext := fun _ _ σ H _ I h => wpAny_execs_nil ⟨σ, H, I, h⟩
theorem pss_cons (h1 : PS X st t) (h2 : PSs X rest u) : PSs X (st :: rest) (tSeq t u) := by
  intro pins s σ H D I h
  refine wpAny_execs_cons (thn (h1 pins s σ H { D with nx := u D } I h) fun f s1 q => ?_)
  cases f with
  | next =>
    obtain ⟨σ', H', I', q⟩ := q
    exact h2 pins s1 σ' H' D I' q
  | ret v => exact q
  | brk => exact q
  | cont => exact q
theorem pss_one (h1 : PS X st t) : PSs X [st] t := by
  intro pins s σ H D I h
  refine wpAny_execs_cons (thn (h1 pins s σ H D I h) fun f s1 q => ?_)
  cases f with
  | next => exact wpAny_execs_nil q
  | ret v => exact q
  | brk => exact q
  | cont => exact q
noncomputable def tBreak : TS := fun D σ H => D.bk σ H
noncomputable def tCont : TS := fun D σ H => D.ct σ H
theorem Inv.quiet {pins : List (Addr × Obj)} {σ : St} {H : Hp} {s : Shared} (I : Inv X pins σ H s) : interactive X.env = false := by simp [interactive, I.ok.kind]
noncomputable def tDrop (te : TE) : TS := fun D σ H => te σ H fun _ H1 => D.nx σ H1
theorem ps_expr (he : PE X e te) (hs : swapsWith e none pos.line X.env = pure false := by rfl) : PS X (.Expr e pos) (tDrop te) := by
  intro pins s σ H D I h
  exact wpAny_Expr_any (thn (he pins s σ H _ I h) fun v s1 ⟨x, H1, I1, r1, q1⟩ => ⟨σ, H1, I1, q1⟩) I.quiet hs
noncomputable def tRet (te : TE) : TS := fun D σ H => te σ H D.rt
theorem ps_ret (he : PE X e te) : PS X (.Return (some e) pos) (tRet te) := by
  intro pins s σ H D I h
  exact wpAny_Return_some (thn (he pins s σ H _ I h) fun v s1 ⟨x, H1, I1, r1, q1⟩ => ⟨x, σ, H1, I1, r1, q1⟩)
noncomputable def tRetN : TS := fun D _ H => D.rt .non H
noncomputable def tIfS (c : TT) (t u : TS) : TS := fun D σ H => c σ H fun b H1 => if b = true then t D σ H1 else u D σ H1
theorem ps_if {c : Expr} {a b : List Stmt} {tc : TT} (hc : PT X c tc) (ha : PSs X a t) (hb : PSs X b u) : PS X (.If c a b pos) (tIfS tc t u) := by
  intro pins s σ H D I h
  refine wpAny_If (thn (hc pins s σ H _ I h) fun d s1 ⟨H1, I1, q1⟩ => ?_)
  cases d with
  | true => exact ha pins s1 σ H1 D I1 q1
  | false => exact hb pins s1 σ H1 D I1 q1
noncomputable def tNever : TS := fun _ _ _ => False
theorem ps_never : PS X st tNever := fun _ _ _ _ _ _ h => h.elim
end

/-! ### targets -/
noncomputable abbrev TG := V → St → Hp → (St → Hp → Prop) → Prop
noncomputable abbrev TGs := List V → St → Hp → (St → Hp → Prop) → Prop
noncomputable def PG (X : Cx) (target : Expr) (t : TG) : Prop :=
  ∀ (pins : List (Addr × Obj)) (s : Shared) (σ : St) (H : Hp) (v : V) (u : Value) (Q : St → Hp → Prop), Inv X pins σ H s → RelV v u → t v σ H Q →
    wpAny (model X.prog X.w) X.A (assign target X.env u) (fun _ s' => ∃ σ' H', Inv X pins σ' H' s' ∧ Q σ' H') X.xe s
noncomputable def PGs (X : Cx) (ts : List Expr) (t : TGs) : Prop :=
  ∀ (pins : List (Addr × Obj)) (s : Shared) (σ : St) (H : Hp) (vs : List V) (us : List Value) (Q : St → Hp → Prop), Inv X pins σ H s → Vals vs us → t vs σ H Q →
    wpAny (model X.prog X.w) X.A (assignInOrder ((assignEach ts X.env).map (·.2)) us) (fun _ s' => ∃ σ' H', Inv X pins σ' H' s' ∧ Q σ' H') X.xe s
noncomputable abbrev TSet := V → V → V → Hp → (Hp → Prop) → Prop
noncomputable def PSet (X : Cx) (t : TSet) : Prop :=
  ∀ (pins : List (Addr × Obj)) (s : Shared) (σ : St) (H : Hp) (o i v : V) (ov iv u : Value) (Q : Hp → Prop), Inv X pins σ H s → RelV o ov → RelV i iv → RelV v u → t o i v H Q →
    wpAny (model X.prog X.w) X.A (setItem ov iv u) (fun _ s' => ∃ H', Inv X pins σ H' s' ∧ Q H') X.xe s
section
variable {X : Cx} {pos : Pos}
noncomputable def gName (i : Nat) : TG := fun v σ H Q => Q (σ.set i (some v)) H
theorem pg_name {i : Nat} {x : Str} (hN : X.N.Nodup) (hi : X.N[i]? = some x) (hx : Loc X.env.scope x) (hf : X.fn x = true ∨ X.env.scope.names.lookup x = some .local := by first | exact .inl rfl | exact .inr rfl | assumption) : PG X (.Name x pos) (gName i) := by
  intro pins s σ H v u Q I r h
  exact wpAny_assign_Name (store_ok I hN hi hx r (fun s' I' => ⟨_, H, I', h⟩) hf)
noncomputable def gNil : TGs := fun vs σ H Q => vs = [] ∧ Q σ H
noncomputable def gCons (t : TG) (u : TGs) : TGs := fun vs σ H Q => ∃ v r, vs = v :: r ∧ t v σ H fun σ' H' => u r σ' H' Q
theorem pgs_nil : PGs X [] gNil := by
  intro pins s σ H vs us Q I r h
  obtain ⟨e, h⟩ := h
  subst e
  cases r
  exact assignInOrder_nil ⟨σ, H, I, h⟩
theorem pgs_cons {e : Expr} {es : List Expr} {t : TG} {u : TGs} (h1 : PG X e t) (h2 : PGs X es u)
    (hs : (assignEach (e :: es) X.env).map (·.2) = assign e X.env :: (assignEach es X.env).map (·.2) := by rfl) : PGs X (e :: es) (gCons t u) := by
  intro pins s σ H vs us Q I r h
  obtain ⟨v, vr, e1, h⟩ := h
  subst e1
  cases r with
  | cons r rr =>
    rw [hs]
    refine assignInOrder_cons (thn (h1 pins s σ H _ _ _ I r h) fun _ s1 ⟨σ1, H1, I1, q1⟩ => ?_)
    exact h2 pins s1 σ1 H1 _ _ Q I1 rr q1
noncomputable def gTup (K : PySem.W.Frag) (n : Nat) (t : TGs) : TG := fun v σ H Q => ∃ a xs, v = .ref a ∧ SqT K H a xs ∧ xs.length = n ∧ t xs σ H Q
theorem pg_tup {es : List Expr} {k : Nat} {t : TGs} {n : Nat} (hc : X.calm = true) (h : PGs X es t)
    (hn : (assignEach es X.env).length = n := by rfl) (hst : (assignEach es X.env).findIdx? (·.1) = none := by rfl) : PG X (.Tuple es k pos) (gTup X.K n t) := by
  intro pins s σ H v u Q I r hw
  obtain ⟨a, xs, e1, hq, hl, hw⟩ := hw
  subst e1
  cases r
  obtain ⟨its, rv, ht, hz⟩ := I.tuple hq
  refine assign_Tuple_tuple (I.ok.hd hc) ht (by simp [hn, ← hl, rv.length]) hst fun h' hx => ?_
  have I1 : Inv X pins σ H { s with heap := h' } := I.kept (t' := s.toks) fun b o e => hx b o (Nat.ne_of_lt (Heap.lt_size e)) e
  exact h pins _ σ H xs _ Q I1 (by simpa using rv) hw
noncomputable def gSub (to ti : TE) (t : TSet) : TG := fun v σ H Q => to σ H fun o H1 => ti σ H1 fun i H2 => t o i v H2 fun H3 => Q σ H3
noncomputable def tAsg (te : TE) (g : TG) : TS := fun D σ H => te σ H fun x H1 => g x σ H1 D.nx
theorem ps_asg {tg e : Expr} {te : TE} {g : TG} (he : PE X e te) (hg : PG X tg g) (hs : swapsWithSole [tg] e pos.line X.env = pure false := by rfl) (hw : swappedStores [tg] e X.env = pure none := by rfl)
    (h1 : (assignEach [tg] X.env).map (·.2) = [assign tg X.env] := by rfl) : PS X (.Assign [tg] e pos) (tAsg te g) := by
  intro pins s σ H D I h
  refine wpAny_Assign_stores (thn (he pins s σ H _ I h) fun v s1 ⟨x, H1, I1, r1, q1⟩ => ?_) hs hw
  rw [h1]
  exact thn (hg pins s1 σ H1 x v _ I1 r1 q1) fun _ s2 q => q
theorem ps_set {i : Nat} {x : Str} {e : Expr} {te : TE} {pos' : Pos} (hN : X.N.Nodup) (hi : X.N[i]? = some x) (hx : Loc X.env.scope x) (he : PE X e te) (hs : swapsWith e (some (.Name x pos')) pos.line X.env = pure false := by rfl) (hf : X.fn x = true ∨ X.env.scope.names.lookup x = some .local := by first | exact .inl rfl | exact .inr rfl | assumption) :
    PS X (.Assign [.Name x pos'] e pos) (tAsg te (gName i)) := by
  intro pins s σ H D I h
  refine wpAny_Assign_Name (thn (he pins s σ H _ I h) fun v s1 ⟨y, H1, I1, r1, q1⟩ => ?_) hs
  exact store_ok I1 hN hi hx r1 (fun s2 I2 => ⟨_, H1, I2, q1⟩) hf
end

/-! ### while -/
section
variable {X : Cx} {pos : Pos}
end

/-! ### what a loop or a comprehension walks -/
structure It where
  go : Nat → Hp → Prop
  yld : Nat → Hp → V → Hp → Prop
  stop : Nat → Hp → Prop
noncomputable def FpOk (X : Cx) (pins : List (Addr × Obj)) (H : Hp) (b : Addr) : Prop :=
  H b = none ∧ b ≠ X.env.locals ∧ b ∉ X.fs ∧ (b ∈ X.ex ∨ X.s₀.heap.objs.size ≤ b) ∧ (∀ x c, X.env.cells.lookup x = some c → c ≠ b) ∧ ∀ p ∈ X.pn ++ pins, p.1 ≠ b
theorem Inv.fpOk {X : Cx} {pins : List (Addr × Obj)} {σ : St} {H H' : Hp} {s : Shared} {b : Addr} (I : Inv X pins σ H s) (hb : s.heap.objs.size ≤ b) (hn : H' b = none) : FpOk X pins H' b := by
  refine ⟨hn, Nat.ne_of_gt (Nat.lt_of_lt_of_le I.lt hb), I.nofs hb, .inr (Nat.le_trans I.sz hb), fun x c e z => ?_, fun p hp z => ?_⟩
  · obtain ⟨v, q⟩ := I.cell x c e
    exact absurd (Nat.lt_of_lt_of_le q.lt (by rw [z]; exact hb)) (Nat.lt_irrefl _)
  · exact absurd (Nat.lt_of_lt_of_le (Heap.lt_size (I.pin p hp).1) (by rw [z]; exact hb)) (Nat.lt_irrefl _)
structure Turn (P : Program) (w : World) (K : PySem.W.Frag) (tg : Expr) (J : It) (fp : List Addr) (it : Addr) (tn : Nat → Heap → Prop) : Prop where
  mem : it ∈ fp
  obj : ∀ i h, tn i h → ∀ b ∈ fp, ∃ o, h.get? b = some o ∧ ∀ v, o.data ≠ .cell v
  keep : ∀ i h h', tn i h → (∀ b ∈ fp, ∀ o, h.get? b = some o → h'.get? b = some o) → tn i h'
  item : ∀ (X : Cx), X.prog = P → X.w = w → X.K = K → X.calm = true → ∀ (i : Nat) (pins : List (Addr × Obj)) (s : Shared) (σ : St) (H : Hp) (E : Value → Shared → Prop), Inv X pins σ H s → (∀ b ∈ fp, FpOk X pins H b) → tn i s.heap → J.go i H →
    wpAny (model P w) X.A (pyNext (.ref it)) (fun r s1 => ∃ u, r = some u ∧
      wpAny (model P w) X.A (letOwnedTupleGo tg (.ref it) u) (fun _ s2 => ∃ x H', Inv X pins σ H' s2 ∧ RelV x u ∧ J.yld i H x H' ∧ tn (i + 1) s2.heap ∧ ∀ b ∈ fp, H' b = none) E s1) E s
  done : ∀ (X : Cx), X.prog = P → X.w = w → X.K = K → X.calm = true → ∀ (i : Nat) (pins : List (Addr × Obj)) (s : Shared) (σ : St) (H : Hp) (E : Value → Shared → Prop), Inv X pins σ H s → (∀ b ∈ fp, FpOk X pins H b) → tn i s.heap → J.stop i H →
    wpAny (model P w) X.A (pyNext (.ref it)) (fun r s1 => r = none ∧ Inv X pins σ H s1) E s
  self : ∀ (A : Around) (i : Nat) (s : Shared) (Q : Value → Shared → Prop) (E : Value → Shared → Prop), tn i s.heap → Q (.ref it) s → wpAny (model P w) A (pyIter (.ref it)) Q E s
noncomputable abbrev TI := St → Hp → (It → Hp → Prop) → Prop
noncomputable def PIE (X : Cx) (pins : List (Addr × Obj)) (σ : St) (tg : Expr) (R : It → Hp → Prop) (itv : Value) (s2 : Shared) : Prop :=
  ∃ (it : Addr) (fp : List Addr) (tn : Nat → Heap → Prop) (J : It) (H' : Hp), itv = .ref it ∧ Inv X pins σ H' s2 ∧ Turn X.prog X.w X.K tg J fp it tn ∧ tn 0 s2.heap ∧ (∀ b ∈ fp, FpOk X pins H' b) ∧ R J H'
noncomputable def PI (X : Cx) (tg iter : Expr) (wi : TI) : Prop :=
  ∀ (pins : List (Addr × Obj)) (s : Shared) (σ : St) (H : Hp) (R : It → Hp → Prop), Inv X pins σ H s → wi σ H R →
    wpAny (model X.prog X.w) X.A (eval iter X.env) (fun v s1 => wpAny (model X.prog X.w) X.A (pyIter v) (PIE X pins σ tg R) X.xe s1) X.xe s

theorem go_of {M : Model} {A : Around} {E : Value → Shared → Prop} {s : Shared} {tg : Expr} {it : Addr} {u : Value} {o : Obj} {n : String} {vs : Array Value} {Q : Unit → Shared → Prop} (ho : s.heap.get? it = some o) (hc : o.cls = .type n) (hd : o.data = .fields vs)
    (hn : ["enumerate", "zip", "dict_itemiterator", "dict_reverseitemiterator", "odict_iterator", "itertools.zip_longest", "itertools.pairwise"].contains n = false) (hQ : Q () s) : wpAny M A (letOwnedTupleGo tg (.ref it) u) Q E s := by
  unfold letOwnedTupleGo
  cases tg <;> first
    | exact wpAny_pure hQ
    | (cases u <;> first
        | exact wpAny_pure hQ
        | (refine wpAny_bind (wpAny_load ho ?_)
           rw [hc, hd]
           show wpAny M A (if (["enumerate", "zip", "dict_itemiterator", "dict_reverseitemiterator", "odict_iterator", "itertools.zip_longest", "itertools.pairwise"].contains n && vs[0]? == some (rawInt _)) = true then _ else _) Q E s
           rw [if_neg (by intro h; rw [hn, Bool.false_and] at h; cases h)]
           exact wpAny_pure hQ))

noncomputable def Itl (K : PySem.W.Frag) (a : Addr) : It :=
  ⟨fun i H => ∃ xs x, SqL K H a xs ∧ xs[i]? = some x, fun i H x H' => H' = H ∧ ∀ xs, SqL K H a xs → xs[i]? = some x, fun i H => ∃ xs, SqL K H a xs ∧ xs.length ≤ i⟩
noncomputable def Itt (K : PySem.W.Frag) (a : Addr) : It :=
  ⟨fun i H => ∃ xs x, SqT K H a xs ∧ xs[i]? = some x, fun i H x H' => H' = H ∧ ∀ xs, SqT K H a xs → xs[i]? = some x, fun i H => ∃ xs, SqT K H a xs ∧ xs.length ≤ i⟩
noncomputable def Itr (lo : Int) (n : Nat) : It := ⟨fun i _ => i < n, fun i H x H' => H' = H ∧ x = .int (lo + i), fun i _ => n ≤ i⟩
theorem turn_list {P : Program} {w : World} {K : PySem.W.Frag} {tg : Expr} (a it : Addr) : Turn P w K tg (Itl K a) [it] it (fun i h => h.IsListIter it a i) where
  mem := by simp
  obj := fun i h st b hb => by
    have e : b = it := by simpa using hb
    subst e
    obtain ⟨o, e, c, d⟩ := st
    exact ⟨o, e, fun v z => by rw [d] at z; cases z⟩
  keep := fun i h h' st k => st.at fun o e => k it (by simp) o e
  item := by
    intro X hP hw hK hc i pins s σ H E I hf st hg
    subst hP hw hK
    obtain ⟨xs, x, hq, hx⟩ := hg
    obtain ⟨its, rv, p, hz⟩ := I.list hq
    obtain ⟨u, hu, ru⟩ := rv.get hx
    obtain ⟨f0, f1, f2, f3, f4, f5⟩ := hf it (by simp)
    refine wpAny_pyNext_list_item st p.isList (x := u) (by simpa using hu) fun h' st' sb => ?_
    have I1 : Inv X pins σ H { s with heap := h' } := I.turned (t' := s.toks) (fun b o hb e => (sb.2 b hb).trans e) f0 f1 f3 f4 f5
    obtain ⟨o, e, c, d⟩ := id st'
    exact ⟨u, rfl, go_of (s := { s with heap := h' }) e c d (by decide) ⟨x, H, I1, ru, ⟨rfl, fun ys hy => by rw [I.list_inj hy hq]; exact hx⟩, st', fun b hb => (hf b hb).1⟩⟩
  done := by
    intro X hP hw hK hc i pins s σ H E I hf st hg
    subst hP hw hK
    obtain ⟨xs, hq, hx⟩ := hg
    obtain ⟨its, rv, p, hz⟩ := I.list hq
    obtain ⟨f0, f1, f2, f3, f4, f5⟩ := hf it (by simp)
    have hl := rv.length
    exact wpAny_pyNext_list_end (I.ok.hd hc) st p.isList (by simp; omega) fun h' eb => ⟨rfl, I.turned (t' := s.toks) (fun b o hb e => eb b o hb e) f0 f1 f3 f4 f5⟩
  self := fun _ _ _ _ _ st h => wpAny_pyIter_listiter st h
theorem turn_range {P : Program} {w : World} {K : PySem.W.Frag} {tg : Expr} (it : Addr) (lo : Int) (n : Nat) : Turn P w K tg (Itr lo n) [it] it (fun i h => IsRangeIter h it (lo + (i : Nat) * 1) ((n : Int) - (i : Nat)) 1) where
  mem := by simp
  obj := fun i h st b hb => by
    have e : b = it := by simpa using hb
    subst e
    exact ⟨_, st, fun v z => by
      have z' : Data.fields _ = Data.cell v := z
      cases z'⟩
  keep := fun i h h' st k => k it (by simp) _ st
  item := by
    intro X hP hw hK hc i pins s σ H E I hf st hg
    subst hP hw hK
    obtain ⟨f0, f1, f2, f3, f4, f5⟩ := hf it (by simp)
    have W := Walks.range (prog := X.prog) (w := X.w) (I.ok.hd hc) it lo 1 n
    refine W.item i s _ _ hg st fun v h' tk hv st' kk => ?_
    obtain ⟨t, rfl⟩ := hv
    have I1 : Inv X pins σ H { s with heap := h', toks := tk } := I.turned (fun b o hb e => kk b o (by simpa using hb) e) f0 f1 f3 f4 f5
    refine ⟨_, rfl, go_of (s := { s with heap := h', toks := tk }) (n := "range_iterator") st' rfl rfl (by decide) ⟨.int (lo + i), H, I1, ⟨t, ?_⟩, ⟨rfl, rfl⟩, st', fun b hb => (hf b hb).1⟩⟩
    rw [Int.mul_one]
  done := by
    intro X hP hw hK hc i pins s σ H E I hf st hg
    subst hP hw hK
    obtain ⟨f0, f1, f2, f3, f4, f5⟩ := hf it (by simp)
    exact wpAny_pyNext_range_end (I.ok.hd hc) st (by have : n ≤ i := hg; omega) fun h' eb => ⟨rfl, I.turned (t' := s.toks) (fun b o hb e => eb b o hb e) f0 f1 f3 f4 f5⟩
  self := fun _ _ _ _ _ st h => wpAny_pyIter_rangeiter st h
end L2

namespace L2
open PySem PySem.Spec PyProof.Rows
section
variable {X : Cx} {tg : Expr}
noncomputable def iList (K : PySem.W.Frag) (tl : TE) : TI := fun σ H R => tl σ H fun x H1 => ∃ a, x = .ref a ∧ (∃ xs, SqL K H1 a xs) ∧ R (Itl K a) H1
noncomputable def iTup (K : PySem.W.Frag) (tl : TE) : TI := fun σ H R => tl σ H fun x H1 => ∃ a, x = .ref a ∧ (∃ xs, SqT K H1 a xs) ∧ R (Itt K a) H1
theorem pi_list {l : Expr} {tl : TE} (hl : PE X l tl) : PI X tg l (iList X.K tl) := by
  intro pins s σ H R I h
  refine thn (hl pins s σ H _ I h) fun v s1 ⟨x, H1, I1, r1, q1⟩ => ?_
  obtain ⟨a, e, ⟨xs, hq⟩, q⟩ := q1
  subst e
  cases r1
  obtain ⟨its, rv, p, hz⟩ := I1.list hq
  refine wpAny_pyIter_list p.isList ?_
  refine ⟨s1.heap.objs.size, [s1.heap.objs.size], _, _, H1, rfl, I1.kept (t' := s1.toks) fun b o e => Heap.get?_push_of_some _ e, turn_list a _, ⟨_, Heap.get?_push_size _ rfl, rfl, rfl⟩, fun b hb => ?_, q⟩
  have e : b = s1.heap.objs.size := by simpa using hb
  subst e
  exact I1.fpOk (Nat.le_refl _) (I1.hok.fresh (Nat.le_refl _))
theorem range_it {pins : List (Addr × Obj)} {σ : St} {H : Hp} {s : Shared} {R : It → Hp → Prop} {E : Value → Shared → Prop} {lo hi : Int} {t u v : Tok} {tk : Nat} (I : Inv X pins σ H s) (h1 : -(2 ^ 62) ≤ lo) (h2 : lo < 2 ^ 62) (h3 : -(2 ^ 62) ≤ hi) (h4 : hi < 2 ^ 62)
    (q : R (Itr lo (hi - lo).toNat) H) : wpAny (model X.prog X.w) X.A (pyIter (.ref s.heap.objs.size)) (PIE X pins σ tg R) E { s with heap := s.heap.push { cls := .type "range", data := .fields #[.int lo t, .int hi u, .int 1 v] }, toks := tk } := by
  refine wpAny_pyIter_range (IsRange.new ..) (small_one h1 h2 h3 h4) ?_
  have I1 : Inv X pins σ H { s with heap := s.heap.push { cls := .type "range", data := .fields #[.int lo t, .int hi u, .int 1 v] }, toks := tk } := I.kept fun b o e => Heap.get?_push_of_some _ e
  refine ⟨(s.heap.push { cls := .type "range", data := .fields #[.int lo t, .int hi u, .int 1 v] }).objs.size, [(s.heap.push { cls := .type "range", data := .fields #[.int lo t, .int hi u, .int 1 v] }).objs.size], _, _, H, rfl,
    I1.kept (t' := tk) fun b o e => Heap.get?_push_of_some _ e, turn_range _ lo (hi - lo).toNat, ?_, fun b hb => ?_, q⟩
  · have e1 : lo + ((0 : Nat) : Int) * 1 = lo := by simp
    have e2 : (((hi - lo).toNat : Nat) : Int) - ((0 : Nat) : Int) = Builtin.Range.rangeSize lo hi 1 := by rw [rangeSize_one]; split <;> omega
    show IsRangeIter _ _ (lo + ((0 : Nat) : Int) * 1) ((((hi - lo).toNat : Nat) : Int) - ((0 : Nat) : Int)) 1
    rw [e1, e2]
    exact Heap.get?_push_size _ rfl
  · have e : b = (s.heap.push { cls := .type "range", data := .fields #[.int lo t, .int hi u, .int 1 v] }).objs.size := by simpa using hb
    subst e
    exact I1.fpOk (Nat.le_refl _) (I1.hok.fresh (Nat.le_refl _))
noncomputable def iRng1 (ta : TA) : TI := fun σ H R => ta σ H fun vs H1 => ∃ j : Int, vs = [.int j] ∧ -(2 ^ 62) ≤ j ∧ j < 2 ^ 62 ∧ R (Itr 0 j.toNat) H1
noncomputable def iRng2 (ta : TA) : TI := fun σ H R => ta σ H fun vs H1 => ∃ i j : Int, vs = [.int i, .int j] ∧ (-(2 ^ 62) ≤ i ∧ i < 2 ^ 62 ∧ -(2 ^ 62) ≤ j ∧ j < 2 ^ 62) ∧ R (Itr i (j - i).toNat) H1
theorem pi_range1 {a : Expr} {ta : TA} {p pos : Pos} (hg : Gl X "range") (hm : X.mg "range" = none) (ha : PA X [a] ta) (hs : starEach [a] X.env = [(false, eval a X.env)] := by rfl) : PI X tg (.Call (.Name "range" p) [a] [] pos) (iRng1 ta) := by
  intro pins s σ H R I h
  refine Call_ (ld_blt I hg hm boot_range (PyProof.Rows.callWith_type1 (thn (ha pos pins s σ H _ I h) fun us s1 ⟨vs, H1, I1, r1, q1⟩ => ?_) hs rfl))
  obtain ⟨j, e, q1, q2, q⟩ := q1
  subst e
  cases r1 with
  | cons r rr =>
    cases rr
    obtain ⟨t, rfl⟩ := r
    exact call_range_1 (range_it I1 (by omega) (by omega) q1 q2 (by simpa using q))
/-! ### for -/
noncomputable def tFor (wi : TI) (g : TG) (tb : TS) : TS := fun D σ H => wi σ H fun J H1 => ∃ W : Nat → Nat → St → Hp → Prop, (∃ m, W 0 m σ H1) ∧ ∀ i m σ H, W i m σ H →
  (J.stop i H ∧ D.nx σ H) ∨ (J.go i H ∧ ∃ N : St → Hp → Prop, (∀ σ' H', N σ' H' → ∃ m', m' < m ∧ W (i + 1) m' σ' H') ∧ ∀ x H', J.yld i H x H' → g x σ H' fun σ2 H2 => tb { D with nx := N, ct := N, bk := D.nx } σ2 H2)
noncomputable def pinsAt (fp : List Addr) (h : Heap) : List (Addr × Obj) := fp.filterMap fun b => (h.get? b).map fun o => (b, o)
theorem mem_pinsAt {fp : List Addr} {h : Heap} {b : Addr} {o : Obj} (hb : b ∈ fp) (e : h.get? b = some o) : (b, o) ∈ pinsAt fp h := List.mem_filterMap.mpr ⟨b, hb, by rw [e]; rfl⟩
theorem of_pinsAt {fp : List Addr} {h : Heap} {p : Addr × Obj} (hp : p ∈ pinsAt fp h) : p.1 ∈ fp ∧ h.get? p.1 = some p.2 := by
  obtain ⟨b, hb, e⟩ := List.mem_filterMap.mp hp
  cases q : h.get? b with
  | none => rw [q] at e; cases e
  | some o =>
    rw [q] at e
    have e' : (b, o) = p := Option.some.inj e
    subst e'
    exact ⟨hb, q⟩
theorem Inv.pinned {pins : List (Addr × Obj)} {σ : St} {H : Hp} {s : Shared} {fp : List Addr} (I : Inv X pins σ H s) (hf : ∀ b ∈ fp, FpOk X pins H b) (ho : ∀ b ∈ fp, ∃ o, s.heap.get? b = some o ∧ ∀ v, o.data ≠ .cell v) : Inv X (pins ++ pinsAt fp s.heap) σ H s :=
  I.pins_of fun p hp => (List.mem_append.mp hp).elim (fun z => I.pin p (List.mem_append_right _ z)) fun z => by
    obtain ⟨hb, e⟩ := of_pinsAt z
    obtain ⟨f0, f1, f2, _⟩ := hf p.1 hb
    obtain ⟨o, e', d⟩ := ho p.1 hb
    rw [e] at e'; cases e'
    exact ⟨e, f0, f1, f2, d⟩
theorem Inv.unpinned {pins pl : List (Addr × Obj)} {σ : St} {H : Hp} {s : Shared} (I : Inv X (pins ++ pl) σ H s) : Inv X pins σ H s := I.pins_of fun p hp => I.pin p (List.mem_append_right _ (List.mem_append_left _ hp))
theorem ps_for {iter : Expr} {body : List Stmt} {wi : TI} {g : TG} {tb : TS} {pos : Pos} (hp : PassesOwn (model X.prog X.w) X.A X.env X.xe) (hc : X.calm = true) (hi : PI X tg iter wi) (hg : PG X tg g) (hb : PSs X body tb)
    (hs : ∀ x, foldedSetIterable iter X.env x = pure x := by intro _; rfl) : PS X (.For tg iter body [] pos) (tFor wi g tb) := by
  intro pins s σ H D I h
  refine wpAny_For (thn (hi pins s σ H _ I h) fun v s1 h1 => thn h1 fun itv s2 h2 => ?_) hs
  obtain ⟨it, fp, tn, J, H2, e, I2, T, st2, f2, W, ⟨m0, w0⟩, turn⟩ := h2
  subst e
  -- what stays true of the iterator's objects through the loop
  have stat : ∀ {H' : Hp}, (∀ b ∈ fp, H' b = none) → ∀ b ∈ fp, FpOk X pins H' b := fun hn b hb => ⟨hn b hb, (f2 b hb).2⟩
  refine codeAny_forLoop_any (fun n s' => ∃ i σ' H', Inv X pins σ' H' s' ∧ tn i s'.heap ∧ (∀ b ∈ fp, H' b = none) ∧ W i n σ' H') ?_ m0 ⟨0, σ, H2, I2, st2, fun b hb => (f2 b hb).1, w0⟩
  rintro n s3 ⟨i, σ3, H3, I3, st3, fr3, w3⟩
  rcases turn i n σ3 H3 w3 with ⟨stop, qn⟩ | ⟨go, N, hN, step⟩
  · refine wpAny_passesOwn hp (thn (T.done X rfl rfl rfl hc i pins s3 σ3 H3 X.xe I3 (stat fr3) st3 stop) fun r s4 ⟨hr, I4⟩ => ?_)
    subst hr
    exact wpAny_execs_nil ⟨σ3, H3, I4, qn⟩
  · refine wpAny_passesOwn hp (thn (T.item X rfl rfl rfl hc i pins s3 σ3 H3 X.xe I3 (stat fr3) st3 go) fun r s4 ⟨u, hr, h4⟩ => ?_)
    subst hr
    refine wpAny_passesOwn hp (thn h4 fun _ s5 ⟨x, H5, I5, r5, y5, st5, fr5⟩ => ?_)
    have I5' := I5.pinned (stat fr5) (T.obj _ _ st5)
    refine wpAny_passesOwn hp (thn (hg _ s5 σ3 H5 x u _ I5' r5 (step x H5 y5)) fun _ s6 ⟨σ6, H6, I6, q6⟩ => ?_)
    refine wpAny_passesOwn hp (thn (hb _ s6 σ6 H6 _ I6 q6) fun f s7 q7 => ?_)
    have again : ∀ {σ7 : St} {H7 : Hp}, Inv X (pins ++ pinsAt fp s5.heap) σ7 H7 s7 → N σ7 H7 → ∃ m, m < n ∧ ∃ i σ' H', Inv X pins σ' H' s7 ∧ tn i s7.heap ∧ (∀ b ∈ fp, H' b = none) ∧ W i m σ' H' := fun {σ7 H7} I7 n7 => by
      obtain ⟨m', hm, w7⟩ := hN σ7 H7 n7
      refine ⟨m', hm, i + 1, σ7, H7, I7.unpinned, T.keep _ _ _ st5 fun b hb o e => (I7.pin (b, o) (List.mem_append_right _ (List.mem_append_right _ (mem_pinsAt hb e)))).1, fun b hb => ?_, w7⟩
      obtain ⟨o, e, d⟩ := T.obj _ _ st5 b hb
      exact (I7.pin (b, o) (List.mem_append_right _ (List.mem_append_right _ (mem_pinsAt hb e)))).2.1
    cases f with
    | next => obtain ⟨σ7, H7, I7, n7⟩ := q7; exact again I7 n7
    | cont => obtain ⟨σ7, H7, I7, n7⟩ := q7; exact again I7 n7
    | brk => obtain ⟨σ7, H7, I7, q7⟩ := q7; exact ⟨σ7, H7, I7.unpinned, q7⟩
    | ret v => obtain ⟨x7, σ7, H7, I7, r7, q7⟩ := q7; exact ⟨x7, σ7, H7, I7.unpinned, r7, q7⟩
end

/-! ### the forms one uses -/
theorem for_list {K : PySem.W.Frag} {a : Addr} {xs : List V} {g : TG} {tb : TS} {D : Ends} {σ : St} {H : Hp} (Pv : Nat → St → Hp → Prop) (h0 : Pv 0 σ H) (hl : ∀ i σ H, i ≤ xs.length → Pv i σ H → SqL K H a xs)
    (hs : ∀ i x σ H, xs[i]? = some x → Pv i σ H → g x σ H fun σ2 H2 => tb { D with nx := Pv (i + 1), ct := Pv (i + 1), bk := D.nx } σ2 H2) (hd : ∀ σ H, Pv xs.length σ H → D.nx σ H) :
    ∃ W : Nat → Nat → St → Hp → Prop, (∃ m, W 0 m σ H) ∧ ∀ i m σ H, W i m σ H →
      ((Itl K a).stop i H ∧ D.nx σ H) ∨ ((Itl K a).go i H ∧ ∃ N : St → Hp → Prop, (∀ σ' H', N σ' H' → ∃ m', m' < m ∧ W (i + 1) m' σ' H') ∧ ∀ x H', (Itl K a).yld i H x H' → g x σ H' fun σ2 H2 => tb { D with nx := N, ct := N, bk := D.nx } σ2 H2) := by
  refine ⟨fun i m σ H => m = xs.length - i ∧ i ≤ xs.length ∧ Pv i σ H, ⟨xs.length, by simp, Nat.zero_le _, h0⟩, ?_⟩
  rintro i m σ H ⟨rfl, hi, p⟩
  have q := hl i σ H hi p
  by_cases hlt : i < xs.length
  · refine .inr ⟨⟨xs, xs[i], q, by simp [hlt]⟩, Pv (i + 1), fun σ' H' p' => ⟨xs.length - (i + 1), by omega, rfl, hlt, p'⟩, fun x H' y => ?_⟩
    obtain ⟨e, y⟩ := y
    subst e
    exact hs i x σ _ (y xs q) p
  · have e : i = xs.length := by omega
    subst e
    exact .inl ⟨⟨xs, q, Nat.le_refl _⟩, hd σ H p⟩
theorem for_range {lo : Int} {n : Nat} {g : TG} {tb : TS} {D : Ends} {σ : St} {H : Hp} (Pv : Nat → St → Hp → Prop) (h0 : Pv 0 σ H)
    (hs : ∀ i σ H, i < n → Pv i σ H → g (.int (lo + i)) σ H fun σ2 H2 => tb { D with nx := Pv (i + 1), ct := Pv (i + 1), bk := D.nx } σ2 H2) (hd : ∀ σ H, Pv n σ H → D.nx σ H) :
    ∃ W : Nat → Nat → St → Hp → Prop, (∃ m, W 0 m σ H) ∧ ∀ i m σ H, W i m σ H →
      ((Itr lo n).stop i H ∧ D.nx σ H) ∨ ((Itr lo n).go i H ∧ ∃ N : St → Hp → Prop, (∀ σ' H', N σ' H' → ∃ m', m' < m ∧ W (i + 1) m' σ' H') ∧ ∀ x H', (Itr lo n).yld i H x H' → g x σ H' fun σ2 H2 => tb { D with nx := N, ct := N, bk := D.nx } σ2 H2) := by
  refine ⟨fun i m σ H => m = n - i ∧ i ≤ n ∧ Pv i σ H, ⟨n, by simp, Nat.zero_le _, h0⟩, ?_⟩
  rintro i m σ H ⟨rfl, hi, p⟩
  by_cases hlt : i < n
  · refine .inr ⟨hlt, Pv (i + 1), fun σ' H' p' => ⟨n - (i + 1), by omega, rfl, hlt, p'⟩, fun x H' y => ?_⟩
    obtain ⟨e, y⟩ := y
    subst e y
    exact hs i σ _ hlt p
  · have e : i = n := by omega
    subst e
    exact .inl ⟨Nat.le_refl _, hd σ H p⟩
end L2

namespace L2
open PySem PySem.Spec PyProof.Rows

noncomputable abbrev R2 := V → V → Hp → VK → Prop
noncomputable def OpR (X : Cx) (f : Value → Value → Sem Value) (r : R2) : Prop :=
  ∀ (pins : List (Addr × Obj)) (s : Shared) (σ : St) (H : Hp) (x y : V) (v u : Value) (Q : VK), Inv X pins σ H s → RelV x v → RelV y u → r x y H Q →
    wpAny (model X.prog X.w) X.A (f v u) (EP X pins σ Q) X.xe s
noncomputable def UnR (X : Cx) (f : Value → Sem Value) (r : V → Hp → VK → Prop) : Prop :=
  ∀ (pins : List (Addr × Obj)) (s : Shared) (σ : St) (H : Hp) (x : V) (v : Value) (Q : VK), Inv X pins σ H s → RelV x v → r x H Q →
    wpAny (model X.prog X.w) X.A (f v) (EP X pins σ Q) X.xe s
noncomputable def CallR (X : Cx) (f : Value) (r : List V → Hp → VK → Prop) : Prop :=
  ∀ (pins : List (Addr × Obj)) (s : Shared) (σ : St) (H : Hp) (xs : List V) (us : List Value) (Q : VK), Inv X pins σ H s → Vals xs us → r xs H Q →
    wpAny (model X.prog X.w) X.A (call f us) (EP X pins σ Q) X.xe s
noncomputable def tOp (r : R2) (ta tb : TE) : TE := fun σ H Q => ta σ H fun x H1 => tb σ H1 fun y H2 => r x y H2 Q
noncomputable def tUn (r : V → Hp → VK → Prop) (ta : TE) : TE := fun σ H Q => ta σ H fun x H1 => r x H1 Q
noncomputable def rI (C : Int → Int → Prop) (g : Int → Int → V) : R2 := fun x y H Q => ∃ i j, x = .int i ∧ y = .int j ∧ C i j ∧ Q (g i j) H
noncomputable def rI0 (g : Int → Int → V) : R2 := fun x y H Q => ∃ i j, x = .int i ∧ y = .int j ∧ Q (g i j) H
noncomputable def rU (g : Int → V) : V → Hp → VK → Prop := fun x H Q => ∃ i, x = .int i ∧ Q (g i) H

section
variable {X : Cx} {a b c : Expr} {ta tb tc : TE} {pos : Pos}

theorem binT (ha : PE X a ta) (hb : PE X b tb) {pins : List (Addr × Obj)} {s : Shared} {σ : St} {H : Hp} {R : V → V → Hp → Prop} (I : Inv X pins σ H s)
    (h : ta σ H fun x H1 => tb σ H1 fun y H2 => R x y H2) {Q : Value → Shared → Prop} {f : Value → Value → Sem Value}
    (hf : ∀ v u s2 x y H2, Inv X pins σ H2 s2 → RelV x v → RelV y u → R x y H2 → wpAny (model X.prog X.w) X.A (f v u) Q X.xe s2) :
    wpAny (model X.prog X.w) X.A (eval a X.env) (fun v s₁ => wpAny (model X.prog X.w) X.A (eval b X.env) (fun u s₂ => wpAny (model X.prog X.w) X.A (f v u) Q X.xe s₂) X.xe s₁) X.xe s := by
  refine thn (ha pins s σ H _ I h) fun v s1 ⟨x, H1, I1, r1, q1⟩ => ?_
  refine thn (hb pins s1 σ H1 _ I1 q1) fun u s2 ⟨y, H2, I2, r2, q2⟩ => ?_
  exact hf v u s2 x y H2 I2 r1 r2 q2

theorem pe_op {op : Operator} {r : R2} (ho : OpR X (binaryOp op) r) (ha : PE X a ta) (hb : PE X b tb) : PE X (.BinOp a op b pos) (tOp r ta tb) := by
  intro pins s σ H Q I h
  exact wpAny_BinOp (binT ha hb I h fun v u s2 x y H2 I2 rx ry q => ho pins s2 σ H2 x y v u Q I2 rx ry q)
theorem pe_un {op : UnaryOp} {r : V → Hp → VK → Prop} (ho : UnR X (unaryOp op) r) (ha : PE X a ta) : PE X (.UnaryOp op a pos) (tUn r ta) := by
  intro pins s σ H Q I h
  exact UnaryOp_ (thn (ha pins s σ H _ I h) fun v s1 ⟨x, H1, I1, r1, q1⟩ => ho pins s1 σ H1 x v Q I1 r1 q1)
/-! ### ints -/
theorem opI {f : Value → Value → Sem Value} {C : Int → Int → Prop} {g : Int → Int → Int}
    (rule : ∀ (i j : Int) (t u : Tok) (s : Shared) (Q : Value → Shared → Prop) (E : Value → Shared → Prop), C i j → Q (.int (g i j) s.toks) { s with toks := s.toks + 1 } → wpAny (model X.prog X.w) X.A (f (.int i t) (.int j u)) Q E s) :
    OpR X f (rI C fun i j => .int (g i j)) := by
  intro pins s σ H x y v u Q I rx ry h
  obtain ⟨i, j, rfl, rfl, hc, q⟩ := h
  obtain ⟨t, rfl⟩ := rx
  obtain ⟨t', rfl⟩ := ry
  exact rule i j t t' s _ _ hc ⟨.int (g i j), H, I.tok _, ⟨_, rfl⟩, q⟩
theorem opI0 {f : Value → Value → Sem Value} {g : Int → Int → Int}
    (rule : ∀ (i j : Int) (t u : Tok) (s : Shared) (Q : Value → Shared → Prop) (E : Value → Shared → Prop), Q (.int (g i j) s.toks) { s with toks := s.toks + 1 } → wpAny (model X.prog X.w) X.A (f (.int i t) (.int j u)) Q E s) :
    OpR X f (rI0 fun i j => .int (g i j)) := by
  intro pins s σ H x y v u Q I rx ry h
  obtain ⟨i, j, rfl, rfl, q⟩ := h
  obtain ⟨t, rfl⟩ := rx
  obtain ⟨t', rfl⟩ := ry
  exact rule i j t t' s _ _ ⟨.int (g i j), H, I.tok _, ⟨_, rfl⟩, q⟩
theorem opB0 {f : Value → Value → Sem Value} {g : Int → Int → Bool}
    (rule : ∀ (i j : Int) (t u : Tok) (s : Shared) (Q : Value → Shared → Prop) (E : Value → Shared → Prop), Q (.bool (g i j)) s → wpAny (model X.prog X.w) X.A (f (.int i t) (.int j u)) Q E s) :
    OpR X f (rI0 fun i j => .bl (g i j)) := by
  intro pins s σ H x y v u Q I rx ry h
  obtain ⟨i, j, rfl, rfl, q⟩ := h
  obtain ⟨t, rfl⟩ := rx
  obtain ⟨t', rfl⟩ := ry
  exact rule i j t t' s _ _ ⟨.bl (g i j), H, I, rfl, q⟩

noncomputable def CDiv (i j : Int) : Prop := 0 < j ∧ j < 1073741824
noncomputable def CMul (i j : Int) : Prop := (-(2 ^ 64) < i ∧ i < 2 ^ 64) ∨ (-(2 ^ 64) < j ∧ j < 2 ^ 64)
theorem CMul.ok {i j : Int} (h : CMul i j) : IntMulOk i j := by
  rcases h with ⟨h1, h2⟩ | ⟨h1, h2⟩
  · exact .of_left (intBits_le_64 h1 h2)
  · exact .of_right (intBits_le_64 h1 h2)
theorem op_add : OpR X (binaryOp .Add) (rI0 fun i j => .int (i + j)) := opI0 fun _ _ _ _ _ _ _ q => add_int q
theorem op_sub : OpR X (binaryOp .Sub) (rI0 fun i j => .int (i - j)) := opI0 fun _ _ _ _ _ _ _ q => sub_int q
theorem op_fdiv : OpR X (binaryOp .FloorDiv) (rI CDiv fun i j => .int (i / j)) := opI fun i j _ _ _ _ _ hc q => by
  have h1 : (0 : Int) < j := hc.1
  have h2 : j < 1073741824 := hc.2
  exact floordiv_int (by omega) (by rw [Int.fdiv_eq_ediv_of_nonneg i (by omega)]; exact q) (.inl (PyProof.noPylong_small (by omega)))
theorem op_mod : OpR X (binaryOp .Mod) (rI (fun _ j => 0 < j) fun i j => .int (i % j)) := opI fun i j _ _ _ _ _ hc q => by
  have h1 : (0 : Int) < j := hc
  exact mod_int' (by omega) (by rw [Int.fmod_eq_emod_of_nonneg i (by omega)]; exact q)
theorem unI {f : Value → Sem Value} {g : Int → Int}
    (rule : ∀ (i : Int) (t : Tok) (s : Shared) (Q : Value → Shared → Prop) (E : Value → Shared → Prop), Q (.int (g i) s.toks) { s with toks := s.toks + 1 } → wpAny (model X.prog X.w) X.A (f (.int i t)) Q E s) :
    UnR X f (rU fun i => .int (g i)) := by
  intro pins s σ H x v Q I rx h
  obtain ⟨i, rfl, q⟩ := h
  obtain ⟨t, rfl⟩ := rx
  exact rule i t s _ _ ⟨.int (g i), H, I.tok _, ⟨_, rfl⟩, q⟩
theorem un_neg : UnR X (unaryOp .USub) (rU fun i => .int (-i)) := unI fun _ _ _ _ _ q => neg_int q
/-! ### bools among ints: n += (a < b) -/
end

/-! ### comparisons -/
noncomputable def scal : V → V → Bool
  | .non, .non => true | .non, .int _ => true | .int _, .non => true | .non, .bl _ => true | .bl _, .non => true | .non, .str _ => true | .str _, .non => true
  | .int _, .int _ => true | .bl _, .bl _ => true | .str _, .str _ => true | .byt _, .byt _ => true
  | .int _, .str _ => true | .str _, .int _ => true | .bl _, .str _ => true | .str _, .bl _ => true
  | _, _ => false
noncomputable def rEq : R2 := fun x y H Q => scal x y = true ∧ Q (.bl (decide (x = y))) H
noncomputable def rNe : R2 := fun x y H Q => scal x y = true ∧ Q (.bl (!decide (x = y))) H

section
variable {X : Cx} {a b c : Expr} {ta tb tc : TE} {pos : Pos}
theorem op_lt : OpR X (compareOp .Lt) (rI0 fun i j => .bl (decide (i < j))) := opB0 fun _ _ _ _ _ _ _ q => lt_int q
theorem op_le : OpR X (compareOp .LtE) (rI0 fun i j => .bl (decide (i ≤ j))) := opB0 fun _ _ _ _ _ _ _ q => le_int q
theorem op_gt : OpR X (compareOp .Gt) (rI0 fun i j => .bl (decide (j < i))) := opB0 fun _ _ _ _ _ _ _ q => gt_int q
theorem OpR.or {f : Value → Value → Sem Value} {r r' : R2} (h : OpR X f r) (h' : OpR X f r') : OpR X f (fun x y H Q => r x y H Q ∨ r' x y H Q) := by
  intro pins s σ H x y v u Q I rx ry q
  rcases q with q | q
  · exact h pins s σ H x y v u Q I rx ry q
  · exact h' pins s σ H x y v u Q I rx ry q

theorem nomark (b : Expr) {op : CmpOp} (h : op ≠ .In := by decide) (h2 : op ≠ .NotIn := by decide) : behindInMarks op b = false := by
  have e1 : (op == CmpOp.In) = false := by cases op <;> first | rfl | exact absurd rfl h
  have e2 : (op == CmpOp.NotIn) = false := by cases op <;> first | rfl | exact absurd rfl h2
  cases b <;> simp [behindInMarks, e1, e2]
theorem pe_cmpR {op : CmpOp} {r : R2} (ho : OpR X (compareOp op) r) (ha : PE X a ta) (hb : PE X b tb) (hm : behindInMarks op b = false) : PE X (.Compare a [op] [b] pos) (tOp r ta tb) := by
  intro pins s σ H Q I h
  exact wpAny_Compare1 (binT ha hb I h fun v u s2 x y H2 I2 rx ry q => ho pins s2 σ H2 x y v u Q I2 rx ry q) hm
noncomputable def tTest (t : TE) : TT := fun σ H Q => t σ H fun x H' => ∃ k, x = .bl k ∧ Q k H'
theorem pt_cmpR {op : CmpOp} {r : R2} (ho : OpR X (compareOp op) r) (ha : PE X a ta) (hb : PE X b tb) (hm : behindInMarks op b = false) : PT X (.Compare a [op] [b] pos) (tTest (tOp r ta tb)) := by
  intro pins s σ H Q I h
  refine wpAny_isTrue_Compare1 (thn (ha pins s σ H _ I h) fun v s1 ⟨x, H1, I1, r1, q1⟩ => thn (hb pins s1 σ H1 _ I1 q1) fun u s2 ⟨y, H2, I2, r2, q2⟩ =>
    thn (ho pins s2 σ H2 x y v u _ I2 r1 r2 q2) fun c s3 ⟨z, H3, I3, r3, k, e, q3⟩ => ?_) hm
  subst e
  cases r3
  exact wpAny_truthy_bool ⟨H3, I3, q3⟩
noncomputable def tChain (r r' : R2) (ta tb tc : TE) : TE := fun σ H Q => ta σ H fun x H1 => tb σ H1 fun y H2 => r x y H2 fun z H3 => ∃ k, z = .bl k ∧
  (if k = true then tc σ H3 fun w' H4 => r' y w' H4 Q else Q (.bl false) H3)
theorem pe_chain {op op' : CmpOp} {r r' : R2} (ho : OpR X (compareOp op) r) (ho' : OpR X (compareOp op') r') (ha : PE X a ta) (hb : PE X b tb) (hc : PE X c tc)
    (hm : lastMarks [op, op'] [b, c] = false := by with_unfolding_all rfl) : PE X (.Compare a [op, op'] [b, c] pos) (tChain r r' ta tb tc) := by
  intro pins s σ H Q I h
  refine Compare_chain (thn (ha pins s σ H _ I h) fun v s1 ⟨x, H1, I1, r1, q1⟩ => chain_link (thn (hb pins s1 σ H1 _ I1 q1) fun u s2 ⟨y, H2, I2, r2, q2⟩ =>
    thn (ho pins s2 σ H2 x y v u _ I2 r1 r2 q2) fun d s3 ⟨z, H3, I3, r3, k, e, q3⟩ => ?_)) hm
  subst e
  cases r3
  refine wpAny_truthy_bool ?_
  cases k with
  | false => exact ite_ff ⟨.bl false, H3, I3, rfl, q3⟩
  | true => exact ite_tt (chain_last (thn (hc pins s3 σ H3 _ I3 q3) fun w' s4 ⟨z', H4, I4, r4, q4⟩ => ho' pins s4 σ H4 y z' u w' Q I4 r2 r4 q4))
/-! ### truth -/
theorem line63 : (sizeLine : Nat) < 2 ^ 63 := by rw [sizeLine_eq]; decide
/-! ### strs and bytes -/
/-! ### scalar builtins, by CallR -/
theorem vals1 {x : V} {us : List Value} (r : Vals [x] us) : ∃ u, us = [u] ∧ RelV x u := by
  cases r with
  | cons r1 r2 => cases r2; exact ⟨_, rfl, r1⟩
theorem vals2 {x y : V} {us : List Value} (r : Vals [x, y] us) : ∃ u w', us = [u, w'] ∧ RelV x u ∧ RelV y w' := by
  cases r with
  | cons r1 r2 =>
    cases r2 with
    | cons r3 r4 => cases r4; exact ⟨_, _, rfl, r1, r3⟩
theorem call_min2 (hc : X.calm = true) : CallR X (.builtin "min") (fun xs H Q => ∃ i j, xs = [.int i, .int j] ∧ Q (.int (if j < i then j else i)) H) := by
  intro pins s σ H xs us Q I r h
  obtain ⟨i, j, rfl, q⟩ := h
  obtain ⟨u, w', rfl, ⟨t, rfl⟩, ⟨t', rfl⟩⟩ := vals2 r
  refine min_two_ints (I.ok.hd hc) fun h' tk k => ⟨_, H, I.kept k, ?_, q⟩
  by_cases hj : j < i
  · rw [if_pos hj, if_pos hj]; exact ⟨_, rfl⟩
  · rw [if_neg hj, if_neg hj]; exact ⟨_, rfl⟩
end
end L2

namespace L2
open PySem PySem.Spec PyProof.Rows

/-! ### an instance, its attributes a map -/
structure ObjM (h : Heap) (x dx C : Addr) (mA : Str → Option Value) : Prop where
  obj : h.get? x = some (PySem.W.instObj C dx)
  ns : h.Ns1 dx mA
  ne : dx ≠ x

theorem lookIn_ns {h : Heap} {dx : Addr} {mA : Str → Option Value} (n : h.Ns1 dx mA) : ∃ od, h.get? dx = some od ∧ ∀ name, PySem.W.lookIn name od = some (mA name) := by
  obtain ⟨o, es, ep, ho, hd, hk, _, hm⟩ := n
  refine ⟨o, ho, fun name => ?_⟩
  have e := hm name
  unfold nsFind findBy at e
  rw [← Array.find?_toList] at e
  unfold PySem.W.lookIn
  rw [hd]
  dsimp only
  split
  · rename_i y q
    rw [q] at e
    exact congrArg some e
  · rename_i q
    rw [q] at e
    have a : es.toList.any (·.refKey) = false := by
      rw [List.any_eq_false]
      intro y hy
      obtain ⟨z, t, hkey⟩ := hk y (Array.mem_toList_iff.mp hy)
      simp [DictEntry.refKey, hkey]
    have a' : ¬ es.toList.any (·.refKey) = true := by rw [a]; exact Bool.false_ne_true
    rw [if_neg a']
    exact congrArg some e

theorem ObjM.look {h : Heap} {x dx C : Addr} {mA : Str → Option Value} (I : ObjM h x dx C mA) : ∃ od, PySem.W.InstAt h x (PySem.W.instObj C dx) C (some od) ∧ ∀ name, PySem.W.lookIn name od = some (mA name) :=
  let ⟨od, ho, hl⟩ := lookIn_ns I.ns
  ⟨od, ⟨I.obj, rfl, rfl, ho⟩, hl⟩

section
variable {prog : Program} {w : World} {A : Around} {E : Value → Shared → Prop} {s : Shared} {K : PySem.W.Frag} {x dx C f : Addr} {mA : Str → Option Value} {name : Str} {v : Value}

end

/-! ### the attributes as a list of pairs -/
section
variable {P : Program} {w : World} {H H' : Hp} {h h' : Heap} {a C dx : Addr} {fs fs' : List (Str × V)}
theorem ins_get (hok : HOk P w H h) (e : H a = some (.ins C dx fs)) : ∃ mA, ObjM h a dx C mA ∧ (∀ f, RelO (fs.lookup f) (mA f)) ∧ PySem.Within mA (fs.map (·.1)) ∧ fs.length ≤ 1000 ∧ H dx = some (.own a) := by
  obtain ⟨d, z, ne, ob, mA, n, r, q⟩ := (show ObjOk P w H h a (.ins C dx fs) from hok a _ e)
  exact ⟨mA, ⟨ob, n, ne⟩, r, q, z, d⟩
end

/-! ### what of the text a class must have -/
structure Cls (K : PySem.W.Frag) (C : Addr) : Prop where
  pg : PySem.W.plainGet K C Str.empty = true
  hd : PySem.W.hasDictIn K C = true
  po : PySem.W.plainOver K C = true
  sa : PySem.W.findIn K (.ref C) "__setattr__" = some (some (.builtin "object.__setattr__"))
theorem Cls.get {K : PySem.W.Frag} {C : Addr} (c : Cls K C) (f : Str) : PySem.W.plainGet K C f = true := c.pg
structure Con (K : PySem.W.Frag) (C : Addr) (f : Str) (v : V) (u : Value) : Prop where
  at_ : PySem.W.findIn K (.ref C) f = some (some u)
  rel : RelV v u
  get : PySem.W.specialIn K u "__get__" = some none
  cp : PySem.W.copiedNames.contains f = false
structure Meth (K : PySem.W.Frag) (C : Addr) (m : Str) (f : Addr) : Prop where
  at_ : PySem.W.findIn K (.ref C) m = some (some (.ref f))
  fn : PySem.W.isFn K (.ref f) = true
  kp : PySem.W.keepIn K (.ref f) = true

section
variable {X : Cx} {pins : List (Addr × Obj)} {σ : St} {H : Hp} {s : Shared} {a C dx : Addr} {fs : List (Str × V)} {f : Str} {v : V} {A : Around} {E : Value → Shared → Prop}

end

/-! ### readings and rules -/
section
variable {X : Cx} {o e value : Expr} {f : Str} {pos pos' tpos : Pos} {ta tv : TE}
end

/-! ### isinstance -/
section
variable {X : Cx} {pins : List (Addr × Obj)} {σ : St} {H : Hp} {s : Shared} {A : Around} {E : Value → Shared → Prop} {Q : Value → Shared → Prop} {c : Value} {b : Bool}
inductive TyOf (K : PySem.W.Frag) (H : Hp) : V → Value → Prop where
  | non : TyOf K H .non (.type "NoneType")
  | bl (x : Bool) : TyOf K H (.bl x) (.type "bool")
  | int (i : Int) : TyOf K H (.int i) (.type "int")
  | str (x : Str) : TyOf K H (.str x) (.type "str")
  | flt (x : UInt64) : TyOf K H (.flt x) (.type "float")
  | lst {a : Addr} {xs : List V} (e : H a = some (.lst xs)) : TyOf K H (.ref a) (.type "list")
  | frz {a : Addr} {o : Obj} {xs : List V} (e : H a = some (.frz o (.lst xs))) : TyOf K H (.ref a) (.type "list")
  | tup {a : Addr} {xs : List V} (e : H a = some (.tup xs)) : TyOf K H (.ref a) (.type "tuple")
  | dK {a : Addr} {kvs : List (Key × V)} (e : H a = some (.dK kvs)) : TyOf K H (.ref a) (.type "dict")
  | dT {a : Addr} {kvs : List (List Key × V)} (e : H a = some (.dT kvs)) : TyOf K H (.ref a) (.type "dict")
  | ins {a C dx : Addr} {fs : List (Str × V)} (e : H a = some (.ins C dx fs)) (cl : Cls K C) (ha : PySem.W.findIn K (.ref C) "__class__" = some (some (.builtin "object.__class__")))
      (hn : PySem.W.specialIn K (.builtin "object.__class__") "__get__" = some (some (.builtin "getset_descriptor.__get__"))) (htk : PySem.W.takesIn K (.builtin "object.__class__") = some true)
      (hm : PySem.W.mroIn K C (.type "object") = some true) : TyOf K H (.ref a) (.ref C)
theorem isinst_ok {x : V} {u t : Value} (I : Inv X pins σ H s) (rx : RelV x u) (ty : TyOf X.K H x t) (e : PySem.W.kitOne X.K t c = some b) (h : ∀ tk, Q (.bool b) { s with toks := tk }) :
    wpAny (model X.prog X.w) A (call (.builtin "isinstance") [u, c]) Q E s := by
  cases ty with
  | non => cases (show u = Value.none from rx); exact PySem.W.kia_one PySem.W.kitx_none I.kIn True.intro e (fun z => nomatch z) h
  | bl y => cases (show u = Value.bool y from rx); exact PySem.W.kia_one PySem.W.kitx_bool I.kIn True.intro e (fun z => nomatch z) h
  | int i => obtain ⟨t, q⟩ := (show ∃ t, u = Value.int i t from rx); cases q; exact PySem.W.kia_one PySem.W.kitx_int I.kIn True.intro e (fun z => nomatch z) h
  | str y => obtain ⟨t, q⟩ := (show ∃ t, u = Value.str y t from rx); cases q; exact PySem.W.kia_one PySem.W.kitx_str I.kIn True.intro e (fun z => nomatch z) h
  | flt y => obtain ⟨t, q⟩ := (show ∃ t, u = Value.float y t from rx); cases q; exact PySem.W.kia_one PySem.W.kitx_float I.kIn True.intro e (fun z => nomatch z) h
  | @lst a xs ea =>
    cases (show u = Value.ref a from rx)
    obtain ⟨_, _, n, _, h1⟩ := (show ObjOk X.prog X.w H s.heap a (.lst xs) from I.hok a _ ea)
    exact PySem.W.kia_one PySem.W.kitx_list I.kIn ⟨_, h1, rfl⟩ e (fun z => nomatch z) h
  | @frz a ob xs ea =>
    cases (show u = Value.ref a from rx)
    obtain ⟨_, _, _, n, _, h1⟩ := (show ObjOk X.prog X.w H s.heap a (.frz ob (.lst xs)) from I.hok a _ ea)
    exact PySem.W.kia_one PySem.W.kitx_list I.kIn ⟨_, h1, rfl⟩ e (fun z => nomatch z) h
  | @tup a xs ea =>
    cases (show u = Value.ref a from rx)
    obtain ⟨_, _, _, p⟩ := (show ObjOk X.prog X.w H s.heap a (.tup xs) from I.hok a _ ea)
    obtain ⟨o, h1, h2, _⟩ := p
    exact PySem.W.kia_one PySem.W.kitx_tuple I.kIn ⟨o, h1, h2⟩ e (fun z => nomatch z) h
  | @dK a kvs ea =>
    cases (show u = Value.ref a from rx)
    obtain ⟨_, _, vs, _, p⟩ := (show ObjOk X.prog X.w H s.heap a (.dK kvs) from I.hok a _ ea)
    obtain ⟨o, es, ep, h1, h2, _⟩ := p
    exact PySem.W.kia_one PySem.W.kitx_dict I.kIn ⟨o, h1, h2.1⟩ e (fun z => nomatch z) h
  | @dT a kvs ea =>
    cases (show u = Value.ref a from rx)
    obtain ⟨_, _, xs, _, o, es, ep, h1, h2, _⟩ := (show ObjOk X.prog X.w H s.heap a (.dT kvs) from I.hok a _ ea)
    exact PySem.W.kia_one PySem.W.kitx_dict I.kIn ⟨o, h1, h2.1⟩ e (fun z => nomatch z) h
  | @ins a C dx fs ea cl ha hn htk hm =>
    cases (show u = Value.ref a from rx)
    obtain ⟨mA, O, _⟩ := ins_get I.hok ea
    obtain ⟨od, J, _⟩ := O.look
    exact PySem.W.kia_one (PySem.W.kitx_own (cl.get _) cl.hd ha hn htk hm) I.kIn J e (fun z => nomatch z) h
end
end L2

namespace L2
open PySem PySem.Spec PyProof.Rows

/-! ### room -/
structure Room (k : Nat) (A : Around) : Prop where
  hd : A.handled = none
  dp : A.depth + 3 * k + 5 < recursionLimit
  un : A.units + 16 * k + 200 < cLine
theorem Room.mono {j k : Nat} {A : Around} (r : Room k A) (h : j ≤ k) : Room j A := ⟨r.hd, by have := r.dp; omega, by have := r.un; omega⟩
theorem Room.deeper {k : Nat} {A : Around} (r : Room (k + 1) A) (env : Env) : Room k (A.deeper env) :=
  ⟨r.hd, by have := r.dp; show A.depth + 1 + 3 * k + 5 < _; omega, by have := r.un; show A.units + 3 + 16 * k + 200 < _; omega⟩
theorem Room.in1 {k : Nat} {A : Around} (r : Room (k + 1) A) : Room k A.in1 :=
  ⟨r.hd, by have := r.dp; show A.depth + 3 * k + 5 < _; omega, by have := r.un; show A.units + 1 + 16 * k + 200 < _; omega⟩
theorem Room.depth {k : Nat} {A : Around} (r : Room k A) : A.depth < recursionLimit := by have := r.dp; omega
theorem Room.units {k : Nat} {A : Around} (r : Room k A) : A.units + 64 < cLine := by have := r.un; omega
theorem Room.units0 {k : Nat} {A : Around} (r : Room k A) : A.units < cLine := by have := r.un; omega

/-! ### argument lists and displays -/
noncomputable def tNil : TA := fun _ H Q => Q [] H
noncomputable def tCons (ta : TE) (tr : TA) : TA := fun σ H Q => ta σ H fun x H1 => tr σ H1 fun xs H2 => Q (x :: xs) H2
section
variable {X : Cx} {e : Expr} {es : List Expr} {te : TE} {t : TA} {pos : Pos}
theorem pa_nil : PA X [] tNil := fun _ _ _ _ H Q I h => Calls.spliced_nil ⟨[], H, I, .nil, h⟩
theorem pa_cons (ha : PE X e te) (hr : PA X es t) (hs : starEach (e :: es) X.env = (false, eval e X.env) :: starEach es X.env := by rfl) : PA X (e :: es) (tCons te t) := by
  intro pos pins s σ H Q I h
  rw [hs]
  show wpAny _ _ (spliced ((false, eval e X.env) :: backTo pos (starEach es X.env))) _ _ s
  refine Calls.spliced_cons (thn (ha pins s σ H _ I h) fun u s1 ⟨x, H1, I1, r1, q1⟩ => ?_)
  exact thn (hr pos pins s1 σ H1 _ I1 q1) fun us s2 ⟨xs, H2, I2, r2, q2⟩ => ⟨x :: xs, H2, I2, .cons r1 r2, q2⟩

noncomputable def tTup (t : TA) : TE := fun σ H Q => t σ H fun xs H1 => xs.length ≤ sizeLine ∧ ∀ p, H1 p = none → Q (.ref p) (upd H1 p (.tup xs))
noncomputable def tLst (t : TA) : TE := fun σ H Q => t σ H fun xs H1 => xs.length ≤ sizeLine ∧ ∀ p, H1 p = none → Q (.ref p) (upd H1 p (.lst xs))
theorem pe_tup {x1} (h : PA X es t) : PE X (.Tuple es x1 pos) (tTup t) := by
  intro pins s σ H Q I hq
  refine wpAny_Tuple_spliced (thn (h pos pins s σ H _ I hq) fun us s1 ⟨xs, H1, I1, r, z, q⟩ => ⟨by rw [← r.length]; exact z, ?_⟩)
  have hf : H1 s1.heap.objs.size = none := I1.hok.fresh (Nat.le_refl _)
  refine ⟨.ref s1.heap.objs.size, upd H1 s1.heap.objs.size (.tup xs), I1.laid (t' := s1.toks) (fun b u e => Heap.get?_push_of_some _ e) (Nat.le_refl _) ?_, rfl, q _ hf⟩
  exact ⟨z, us, r, IsTupD.new _ _⟩
theorem pe_lst (h : PA X es t) : PE X (.List es pos) (tLst t) := by
  intro pins s σ H Q I hq
  refine wpAny_List_spliced (thn (h pos pins s σ H _ I hq) fun us s1 ⟨xs, H1, I1, r, z, q⟩ => ⟨by rw [← r.length]; exact z, ?_⟩)
  have hf : H1 s1.heap.objs.size = none := I1.hok.fresh (Nat.le_refl _)
  refine ⟨.ref s1.heap.objs.size, upd H1 s1.heap.objs.size (.lst xs), I1.laid (t' := s1.toks) (fun b u e => Heap.get?_push_of_some _ e) (Nat.le_refl _) ?_, rfl, q _ hf⟩
  exact ⟨z, us, 0, r, Heap.get?_push_size _ rfl⟩
end

/-! ### what a def promises -/
noncomputable abbrev Sp := List V → Hp → VK → XK → Prop
noncomputable abbrev CXT := List Env → Hp → Shared → XK → Value → Shared → Prop

structure Env0 (P : Program) (w : World) (K : PySem.W.Frag) (mg : Str → Option Value) (base : Heap) (A : Around) (outer : List Env) (s : Shared) (H : Hp) : Prop where
  frames : A.frames = some outer
  mod : Mod K mg base
  bs : ∀ b o, base.get? b = some o → s.heap.get? b = some o ∧ H b = none
  bsz : base.objs.size ≤ s.heap.objs.size
  funs : s.heap.FunFrames base outer
  frf : ∀ b ∈ frs outer, H b = none
  hok : HOk P w H s.heap
  bare : AllBare s.gens
noncomputable def CE (outer : List Env) (P : Program) (w : World) (H : Hp) (s : Shared) (Q : VK) (u : Value) (s' : Shared) : Prop :=
  ∃ v H', s'.os = s.os ∧ AllBare s'.gens ∧ Un (frs outer) [] H H' s.heap s'.heap ∧ HOk P w H' s'.heap ∧ RelV v u ∧ Q v H'
noncomputable def CR (CX : CXT) (outer : List Env) (P : Program) (w : World) (H : Hp) (s : Shared) (Q : VK) (E : XK) (r : Result) (s' : Shared) : Prop :=
  match r with
  | .ok (.ret u) => CE outer P w H s Q u s'
  | .ok _ => False
  | .error e => CX outer H s E e s'
structure FnOk (P : Program) (w : World) (K : PySem.W.Frag) (mg : Str → Option Value) (base : Heap) (CX : CXT) (k : Nat) (f : Addr) (fd : FuncData) (ps : List Str) (sp : Sp) : Prop where
  len : ∀ vs H Q E, sp vs H Q E → vs.length = ps.length
  run : ∀ (A : Around) (outer : List Env) (s : Shared) (H : Hp) (args : Args) (us : List Value) (vs : List V) (Q : VK) (E : XK), Room k A → Env0 P w K mg base A outer s H → BindsTo s fd args (ps.zip us) → Vals vs us → sp vs H Q E →
    codeAny (model P w) A (.call (.ref f) args) (CR CX outer P w H s Q E) s
theorem FnOk.mono {P : Program} {w : World} {K : PySem.W.Frag} {mg : Str → Option Value} {base : Heap} {CX : CXT} {j k : Nat} {f : Addr} {fd : FuncData} {ps : List Str} {sp : Sp} (F : FnOk P w K mg base CX j f fd ps sp) (h : j ≤ k) :
    FnOk P w K mg base CX k f fd ps sp := ⟨F.len, fun A outer s H args us vs Q E hr => F.run A outer s H args us vs Q E (hr.mono h)⟩
theorem Env0.in1 {P : Program} {w : World} {K : PySem.W.Frag} {mg : Str → Option Value} {base : Heap} {A : Around} {outer : List Env} {s : Shared} {H : Hp} (e : Env0 P w K mg base A outer s H) :
    Env0 P w K mg base A.in1 outer s H := ⟨e.frames, e.mod, e.bs, e.bsz, e.funs, e.frf, e.hok, e.bare⟩

section
variable {X : Cx} {pins : List (Addr × Obj)} {σ : St} {H : Hp} {s s' : Shared}
theorem Inv.env0 (I : Inv X pins σ H s) : Env0 X.prog X.w X.K X.mg X.base X.A X.stack s H :=
  ⟨I.ok.frames, I.ok.mod, I.bs, Nat.le_trans I.ok.bsz I.sz, I.stack, I.stkFree, I.hok, I.bare⟩
theorem Inv.after {Q : VK} {u : Value} (I : Inv X pins σ H s) (h : CE X.stack X.prog X.w H s Q u s') : EP X pins σ Q u s' := by
  obtain ⟨v, H', os, bare, un, hok, r, q⟩ := h
  obtain ⟨hh, g, d, t, os'⟩ := s'
  obtain rfl : os' = s.os := os
  exact ⟨v, H', I.call (h' := hh) (g' := g) (d' := d) (t' := t) (ch := []) un hok bare (fun b z => absurd z (by simp)), r, q⟩
end

/-! ### calls -/
noncomputable def tCall (sp : Sp) (dvs : List V) (E : XK) (t : TA) : TE := fun σ H Q => t σ H fun vs H1 => sp (vs ++ dvs) H1 Q E
noncomputable def Binds (K : PySem.W.Frag) (fd : FuncData) (ps : List Str) (ds : List Value) : Prop :=
  ∀ (s : Shared) (us : List Value), K.In s.heap → (us ++ ds).length = ps.length → BindsTo s fd ⟨us, []⟩ (ps.zip (us ++ ds))
theorem Binds.all {K : PySem.W.Frag} {fd : FuncData} {ps : List Str} (h : ∀ us : List Value, us.length = ps.length → bindArgs fd ⟨us, []⟩ = pure (ps.zip us)) : Binds K fd ps [] := fun s us _ hl => by
  rw [List.append_nil] at hl ⊢
  exact .of_eq (h us hl)

noncomputable def Passes (CX : CXT) (X : Cx) (E : XK) : Prop := ∀ (pins : List (Addr × Obj)) (σ : St) (H : Hp) (s : Shared) (e : Value) (s' : Shared), Inv X pins σ H s → CX X.stack H s E e s' → X.xe e s'

section
variable {X : Cx} {CX : CXT} {k : Nat} {f C : Addr} {fd : FuncData} {ps : List Str} {sp : Sp} {dvs : List V} {ds : List Value} {E : XK} {x m : Str} {p pos apos : Pos} {e o : Expr} {es : List Expr} {ta : TE} {t : TA}

theorem run_fn {pins : List (Addr × Obj)} {σ : St} {H : Hp} {s : Shared} {Q : VK} {us : List Value} {vs : List V} (F : FnOk X.prog X.w X.K X.mg X.base CX k f fd ps sp) (hr : Room k X.A) (hb : Binds X.K fd ps ds) (hd : Vals dvs ds) (hx : Passes CX X E)
    (I : Inv X pins σ H s) (r : Vals vs us) (h : sp (vs ++ dvs) H Q E) : wpAny (model X.prog X.w) X.A (call (.ref f) us) (EP X pins σ Q) X.xe s := by
  have r2 : Vals (vs ++ dvs) (us ++ ds) := r.append hd
  have hl : (us ++ ds).length = ps.length := by rw [← r2.length]; exact F.len _ _ _ _ h
  refine wpAny_call (codeAny_mono (F.run X.A X.stack s H ⟨us, []⟩ (us ++ ds) (vs ++ dvs) Q E hr I.env0 (hb s us I.kIn hl) r2 h) fun r s' hq => ?_)
  cases r with
  | error e => exact hx pins σ H s e s' I hq
  | ok fl =>
    cases fl with
    | ret u => exact I.after hq
    | next => exact False.elim hq
    | brk => exact False.elim hq
    | cont => exact False.elim hq

theorem pe_call (F : FnOk X.prog X.w X.K X.mg X.base CX k f fd ps sp) (hr : Room k X.A) (hg : Gl X x) (hm : X.mg x = some (.ref f)) (hk : PySem.W.keepIn X.K (.ref f) = true) (hb : Binds X.K fd ps ds) (hd : Vals dvs ds) (hx : Passes CX X E)
    (ha : PA X (e :: es) t) (hdb : (x == ("__debug__" : Str)) = false := by decide) (he : starEach (e :: es) X.env = (false, eval e X.env) :: starEach es X.env := by rfl) (hpl : (backTo pos (starEach es X.env)).any (·.1) = false := by rfl) :
    PE X (.Call (.Name x p) (e :: es) [] pos) (tCall sp dvs E t) := by
  intro pins s σ H Q I h
  refine wpAny_Call_Name_kw (ld_glob I hg hm ?_ hdb)
  refine PySem.W.callWith_K (h₀ := X.base) I.ok.mod.kin hk (thn (ha pos pins s σ H _ I h) fun us s1 ⟨vs, H1, I1, r, q⟩ => ⟨I1.kIn, ?_⟩) he hpl
  exact run_fn F hr hb hd hx I1 r q
structure Mk (K : PySem.W.Frag) (C f : Addr) : Prop where
  makes : PySem.W.makesIn K C = true
  init : PySem.W.findIn K (.ref C) "__init__" = some (some (.ref f))
  fn : PySem.W.isFn K (.ref f) = true
  kp : PySem.W.keepIn K (.ref C) = true

end

/-! ### keywords -/
section
variable {X : Cx} {CX : CXT} {k : Nat} {f C : Addr} {fd : FuncData} {ps ks : List Str} {sp : Sp} {E : XK} {x m : Str} {p pos apos kpos : Pos} {e o : Expr} {es : List Expr} {kws : List Keyword} {te ta : TE} {t tk : TA} {nm : Option Str}
structure KBinds (K : PySem.W.Frag) (fd : FuncData) (ps ks : List Str) (g : List Value → List Value → List Value) (gV : List V → List V → List V) : Prop where
  to : ∀ (s : Shared) (us ws : List Value), K.In s.heap → (g us ws).length = ps.length → BindsTo s fd ⟨us, ks.zip ws⟩ (ps.zip (g us ws))
  rel : ∀ {vs : List V} {us : List Value} {zs : List V} {ws : List Value}, Vals vs us → Vals zs ws → Vals (gV vs zs) (g us ws)
variable {g : List Value → List Value → List Value} {gV : List V → List V → List V}
end

/-! ### a def's body keeps its promise -/
structure FnScope (N P : List Str) (sc : Scope) : Prop where
  kind : sc.kind = .function
  co : sc.isCoroutine = false
  gen : sc.isGenerator = false
  nd : N.Nodup
  pre : N.take P.length = P
  par : ∀ x ∈ P, sc.names.lookup x = some .local ∨ sc.names.lookup x = some .cell
  nofree : ∀ y ∈ sc.names, y.2 ≠ .free

theorem bindL_out {kindOf : Str → Option NameKind} {x : Str} : ∀ {binds : List (Str × Value)} {m : Str → Option Value}, (∀ v, (x, v) ∉ binds) → bindL kindOf binds m x = m x
  | [], _, _ => rfl
  | (n, v) :: r, m, h => by
    unfold bindL
    rw [bindL_out fun w hw => h w (List.mem_cons_of_mem _ hw)]
    split
    · have : x ≠ n := by rintro rfl; exact h v List.mem_cons_self
      simp [this]
    · rfl
theorem bindC_out {kindOf : Str → Option NameKind} {x : Str} : ∀ {binds : List (Str × Value)} {m : Str → Option Value}, (∀ v, (x, v) ∉ binds) → bindC kindOf binds m x = m x
  | [], _, _ => rfl
  | (n, v) :: r, m, h => by
    unfold bindC
    rw [bindC_out fun w hw => h w (List.mem_cons_of_mem _ hw)]
    split
    · rfl
    · have : x ≠ n := by rintro rfl; exact h v List.mem_cons_self
      simp [this]
theorem bindL_get {kindOf : Str → Option NameKind} {x : Str} {v : Value} : ∀ {P : List Str} {vs : List Value} {i : Nat} {m : Str → Option Value}, P.Nodup → P[i]? = some x → vs[i]? = some v → kindOf x = some .local →
    bindL kindOf (P.zip vs) m x = some v
  | [], _, _, _, _, h, _, _ => by simp at h
  | _ :: _, [], _, _, _, _, h, _ => by simp at h
  | p :: P, w :: vs, 0, m, nd, h1, h2, hk => by
    simp at h1 h2; subst h1; subst h2
    show bindL kindOf ((p, w) :: P.zip vs) m p = _
    unfold bindL
    rw [bindL_out fun v hv => (List.nodup_cons.mp nd).1 (List.of_mem_zip hv).1, if_pos hk]
    simp
  | p :: P, w :: vs, i + 1, m, nd, h1, h2, hk => by
    show bindL kindOf ((p, w) :: P.zip vs) m x = _
    unfold bindL
    exact bindL_get (i := i) (List.nodup_cons.mp nd).2 (by simpa using h1) (by simpa using h2) hk
theorem bindC_get {kindOf : Str → Option NameKind} {x : Str} {v : Value} : ∀ {P : List Str} {vs : List Value} {i : Nat} {m : Str → Option Value}, P.Nodup → P[i]? = some x → vs[i]? = some v → kindOf x ≠ some .local →
    bindC kindOf (P.zip vs) m x = some v
  | [], _, _, _, _, h, _, _ => by simp at h
  | _ :: _, [], _, _, _, _, h, _ => by simp at h
  | p :: P, w :: vs, 0, m, nd, h1, h2, hk => by
    simp at h1 h2; subst h1; subst h2
    show bindC kindOf ((p, w) :: P.zip vs) m p = _
    unfold bindC
    rw [bindC_out fun v hv => (List.nodup_cons.mp nd).1 (List.of_mem_zip hv).1, if_neg hk]
    simp
  | p :: P, w :: vs, i + 1, m, nd, h1, h2, hk => by
    show bindC kindOf ((p, w) :: P.zip vs) m x = _
    unfold bindC
    exact bindC_get (i := i) (List.nodup_cons.mp nd).2 (by simpa using h1) (by simpa using h2) hk

noncomputable def start (N : List Str) (vs : List V) : St := vs.map some ++ List.replicate (N.length - vs.length) none

noncomputable def cxOf (CX : CXT) (P : Program) (w : World) (K : PySem.W.Frag) (mg : Str → Option Value) (base : Heap) (N : List Str) (qual : Str) (scope : Scope) (f : Addr) (cd : Value) (A : Around) (outer : List Env) (s : Shared) (H : Hp) (E : XK) : Cx where
  prog := P
  w := w
  K := K
  mg := mg
  base := base
  A := A.deeper (envOfC qual scope s.heap.objs.size f cd)
  N := N
  s₀ := s
  H₀ := H
  env := envOfC qual scope s.heap.objs.size f cd
  outer := outer
  stack := envOfC qual scope s.heap.objs.size f cd :: outer
  ex := []
  calm := true
  fn := fun _ => true
  pn := []
  xe := fun e s' => wpAny (model P w) (A.deeper (envOfC qual scope s.heap.objs.size f cd)) («leaving» (envOfC qual scope s.heap.objs.size f cd) e) (fun _ s'' => CX outer H s E e s'') (fun e' s'' => CX outer H s E e' s'') s'

theorem cell_has {sc : Scope} {n : Nat} {x : Str} (h : sc.names.lookup x = some .cell) : ∃ c, (cellsFrom n sc.names []).lookup x = some c := by
  have q := PySem.W.cellsFrom_some sc.names n [] (.inl h)
  exact Option.isSome_iff_exists.mp q

theorem inv_start {CX : CXT} {P : Program} {w : World} {K : PySem.W.Frag} {mg : Str → Option Value} {base : Heap} {N ps : List Str} {qual : Str} {scope : Scope} {f : Addr} {cd : Value} {A : Around} {outer : List Env} {s s1 : Shared} {H : Hp} {E : XK} {us : List Value} {vs : List V}
    (S : FnScope N ps scope) (hd : A.handled = none) (e0 : Env0 P w K mg base A outer s H) (hl : vs.length = ps.length) (r : Vals vs us)
    (x : InCallC s s.heap.objs.size (bindL (envOfC qual scope s.heap.objs.size f cd).kindOf (ps.zip us) fun _ => none) (cellsFrom (s.heap.objs.size + 1) scope.names []) (bindC (envOfC qual scope s.heap.objs.size f cd).kindOf (ps.zip us) fun _ => none) s1) :
    Inv (cxOf CX P w K mg base N qual scope f cd A outer s H E) [] (start N vs) H s1 := by
  have hpl : ps.length ≤ N.length := by have := congrArg List.length S.pre; rw [List.length_take] at this; omega
  obtain ⟨h1, tk, rfl, hk⟩ := x.done
  have noA : ∀ b : Addr, b ∉ (cxOf CX P w K mg base N qual scope f cd A outer s H E).ex := fun b z => absurd (show b ∈ ([] : List Addr) from z) (by simp)
  refine ⟨⟨e0.mod, S.kind, rfl, rfl, Nat.le_refl _, fun y z c h1 h2 => ?_, fun y hy => ?_, fun y c _ h => ?_, fun _ => hd, Around.frames_deeper e0.frames, .inr ⟨rfl, rfl⟩, fun b z => absurd z (noA b), e0.bs, e0.bsz, fun b _ _ => noA b, fun b z => absurd z (noA b), e0.funs, e0.frf⟩,
    rfl, e0.bare, Un.kept hk, ⟨_, x.toInCall.ns, fun i y v h1 h2 h3 => ?_⟩, fun y c h => ⟨_, x.cell y c h⟩, e0.hok.fresh (Nat.le_refl _), fun y c h => ?_, fun p hp => absurd (show p ∈ ([] : List (Addr × Obj)) from hp) (by simp), e0.hok.kept hk, ?_⟩
  · exact name_of_addr x.apart (PySem.mem_of_lookup h1) (PySem.mem_of_lookup h2)
  · have hy : scope.names.lookup y = some .cell ∨ scope.names.lookup y = some .free := hy
    rcases hy with hy | hy
    · exact cell_has hy
    · exact absurd rfl (S.nofree _ (PySem.mem_of_lookup hy))
  · exact Nat.le_of_lt (x.above y c (PySem.mem_of_lookup h))
  · have hi : i < vs.length := by
      unfold start at h2
      by_cases hi : i < vs.length
      · exact hi
      · rw [List.getElem?_append_right (by simpa using hi)] at h2
        rw [List.getElem?_replicate] at h2
        split at h2 <;> cases h2
    have ha : vs[i]? = some v := by
      unfold start at h2
      rw [List.getElem?_append_left (by simpa using hi), List.getElem?_map] at h2
      cases e : vs[i]? with
      | none => rw [e] at h2; cases h2
      | some a => rw [e] at h2; cases h2; rfl
    obtain ⟨u, hu, rv⟩ := r.get ha
    have hp : ps[i]? = some y := by
      rw [← S.pre, List.getElem?_take_of_lt (by omega)]; exact h1
    have ndP : ps.Nodup := by rw [← S.pre]; exact S.nd.sublist (List.take_sublist _ _)
    refine ⟨u, rv, ?_⟩
    rcases S.par y (List.mem_of_getElem? hp) with k | k
    · exact .inl ⟨k, bindL_get ndP hp hu k⟩
    · obtain ⟨c, e⟩ := cell_has (n := s.heap.objs.size + 1) k
      refine .inr ⟨.inl k, c, e, ?_⟩
      have q := x.cell y c e
      rw [bindC_get ndP hp hu (by show scope.names.lookup y ≠ _; rw [k]; decide)] at q
      exact q
  · exact e0.hok.fresh (Nat.le_of_lt (x.above y c (PySem.mem_of_lookup h)))
  · unfold start
    show _ = N.length
    rw [List.length_append, List.length_map, List.length_replicate]
    omega

theorem fn_of {CX : CXT} {P : Program} {w : World} {K : PySem.W.Frag} {mg : Str → Option Value} {base : Heap} {k : Nat} {f : Addr} {name qual : Str} {params : Arguments} {body : List Stmt} {scope : Scope} {dV kV doc pm cdv ct oc : Value} {an od : Option Addr}
    {osl : Array (Option Value)} {N ps : List Str} {sp : Sp} (lk : K.lookup f = some ⟨oc, od, .func (PySem.W.fnOf name qual params body scope dV kV doc pm an cdv ct), osl⟩) (hcd : PySem.W.codeIn K cdv qual = true) (S : FnScope N ps scope)
    (len : ∀ vs H Q E, sp vs H Q E → vs.length = ps.length)
    (hbody : ∀ (A : Around) (outer : List Env) (s : Shared) (H : Hp) (vs : List V) (Q : VK) (E : XK), Room k (A.deeper (envOfC qual scope s.heap.objs.size f cdv)) → sp vs H Q E →
      ∃ t, PSs (cxOf CX P w K mg base N qual scope f cdv A outer s H E) body t ∧ t { nx := fun _ H' => Q .non H', rt := Q } (start N vs) H) :
    FnOk P w K mg base CX (k + 1) f (PySem.W.fnOf name qual params body scope dV kV doc pm an cdv ct) ps sp := by
  refine ⟨len, fun A outer s H args us vs Q E hr e0 hb r hsp => ?_⟩
  have hl := len _ _ _ _ hsp
  have KX : K.In s.heap := e0.mod.kin.keeps fun b o e => (e0.bs b o e).1
  have lim : s.heap.NoLimit := e0.mod.nolimit.keeps fun b o e => (e0.bs b o e).1
  have hkind : ∀ y ∈ ps.zip us, scope.names.lookup y.1 = some .local ∨ (scope.names.lookup y.1 = some .cell ∧ ((cellsFrom (s.heap.objs.size + 1) scope.names []).lookup y.1).isSome = true) := fun ⟨n, v⟩ hy => by
    rcases S.par n (List.of_mem_zip hy).1 with q | q
    · exact .inl q
    · exact .inr ⟨q, PySem.W.cellsFrom_some _ _ _ (.inl q)⟩
  refine codeAny_call_function hr.depth (KX _ _ lk) rfl S.co S.gen rfl (PySem.W.codeRec_of KX hcd) (hb _ _ _ _ ?_)
  refine wpAny_newFunctionEnv_cells S.kind hkind fun env he s1 x => ?_
  subst he
  refine ⟨lim.keeps x.toInCall.keep, codeAny_func ?_⟩
  obtain ⟨t, ht, hq⟩ := hbody A outer s H vs Q E (hr.deeper _) hsp
  have I : Inv (cxOf CX P w K mg base N qual scope f cdv A outer s H E) [] (start N vs) H s1 := inv_start S hr.hd e0 hl r x
  refine wpAny_mono (ht [] s1 (start N vs) H _ I hq) (fun fl s' hs => ?_) fun e s' hs => hs
  have fin : ∀ {σ' : St} {H' : Hp} {v : V} {u : Value}, Inv (cxOf CX P w K mg base N qual scope f cdv A outer s H E) [] σ' H' s' → RelV v u → Q v H' → CE outer P w H s Q u s' :=
    fun {σ' H' v u} J rv q => ⟨v, H', J.os, J.bare, J.base, J.hok, rv, q⟩
  cases fl with
  | ret u =>
    obtain ⟨v, σ', H', J, rv, q⟩ := hs
    exact fin J rv q
  | next =>
    obtain ⟨σ', H', J, q⟩ := hs
    exact fin (v := V.non) (u := Value.none) J rfl q
  | brk =>
    obtain ⟨_, _, _, q⟩ := hs
    exact False.elim q
  | cont =>
    obtain ⟨_, _, _, q⟩ := hs
    exact False.elim q
end L2

namespace L2
open PySem PySem.Spec PyProof.Rows
section
variable {X : Cx} {x : Str} {p pos : Pos} {e : Expr} {es : List Expr} {t : TA} {id T : String} {r : List V → Hp → VK → Prop}

noncomputable def tCB (r : List V → Hp → VK → Prop) (t : TA) : TE := fun σ H Q => t σ H fun vs H1 => r vs H1 Q
theorem pe_callB (hc : CallR X (.builtin id) r) (hg : Gl X x) (hm : X.mg x = none) (hv : bootBuiltins x = some (.builtin id)) (ha : PA X (e :: es) t) (hn : x ≠ "__name__" := by decide) (hdb : (x == ("__debug__" : Str)) = false := by decide)
    (he : starEach (e :: es) X.env = (false, eval e X.env) :: starEach es X.env := by rfl) (hpl : (backTo pos (starEach es X.env)).any (·.1) = false := by rfl) : PE X (.Call (.Name x p) (e :: es) [] pos) (tCB r t) := by
  intro pins s σ H Q I h
  refine wpAny_Call_Name_kw (ld_blt I hg hm hv ?_ hn hdb)
  exact PyProof.Rows.callWith_builtin1 (thn (ha pos pins s σ H _ I h) fun us s1 ⟨vs, H1, I1, r1, q1⟩ => hc pins s1 σ H1 vs us Q I1 r1 q1) he hpl
theorem pe_callTy (hc : CallR X (.type T) r) (hg : Gl X x) (hm : X.mg x = none) (hv : bootBuiltins x = some (.type T)) (ha : PA X (e :: es) t) (hn : x ≠ "__name__" := by decide) (hdb : (x == ("__debug__" : Str)) = false := by decide)
    (he : starEach (e :: es) X.env = (false, eval e X.env) :: starEach es X.env := by rfl) (hpl : (backTo pos (starEach es X.env)).any (·.1) = false := by rfl) : PE X (.Call (.Name x p) (e :: es) [] pos) (tCB r t) := by
  intro pins s σ H Q I h
  refine wpAny_Call_Name_kw (ld_blt I hg hm hv ?_ hn hdb)
  exact PyProof.Rows.callWith_type1 (thn (ha pos pins s σ H _ I h) fun us s1 ⟨vs, H1, I1, r1, q1⟩ => hc pins s1 σ H1 vs us Q I1 r1 q1) he hpl
end
end L2

namespace HT
open PySem PyProof.Rows

section
open PySem.SeqAt
open PySem.AutoSeq1 (wpAny_loadPart')
open PySem.MeetsSeq PySem.MeetsSeq2 PySem.MeetsSeq3

end

section
variable {prog : Program} {w : World} {A : Around} {E : Value → Shared → Prop} {s : Shared}

theorem cat_tup {t b : Addr} {vs ws : List Value} {Q : Value → Shared → Prop} (ht : IsTup s.heap t vs.toArray) (hb : IsTup s.heap b ws.toArray) (hv : vs ≠ [])
    (h1 : ws = [] → Q (.ref t) s) (h2 : ws ≠ [] → Q (.ref s.heap.objs.size) { s with heap := s.heap.push { cls := .type "tuple", data := .seq (vs ++ ws).toArray } })
    (hsz : vs.length + ws.length ≤ sizeLine) : wpAny (model prog w) A (binaryOp .Add (.ref t) (.ref b)) Q E s := by
  obtain ⟨⟨cls, dd, data, sl⟩, ho, hc, n, hd⟩ := id ht
  obtain ⟨⟨cls2, dd2, data2, sl2⟩, ho2, hc2, n2, hd2⟩ := id hb
  simp only at hc hd hc2 hd2
  subst hc hd hc2 hd2
  have e : vs.toArray ++ ws.toArray = (vs ++ ws).toArray := by simp
  by_cases hw : ws = []
  · exact concat_meets ⟨_, ho, rfl⟩ ⟨_, ho2, rfl⟩ noFill_tuple_add seq_tuple_add PySem.F.slot_tuple_add PySem.F.entry_tuple_add (PySem.F.args_tuple_add_2 _ _)
      (tuple_addW1 t b vs.toArray ws.toArray n n2 dd dd2 sl sl2 (by simpa using hv) (by simp [hw])) ⟨ho, ho2, h1 hw⟩
  · refine concat_meets ⟨_, ho, rfl⟩ ⟨_, ho2, rfl⟩ noFill_tuple_add seq_tuple_add PySem.F.slot_tuple_add PySem.F.entry_tuple_add (PySem.F.args_tuple_add_2 _ _)
      (tuple_addW2 t b vs.toArray ws.toArray n n2 dd dd2 sl sl2 (by simpa using hv) (by simpa using hw) (by rw [List.size_toArray, List.size_toArray]; exact hsz)) ⟨ho, ho2, ?_⟩
    rw [e]
    exact h2 hw

/-! ### t[a:b], not the whole -/
noncomputable def sIx (n d : Nat) : Option Int → Nat
  | none => d
  | some v => if v < 0 then (v + (n : Int)).toNat else min v.toNat n
end
end HT

namespace L2
open PySem PySem.Spec PyProof.Rows

/-! ### the parts of a slice -/
noncomputable abbrev TO := St → Hp → (Option Int → Hp → Prop) → Prop
noncomputable def PO (X : Cx) (e : Option Expr) (t : TO) : Prop :=
  ∀ (pins : List (Addr × Obj)) (s : Shared) (σ : St) (H : Hp) (Q : Option Int → Hp → Prop), Inv X pins σ H s → t σ H Q →
    wpAny (model X.prog X.w) X.A (evalPart e X.env) (fun u s' => ∃ o H', Inv X pins σ H' s' ∧ IsPart u o ∧ Q o H') X.xe s
noncomputable def tNoPart : TO := fun _ H Q => Q none H
noncomputable def tPart (t : TE) : TO := fun σ H Q => t σ H fun x H1 => ∃ i, x = .int i ∧ Q (some i) H1

theorem intsAre_of {ns : List Int} : ∀ {us : List Value}, Vals (ns.map V.int) us → IntsAre us ns := by
  induction ns with
  | nil => intro us r; rw [List.map_nil] at r; cases r; exact .nil
  | cons n ns ih =>
    intro us r
    rw [List.map_cons] at r
    cases r with
    | cons r1 r2 =>
      obtain ⟨t, e⟩ := r1
      subst e
      exact .cons n t (ih r2)

section
variable {X : Cx} {e : Expr} {te : TE} {lo hi : Option Expr} {tl th : TO} {pos p2 : Pos}

theorem po_none : PO X none tNoPart := by
  intro pins s σ H Q I h
  rw [evalPart_none]
  exact wpAny_pure ⟨none, H, I, .none, h⟩
theorem po_some (h : PE X e te) : PO X (some e) (tPart te) := by
  intro pins s σ H Q I hw
  rw [evalPart_some]
  refine thn (h pins s σ H _ I hw) fun u s1 ⟨x, H1, I1, r1, q1⟩ => ?_
  obtain ⟨i, rfl, q⟩ := q1
  obtain ⟨t, rfl⟩ := r1
  exact ⟨some i, H1, I1, .int i t, q⟩

noncomputable def SlR (X : Cx) (r : V → Option Int → Option Int → Hp → VK → Prop) : Prop :=
  ∀ (pins : List (Addr × Obj)) (s : Shared) (σ : St) (H : Hp) (x : V) (v vl vu : Value) (lo hi : Option Int) (sl : Addr) (Q : VK), Inv X pins σ H s → RelV x v → s.heap.IsSliceOf sl vl vu .none → IsPart vl lo → IsPart vu hi → r x lo hi H Q →
    ∃ T id, typeLookup (.type T) "__getitem__" = pure (some (.builtin id)) ∧ s.TypeIs v T ∧ wpAny (model X.prog X.w) X.A (getItem v (.ref sl)) (EP X pins σ Q) X.xe s
theorem SlR.or {r r' : V → Option Int → Option Int → Hp → VK → Prop} (h : SlR X r) (h' : SlR X r') : SlR X (fun x lo hi H Q => r x lo hi H Q ∨ r' x lo hi H Q) := by
  intro pins s σ H x v vl vu lo hi sl Q I rx hs pl pu q
  rcases q with q | q
  · exact h pins s σ H x v vl vu lo hi sl Q I rx hs pl pu q
  · exact h' pins s σ H x v vl vu lo hi sl Q I rx hs pl pu q
noncomputable def tSl (r : V → Option Int → Option Int → Hp → VK → Prop) (te : TE) (tl th : TO) : TE := fun σ H Q => te σ H fun x H1 => tl σ H1 fun l H2 => th σ H2 fun u H3 => r x l u H3 Q
theorem pe_slice {r : V → Option Int → Option Int → Hp → VK → Prop} (hr : SlR X r) (he : PE X e te) (hl : PO X lo tl) (hu : PO X hi th) : PE X (.Subscript e (.Slice lo hi none p2) pos) (tSl r te tl th) := by
  intro pins s σ H Q I h
  refine Subscript_ (thn (he pins s σ H _ I h) fun v s1 ⟨x, H1, I1, r1, q1⟩ => ?_)
  refine wpAny_Slice (thn (hl pins s1 σ H1 _ I1 q1) fun vl s2 ⟨l, H2, I2, pl, q2⟩ => thn (hu pins s2 σ H2 _ I2 q2) fun vu s3 ⟨u, H3, I3, pu, q3⟩ => ?_)
  rw [evalPart_none]
  refine wpAny_pure ?_
  have I4 : Inv X pins σ H3 { s3 with heap := s3.heap.push { cls := .type "slice", data := .fields #[vl, vu, .none] } } := I3.kept (t' := s3.toks) fun b ob q => Heap.get?_push_of_some _ q
  obtain ⟨T, id, hT, ht, hg⟩ := hr pins { s3 with heap := s3.heap.push { cls := .type "slice", data := .fields #[vl, vu, .none] } } σ H3 x v vl vu l u s3.heap.objs.size Q I4 r1 (Heap.IsSliceOf.new ..) pl pu q3
  show wpAny (model X.prog X.w) X.A (subscriptTail e (.Slice lo hi none p2) v (.ref s3.heap.objs.size)) (EP X pins σ Q) X.xe { s3 with heap := s3.heap.push { cls := .type "slice", data := .fields #[vl, vu, .none] } }
  exact tail_any (ops := [.ref s3.heap.objs.size, v]) ht hT hg (by with_unfolding_all rfl)

noncomputable def cutV (xs : List V) (lo hi : Option Int) : List V := (xs.drop (HT.sIx xs.length 0 lo)).take (HT.sIx xs.length xs.length hi - HT.sIx xs.length 0 lo)
theorem cutV_length (xs : List V) (lo hi : Option Int) : (cutV xs lo hi).length ≤ xs.length := by
  unfold cutV
  rw [List.length_take, List.length_drop]
  omega
/-! ### t < u, t + u -/
noncomputable def rCatT (K : PySem.W.Frag) : R2 := fun x y H Q => ∃ a b xs ys, x = .ref a ∧ y = .ref b ∧ SqT K H a xs ∧ SqT K H b ys ∧ xs ≠ [] ∧ xs.length + ys.length ≤ sizeLine ∧
  (ys = [] → Q (.ref a) H) ∧ (ys ≠ [] → ∀ p, H p = none → Q (.ref p) (upd H p (.tup (xs ++ ys))))
theorem Vals.nil_iff {xs : List V} {us : List Value} (r : Vals xs us) : us = [] ↔ xs = [] := by
  cases r with
  | nil => simp
  | cons _ _ => simp
theorem op_catT : OpR X (binaryOp .Add) (rCatT X.K) := by
  intro pins s σ H x y v u Q I rx ry h
  obtain ⟨a, b, xs, ys, rfl, rfl, ha, hb, hx, hz, q1, q2⟩ := h
  cases rx
  cases ry
  obtain ⟨its, r1, p1, _⟩ := I.tuple ha
  obtain ⟨its2, r2, p2, _⟩ := I.tuple hb
  refine HT.cat_tup p1 p2 (fun z => hx (r1.nil_iff.mp z)) (fun z => ⟨.ref a, H, I, rfl, q1 (r2.nil_iff.mp z)⟩) (fun z => ?_) (by rw [← r1.length, ← r2.length]; exact hz)
  refine ⟨.ref s.heap.objs.size, _, I.laid (t' := s.toks) (o := .tup (xs ++ ys)) (fun b ob q => Heap.get?_push_of_some _ q) (Nat.le_refl _) ?_, rfl, q2 (fun w => z (r2.nil_iff.mpr w)) _ (I.hok.fresh (Nat.le_refl _))⟩
  exact ⟨by rw [List.length_append]; exact hz, _, r1.append r2, IsTupD.new _ _⟩
end
end L2

namespace L2
open PySem PySem.Spec PyProof.Rows

/-! ### places -/
noncomputable def ixN (n : Nat) (i : Int) : Option Nat := if 0 ≤ i then (if i < n then some i.toNat else none) else if -(n : Int) ≤ i then some (i + n).toNat else none
noncomputable def atI {α : Type} (xs : List α) (i : Int) : Option α := (ixN xs.length i).bind fun j => xs[j]?
theorem ixN_seq {n : Nat} {i : Int} {j : Nat} (h : ixN n i = some j) : seqIndex? i n = some j ∧ j < n ∧ -(n : Int) ≤ i ∧ i < n := by
  unfold ixN at h
  by_cases h0 : 0 ≤ i
  · rw [if_pos h0] at h
    by_cases h1 : i < n
    · rw [if_pos h1] at h
      have e : i.toNat = j := Option.some.inj h
      exact ⟨by rw [seqIndex_of h0 h1, e], by omega, by omega, h1⟩
    · rw [if_neg h1] at h; cases h
  · rw [if_neg h0] at h
    by_cases h1 : -(n : Int) ≤ i
    · rw [if_pos h1] at h
      have e : (i + n).toNat = j := Option.some.inj h
      exact ⟨by rw [seqIndex_neg (by omega) h1, e], by omega, h1, by omega⟩
    · rw [if_neg h1] at h; cases h
theorem atI_get {α : Type} {xs : List α} {i : Int} {v : α} (h : atI xs i = some v) : ∃ j, seqIndex? i xs.length = some j ∧ xs[j]? = some v ∧ j < xs.length ∧ -(xs.length : Int) ≤ i ∧ i < xs.length := by
  unfold atI at h
  cases e : ixN xs.length i with
  | none => rw [e] at h; cases h
  | some j =>
    rw [e] at h
    obtain ⟨h1, h2, h3, h4⟩ := ixN_seq e
    exact ⟨j, h1, h, h2, h3, h4⟩
theorem atI_nat {α : Type} {xs : List α} {j : Nat} {v : α} (h : xs[j]? = some v) : atI xs (j : Int) = some v := by
  have hj : j < xs.length := (List.getElem?_eq_some_iff.mp h).1
  have e : ixN xs.length (j : Int) = some j := by
    unfold ixN
    rw [if_pos (by omega), if_pos (by omega)]; simp
  unfold atI; rw [e]; exact h
/-! ### what may be subscripted -/
noncomputable def PlainIx (b : Expr) : Prop := ∀ o i, subscripted b false o i = operate [o, i] (getItem o i)
noncomputable def IxR (X : Cx) (r : R2) : Prop :=
  ∀ (value slice : Expr) (pins : List (Addr × Obj)) (s : Shared) (σ : St) (H : Hp) (x y : V) (v u : Value) (Q : VK), Inv X pins σ H s → RelV x v → RelV y u → r x y H Q →
    subscripted slice false v u = operate [v, u] (getItem v u) → wpAny (model X.prog X.w) X.A (subscriptTail value slice v u) (EP X pins σ Q) X.xe s
noncomputable def MtR (X : Cx) (id : String) (r : V → List V → Hp → VK → Prop) : Prop :=
  ∀ (pins : List (Addr × Obj)) (s : Shared) (σ : St) (H : Hp) (x : V) (xs : List V) (v : Value) (us : List Value) (Q : VK), Inv X pins σ H s → RelV x v → Vals xs us → r x xs H Q →
    wpAny (model X.prog X.w) X.A (call (.builtin id) (v :: us)) (EP X pins σ Q) X.xe s
section
variable {X : Cx} {a b : Expr} {ta tb : TE} {pos : Pos}
theorem IxR.or {r r' : R2} (h : IxR X r) (h' : IxR X r') : IxR X (fun x y H Q => r x y H Q ∨ r' x y H Q) := by
  intro value slice pins s σ H x y v u Q I rx ry q hs
  rcases q with q | q
  · exact h value slice pins s σ H x y v u Q I rx ry q hs
  · exact h' value slice pins s σ H x y v u Q I rx ry q hs
theorem MtR.or {id : String} {r r' : V → List V → Hp → VK → Prop} (h : MtR X id r) (h' : MtR X id r') : MtR X id (fun x xs H Q => r x xs H Q ∨ r' x xs H Q) := by
  intro pins s σ H x xs v us Q I rx rs q
  rcases q with q | q
  · exact h pins s σ H x xs v us Q I rx rs q
  · exact h' pins s σ H x xs v us Q I rx rs q
theorem pe_ix {r : R2} (hr : IxR X r) (ha : PE X a ta) (hb : PE X b tb) (hs : PlainIx b) : PE X (.Subscript a b pos) (tOp r ta tb) := by
  intro pins s σ H Q I h
  exact Subscript_ (binT ha hb I h fun v u s2 x y H2 I2 rx ry q => hr a b pins s2 σ H2 x y v u Q I2 rx ry q (hs _ _))

noncomputable def rIxL (K : PySem.W.Frag) : R2 := fun x y H Q => ∃ p xs i v, x = .ref p ∧ y = .int i ∧ SqL K H p xs ∧ atI xs i = some v ∧ Q v H
theorem ix_list : IxR X (rIxL X.K) := by
  intro value slice pins s σ H x y v u Q I rx ry h hs
  obtain ⟨p, xs, i, z, rfl, rfl, hq, he, q⟩ := h
  cases rx
  obtain ⟨t, rfl⟩ := ry
  obtain ⟨its, r, pl, hz⟩ := I.list hq
  obtain ⟨j, h1, h2, h3, h4, h5⟩ := atI_get he
  obtain ⟨w, ew, rw'⟩ := r.get h2
  have hl := r.length
  have hn := line63
  have fin : EP X pins σ Q w s := ⟨z, H, I, rw', q⟩
  by_cases h0 : 0 ≤ i
  · have hj : i.toNat = j := by
      rw [seqIndex_of h0 h5] at h1
      exact Option.some.inj h1
    exact item_listR pl.isList h0 (by omega) (by rw [hj]; simpa using ew) fin hs
  · have hj : (i + (its.toArray.size : Int)).toNat = j := by
      rw [seqIndex_neg (by omega) h4] at h1
      rw [List.size_toArray, ← hl]
      exact Option.some.inj h1
    exact subscriptTail_builtinR (x := w) pl.isList.typeIs slot_list_getitem.lookup
      (wpAny_getItem_list_neg (Q := fun r s' => r = w ∧ EP X pins σ Q r s') pl.isList (by omega) (by rw [List.size_toArray] <;> omega) (by omega) (by rw [hj]; simpa using ew) ⟨rfl, fin⟩) hs
/-! ### xs[i] = v, any sign -/
theorem Inv.lst {pins : List (Addr × Obj)} {σ : St} {H : Hp} {s : Shared} {p : Addr} {xs : List V} (I : Inv X pins σ H s) (h : H p = some (.lst xs)) :
    ∃ (its : List Value) (n : Nat), Vals xs its ∧ s.heap.get? p = some { cls := .type "list", data := .seq its.toArray n } ∧ xs.length ≤ sizeLine := by
  obtain ⟨z, its, n, r, e⟩ := I.hok p _ h
  exact ⟨its, n, r, e, z⟩
/-! ### slices -/
theorem slice_bounds (lo hi : Option Int) (n : Nat) : (sliceBounds lo hi none n).1 = ((HT.sIx n 0 lo : Nat) : Int) ∧ (sliceBounds lo hi none n).2.1 = ((HT.sIx n n hi : Nat) : Int) ∧ (sliceBounds lo hi none n).2.2 = 1 := by
  refine ⟨?_, ?_, rfl⟩
  · cases lo with
    | none => simp [sliceBounds, HT.sIx]
    | some i =>
      simp only [sliceBounds, HT.sIx, Option.getD_none, show (1 : Int) > 0 by decide, if_true]
      by_cases h : i < 0
      · simp only [h, if_true] <;> omega
      · simp only [h, if_false] <;> omega
  · cases hi with
    | none => simp [sliceBounds, HT.sIx]
    | some i =>
      simp only [sliceBounds, HT.sIx, Option.getD_none, show (1 : Int) > 0 by decide, if_true]
      by_cases h : i < 0
      · simp only [h, if_true] <;> omega
      · simp only [h, if_false] <;> omega
theorem slicePick_cut (its : List Value) (lo hi : Option Int) : slicePick its.toArray lo hi none = ((its.drop (HT.sIx its.length 0 lo)).take (HT.sIx its.length its.length hi - HT.sIx its.length 0 lo)).toArray := by
  obtain ⟨h1, h2, h3⟩ := slice_bounds lo hi its.toArray.size
  unfold slicePick
  rw [h1, h2, h3]
  simp only [sliceRange_one, pick_run, List.size_toArray] <;> rfl
noncomputable def rSlL (K : PySem.W.Frag) : V → Option Int → Option Int → Hp → VK → Prop := fun x lo hi H Q => ∃ a xs, x = .ref a ∧ SqL K H a xs ∧ ∀ p, H p = none → Q (.ref p) (upd H p (.lst (cutV xs lo hi)))
theorem sl_list : SlR X (rSlL X.K) := by
  intro pins s σ H x v vl vu lo hi sl Q I rx hs pl pu h
  obtain ⟨a, xs, rfl, hx, q⟩ := h
  cases rx
  obtain ⟨its, r, ht, hz⟩ := I.list hx
  have hlen := r.length
  refine ⟨"list", _, slot_list_getitem.lookup, ht.isList.typeIs, ?_⟩
  refine wpAny_getItem_list_slice ht.isList hs pl pu .none (by simp) ?_ (by rw [List.size_toArray] <;> omega)
  rw [slicePick_cut, ← hlen]
  refine ⟨.ref s.heap.objs.size, _, I.laid (t' := s.toks) (o := .lst (cutV xs lo hi)) (fun b ob q => Heap.get?_push_of_some _ q) (Nat.le_refl _) ?_, rfl, q _ (I.hok.fresh (Nat.le_refl _))⟩
  exact ⟨Nat.le_trans (cutV_length xs lo hi) hz, _, 0, (r.drop (HT.sIx xs.length 0 lo)).take (HT.sIx xs.length xs.length hi - HT.sIx xs.length 0 lo), Heap.get?_push_size _ rfl⟩

/-! ### in, not in: flat items -/
noncomputable def flatV : V → Bool
  | .non => true
  | .bl _ => true
  | .int _ => true
  | .str _ => true
  | _ => false
noncomputable def eqV : V → V → Bool
  | .non, .non => true
  | .bl a, .bl b => a == b
  | .bl a, .int b => (if a then 1 else 0) == b
  | .int a, .bl b => a == (if b then 1 else 0)
  | .int a, .int b => a == b
  | .str a, .str b => a == b
  | _, _ => false
theorem eqAt_V {A : Around} {s : Shared} {y x : V} {u v : Value} (ry : RelV y u) (rx : RelV x v) (fy : flatV y = true) (fx : flatV x = true) : SeqAt.EqAt A s u v (eqV y x) := by
  cases y with
  | non =>
    cases ry
    cases x with
    | non => cases rx; exact SeqAt.EqAt.same _
    | bl b => cases rx; exact SeqAt.EqAt.none_bool b
    | int b => obtain ⟨t, rfl⟩ := rx; exact SeqAt.EqAt.none_int b t
    | str b => obtain ⟨t, rfl⟩ := rx; exact SeqAt.EqAt.none_str b t
    | _ => exact absurd (show false = true from fx) Bool.false_ne_true
  | bl a =>
    cases ry
    cases x with
    | non => cases rx; exact SeqAt.EqAt.bool_none a
    | bl b => cases rx; exact SeqAt.EqAt.bool_bool a b
    | int b => obtain ⟨t, rfl⟩ := rx; exact SeqAt.EqAt.bool_int a b t
    | str b => obtain ⟨t, rfl⟩ := rx; exact SeqAt.EqAt.bool_str a b t
    | _ => exact absurd (show false = true from fx) Bool.false_ne_true
  | int a =>
    obtain ⟨t', rfl⟩ := ry
    cases x with
    | non => cases rx; exact SeqAt.EqAt.int_none a t'
    | bl b => cases rx; exact SeqAt.EqAt.int_bool a t' b
    | int b => obtain ⟨t, rfl⟩ := rx; exact SeqAt.EqAt.int_int a t' b t
    | str b => obtain ⟨t, rfl⟩ := rx; exact SeqAt.EqAt.int_str a t' b t
    | _ => exact absurd (show false = true from fx) Bool.false_ne_true
  | str a =>
    obtain ⟨t', rfl⟩ := ry
    cases x with
    | non => cases rx; exact SeqAt.EqAt.str_none a t'
    | bl b => cases rx; exact SeqAt.EqAt.str_bool a t' b
    | int b => obtain ⟨t, rfl⟩ := rx; exact SeqAt.EqAt.str_int a t' b t
    | str b => obtain ⟨t, rfl⟩ := rx; exact SeqAt.EqAt.str_str a t' b t
    | _ => exact absurd (show false = true from fx) Bool.false_ne_true
  | _ => exact absurd (show false = true from fy) Bool.false_ne_true
noncomputable def eqU (x : V) (u : Value) : Bool := match u with
  | .none => eqV .non x
  | .bool b => eqV (.bl b) x
  | .int i _ => eqV (.int i) x
  | .str z _ => eqV (.str z) x
  | _ => false
theorem eqU_of {x y : V} {u : Value} (r : RelV y u) (f : flatV y = true) : eqU x u = eqV y x := by
  cases y with
  | non => cases r; rfl
  | bl b => cases r; rfl
  | int i => obtain ⟨t, rfl⟩ := r; rfl
  | str z => obtain ⟨t, rfl⟩ := r; rfl
  | _ => exact absurd (show false = true from f) Bool.false_ne_true
theorem mem_eqAt {A : Around} {s : Shared} {x : V} {v : Value} (rx : RelV x v) (fx : flatV x = true) : ∀ {xs : List V} {us : List Value}, Vals xs us → xs.all flatV = true → ∀ u ∈ us, SeqAt.EqAt A s u v (eqU x u)
  | _, _, .nil, _ => fun u hu => by cases hu
  | y :: xs, u :: us, .cons r t, f => fun u' hu => by
    rw [List.all_cons, Bool.and_eq_true] at f
    rcases List.mem_cons.mp hu with rfl | hu
    · rw [eqU_of r f.1]; exact eqAt_V r rx f.1 fx
    · exact mem_eqAt rx fx t f.2 u' hu
/-! ### len, list(x), tuple(x) of any list or tuple that is read -/
theorem call_len_seq : CallR X (.builtin "len") (fun xs H Q => ∃ p ys, xs = [.ref p] ∧ (SqL X.K H p ys ∨ SqT X.K H p ys) ∧ Q (.int ys.length) H) := by
  intro pins s σ H xs us Q I r h
  obtain ⟨p, ys, rfl, hq, q⟩ := h
  obtain ⟨u, rfl, rx⟩ := vals1 r
  cases rx
  have hn := line63
  rcases hq with hq | hq
  · obtain ⟨its, r', pl, hz⟩ := I.list hq
    have hlen := r'.length
    exact Calls.call_len_list pl.isList (by simp only [List.size_toArray] <;> omega) ⟨.int ys.length, H, I.tok _, ⟨s.toks + 1, by rw [List.size_toArray, hlen]⟩, q⟩
  · obtain ⟨its, r', pl, hz⟩ := I.tuple hq
    have hlen := r'.length
    exact len_tuple pl (by simp only [List.size_toArray] <;> omega) ⟨.int ys.length, H, I.tok _, ⟨s.toks + 1, by rw [List.size_toArray, hlen]⟩, q⟩
theorem CallR.or {f : Value} {r r' : List V → Hp → VK → Prop} (h : CallR X f r) (h' : CallR X f r') : CallR X f (fun xs H Q => r xs H Q ∨ r' xs H Q) := by
  intro pins s σ H xs us Q I rs q
  rcases q with q | q
  · exact h pins s σ H xs us Q I rs q
  · exact h' pins s σ H xs us Q I rs q
theorem call_list_of : CallR X (.type "list") (fun xs H Q => ∃ p ys, xs = [.ref p] ∧ (SqL X.K H p ys ∨ SqT X.K H p ys) ∧ ∀ l, H l = none → Q (.ref l) (upd H l (.lst ys))) := by
  intro pins s σ H xs us Q I r h
  obtain ⟨p, ys, rfl, hq, q⟩ := h
  obtain ⟨u, rfl, rx⟩ := vals1 r
  cases rx
  have fin : ∀ (its : List Value), Vals ys its → ys.length ≤ sizeLine → ∀ (h' : Heap) (c' : Nat), (∀ b o', s.heap.get? b = some o' → h'.get? b = some o') →
      h'.get? s.heap.objs.size = some { cls := .type "list", dict := none, data := .seq its.toArray c', slots := #[] } → EP X pins σ Q (.ref s.heap.objs.size) { s with heap := h' } := fun its r' hz h' c' kp e =>
    ⟨.ref s.heap.objs.size, _, I.laid (t' := s.toks) kp (Nat.le_refl _) (show ObjOk X.prog X.w _ h' _ (.lst ys) from ⟨hz, its, c', r', e⟩), rfl, q _ (I.hok.fresh (Nat.le_refl _))⟩
  rcases hq with hq | hq
  · obtain ⟨its, r', pl, hz⟩ := I.list hq
    have hlen := r'.length
    obtain ⟨o, ho, hc, n, hd⟩ := pl.isList
    exact call_list_seq p (.inl rfl) ho hc hd (fun h' c' kp e => fin its r' hz h' c' kp e) (by simp only [List.size_toArray] <;> omega)
  · obtain ⟨its, r', pl, hz⟩ := I.tuple hq
    have hlen := r'.length
    obtain ⟨o, ho, hc, n, hd⟩ := pl
    exact call_list_seq p (.inr rfl) ho hc hd (fun h' c' kp e => fin its r' hz h' c' kp e) (by simp only [List.size_toArray] <;> omega)
theorem call_tuple_of : CallR X (.type "tuple") (fun xs H Q => ∃ p ys, xs = [.ref p] ∧ ((SqL X.K H p ys ∧ ∀ l, H l = none → Q (.ref l) (upd H l (.tup ys))) ∨ (SqT X.K H p ys ∧ Q (.ref p) H))) := by
  intro pins s σ H xs us Q I r h
  obtain ⟨p, ys, rfl, h⟩ := h
  obtain ⟨u, rfl, rx⟩ := vals1 r
  cases rx
  rcases h with ⟨hq, q⟩ | ⟨hq, q⟩
  · obtain ⟨its, r', pl, hz⟩ := I.list hq
    have hlen := r'.length
    refine call_tuple_list pl.isList (fun h' kp => ?_) (by simp only [List.size_toArray] <;> omega)
    have I1 : Inv X pins σ H { s with heap := h' } := I.kept (t' := s.toks) kp
    have I2 : Inv X pins σ (upd H h'.objs.size (.tup ys)) { s with heap := h'.push { cls := .type "tuple", data := .seq its.toArray } } :=
      I1.laid (t' := s.toks) (fun b o e => Heap.get?_push_of_some _ e) (Nat.le_refl _) (show ObjOk X.prog X.w _ _ _ (.tup ys) from ⟨hz, its, r', IsTupD.new _ _⟩)
    exact ⟨.ref h'.objs.size, _, I2, rfl, q _ (I1.hok.fresh (Nat.le_refl _))⟩
  · obtain ⟨its, r', pl, hz⟩ := I.tuple hq
    exact call_tuple_same pl ⟨.ref p, H, I, rfl, q⟩

/-! ### the call of a builtin's method: o.m(..) -/
noncomputable def tyV (K : PySem.W.Frag) (T : String) (x : V) (H : Hp) : Prop := match x with
  | .str _ => T = "str"
  | .int _ => T = "int"
  | .ref p => (T = "list" ∧ ∃ xs, SqL K H p xs) ∨ (T = "tuple" ∧ ∃ o, K.lookup p = some o ∧ o.cls = .type "tuple" ∧ o.dict = none) ∨
      (T = "dict" ∧ ((∃ kvs, H p = some (.dK kvs)) ∨ ∃ kvs, H p = some (.dT kvs))) ∨ (T = "set" ∧ ∃ S n, H p = some (.set S n))
  | _ => False
theorem tyV_is {pins : List (Addr × Obj)} {σ : St} {H : Hp} {s : Shared} {T : String} {x : V} {v : Value} (I : Inv X pins σ H s) (r : RelV x v) (ty : tyV X.K T x H) :
    s.TypeIs v T ∧ ∀ a, v = .ref a → ∃ ob, s.heap.get? a = some ob ∧ ob.dict = none := by
  cases x with
  | str z =>
    obtain ⟨t, rfl⟩ := r
    cases (show T = "str" from ty)
    exact ⟨typeIs_str s z t, fun _ e => nomatch e⟩
  | int i =>
    obtain ⟨t, rfl⟩ := r
    cases (show T = "int" from ty)
    exact ⟨typeIs_int s i t, fun _ e => nomatch e⟩
  | ref p =>
    cases r
    rcases ty with ⟨rfl, xs, hq⟩ | ⟨rfl, o, hk, hc, hd⟩ | ⟨rfl, hk⟩ | ⟨rfl, S, n, hk⟩
    · obtain ⟨its, _, pl, _⟩ := I.list hq
      refine ⟨pl.isList.typeIs, fun a e => ?_⟩
      cases e
      obtain ⟨o, n, e, c, hd, _⟩ := pl
      exact ⟨o, e, hd⟩
    · refine ⟨⟨o, I.kIn p o hk, hc⟩, fun a e => ?_⟩
      cases e
      exact ⟨o, I.kIn _ o hk, hd⟩
    · have z : ∃ o, s.heap.get? p = some o ∧ o.ExactDict := by
        rcases hk with ⟨kvs, hk⟩ | ⟨kvs, hk⟩
        · obtain ⟨_, _, _, _, o, _, _, e, ex, _⟩ := I.hok p _ hk
          exact ⟨o, e, ex⟩
        · obtain ⟨_, _, _, _, o, _, _, e, ex, _⟩ := I.hok p _ hk
          exact ⟨o, e, ex⟩
      obtain ⟨o, e, ex⟩ := z
      refine ⟨⟨o, e, ex.1⟩, fun a e2 => ?_⟩
      cases e2
      exact ⟨o, e, ex.2.1⟩
    · obtain ⟨o, _, _, _, e, ex, _⟩ := I.hok p _ hk
      refine ⟨⟨o, e, ex.1⟩, fun a e2 => ?_⟩
      cases e2
      exact ⟨o, e, ex.2.1⟩
  | _ => exact False.elim ty
noncomputable def tBM0 (K : PySem.W.Frag) (T : String) (r : V → List V → Hp → VK → Prop) (to : TE) : TE := fun σ H Q => to σ H fun x H1 => tyV K T x H1 ∧ r x [] H1 Q
noncomputable def tBM (K : PySem.W.Frag) (T : String) (r : V → List V → Hp → VK → Prop) (to : TE) (t : TA) : TE := fun σ H Q => to σ H fun x H1 => tyV K T x H1 ∧ t σ H1 fun xs H2 => r x xs H2 Q
variable {o e : Expr} {es : List Expr} {to : TE} {t : TA} {name : Str} {apos cpos : Pos} {T id : String} {r : V → List V → Hp → VK → Prop}
theorem pe_bm (pa : PlainAttrs T) (slot : Slot T name id) (hty : typeOf (.builtin id) = pure (.type "method_descriptor")) (hm : MtR X id r) (ho : PE X o to) (ha : PA X (e :: es) t)
    (hbase : attributeBase o name X.env (eval o X.env) = eval o X.env := by rfl)
    (hfew : ((backTo cpos (starEach (e :: es) X.env)).all (fun x => !x.1) && (backToKw cpos (keywordEach [] X.env)).all (fun x => x.1.isSome)
      && decide ((e :: es).length + ([] : List Keyword).length + (if ([] : List Keyword).isEmpty then 0 else 1) < 30)) = true := by rfl)
    (hline : (apos.endLine == cpos.line) = true := by rfl) (hs : starEach (e :: es) X.env = (false, eval e X.env) :: starEach es X.env := by rfl) (hplain : (backTo cpos (starEach es X.env)).any (·.1) = false := by rfl) :
    PE X (.Call (.Attribute o name apos) (e :: es) [] cpos) (tBM X.K T r to t) := by
  intro pins s σ H Q I h
  refine wpAny_Call_method_late hbase hfew hline rfl (thn (ho pins s σ H _ I h) fun v s1 ⟨x, H1, I1, r1, ty, q1⟩ => ?_)
  obtain ⟨h1, h2⟩ := tyV_is I1 r1 ty
  refine ⟨T, id, pa, slot, hty, h1, h2, ?_⟩
  have hA := ha cpos pins s1 σ H1 _ I1 q1
  rw [hs] at hA ⊢
  refine Calls.callWith_builtin (by show (false || (backTo cpos (starEach es X.env)).any (·.1)) = false; rw [hplain] <;> rfl) (Calls.evalArgs_plain ?_)
  exact thn hA fun us s2 ⟨vs, H2, I2, r2, q2⟩ => hm pins s2 σ H2 x vs v us Q I2 r1 r2 q2
/- xs.append(e), list.index on a module's tuple .. are MtR facts of 06m -/
end
end L2

namespace L2
open PySem PySem.Spec PyProof.Rows

noncomputable def MtM (X : Cx) (id : String) (r : V → List V → Hp → VK → Prop) : Prop :=
  ∀ (pins : List (Addr × Obj)) (s : Shared) (σ : St) (H : Hp) (x : V) (xs : List V) (v : Value) (us : List Value) (Q : VK), Inv X pins σ H s → RelV x v → Vals xs us → r x xs H Q →
    wpAny (model X.prog X.w) X.A (call (.builtin id) (v :: us)) (EP X pins σ Q) X.xe s

/-! ### lists of values -/
theorem Vals.one {x : V} {us : List Value} (h : Vals [x] us) : ∃ u, us = [u] ∧ RelV x u := by
  cases h with
  | cons r t => cases t; exact ⟨_, rfl, r⟩
theorem Vals.two {x y : V} {us : List Value} (h : Vals [x, y] us) : ∃ u v, us = [u, v] ∧ RelV x u ∧ RelV y v := by
  cases h with
  | cons r t => cases t with
    | cons q z => cases z; exact ⟨_, _, rfl, r, q⟩
theorem Vals.zero : ∀ {us : List Value}, Vals [] us → us = []
  | _, .nil => rfl
theorem Vals.rep {xs : List V} {us : List Value} (h : Vals xs us) : ∀ k : Nat, Vals (List.replicate k xs).flatten (List.replicate k us).flatten
  | 0 => .nil
  | k + 1 => by
    rw [List.replicate_succ, List.replicate_succ, List.flatten_cons, List.flatten_cons]
    exact Vals.append h (Vals.rep h k)
theorem foldl_rep (its : List Value) : ∀ (k : Nat) (acc : List Value),
    List.foldl (fun x1 x2 => x1 ++ x2) acc.toArray (List.replicate k its.toArray) = (acc ++ (List.replicate k its).flatten).toArray
  | 0, acc => by simp
  | k + 1, acc => by
    have e : acc.toArray ++ its.toArray = (acc ++ its).toArray := by simp
    have e2 : (acc ++ its) ++ (List.replicate k its).flatten = acc ++ (List.replicate (k + 1) its).flatten := by
      rw [List.replicate_succ, List.flatten_cons, List.append_assoc]
    rw [← e2, ← foldl_rep its k (acc ++ its), ← e, List.replicate_succ, List.foldl_cons]

section
variable {X : Cx} {pins : List (Addr × Obj)} {σ : St} {H : Hp} {s : Shared} {l b : Addr} {xs ys zs : List V}

/-! ### the two steps: a tracked list is rewritten, a new list is laid -/
theorem Inv.lset {its its' : List Value} {n : Nat} {f : Array Value → Array Value} {t' : Nat} (I : Inv X pins σ H s) (hH : H l = some (.lst xs))
    (e : s.heap.get? l = some { cls := .type "list", data := .seq its.toArray n }) (hf : f its.toArray = its'.toArray) (hv : Vals ys its') (hz : ys.length ≤ sizeLine) :
    Inv X pins σ (upd H l (.lst ys)) { s with heap := s.heap.update l (Obj.mapSeq f), toks := t' } := by
  have q := PySem.IsL.update e f
  rw [hf] at q
  refine I.write (x := l) (e := l) (by rw [hH]; exact trivial) (.inl rfl) (fun b' u hb hu => (Heap.get?_update_other s.heap (Obj.mapSeq f) (Ne.symm hb)).trans hu) ⟨_, q⟩ ?_
  exact ⟨hz, its', _, hv, q⟩
theorem Inv.lnew {its : List Value} {t' : Nat} (I : Inv X pins σ H s) (hv : Vals ys its) (hz : ys.length ≤ sizeLine) :
    Inv X pins σ (upd H s.heap.objs.size (.lst ys)) { s with heap := s.heap.push { cls := .type "list", data := .seq its.toArray }, toks := t' } :=
  I.laid (fun _ _ q => Heap.get?_push_of_some _ q) (Nat.le_refl _) ⟨hz, its, 0, hv, Heap.get?_push_size _ rfl⟩
theorem Inv.fresh (I : Inv X pins σ H s) : H s.heap.objs.size = none := I.hok.fresh (Nat.le_refl _)
theorem Inv.lstM (I : Inv X pins σ H s) (hH : H l = some (.lst xs)) : xs.length ≤ sizeLine ∧ ∃ (its : List Value) (n : Nat), Vals xs its ∧ xs.length = its.length ∧ s.heap.get? l = some { cls := .type "list", data := .seq its.toArray n } := by
  obtain ⟨z, its, n, r, e⟩ := I.hok l _ hH
  exact ⟨z, its, n, r, r.length, e⟩

theorem notLongL {n : Nat} (h : n ≤ sizeLine) : Builtin.List.listTooLong n = false := by
  unfold Builtin.List.listTooLong
  exact decide_eq_false (by omega)
end

section
variable {X : Cx}

/-! ### methods -/
noncomputable def rAppend : V → List V → Hp → VK → Prop := fun x vs H Q => ∃ l xs y, x = .ref l ∧ vs = [y] ∧ H l = some (.lst xs) ∧ xs.length < sizeLine ∧ Q .non (upd H l (.lst (xs ++ [y])))
theorem mt_append : MtM X "list.append" rAppend := by
  intro pins s σ H x vs v us Q I rx rv h
  obtain ⟨l, xs, y, rfl, rfl, hH, hz, q⟩ := h
  cases rx
  obtain ⟨u, rfl, ru⟩ := rv.one
  obtain ⟨z, its, n, r, hl, e⟩ := I.lstM hH
  refine call_meets F.slot_list_append ⟨_, e, rfl⟩ F.entry_list_append (F.args_list_append_2 _ _) (PySem.list_append l its.toArray n u (by rw [List.size_toArray]; omega)) ⟨e, ?_⟩
  refine ⟨.non, _, I.lset (its' := its ++ [u]) hH e (by simp) (r.append (.cons ru .nil)) ?_, rfl, q⟩
  rw [List.length_append, List.length_singleton]
  omega

/-! ### list + list, list += list, list * int -/
noncomputable def rCat : R2 := fun x y H Q => ∃ l b xs zs, x = .ref l ∧ y = .ref b ∧ H l = some (.lst xs) ∧ H b = some (.lst zs) ∧ xs.length + zs.length ≤ sizeLine ∧ ∀ p, H p = none → Q (.ref p) (upd H p (.lst (xs ++ zs)))
theorem op_cat : OpR X (binaryOp .Add) rCat := by
  intro pins s σ H x y v u Q I rx ry h
  obtain ⟨l, b, xs, zs, rfl, rfl, hH, hB, hz, q⟩ := h
  cases rx
  cases ry
  obtain ⟨z, its, n, r, hl, e⟩ := I.lstM hH
  obtain ⟨z2, its2, n2, r2, hl2, e2⟩ := I.lstM hB
  refine PySem.P.add_list e e2 ?_ (by rw [List.size_toArray, List.size_toArray]; omega)
  have ea : its.toArray ++ its2.toArray = (its ++ its2).toArray := by simp
  rw [ea]
  exact ⟨.ref _, _, I.lnew (t' := s.toks) (r.append r2) (by rw [List.length_append]; omega), rfl, q _ I.fresh⟩
noncomputable def rRep : R2 := fun x y H Q => ∃ l k xs, x = .ref l ∧ y = .int k ∧ H l = some (.lst xs) ∧ -(2 ^ 63) ≤ k ∧ k < 2 ^ 63 ∧ xs.length * k.toNat ≤ sizeLine ∧
  ∀ p, H p = none → Q (.ref p) (upd H p (.lst (List.replicate k.toNat xs).flatten))
theorem len_rep {α : Type} (xs : List α) (k : Nat) : (List.replicate k xs).flatten.length = k * xs.length := by
  induction k with
  | zero => simp
  | succ k ih => rw [List.replicate_succ, List.flatten_cons, List.length_append, ih, Nat.succ_mul, Nat.add_comm]
theorem op_rep : OpR X (binaryOp .Mult) rRep := by
  intro pins s σ H x y v u Q I rx ry h
  obtain ⟨l, k, xs, rfl, rfl, hH, h1, h2, hz, q⟩ := h
  cases rx
  obtain ⟨t, rfl⟩ := ry
  obtain ⟨z, its, n, r, hl, e⟩ := I.lstM hH
  have hlen : its.toArray.size * k.toNat ≤ sizeLine := by rw [List.size_toArray, ← hl]; exact hz
  have hcap : ¬ its.toArray.size * k.toNat > (2 ^ 63 - 1) / 8 := by
    have : (sizeLine : Nat) ≤ (2 ^ 63 - 1) / 8 := by decide
    omega
  have hfit : ¬ (!Builtin.List.listFitsIndex k) = true := by
    rw [fitsIndex_both h1 h2]
    exact Bool.false_ne_true
  have hlong : ¬ Builtin.List.listTooLong (its.toArray.size * k.toNat) = true := by
    rw [notLongL hlen]
    exact Bool.false_ne_true
  have hnew : List.foldl (fun x1 x2 => x1 ++ x2) #[] (List.replicate (if its.toArray.isEmpty = true then 0 else k.toNat) its.toArray) = (List.replicate k.toNat its).flatten.toArray := by
    have f0 : ∀ m : Nat, List.foldl (fun x1 x2 => x1 ++ x2) #[] (List.replicate m its.toArray) = (List.replicate m its).flatten.toArray := fun m => by
      have := foldl_rep its m []
      rw [List.nil_append] at this
      exact this
    rw [f0]
    cases its with
    | nil => simp
    | cons a r' => rw [if_neg (by simp)]
  refine wpAny_binaryOp_repeat_ref (T := "list") (U := "int") (by decide) ⟨_, e, rfl⟩ (fun s' => typeIs_int s' k t) noFill_list_mul F.fills_int_mul F.slot_int_rmul repeat_list F.slot_int_index.lookup
    (call_meets F.slot_int_rmul (typeIs_int s k t) F.entry_int_rmul (F.args_int_rmul_2 _ _) (int___rmul___int_list k t l its.toArray n)
      ⟨e, rfl, ⟨_, e, rfl⟩, call_meets F.slot_list_mul ⟨_, e, rfl⟩ F.entry_list_mul (F.args_list_mul_2 _ _) (AutoListH.list___mul___list_int_3 l its.toArray n k t hfit hcap hlong) ⟨e, ?_⟩⟩)
  rw [hnew]
  exact ⟨.ref _, _, I.lnew (t' := s.toks) (r.rep k.toNat) (by rw [len_rep, Nat.mul_comm]; exact hz), rfl, q _ I.fresh⟩

/-! ### del xs[i] -/
end

/-! ### xs[a:b] = ys -/
section
variable {prog : Program} {w : World} {A : Around} {E : Value → Shared → Prop} {s : Shared}
end

section
variable {X : Cx}
end
end L2

namespace Att
open PySem PySem.W PySem.Calls PyProof.Rows

/-! ### the script -/
theorem ints_of_wellAll {P : Params} {h : Heap} : ∀ (ns : List Int) (vs : List Value), WellAll P h vs (ns.map WData.int) → IntsAre vs ns := by
  intro ns
  induction ns with
  | nil =>
    intro vs w
    rw [List.map_nil] at w
    cases w
    exact .nil
  | cons n ns ih =>
    intro vs w
    rw [List.map_cons] at w
    cases w with
    | cons a b =>
      cases a
      exact .cons _ _ (ih _ b)

theorem script_of {l : OpenLaw} {n : Nat} (hn : l.most = some n) {P : Params} {h : Heap} {args : List WData} {vals : List Value}
    (hpre : l.row.toRowW.claim.pre args = true) (hwl : WellAll P h vals args) :
    ∃ a vs ns, vals = [Value.ref a] ∧ args = [WData.list (ns.map WData.int)] ∧ h.get? a = some { cls := .type "list", data := .seq vs.toArray } ∧ IntsAre vs ns ∧ ns.length ≤ n := by
  have hsh : WShape.hasAll [] args [.list .int] = true := (pre_splitW hpre).1
  have hc : l.pre.holds [] { args := args } = true := (pre_splitW hpre).2
  obtain ⟨d, r, rfl, h1, h2⟩ := hasAllW_cons hsh
  obtain rfl := hasAllW_nil h2
  obtain ⟨xs, rfl, h3⟩ := hasW_list h1
  obtain ⟨ns, rfl⟩ := items_int h3
  have hlen : ns.length ≤ n := by
    unfold OpenLaw.pre at hc
    have h4 : (WTm.not (.lt (.lit (.int (n : Int))) (.len (.arg 0)))).holds [] { args := [.list (ns.map .int)] } = true := by
      have h4 := (holds_andW hc).1
      rw [hn] at h4
      exact h4
    have h5 := condW_of h4 (w_not (w_lt w_lit (w_len_list (w_arg rfl))))
    rw [List.length_map] at h5
    refine Nat.le_of_not_lt fun q => ?_
    have q' : (n : Int) < ((ns.length : Nat) : Int) := by omega
    first
      | (rw [decide_eq_true q'] at h5; exact absurd h5 (by decide))
      | (simp at h5; omega)
  cases hwl with
  | cons w1 w2 =>
    cases w2
    cases w1 with
    | list ho hall => exact ⟨_, _, ns, rfl, rfl, ho, ints_of_wellAll ns _ hall, hlen⟩

theorem post_true (l : OpenLaw) (args : List WData) : l.row.toRowW.claim.post args (.bool true) args = true :=
  postW_of (r := l.row.toRowW) (X := (true == true))
    (show WShape.has [] (.bool true) .bool = true by first | rfl | decide | simp [WShape.has, WShape.arms, WShape.armsAll])
    (show (WTm.eq .res (.lit (.bool true))).value [] { args := args, res := some (.bool true), after := args } = some (.bool (true == true)) from w_eq_bool (w_res rfl) w_lit) rfl

/-! ### the attachment: holds_open's last premise (the goal 'hc' behind k_head) from a wpAny of the law's body -/
theorem attach_call {l : OpenLaw} {n : Nat} {q : Program} {loose : List Str} {XP : (Str → Option Value) → Heap → Prop} {YP : World → Heap → Prop} {d : DefRec}
    (hn : l.most = some n) (hdf : d.params.defaults = [])
    (call : ∀ (w : World) (s₀ s₁ : Shared) (mg mb : Str → Option Value) (fa : Addr) (o : Obj) (pm cd doc : Value) (a : Addr) (vs : List Value) (ns : List Int),
      Ground q loose [] XP w s₀ mg mb s₁.heap → YP w s₁.heap →
      s₁.heap.get? fa = some o → o.data = .func (docDef d.name d.params d.body d.scope pm cd doc) → s₁.heap.CodeRec cd d.name → mg d.name = some (.ref fa) →
      s₁.heap.get? a = some { cls := .type "list", data := .seq vs.toArray } → IntsAre vs ns → ns.length ≤ n → s₁.gens = #[] →
      codeAny (model l.prog w) callerA (.call (.ref fa) ⟨[.ref a], []⟩) (fun r s' => r = .ok (.ret (.bool true)) ∧ OldK s₁.heap s'.heap ∧ s'.os = s₁.os ∧ AllBare s'.gens) s₁) :
    WalkO q loose XP YP l.row.toRowW d [] (fun f vs => PySem.call f vs) := by
  intro w s₀ s₁ mg mb G Y fa o pm cd doc dV kV ho hd hcd hD hmg hg args vals as hpre hlay hrd hwl hlo
  obtain rfl : dV = .none := Dflts.none hD hdf
  obtain rfl : kV = .none := Dflts.noKw hD
  obtain ⟨a, vs, ns, rfl, rfl, hobj, hints, hlen⟩ := script_of hn hpre hwl
  refine enter_call (codeAny_mono (call w s₀ s₁ mg mb fa o pm cd doc a vs ns G Y ho (fd_plain hd) hcd hmg hobj hints hlen hg) fun r s' hq => ?_)
  obtain ⟨rfl, h2, h3, h4⟩ := hq
  exact ⟨.inl ⟨.bool true, .bool true, [], rfl, fun _ => rfl, .bool true, post_true l _, fun _ => ⟨List.Pairwise.nil, fun _ hm => (nomatch hm)⟩⟩, h2, h3, h4⟩

/-! ### rules over ANY heap (no ledger) from facts about the written part K: the library's own take a ledger (News) for what they write -/
section
variable {prog : Program} {w : World} {A : Around} {E : Value → Shared → Prop} {s : Shared} {K : Frag}

/-! the whole heap as the ledger: makes every rule that writes through a ledger a rule over any heap -/
noncomputable def ledger (h : Heap) (L d : Addr) : List (Addr × Obj) := (List.range h.objs.size).filterMap fun a => if a = L ∨ a = d then none else (h.get? a).map fun o => (a, o)
end
end Att

namespace L2
open PySem PySem.Spec PyProof.Rows

theorem vals_ints : ∀ {vs : List Value} {ns : List Int}, IntsAre vs ns → Vals (ns.map V.int) vs
  | _, _, .nil => .nil
  | _, _, .cons n t h => .cons ⟨t, rfl⟩ (vals_ints h)

noncomputable def Only (H : Hp) : Prop := ∀ b, H b = none ∨ ∃ o xs, H b = some (.frz o (.lst xs))

theorem law_call {P : Program} {w : World} {K : PySem.W.Frag} {mg mb : Str → Option Value} {CX : CXT} {k : Nat} {fa a : Addr} {fd : FuncData} {x : Str} {sp : Sp} {s₁ : Shared} {vs : List Value} {ns : List Int}
    (KX : K.In s₁.heap) (hns : s₁.heap.Ns mainGlobals mg) (hb : s₁.heap.Ns builtinsNs mb) (hbb : ∀ x : Str, x ≠ "__name__" → mb x = bootBuiltins x) (hlim : s₁.heap.NoLimit) (hg : s₁.gens = #[])
    (ha : s₁.heap.get? a = some { cls := .type "list", data := .seq vs.toArray }) (hi : IntsAre vs ns) (hl : ns.length ≤ sizeLine) (hr : Room k callerA)
    (F : ∀ base : Heap, K.In base → base.Ns mainGlobals mg → FnOk P w K mg base CX k fa fd [x] sp) (hbind : ∀ (s : Shared) (u : Value), BindsTo s fd ⟨[u], []⟩ [(x, u)])
    (hsp : ∀ H : Hp, Only H → SqL K H a (ns.map V.int) → sp [.ref a] H (fun v _ => v = .bl true) fun _ _ _ => False)
    (hCX : ∀ H e s', CX [] H s₁ (fun _ _ _ => False) e s' → False) :
    codeAny (model P w) callerA (.call (.ref fa) ⟨[.ref a], []⟩) (fun r s' => r = .ok (.ret (.bool true)) ∧ OldK s₁.heap s'.heap ∧ s'.os = s₁.os ∧ AllBare s'.gens) s₁ := by
  have rv := vals_ints hi
  have lenV := hi.length
  -- from an abstract heap in which nothing but the script may be tracked
  have core : ∀ H : Hp, Only H → SqL K H a (ns.map V.int) → HOk P w H s₁.heap → (∀ b, H b ≠ none → b = a) → (H a ≠ none → K.lookup a = none) →
      codeAny (model P w) callerA (.call (.ref fa) ⟨[.ref a], []⟩) (fun r s' => r = .ok (.ret (.bool true)) ∧ OldK s₁.heap s'.heap ∧ s'.os = s₁.os ∧ AllBare s'.gens) s₁ := by
    intro H hO hS hok hA hK
    have base_of : ∀ {b : Addr} {o : Obj}, s₁.heap.get? b = some o → H b = none → (hidT s₁.heap H).get? b = some o := fun e n => hidT_get e n
    have noA : ∀ {b : Addr} {o : Obj} {es : Array DictEntry} {ep : Nat}, s₁.heap.get? b = some o → o.data = .dict es ep → H b = none := fun {b o es ep} e d => by
      cases q : H b with
      | none => rfl
      | some u =>
        have e' : b = a := hA b (by rw [q]; simp)
        subst e'
        rw [ha] at e; cases e
        have d' : Data.seq vs.toArray _ = Data.dict es ep := d
        cases d'
    have nsK : ∀ {b : Addr} {m : Str → Option Value}, s₁.heap.Ns b m → (hidT s₁.heap H).Ns b m := fun {b m} ⟨o, es, ep, e, d, r⟩ => ⟨o, es, ep, base_of e (noA e d), d, r⟩
    have hKb : K.In (hidT s₁.heap H) := fun b o e => base_of (KX b o e) (by
      cases q : H b with
      | none => rfl
      | some u =>
        have e' : b = a := hA b (by rw [q]; simp)
        subst e'
        rw [hK (by rw [q]; simp)] at e; cases e)
    have hM : Mod K mg (hidT s₁.heap H) := ⟨hKb, nsK hns, ⟨mb, nsK hb, hbb⟩, let ⟨mc, h1, h2⟩ := hlim; ⟨mc, nsK h1, h2⟩⟩
    have e0 : Env0 P w K mg (hidT s₁.heap H) callerA [] s₁ H := ⟨rfl, hM, fun b o e => of_hidT e, Nat.le_of_eq (hidT_size _ _), trivial, fun b hb => absurd (show b ∈ ([] : List Addr) from hb) (by simp), hok, .of_eq hg⟩
    refine codeAny_mono ((F _ hKb (nsK hns)).run callerA [] s₁ H ⟨[.ref a], []⟩ [.ref a] [.ref a] _ _ hr e0 (hbind s₁ (.ref a)) (.cons rfl .nil) (hsp H hO hS)) fun r s' h => ?_
    cases r with
    | error e => exact (hCX H e s' h).elim
    | ok fl =>
      cases fl with
      | next => exact False.elim h
      | brk => exact False.elim h
      | cont => exact False.elim h
      | ret u =>
        obtain ⟨v, H', os, bare, un, hok', r', q⟩ := h
        have q' : v = .bl true := q
        subst q'
        obtain rfl : u = Value.bool true := r'
        refine ⟨rfl, OldK.of_keep fun b o e => ?_, os, bare⟩
        cases q : H b with
        | none => exact un.keep b o e q (by intro z; exact absurd (show b ∈ ([] : List Addr) from z) (by simp)) (by simp)
        | some u =>
          rcases hO b with z | ⟨ob, xs, z⟩
          · rw [q] at z; cases z
          · have z2 := un.frzs b ob _ z
            obtain ⟨e1, _⟩ := hok b _ z
            obtain ⟨e2, _⟩ := hok' b _ z2
            rw [e] at e1; cases e1
            exact e2
  cases hk : K.lookup a with
  | some o =>
    -- the script is one of the module's own objects
    have e := KX a o hk
    rw [ha] at e
    cases e
    refine core (fun _ => none) (fun _ => .inl rfl) (.inr ⟨_, vs.toArray, _, hk, rfl, rfl, rfl, by rw [List.size_toArray, lenV]; exact hl, by simpa using rv⟩) (fun b u z => by have z' : (none : Option HO) = some u := z; cases z') (fun b z => absurd rfl z) fun z => absurd rfl z
  | none =>
    refine core (fun b => if b = a then some (.frz { cls := .type "list", data := .seq vs.toArray } (.lst (ns.map V.int))) else none) (fun b => ?_) (.inl (.inr ⟨{ cls := .type "list", data := .seq vs.toArray }, if_pos rfl⟩)) (fun b u z => ?_) (fun b z => ?_) fun _ => hk
    · by_cases hb : b = a
      · exact .inr ⟨_, _, if_pos hb⟩
      · exact .inl (if_neg hb)
    · by_cases hb : b = a
      · have z' := (if_pos hb).symm.trans z
        cases z'
        subst hb
        exact ⟨ha, by rw [List.length_map]; exact hl, vs, _, rv, ha⟩
      · have z' := (if_neg hb).symm.trans z
        cases z'
    · by_cases hb : b = a
      · exact hb
      · exact absurd (if_neg hb) z
end L2

namespace L2
open PySem PySem.Spec PyProof.Rows

noncomputable abbrev KOf {K : PySem.W.Frag} {h : Heap} (_ : K.In h) : PySem.W.Frag := K

theorem walk_of {l : PySem.W.OpenLaw} {n k : Nat} {q : Program} {loose : List Str} {XP : (Str → Option Value) → Heap → Prop} {YP : World → Heap → Prop} {d : DefRec} {K : Params → PySem.W.Frag} {CX : World → CXT} {sp : World → Sp} {x : Str}
    (hn : l.most = some n) (hn2 : n ≤ sizeLine) (hdf : d.params.defaults = []) (hr : Room k callerA)
    (hY : ∀ (w : World) (h : Heap), YP w h → (K w.params).In h)
    (F : ∀ (w : World) (mg : Str → Option Value) (fa : Addr) (h : Heap), (K w.params).In h → h.Ns mainGlobals mg → mg d.name = some (.ref fa) →
      ∃ fd : FuncData, (∀ (s : Shared) (u : Value), BindsTo s fd ⟨[u], []⟩ [(x, u)]) ∧
        ∀ base : Heap, (K w.params).In base → base.Ns mainGlobals mg → FnOk l.prog w (K w.params) mg base (CX w) k fa fd [x] (sp w))
    (hsp : ∀ (w : World) (H : Hp) (a : Addr) (ns : List Int), ns.length ≤ n → Only H → SqL (K w.params) H a (ns.map V.int) → sp w [.ref a] H (fun v _ => v = .bl true) fun _ _ _ => False)
    (hCX : ∀ (w : World) (H : Hp) (s : Shared) (e : Value) (s' : Shared), CX w [] H s (fun _ _ _ => False) e s' → False) :
    PySem.W.WalkO q loose XP YP l.row.toRowW d [] (fun f vs => PySem.call f vs) := by
  refine Att.attach_call hn hdf fun w s₀ s₁ mg mb fa o pm cd doc a vs ns G Y ho hd hcd hmg hobj hints hlen hg => ?_
  have KX := hY w _ Y
  obtain ⟨fd, hb, hF⟩ := F w mg fa _ KX G.T.g hmg
  exact law_call KX G.T.g G.T.b G.T.builtins G.T.nolimit hg hobj hints (Nat.le_trans hlen hn2) hr hF hb (fun H hO hS => hsp w H a ns hlen hO hS) fun H e s' => hCX w H s₁ e s'
end L2

/- THE LAST THEOREM (shape; LID, My.* are yours):
   My.Adr: a structure of the addresses that your layer names (classes, functions); My.Txt K t: a structure (Prop) of the equations over K;
   My.txt_mk : {K} {implicit addresses ..} (e1 : nsIn K mainGlobals "law" = some (some (.ref f))) (e2 : K.lookup f = some ⟨oc, od, .func (fnOf "law" "law" params body scope dV kV doc pm an cdv ct), sl⟩) (e3 : codeIn K cdv "law" = true) .. : ∃ t, My.Txt K t

set_option maxRecDepth 100000 in
set_option maxHeartbeats 0 in
theorem PySem.Challenge.cw_LID_holds : PySem.Challenge.rw_LID.Holds := by
  w_on; o_law; k_head; (case hw => w_witness2)
  k_fill
  refine L2.walk_of (l := PySem.Challenge.rw_LID) (n := 63) (k := 40) (x := "script") (CX := fun w => ..) (sp := fun _ => My.sp_law) rfl (by decide) rfl ⟨rfl, by decide, by decide⟩ (fun w h Y => PySem.W.kIn_of Y) ?F ?S ?C
  case F =>
    intro w mg fa h KX G hmg
    have T : ∃ t, My.Txt (L2.KOf KX) t := by
      dsimp only [L2.KOf]                          -- K must stand as «<heap const> w.params» for k_is
      refine' My.txt_mk ?e1 ?e2 ?e3 ..
      (case e1 => PySem.W.k_is)                    -- in the order: a name -> its address -> its object -> its parts
      (case e2 => PySem.W.k_is)
      ..
    obtain ⟨t, T⟩ := T
    have e0 := hmg.symm.trans (PySem.W.mg_of KX G T.law)
    cases e0                                       -- fa is the law's own address
    exact ⟨_, fun s u => .of_eq rfl, fun base kb nb => My.law_fn T kb nb⟩     -- if «.of_eq rfl» comes too early: refine' ⟨_, ?b, fun base kb nb => My.law_fn T kb nb⟩; exact fun s u => .of_eq rfl
  case S => exact fun w H a ns hl hO hS => ..
  case C => exact ..
(the tactic k_is has no namespace: write k_is) -/

/-! SHORT WORDS over the layer: a def of the text, its body, what a loop and a test want. -/
namespace L2
open PySem PySem.Spec PyProof.Rows

/-! ### the text by places -/
noncomputable def defArgs (s : Stmt) : Arguments := match s with
  | .FunctionDef _ a _ _ _ _ _ _ _ _ => a
  | _ => { posonlyargs := [], args := [], vararg := none, kwonlyargs := [], kw_defaults := [], kwarg := none, defaults := [] }
noncomputable def defBody (s : Stmt) : List Stmt := match s with
  | .FunctionDef _ _ b _ _ _ _ _ _ _ => b
  | _ => []
noncomputable def defScope (s : Stmt) : Scope := match s with
  | .FunctionDef _ _ _ _ _ _ sc _ _ _ => sc
  | _ => { kind := .function, names := [], isGenerator := false, isCoroutine := false }

/-! ### no exception leaves a def -/
noncomputable abbrev CX0 : CXT := fun _ _ _ _ _ _ => False
noncomputable abbrev E0 : XK := fun _ _ _ => False
theorem pass0 {X : Cx} : Passes CX0 X E0 := fun _ _ _ _ _ _ _ h => h.elim

/-! ### a def (or method) of the text as it stands behind the top -/
structure Fun (K : PySem.W.Frag) (x qual : Str) (st : Stmt) (f : Addr) (fd : FuncData) : Prop where
  ex : ∃ (oc : Value) (od : Option Addr) (kV doc pm : Value) (an : Option Addr) (cdv ct : Value) (osl : Array (Option Value)),
    fd = PySem.W.fnOf x qual (defArgs st) (defBody st) (defScope st) .none kV doc pm an cdv ct ∧ K.lookup f = some ⟨oc, od, .func fd, osl⟩ ∧ PySem.W.codeIn K cdv qual = true
  kp : PySem.W.keepIn K (.ref f) = true
section
variable {P : Program} {w : World} {K : PySem.W.Frag} {mg : Str → Option Value} {base : Heap}
theorem Fun.ok {x qual : Str} {st : Stmt} {f : Addr} {fd : FuncData} {N ps : List Str} {k : Nat} {sp : Sp} (F : Fun K x qual st f fd) (S : FnScope N ps (defScope st)) (len : ∀ vs H Q E, sp vs H Q E → vs.length = ps.length)
    (hbody : ∀ (cdv : Value) (A : Around) (outer : List Env) (s : Shared) (H : Hp) (vs : List V) (Q : VK) (E : XK), Room k (A.deeper (envOfC qual (defScope st) s.heap.objs.size f cdv)) → sp vs H Q E →
      ∃ t, PSs (cxOf CX0 P w K mg base N qual (defScope st) f cdv A outer s H E).nox (defBody st) t ∧ t { nx := fun _ H' => Q .non H', rt := Q } (start N vs) H) : FnOk P w K mg base CX0 (k + 1) f fd ps sp := by
  obtain ⟨oc, od, kV, doc, pm, an, cdv, ct, osl, rfl, lk, hcd⟩ := F.ex
  refine fn_of lk hcd S len fun A outer s H vs Q E hr hsp => ?_
  obtain ⟨t, h, q⟩ := hbody cdv A outer s H vs Q E hr hsp
  exact ⟨t, h.nox, q⟩
theorem Fun.binds {x qual : Str} {st : Stmt} {f : Addr} {fd : FuncData} {ps : List Str} (F : Fun K x qual st f fd)
    (h : ∀ (kV doc pm : Value) (an : Option Addr) (cdv ct : Value) (us : List Value), us.length = ps.length → bindArgs (PySem.W.fnOf x qual (defArgs st) (defBody st) (defScope st) .none kV doc pm an cdv ct) ⟨us, []⟩ = pure (ps.zip us)) : Binds K fd ps [] := by
  obtain ⟨oc, od, kV, doc, pm, an, cdv, ct, osl, rfl, lk, hcd⟩ := F.ex
  exact .all (h kV doc pm an cdv ct)
theorem fun_mk {x qual : Str} {st : Stmt} {f : Addr} {oc : Value} {od an : Option Addr} {osl : Array (Option Value)} {kV doc pm cdv ct : Value} (l : K.lookup f = some ⟨oc, od, .func (PySem.W.fnOf x qual (defArgs st) (defBody st) (defScope st) .none kV doc pm an cdv ct), osl⟩)
    (c : PySem.W.codeIn K cdv qual = true) (k : PySem.W.keepIn K (.ref f) = true) : Fun K x qual st f (PySem.W.fnOf x qual (defArgs st) (defBody st) (defScope st) .none kV doc pm an cdv ct) := ⟨⟨oc, od, kV, doc, pm, an, cdv, ct, osl, rfl, l, c⟩, k⟩
end
theorem small1000 {n : Nat} (h : n ≤ 1000) : n < sizeLine := Nat.lt_of_le_of_lt h (by decide)

/-! ### expressions in short: the name that stands in the i-th slot -/
section
variable {X : Cx}
theorem pv (i : Nat) {x : Str} {pos : Pos} (hN : X.N[i]? = some x := by rfl) (hv : Vis X.env.scope x := by first | exact Or.inl rfl | exact Or.inr (Or.inl rfl) | exact Or.inr (Or.inr rfl)) (hd : (x == ("__debug__" : Str)) = false := by decide)
    (hcd : (x == ("__classdict__" : Str)) = false := by decide) : PE X (.Name x pos) (tVar i) := pe_var hN hv hd hcd
end

/-! ### tests -/
theorem iteF {A B : Prop} (h : B) : if false = true then A else B := by
  rw [if_neg Bool.false_ne_true]
  exact h
theorem iteT {A B : Prop} (h : A) : if true = true then A else B := by
  rw [if_pos rfl]
  exact h
/-! ### heaps -/
noncomputable def Same (H H' : Hp) : Prop := ∀ b o, H b = some o → H' b = some o
theorem Same.refl (H : Hp) : Same H H := fun _ _ h => h
theorem Same.trans {H H1 H2 : Hp} (a : Same H H1) (b : Same H1 H2) : Same H H2 := fun c o h => b c o (a c o h)
theorem Same.free {H H' : Hp} (e : Same H H') {l : Addr} (h : H' l = Option.none) : H l = Option.none := by
  cases q : H l with
  | none => rfl
  | some o =>
    rw [e l o q] at h
    cases h
theorem Same.seq {K : PySem.W.Frag} {H H' : Hp} {a : Addr} {xs : List V} (e : Same H H') (h : SqL K H a xs) : SqL K H' a xs := by
  rcases h with (h | ⟨o, h⟩) | h
  · exact .inl (.inl (e _ _ h))
  · exact .inl (.inr ⟨o, e _ _ h⟩)
  · exact .inr h

end L2

end

section
-- KcComp
set_option Elab.async false
set_option linter.all false
set_option maxRecDepth 100000
set_option maxHeartbeats 4000000
namespace L2
open PySem PySem.Spec PyProof.Rows

/-! ### addresses -/
theorem ltNe {a b : Addr} {n : Nat} (h : a < n) (h' : n ≤ b) : a ≠ b := Nat.ne_of_lt (Nat.lt_of_lt_of_le h h')
theorem neLt {a b : Addr} {n : Nat} (h : n ≤ a) (h' : b < n) : a ≠ b := Nat.ne_of_gt (Nat.lt_of_lt_of_le h' h)
/-! ### a list comprehension's block: its own context over the enclosing one -/
noncomputable def clOf (env : Env) : List (Str × NameKind) → List (Str × Addr) → List (Str × Addr)
  | [], acc => acc
  | (n, k) :: r, acc => if k = .free then (match env.cells.lookup n with | some c => clOf env r ((n, c) :: acc) | none => clOf env r acc) else clOf env r acc
theorem clOf_sound {env : Env} : ∀ (ns : List (Str × NameKind)) (acc : List (Str × Addr)), (∀ p ∈ acc, env.cells.lookup p.1 = some p.2) → ∀ p ∈ clOf env ns acc, env.cells.lookup p.1 = some p.2
  | [], acc, h => by intro p hp; exact h p hp
  | (n, k) :: r, acc, h => by
    intro p hp
    rw [clOf] at hp
    split at hp
    · split at hp
      · rename_i c hc
        refine clOf_sound r _ (fun q hq => ?_) p hp
        rcases List.mem_cons.mp hq with rfl | hq
        · exact hc
        · exact h q hq
      · exact clOf_sound r acc h p hp
    · exact clOf_sound r acc h p hp
theorem clOf_acc {env : Env} : ∀ (ns : List (Str × NameKind)) (acc : List (Str × Addr)), ∀ p ∈ acc, p ∈ clOf env ns acc
  | [], acc => fun p hp => hp
  | (n, k) :: r, acc => fun p hp => by
    rw [clOf]
    split
    · split
      · exact clOf_acc r _ p (List.mem_cons_of_mem _ hp)
      · exact clOf_acc r acc p hp
    · exact clOf_acc r acc p hp
theorem clOf_has {env : Env} : ∀ (ns : List (Str × NameKind)) (acc : List (Str × Addr)) (x : Str) (c : Addr), (x, NameKind.free) ∈ ns → env.cells.lookup x = some c → (x, c) ∈ clOf env ns acc
  | [], acc, x, c => fun h _ => (nomatch h)
  | (n, k) :: r, acc, x, c => fun h hc => by
    rw [clOf]
    rcases List.mem_cons.mp h with e | h
    · cases e
      rw [if_pos rfl, hc]
      exact clOf_acc r _ _ List.mem_cons_self
    · split
      · split
        · exact clOf_has r _ x c h hc
        · exact clOf_has r acc x c h hc
      · exact clOf_has r acc x c h hc
theorem lookup_of_mem {α : Type} {x : Str} {c : α} : ∀ {l : List (Str × α)}, (x, c) ∈ l → ∃ d, l.lookup x = some d
  | (y, d) :: r, h => by
    rw [List.lookup_cons]
    cases e : x == y with
    | true => exact ⟨d, rfl⟩
    | false =>
      rcases List.mem_cons.mp h with q | q
      · cases q
        rw [beq_self_eq_true] at e
        cases e
      · exact lookup_of_mem q
theorem clOf_lookup {env : Env} {ns : List (Str × NameKind)} {x : Str} {c : Addr} (h : (clOf env ns []).lookup x = some c) : env.cells.lookup x = some c :=
  clOf_sound ns [] (fun _ hp => (nomatch hp)) (x, c) (PySem.mem_of_lookup h)
theorem clOf_some {env : Env} {ns : List (Str × NameKind)} {x : Str} {c : Addr} (hm : (x, NameKind.free) ∈ ns) (hc : env.cells.lookup x = some c) : (clOf env ns []).lookup x = some c := by
  obtain ⟨d, hd⟩ := lookup_of_mem (clOf_has ns [] x c hm hc)
  have e := clOf_lookup hd
  rw [hc] at e
  cases e
  exact hd
theorem closure_of {scope : Scope} {env : Env} (h : ∀ y ∈ scope.names, y.2 = .free → ∃ c, env.cells.lookup y.1 = some c) : closureFor scope env = pure (clOf env scope.names []) := by
  have go : ∀ (ns : List (Str × NameKind)) (acc : List (Str × Addr)), (∀ y ∈ ns, y.2 = .free → ∃ c, env.cells.lookup y.1 = some c) →
      (forIn ns acc fun (x : Str × NameKind) (cs : List (Str × Addr)) => (match x with
        | (name, kind) => if (kind == NameKind.free) = true then (do let c ← cellOf env name; pure (ForInStep.yield ((name, c) :: cs))) else pure (ForInStep.yield cs) : Sem (ForInStep (List (Str × Addr))))) = (pure (clOf env ns acc) : Sem (List (Str × Addr))) := by
    intro ns
    induction ns with
    | nil => intro acc _; rfl
    | cons y r ih =>
      intro acc hy
      obtain ⟨n, k⟩ := y
      have ih' := fun acc => ih acc fun z hz => hy z (List.mem_cons_of_mem _ hz)
      rw [List.forIn_cons, clOf]
      by_cases hk : k = .free
      · subst hk
        obtain ⟨c, hc⟩ := hy (n, .free) List.mem_cons_self rfl
        have hc' : env.cells.lookup n = some c := hc
        simp only [beq_self_eq_true, if_true, cellOf, hc', pure_bind]
        exact ih' _
      · have hb : (k == NameKind.free) = false := by simpa using hk
        simp only [hb, Bool.false_eq_true, if_false, pure_bind, if_neg hk]
        exact ih' _
  unfold closureFor
  have g := go scope.names [] h
  simp only [bind_pure]
  exact g

structure CompScope (sc scope : Scope) (NX N : List Str) (ix : List (Option Nat)) : Prop where
  kind : scope.kind = .function
  nocell : ∀ y ∈ scope.names, y.2 ≠ .cell
  names : ∀ y ∈ scope.names, y.2 = .local → scope.names.lookup y.1 = some .local
  free : ∀ y ∈ scope.names, y.2 = .free → sc.names.lookup y.1 = some .cell ∨ sc.names.lookup y.1 = some .free
  nd : N.Nodup
  len : ix.length = N.length
  at_ : ∀ p ∈ N.zip ix, ∀ i ∈ p.2, NX[i]? = some p.1 ∧ scope.names.lookup p.1 = some .free
noncomputable def sub (ix : List (Option Nat)) (σ : St) : St := ix.map fun o => match o with | some i => (match σ[i]? with | some v => v | none => none) | none => none

noncomputable def cxComp (X : Cx) (N : List Str) (scope : Scope) (C : Addr) (s : Shared) (H : Hp) (fp : List Addr) : Cx where
  prog := X.prog
  w := X.w
  K := X.K
  mg := X.mg
  base := X.base
  A := X.A
  N := N
  s₀ := s
  H₀ := H
  env := compEnvC scope (clOf X.env scope.names []) C X.env
  outer := X.stack
  stack := X.stack
  ex := fp
  fn := fun _ => false
  calm := X.calm
  pn := []
  xe := fun _ _ => False

theorem relabel_look {scope : Scope} {env : Env} {x : Str} {k : NameKind} (h : (relabel scope env).names.lookup x = some k) : scope.names.lookup x = some k ∨ (k = .cell ∧ scope.names.lookup x = some .free) := by
  have go : ∀ ns : List (Str × NameKind), (ns.map fun (n, k) => if (k == NameKind.free && env.scope.kind == .function && env.kindOf n == some .cell) then (n, NameKind.cell) else (n, k)).lookup x = some k →
      ns.lookup x = some k ∨ (k = .cell ∧ ns.lookup x = some .free) := by
    intro ns
    induction ns with
    | nil => intro q; simp at q
    | cons y r ih =>
      obtain ⟨n, k'⟩ := y
      intro q
      rw [List.map_cons] at q
      by_cases hc : (k' == NameKind.free && env.scope.kind == .function && env.kindOf n == some .cell) = true
      · simp only [hc, if_true] at q
        have hk' : k' = .free := by
          have := (Bool.and_eq_true _ _ ▸ hc)
          have h1 := (Bool.and_eq_true _ _ ▸ this.1)
          exact eq_of_beq h1.1
        subst hk'
        rw [List.lookup_cons] at q ⊢
        cases e : x == n with
        | true =>
          rw [e] at q
          cases q
          exact .inr ⟨rfl, rfl⟩
        | false =>
          rw [e] at q
          exact ih q
      · simp only [hc] at q
        rw [if_neg (by simp)] at q
        rw [List.lookup_cons] at q ⊢
        cases e : x == n with
        | true => rw [e] at q; exact .inl q
        | false => rw [e] at q; exact ih q
  exact go scope.names h
theorem relabel_free {scope : Scope} {env : Env} {x : Str} (h : scope.names.lookup x = some .free) : (relabel scope env).names.lookup x = some .cell ∨ (relabel scope env).names.lookup x = some .free := by
  have go : ∀ ns : List (Str × NameKind), ns.lookup x = some .free →
      (ns.map fun (n, k) => if (k == NameKind.free && env.scope.kind == .function && env.kindOf n == some .cell) then (n, NameKind.cell) else (n, k)).lookup x = some .cell ∨
      (ns.map fun (n, k) => if (k == NameKind.free && env.scope.kind == .function && env.kindOf n == some .cell) then (n, NameKind.cell) else (n, k)).lookup x = some .free := by
    intro ns
    induction ns with
    | nil => intro q; simp at q
    | cons y r ih =>
      obtain ⟨n, k'⟩ := y
      intro q
      rw [List.map_cons]
      rw [List.lookup_cons] at q
      cases e : x == n with
      | true =>
        rw [e] at q
        cases q
        by_cases hc : (NameKind.free == NameKind.free && env.scope.kind == .function && env.kindOf n == some .cell) = true
        · simp only [hc, if_true]
          rw [List.lookup_cons, e]
          exact .inl rfl
        · simp only [hc]
          rw [if_neg (by simp), List.lookup_cons, e]
          exact .inr rfl
      | false =>
        rw [e] at q
        have z := ih q
        by_cases hc : (k' == NameKind.free && env.scope.kind == .function && env.kindOf n == some .cell) = true
        · simp only [hc, if_true]
          rw [List.lookup_cons, e]
          exact z
        · simp only [hc]
          rw [if_neg (by simp), List.lookup_cons, e]
          exact z
  exact go scope.names h

theorem Inv.gone {X : Cx} {pins : List (Addr × Obj)} {σ σ₂ : St} {H H₂ : Hp} {s s₂ : Shared} {C : Addr} {h'' : Heap} (I : Inv X pins σ H s) (I2 : Inv X pins σ₂ H₂ s₂) (hC : s₂.heap.objs.size ≤ C) (hn : H C = none) (hs : Heap.SameBut C s.heap h'') : Inv X pins σ H { s with heap := h'' } :=
  I.turned (t' := s.toks) (it := C) (fun b o hb e => hs.extBut b o hb e) hn (Nat.ne_of_gt (Nat.lt_of_lt_of_le I2.lt hC)) (.inr (Nat.le_trans I2.sz hC))
    (fun x c e => by
      obtain ⟨v, o, ho, _⟩ := I2.cell x c e
      exact ltNe (Heap.lt_size ho) hC) fun q hq => ltNe (Heap.lt_size (I2.pin q hq).1) hC
/-! ### the tests of a clause -/
noncomputable def PTL (X : Cx) (ifs : List Expr) (t : TT) : Prop :=
  ∀ (pins : List (Addr × Obj)) (s : Shared) (σ : St) (H : Hp) (Q : Bool → Hp → Prop), Inv X pins σ H s → t σ H Q →
    wpAny (model X.prog X.w) X.A (forIn ifs true fun c r => if r = true then do let ok ← isTrue c X.env (eval c X.env); pure (ForInStep.yield ok) else pure (ForInStep.yield r)) (TP X pins σ Q) X.xe s
noncomputable def tAlways : TT := fun _ H Q => Q true H
theorem ptl_nil {X : Cx} : PTL X [] tAlways := fun _ _ _ H _ I h => wpAny_tests_nil ⟨H, I, h⟩
/-! ### the rule -/
noncomputable def CompBody (J : It) (g : TG) (tt : TT) (te : TE) (σ₀ : St) (p : Addr) (Q : VK) (W : Nat → Nat → List V → Hp → Prop) : Prop :=
  ∀ i m acc H, W i m acc H → H p = some (.lst acc) ∧
    ((J.stop i H ∧ Q (.ref p) H) ∨ (J.go i H ∧ acc.length < sizeLine ∧ ∃ N : List V → Hp → Prop, (∀ acc' H', N acc' H' → ∃ m', m' < m ∧ W (i + 1) m' acc' H') ∧
      ∀ x H1, J.yld i H x H1 → g x σ₀ H1 fun σ2 H2 => tt σ2 H2 fun b H3 => if b = true then te σ2 H3 fun y H4 => H4 p = some (.lst acc) ∧ N (acc ++ [y]) (upd H4 p (.lst (acc ++ [y]))) else N acc H3))
noncomputable abbrev CF (α : Type) := Addr → Shared → Hp → List Addr → α
noncomputable def tComp (wi : TI) (g : CF TG) (tt : CF TT) (te : CF TE) (ix : List (Option Nat)) : TE := fun σ H Q => wi σ H fun J H1 => ∀ p, H1 p = none →
  ∃ W : Nat → Nat → List V → Hp → Prop, (∃ m, W 0 m [] (upd H1 p (.lst []))) ∧ ∀ C s' H' fp, CompBody J (g C s' H' fp) (tt C s' H' fp) (te C s' H' fp) (sub ix σ) p Q W
section
variable {X : Cx} {elt tg iter : Expr} {ifs : List Expr} {scope sc : Scope} {pos : Pos} {NX N : List Str} {ix : List (Option Nat)} {wi : TI} {g : CF TG} {tt : CF TT} {te : CF TE}

theorem comp_loop {prog : Program} {w : World} {A : Around} {R : Result → Shared → Prop} {s : Shared} {it acc : Value} {env : Env} (I : Nat → Shared → Prop)
    (turn : ∀ n s, I n s → wpAny (model prog w) A (pyNext it) (fun r s₁ => match r with
      | none => R (.ok .next) s₁
      | some v => wpAny (model prog w) A (letOwnedTupleGo tg it v) (fun _ s₁' => wpAny (model prog w) A (assign tg env v) (fun _ s₂ =>
          wpAny (model prog w) A (forIn ifs true fun c r => if r = true then do let ok ← isTrue c env (eval c env); pure (ForInStep.yield ok) else pure (ForInStep.yield r)) (fun ok s₃ =>
            if ok = true then wpAny (model prog w) A (eval elt env) (fun x s₄ =>
              wpAny (model prog w) A (call (.builtin "list.append") [acc, x]) (fun _ s₅ => ∃ m, m < n ∧ I m s₅) (fun _ _ => False) s₄) (fun _ _ => False) s₃
            else ∃ m, m < n ∧ I m s₃) (fun _ _ => False) s₂) (fun _ _ => False) s₁') (fun _ _ => False) s₁) (fun _ _ => False) s)
    (n : Nat) (h : I n s) : codeAny (model prog w) A (.compLoop (.ListComp elt [⟨tg, iter, ifs, 0⟩] scope pos) 0 it acc env) R s := by
  refine codeAny_loop rfl I (fun n s hI => ?_) n h
  show wpAny _ A ((compTurn (.ListComp elt [⟨tg, iter, ifs, 0⟩] scope pos) 0 it acc env).onRaise (fun x => do noteFrame x env; theTreesLotGoes x)) _ _ s
  refine wpAny_noted ?_
  rw [compTurn_list]
  refine wpAny_bind (wpAny_standAt (wpAny_bind (wpAny_mono (turn n s hI) (fun r s₁ h₁ => ?_) fun _ _ z => z.elim)))
  cases r with
  | none => exact wpAny_pure h₁
  | some v =>
    refine wpAny_bind (wpAny_mono h₁ (fun _ s₁' h₁' => ?_) fun _ _ z => z.elim)
    refine wpAny_bind (wpAny_mono h₁' (fun _ s₂ h₂ => wpAny_bind (wpAny_mono h₂ (fun ok s₃ h₃ => ?_) fun _ _ z => z.elim)) fun _ _ z => z.elim)
    cases ok with
    | false => exact wpAny_pure ⟨rfl, h₃⟩
    | true => exact wpAny_bind (wpAny_bind (wpAny_mono h₃ (fun x s₄ h₄ => wpAny_bind (wpAny_mono h₄ (fun _ s₅ h₅ => wpAny_pure (wpAny_pure ⟨rfl, h₅⟩)) fun _ _ z => z.elim)) fun _ _ z => z.elim))

theorem comp_block {pins : List (Addr × Obj)} {σ : St} {H : Hp} {s : Shared} {fp : List Addr} {it : Addr} {J : It} {tn : Nat → Heap → Prop} {Q : VK} {E : Value → Shared → Prop} {RR : Value → Addr → Result → Shared → Prop}
    (hc : X.calm = true) (hsc : X.env.scope = sc) (hNX : X.N = NX) (S : CompScope sc scope NX N ix)
    (hg : ∀ C s H fp, PG (cxComp X N scope C s H fp) tg (g C s H fp)) (ht : ∀ C s H fp, PTL (cxComp X N scope C s H fp) ifs (tt C s H fp)) (he : ∀ C s H fp, PE (cxComp X N scope C s H fp) elt (te C s H fp))
    (I : Inv X pins σ H s) (T : Turn X.prog X.w X.K tg J fp it tn) (st : tn 0 s.heap) (hf : ∀ b ∈ fp, FpOk X pins H b)
    (hq : ∀ p, H p = none → ∃ W : Nat → Nat → List V → Hp → Prop, (∃ m, W 0 m [] (upd H p (.lst []))) ∧ ∀ C s' H' fp, CompBody J (g C s' H' fp) (tt C s' H' fp) (te C s' H' fp) (sub ix σ) p Q W)
    (hR : ∀ p C s' H' m, s.heap.objs.size ≤ p → s.heap.objs.size ≤ C → s'.heap.Ns C m → H' C = none → Q (.ref p) H' → Inv X pins σ H' s' → RR (.ref p) C (.ok .next) s') :
    wpAny (model X.prog X.w) X.A (newList []) (fun acc s₃ => wpAny (model X.prog X.w) X.A (newFunctionEnv scope X.env.globals (clOf X.env scope.names []) [] X.env.qual none .none (some X.env)) (fun cenv s₄ =>
      codeAny (model X.prog X.w) X.A (.compStart (.ListComp elt [⟨tg, iter, ifs, 0⟩] scope pos) 0 (.ref it) acc { cenv with scope := relabel scope X.env }) (RR acc cenv.locals) s₄) E s₃) E s := by
  refine wpAny_newObj_type (wpAny_newFunctionEnv S.nocell (by intro y hy; simp at hy) (fun h₁ hns₁ hsb₁ => ?_) S.kind)
  dsimp only at hns₁ hsb₁ ⊢
  have hsz : (s.heap.push { cls := .type "list", dict := none, data := .seq ([] : List Value).toArray }).objs.size = s.heap.objs.size + 1 := Heap.size_push ..
  generalize hC : (s.heap.push { cls := .type "list", dict := none, data := .seq ([] : List Value).toArray }).objs.size = C at hns₁ hsb₁ ⊢
  rw [hsz] at hC
  generalize hp : s.heap.objs.size = p at hC
  have pC : p ≠ C := by omega
  have old : ∀ b o, s.heap.get? b = some o → h₁.get? b = some o := fun b o e => hsb₁.extBut b o (ltNe (Heap.lt_size e) (by omega)) (Heap.get?_push_of_some _ (Heap.get?_push_of_some _ e))
  have hnew : h₁.get? p = some { cls := .type "list", data := .seq ([] : List Value).toArray } := hsb₁.extBut _ _ pC (Heap.get?_push_of_some _ (by rw [← hp]; exact Heap.get?_push_size _ rfl))
  have hfp : H p = none := I.hok.fresh (by omega)
  have hfC : H C = none := I.hok.fresh (by omega)
  have lt : ∀ b ∈ fp, b < p := fun b hb => by
    obtain ⟨o, e, _⟩ := T.obj 0 _ st b hb
    rw [← hp]
    exact Heap.lt_size e
  -- the free names' cells
  have hcells : ∀ y ∈ scope.names, y.2 = .free → ∃ c, X.env.cells.lookup y.1 = some c := fun y hy hk => by
    refine I.ok.has y.1 ?_
    show X.env.scope.names.lookup y.1 = some .cell ∨ X.env.scope.names.lookup y.1 = some .free
    rw [hsc]
    exact S.free y hy hk
  have noown : ∀ x, scope.names.lookup x ≠ some .cell := fun x e => S.nocell _ (PySem.mem_of_lookup e) rfl
  have hok : (cxComp X N scope C s H fp).Ok := by
    refine ⟨I.ok.mod, S.kind, I.ok.glob, I.ok.blt, by show s.heap.objs.size ≤ C; omega, fun x y c h1 h2 => I.ok.inj x y c (clOf_lookup h1) (clOf_lookup h2), fun x hx => ?_, fun x c z => (by cases z), I.ok.hd, I.ok.frames, .inl rfl, fun b hb => ?_, I.bs, Nat.le_trans I.ok.bsz I.sz, fun b o e hb => ?_, fun b hb z => ?_, I.stack, I.stkFree⟩
    · have hx' : scope.names.lookup x = some .free := by
        rcases hx with hx | hx
        · rcases relabel_look hx with q | q
          · exact absurd q (noown x)
          · exact q.2
        · rcases relabel_look hx with q | q
          · exact q
          · exact q.2
      obtain ⟨c, hc'⟩ := hcells _ (PySem.mem_of_lookup hx') rfl
      exact ⟨c, clOf_some (PySem.mem_of_lookup hx') hc'⟩
    · refine ⟨?_, fun x c e => (hf b hb).2.2.2.2.1 x c (clOf_lookup e)⟩
      show b ≠ C
      exact ltNe (lt b hb) (by omega)
    · rcases (hf b hb).2.2.2.1 with z | z
      · exact I.ok.noex b o e z
      · exact absurd (Nat.lt_of_lt_of_le (Heap.lt_size e) (Nat.le_trans I.ok.bsz z)) (Nat.lt_irrefl _)
    · rcases List.mem_cons.mp (I.stkSub b z) with q | q
      · exact (hf b hb).2.1 q
      · exact (hf b hb).2.2.1 q
  -- the free names' values lie in cells that stay
  have locs : ∀ h' : Heap, (∀ x c o, X.env.cells.lookup x = some c → s.heap.get? c = some o → ∃ sl, h'.get? c = some { o with slots := sl }) →
      ∀ (i : Nat) (x : Str) (v : V), N[i]? = some x → (sub ix σ)[i]? = some (some v) → ∃ u, RelV v u ∧ ∀ m, Look (compEnvC scope (clOf X.env scope.names []) C X.env) h' m x u := by
    intro h' hk i x v h1 h2
    obtain ⟨k, hk', hv⟩ : ∃ k, ix[i]? = some (some k) ∧ σ[k]? = some (some v) := by
      unfold sub at h2
      rw [List.getElem?_map] at h2
      cases e : ix[i]? with
      | none => rw [e] at h2; cases h2
      | some o =>
        rw [e] at h2
        cases o with
        | none => cases h2
        | some k =>
          refine ⟨k, rfl, ?_⟩
          have h2' : (match σ[k]? with | some v => v | none => none) = some v := Option.some.inj h2
          cases e2 : σ[k]? with
          | none => rw [e2] at h2'; cases h2'
          | some z =>
            rw [e2] at h2'
            rw [show z = some v from h2']
    have hm : (x, some k) ∈ N.zip ix := by
      refine List.mem_of_getElem? (i := i) ?_
      rw [List.getElem?_zip_eq_some]
      exact ⟨h1, hk'⟩
    obtain ⟨a1, a2⟩ := S.at_ _ hm k (by simp)
    have hX := S.free _ (PySem.mem_of_lookup a2) rfl
    have hvis : Vis X.env.scope x := by
      show _ ∨ _ ∨ _
      rw [hsc]
      exact .inr hX
    obtain ⟨m, hn, hl⟩ := I.loc
    obtain ⟨u, r, l⟩ := hl k x v (by rw [hNX]; exact a1) hv hvis
    refine ⟨u, r, fun m' => .inr ⟨relabel_free a2, ?_⟩⟩
    rcases l with ⟨l, _⟩ | ⟨_, c, e, z⟩
    · have l' : X.env.scope.names.lookup x = some .local := l
      rw [hsc] at l'
      rcases hX with q | q <;> (rw [q] at l'; cases l')
    · obtain ⟨o, ho, hd⟩ := z
      obtain ⟨sl, e'⟩ := hk x c o e ho
      exact ⟨c, clOf_some (PySem.mem_of_lookup a2) e, _, e', hd⟩
  have hlen : (sub ix σ).length = N.length := by
    unfold sub
    rw [List.length_map]
    exact S.len
  have I1 : Inv (cxComp X N scope C s H fp) [] (sub ix σ) (upd H p (.lst [])) { s with heap := h₁, toks := s.toks + ([] : List (Str × Value)).length } := by
    refine ⟨hok, rfl, I.bare, Un.laid old (Nat.le_of_eq hp) hfp, ⟨_, hns₁, fun i x v h1 h2 h3 => ?_⟩, fun x c e => ?_, ?_, fun x c e => ?_, fun q hq => (nomatch hq), I.hok.laid old (Nat.le_of_eq hp) ⟨Nat.zero_le _, [], 0, .nil, hnew⟩, hlen⟩
    · obtain ⟨u, r, l⟩ := locs h₁ (fun y c o _ ho => ⟨o.slots, old c o ho⟩) i x v h1 h2
      exact ⟨u, r, l _⟩
    · obtain ⟨v, o, ho, hd⟩ := I.cell x c (clOf_lookup e)
      exact ⟨v, o, old c o ho, hd⟩
    · show upd H p _ C = none
      rw [upd_ne (Ne.symm pC)]
      exact hfC
    · have e' := clOf_lookup e
      obtain ⟨v, o, ho, hd⟩ := I.cell x c e'
      rw [upd_ne (ltNe (Heap.lt_size ho) (Nat.le_of_eq hp))]
      exact I.freeC x c e'
  -- back to the block's first names
  have back : ∀ {pl : List (Addr × Obj)} {σ' : St} {H' : Hp} {s' : Shared}, Inv (cxComp X N scope C s H fp) pl σ' H' s' → Inv (cxComp X N scope C s H fp) pl (sub ix σ) H' s' := fun {pl σ' H' s'} J => by
    obtain ⟨m, hn, _⟩ := J.loc
    refine ⟨J.ok, J.os, J.bare, J.base, ⟨m, hn, fun i x v h1 h2 h3 => ?_⟩, J.cell, J.free, J.freeC, J.pin, J.hok, hlen⟩
    obtain ⟨u, r, l⟩ := locs s'.heap (fun y c o hc' ho => J.base.any ho (I.freeC y c hc') fun hb => (hf c hb).2.2.2.2.1 y c hc' rfl) i x v h1 h2
    exact ⟨u, r, l _⟩
  obtain ⟨W, ⟨m0, w0⟩, turn⟩ := hq p hfp
  have st1 : tn 0 h₁ := T.keep 0 _ _ st fun b _ o e => old b o e
  have fp1 : ∀ {H' : Hp}, (∀ b ∈ fp, H' b = none) → ∀ b ∈ fp, FpOk (cxComp X N scope C s H fp) [] H' b := fun {H'} hn b hb =>
    ⟨hn b hb, (hok.exf b hb).1, hok.exfs b hb, .inl hb, (hok.exf b hb).2, fun q hq => (nomatch hq)⟩
  have loop : codeAny (model X.prog X.w) X.A (.compLoop (.ListComp elt [⟨tg, iter, ifs, 0⟩] scope pos) 0 (.ref it) (.ref p) (compEnvC scope (clOf X.env scope.names []) C X.env)) (RR (.ref p) C) { s with heap := h₁, toks := s.toks + ([] : List (Str × Value)).length } := by
    refine comp_loop (fun n s' => ∃ i acc H', Inv (cxComp X N scope C s H fp) [] (sub ix σ) H' s' ∧ tn i s'.heap ∧ (∀ b ∈ fp, H' b = none) ∧ W i n acc H') ?_ m0
      ⟨0, [], _, I1, st1, fun b hb => by rw [upd_ne (ltNe (lt b hb) (Nat.le_refl _))]; exact (hf b hb).1, w0⟩
    rintro n s3 ⟨i, acc, H3, I3, st3, fr3, w3⟩
    obtain ⟨hacc, w4⟩ := turn C s H fp i n acc H3 w3
    rcases w4 with ⟨stop, qn⟩ | ⟨go, hln, N', hN', step⟩
    · refine thn (T.done (cxComp X N scope C s H fp) rfl rfl rfl hc i [] s3 _ H3 (fun _ _ => False) I3 (fp1 fr3) st3 stop) fun r s4 ⟨hr, I4⟩ => ?_
      subst hr
      obtain ⟨m, hn, _⟩ := I4.loc
      refine hR p C s4 H3 m (by omega) (by omega) hn I4.free qn ?_
      exact I.call' I4.os I4.base I4.hok I4.bare fun b hb => ⟨(hf b hb).2.2.2.1, (hf b hb).2.1, (hf b hb).2.2.2.2.1, (hf b hb).2.2.2.2.2⟩
    · refine thn (T.item (cxComp X N scope C s H fp) rfl rfl rfl hc i [] s3 _ H3 (fun _ _ => False) I3 (fp1 fr3) st3 go) fun r s4 ⟨u, hr, h4⟩ => ?_
      subst hr
      refine thn h4 fun _ s5 ⟨x, H5, I5, r5, y5, st5, fr5⟩ => ?_
      have I5' := I5.pinned (fp1 fr5) (T.obj _ _ st5)
      refine thn (hg C s H fp _ s5 _ H5 x u _ I5' r5 (step x H5 y5)) fun _ s6 ⟨σ6, H6, I6, q6⟩ => ?_
      have later : ∀ {s7 : Shared} {H7 : Hp} {acc' : List V} {σ7 : St}, Inv (cxComp X N scope C s H fp) ([] ++ pinsAt fp s5.heap) σ7 H7 s7 → (∃ m', m' < n ∧ W (i + 1) m' acc' H7) →
          ∃ m, m < n ∧ ∃ i acc H', Inv (cxComp X N scope C s H fp) [] (sub ix σ) H' s7 ∧ tn i s7.heap ∧ (∀ b ∈ fp, H' b = none) ∧ W i m acc H' := fun {s7 H7 acc' σ7} I7 ⟨m', hm, w7⟩ => by
        refine ⟨m', hm, i + 1, acc', H7, back (I7.unpinned (pins := [])), T.keep _ _ _ st5 fun b hb o e => (I7.pin (b, o) (List.mem_append_right _ (List.mem_append_right _ (mem_pinsAt hb e)))).1, fun b hb => ?_, w7⟩
        obtain ⟨o, e, d⟩ := T.obj _ _ st5 b hb
        exact (I7.pin (b, o) (List.mem_append_right _ (List.mem_append_right _ (mem_pinsAt hb e)))).2.1
      refine thn (ht C s H fp _ s6 σ6 H6 _ I6 q6) fun ok s7 ⟨H7, I7, q7⟩ => ?_
      cases ok with
      | false => exact later I7 (hN' _ _ q7)
      | true =>
        refine thn (he C s H fp _ s7 σ6 H7 _ I7 q7) fun y s8 ⟨v8, H8, I8, r8, hacc8, w8⟩ => ?_
        refine thn (mt_append (X := cxComp X N scope C s H fp) _ s8 σ6 H8 (.ref p) [v8] (.ref p) [y] (fun _ H9 => H9 = upd H8 p (.lst (acc ++ [v8]))) I8 rfl (.cons r8 .nil) ⟨p, acc, v8, rfl, rfl, hacc8, hln, rfl⟩) fun _ s9 ⟨_, H9, I9, _, e9⟩ => ?_
        subst e9
        exact later I9 (hN' _ _ w8)
  exact codeAny_compStart_list loop (T.self _ 0 _ _ _ st1 loop)

theorem pe_comp (hc : X.calm = true) (S : CompScope sc scope NX N ix) (hi : PI X tg iter wi)
    (hg : ∀ C s H fp, PG (cxComp X N scope C s H fp) tg (g C s H fp)) (ht : ∀ C s H fp, PTL (cxComp X N scope C s H fp) ifs (tt C s H fp)) (he : ∀ C s H fp, PE (cxComp X N scope C s H fp) elt (te C s H fp))
    (hsc : X.env.scope = sc := by rfl) (hNX : X.N = NX := by rfl) (hs : ∀ x, foldedSetIterable iter X.env x = pure x := by intro _; rfl) :
    PE X (.ListComp elt [⟨tg, iter, ifs, 0⟩] scope pos) (tComp wi g tt te ix) := by
  intro pins s σ H Q I h
  rw [eval_ListComp]
  have hcells : closureFor scope X.env = pure (clOf X.env scope.names []) := closure_of fun y hy hk => by
    refine I.ok.has y.1 ?_
    show X.env.scope.names.lookup y.1 = some .cell ∨ X.env.scope.names.lookup y.1 = some .free
    rw [hsc]
    exact S.free y hy hk
  refine wpAny_comprehension_free (use := none) rfl hs hcells S.kind S.names (thn (hi pins s σ H _ I h) fun v s1 h1 => thn h1 fun itv s2 h2 => ?_)
  obtain ⟨it, fp, tn, J, H2, e, I2, T, st2, f2, hq⟩ := h2
  subst e
  refine comp_block (Q := Q) (RR := fun acc C => compPost (model X.prog X.w) X.A X.xe none (EP X pins σ Q) acc C) hc hsc hNX S hg ht he I2 T st2 f2 hq ?_
  intro p C s' H' m hp hC hn hfree q I'
  exact ⟨m, hn, fun h'' hs'' => ⟨.ref p, H', I'.gone I2 hC hfree hs'', rfl, q⟩⟩
end

/-! ### the forms one uses: W from a word over the turn, the new list, the heap -/
section
variable {g : CF TG} {tt : CF TT} {te : CF TE} {σ₀ : St} {p : Addr} {Q : VK} {H : Hp}
theorem comp_of {J : It} {n : Nat} {Y : Nat → Hp → V → Hp → Prop} (Pv : Nat → List V → Hp → Prop) (h0 : Pv 0 [] (upd H p (.lst []))) (hp : ∀ i acc H, i ≤ n → Pv i acc H → H p = some (.lst acc) ∧ acc.length ≤ i) (hz : n ≤ sizeLine)
    (hgo : ∀ i acc H, i < n → Pv i acc H → J.go i H) (hst : ∀ acc H, Pv n acc H → J.stop n H) (hy : ∀ i acc H x H1, i < n → Pv i acc H → J.yld i H x H1 → Y i H x H1)
    (hs : ∀ C s' H' fp, ∀ i x acc H H1, i < n → Pv i acc H → Y i H x H1 → g C s' H' fp x σ₀ H1 fun σ2 H2 => tt C s' H' fp σ2 H2 fun b H3 => if b = true then te C s' H' fp σ2 H3 fun y H4 => H4 p = some (.lst acc) ∧ Pv (i + 1) (acc ++ [y]) (upd H4 p (.lst (acc ++ [y]))) else Pv (i + 1) acc H3)
    (hd : ∀ acc H, Pv n acc H → Q (.ref p) H) :
    ∃ W : Nat → Nat → List V → Hp → Prop, (∃ m, W 0 m [] (upd H p (.lst []))) ∧ ∀ C s' H' fp, CompBody J (g C s' H' fp) (tt C s' H' fp) (te C s' H' fp) σ₀ p Q W := by
  refine ⟨fun i m acc H => m = n - i ∧ i ≤ n ∧ Pv i acc H, ⟨n, by simp, Nat.zero_le _, h0⟩, ?_⟩
  rintro C s' H' fp i m acc H ⟨rfl, hi, w⟩
  obtain ⟨h1, h2⟩ := hp i acc H hi w
  refine ⟨h1, ?_⟩
  by_cases hlt : i < n
  · exact .inr ⟨hgo i acc H hlt w, by omega, Pv (i + 1), fun acc' H' q => ⟨n - (i + 1), by omega, rfl, hlt, q⟩, fun x H1 y => hs C s' H' fp i x acc H H1 hlt w (hy i acc H x H1 hlt w y)⟩
  · have e : i = n := by omega
    subst e
    exact .inl ⟨hst acc H w, hd acc H w⟩
theorem comp_list {K : PySem.W.Frag} {a : Addr} {xs : List V} (Pv : Nat → List V → Hp → Prop) (h0 : Pv 0 [] (upd H p (.lst []))) (hp : ∀ i acc H, i ≤ xs.length → Pv i acc H → H p = some (.lst acc) ∧ acc.length ≤ i) (hl : ∀ i acc H, i ≤ xs.length → Pv i acc H → SqL K H a xs) (hz : xs.length ≤ sizeLine)
    (hs : ∀ C s' H' fp, ∀ i x acc H, xs[i]? = some x → Pv i acc H → g C s' H' fp x σ₀ H fun σ2 H2 => tt C s' H' fp σ2 H2 fun b H3 => if b = true then te C s' H' fp σ2 H3 fun y H4 => H4 p = some (.lst acc) ∧ Pv (i + 1) (acc ++ [y]) (upd H4 p (.lst (acc ++ [y]))) else Pv (i + 1) acc H3)
    (hd : ∀ acc H, Pv xs.length acc H → Q (.ref p) H) :
    ∃ W : Nat → Nat → List V → Hp → Prop, (∃ m, W 0 m [] (upd H p (.lst []))) ∧ ∀ C s' H' fp, CompBody (Itl K a) (g C s' H' fp) (tt C s' H' fp) (te C s' H' fp) σ₀ p Q W :=
  comp_of (Y := fun i H x H1 => H1 = H ∧ xs[i]? = some x) Pv h0 hp hz (fun i acc H hi w => ⟨xs, xs[i], hl i acc H (Nat.le_of_lt hi) w, by simp [hi]⟩) (fun acc H w => ⟨xs, hl _ acc H (Nat.le_refl _) w, Nat.le_refl _⟩)
    (fun i acc H x H1 hi w y => ⟨y.1, y.2 xs (hl i acc H (Nat.le_of_lt hi) w)⟩) (fun C s' H' fp i x acc H H1 hi w y => by
      obtain ⟨e, y⟩ := y
      subst e
      exact hs C s' H' fp i x acc _ y w) hd
end
end L2

end

section
-- KcIter
set_option Elab.async false
set_option linter.all false
set_option maxRecDepth 100000
set_option maxHeartbeats 4000000
namespace L2
open PySem PySem.Spec PyProof.Rows

/-! ### drawing from a tuple's iterator inside enumerate and zip -/
section
variable {prog : Program} {w : World} {A : Around} {E : Value → Shared → Prop} {s : Shared}
end
theorem Inv.offBase {X : Cx} {pins : List (Addr × Obj)} {σ : St} {H : Hp} {s : Shared} {c : Addr} {o : Obj} (I : Inv X pins σ H s) (f : FpOk X pins H c) (e : X.base.get? c = some o) : False := by
  rcases f.2.2.2.1 with z | z
  · exact I.ok.noex c o e z
  · exact absurd (Nat.lt_of_lt_of_le (Heap.lt_size e) (Nat.le_trans I.ok.bsz z)) (Nat.lt_irrefl _)
/-! ### the sources: lists and tuples in one -/
structure Src where
  Sq : PySem.W.Frag → Hp → Addr → List V → Prop
  Is : Heap → Addr → Array Value → Prop
  It : Heap → Addr → Addr → Nat → Prop
  icls : String
  get : ∀ {X : Cx} {pins : List (Addr × Obj)} {σ : St} {H : Hp} {s : Shared} {a : Addr} {xs : List V}, Inv X pins σ H s → Sq X.K H a xs → ∃ its : List Value, Vals xs its ∧ Is s.heap a its.toArray ∧ xs.length ≤ sizeLine
  inj : ∀ {X : Cx} {pins : List (Addr × Obj)} {σ : St} {H : Hp} {s : Shared} {a : Addr} {xs ys : List V}, Inv X pins σ H s → Sq X.K H a xs → Sq X.K H a ys → xs = ys
  off : ∀ {X : Cx} {pins : List (Addr × Obj)} {σ : St} {H : Hp} {s : Shared} {a c : Addr} {xs : List V}, Inv X pins σ H s → Sq X.K H a xs → FpOk X pins H c → c ≠ a
  isSeq : ∀ {h : Heap} {a : Addr} {its : Array Value}, Is h a its → ∃ o n, h.get? a = some o ∧ o.data = .seq its n
  isIt : ∀ {h : Heap} {jt a : Addr} {i : Nat}, It h jt a i → ∃ o, h.get? jt = some o ∧ o.cls = .type icls ∧ o.data = .fields #[.ref a, .int i 0]
  mkI : ∀ {h : Heap} {jt a : Addr} {i : Nat} {o : Obj}, h.get? jt = some o → o.cls = .type icls → o.data = .fields #[.ref a, .int i 0] → It h jt a i
  itKeep : ∀ {h h' : Heap} {jt a : Addr} {i : Nat}, It h jt a i → (∀ o, h.get? jt = some o → h'.get? jt = some o) → It h' jt a i
  isKeep : ∀ {h h' : Heap} {a : Addr} {its : Array Value}, Is h a its → (∀ o, h.get? a = some o → h'.get? a = some o) → Is h' a its
  draws : ∀ {prog : Program} {w : World} {A : Around}, A.handled = none → ∀ (jt a : Addr), a ≠ jt → ∀ its : Array Value, Draws prog w A jt [jt, a] its.size (fun i v => its[i]? = some v) (fun i h => It h jt a i ∧ Is h a its)
  iter : ∀ {prog : Program} {w : World} {A : Around} {E : Value → Shared → Prop} {s : Shared} {a : Addr} {its : Array Value} {Q : Value → Shared → Prop}, Is s.heap a its →
    Q (.ref s.heap.objs.size) { s with heap := s.heap.push { cls := .type icls, data := .fields #[.ref a, .int 0 0] } } → wpAny (model prog w) A (pyIter (.ref a)) Q E s
noncomputable def srcL : Src where
  Sq := SqL
  Is := fun h a its => h.IsList a its
  It := fun h jt a i => h.IsListIter jt a i
  icls := "list_iterator"
  get := fun I h => let ⟨its, r, p, z⟩ := I.list h; ⟨its, r, p.isList, z⟩
  inj := fun I h h' => I.list_inj h h'
  off := fun {X pins σ H s a c xs} I h f e => by
    subst e
    rcases h with (h | ⟨o, h⟩) | ⟨o, its, n, hk, _⟩
    · rw [f.1] at h; cases h
    · rw [f.1] at h; cases h
    · exact I.offBase f (I.ok.mod.kin _ _ hk)
  isSeq := fun h => let ⟨o, ho, _, n, hd⟩ := h; ⟨o, n, ho, hd⟩
  isIt := fun h => h
  mkI := fun h1 h2 h3 => ⟨_, h1, h2, h3⟩
  itKeep := fun h k => h.at k
  isKeep := fun h k => h.at k
  draws := fun hh jt a hne its => Draws.list hh jt a hne its
  iter := fun h q => wpAny_pyIter_list h q
/-! ### untracked records turn, a new object is laid -/
theorem Inv.turns {X : Cx} {pins : List (Addr × Obj)} {σ : St} {H : Hp} {s : Shared} {h' : Heap} {t' : Nat} {ch : List Addr} {T : Addr} {o : HO} (I : Inv X pins σ H s) (hf : ∀ b ∈ ch, FpOk X pins H b)
    (k : ∀ b ob, b ∉ ch → s.heap.get? b = some ob → h'.get? b = some ob) (hT : s.heap.objs.size ≤ T) (new : ObjOk X.prog X.w (upd H T o) h' T o) : Inv X pins σ (upd H T o) { s with heap := h', toks := t' } := by
  have hn : H T = none := I.hok.fresh hT
  have nc : ∀ b u, H b = some u → b ∉ ch := fun b u e z => by
    have := (hf b z).1
    rw [e] at this
    cases this
  refine I.step (g' := s.gens) (d' := s.drawn) (ch := ch) (fun b hb => ⟨(hf b hb).2.2.2.1, (hf b hb).2.1, (hf b hb).2.2.2.2.1, (hf b hb).2.2.2.2.2⟩) (fun b ob _ _ hc e _ => k b ob hc e) (fun b ob _ _ hc e _ => ⟨ob.slots, k b ob hc e⟩)
    (fun b ob _ e n => ?_) (fun b ob hc e => ⟨ob, k b ob hc e⟩) (fun b xs e => ?_) (fun b ob xs e => ?_) (fun b ps e => ⟨#[], ?_⟩) (fun m hm => ?_) (fun b u e => ?_) I.bare
  · rw [upd_ne (ltNe (Heap.lt_size e) hT)]
    exact n
  · rw [upd_ne (ne_of_none e hn)]
    exact e
  · rw [upd_ne (ne_of_none e hn)]
    exact e
  · rw [upd_ne (ne_of_none e hn), e]
    simp
  · obtain ⟨ob, es, ep, ho, r⟩ := hm
    exact ⟨ob, es, ep, k _ ob (fun z => (hf _ z).2.1 rfl) ho, r⟩
  · by_cases hb : b = T
    · subst hb
      rw [upd_same] at e
      cases e
      exact new
    · rw [upd_ne hb] at e
      refine (I.hok b u e).stay (fun c v hc q => k c v ?_ q) (fun c q => by rw [upd_ne (ne_of_none q hn)]; exact q) fun c xs q => by rw [upd_ne (ne_of_none q hn)]; exact q
      rcases hc with z | z
      · rw [z]; exact nc b u e
      · exact nc c _ z
theorem Inv.turnsN {X : Cx} {pins : List (Addr × Obj)} {σ : St} {H : Hp} {s : Shared} {h' : Heap} {t' : Nat} {ch : List Addr} (I : Inv X pins σ H s) (hf : ∀ b ∈ ch, FpOk X pins H b)
    (k : ∀ b ob, b ∉ ch → s.heap.get? b = some ob → h'.get? b = some ob) : Inv X pins σ H { s with heap := h', toks := t' } := by
  have nc : ∀ b u, H b = some u → b ∉ ch := fun b u e z => by
    have := (hf b z).1
    rw [e] at this
    cases this
  refine I.step (g' := s.gens) (d' := s.drawn) (ch := ch) (fun b hb => ⟨(hf b hb).2.2.2.1, (hf b hb).2.1, (hf b hb).2.2.2.2.1, (hf b hb).2.2.2.2.2⟩) (fun b ob _ _ hc e _ => k b ob hc e) (fun b ob _ _ hc e _ => ⟨ob.slots, k b ob hc e⟩)
    (fun b ob _ e n => n) (fun b ob hc e => ⟨ob, k b ob hc e⟩) (fun b xs e => e) (fun b ob xs e => e) (fun b ps e => ⟨#[], by rw [e]; simp⟩) (fun m hm => ?_) (fun b u e => ?_) I.bare
  · obtain ⟨ob, es, ep, ho, r⟩ := hm
    exact ⟨ob, es, ep, k _ ob (fun z => (hf _ z).2.1 rfl) ho, r⟩
  · refine (I.hok b u e).stay (fun c v hc q => k c v ?_ q) (fun c q => q) fun c xs q => q
    rcases hc with z | z
    · rw [z]; exact nc b u e
    · exact nc c _ z

/-! ### enumerate, its tuples unpacked -/
noncomputable def Ite (S : Src) (K : PySem.W.Frag) (a : Addr) : It :=
  ⟨fun i H => ∃ xs x, S.Sq K H a xs ∧ xs[i]? = some x, fun i H x H' => ∃ T v, H T = none ∧ x = .ref T ∧ H' = upd H T (.tup [.int i, v]) ∧ ∀ xs, S.Sq K H a xs → xs[i]? = some v, fun i H => ∃ xs, S.Sq K H a xs ∧ xs.length = i⟩
theorem turn_enum {P : Program} {w : World} {K : PySem.W.Frag} {elts : List Expr} {k0 : Nat} {pos : Pos} (S : Src) (a e it : Addr) (hl : S.icls ≠ "enumerate") :
    Turn P w K (.Tuple elts k0 pos) (Ite S K a) [e, it] e (fun i h => (∃ old, IsEnum h e it i old) ∧ S.It h it a i) where
  mem := by simp
  obj := fun i h st b hb => by
    obtain ⟨⟨old, he⟩, hi⟩ := st
    rcases List.mem_cons.mp hb with rfl | hb
    · exact ⟨_, he, fun v z => nomatch z⟩
    · obtain rfl := List.mem_singleton.mp hb
      obtain ⟨o, ho, _, hd⟩ := S.isIt hi
      exact ⟨o, ho, fun v z => by rw [hd] at z; cases z⟩
  keep := fun i h h' st k => by
    obtain ⟨⟨old, he⟩, hi⟩ := st
    exact ⟨⟨old, k e (by simp) _ he⟩, S.itKeep hi fun o q => k it (by simp) o q⟩
  item := by
    intro X hP hw hK hc i pins s σ H E I hf st hg
    subst hP hw hK
    obtain ⟨xs, x, hq, hx⟩ := hg
    obtain ⟨its, rv, p, hz⟩ := S.get I hq
    obtain ⟨⟨old, he⟩, hi⟩ := st
    obtain ⟨u, hu, ru⟩ := rv.get hx
    obtain ⟨oa, na, hoa, hda⟩ := S.isSeq p
    obtain ⟨oi, hoi, hci, hdi⟩ := S.isIt hi
    have nei : e ≠ it := fun z => by
      have he' : s.heap.get? e = some _ := he
      rw [z, hoi] at he'
      cases he'
      exact hl (by simpa using hci.symm)
    have nae : e ≠ a := S.off I hq (hf e (by simp))
    have nai : a ≠ it := fun z => by
      rw [z, hoi] at hoa
      cases hoa
      rw [hdi] at hda
      cases hda
    have hlt : i < its.toArray.size := by
      have := (List.getElem?_eq_some_iff.mp hu).1
      simpa using this
    refine wpAny_pyNext_enum_itemD (S.draws (A := X.A.in1) (show X.A.in1.handled = none from I.ok.hd hc) it a nai its.toArray) he ⟨hi, p⟩ hlt nei (by simp [nei, nae]) fun y h1 tk hP ho hs1 hT hsz hk => ⟨_, rfl, ?_⟩
    have hy : y = u := by
      have : its.toArray[i]? = some u := by simpa using hu
      rw [this] at hP
      exact (Option.some.inj hP).symm
    subst hy
    refine wpAny_letOwnedTupleGo_enum ho fun h2 he2 hs2 => ?_
    have elt : e < s.heap.objs.size := Heap.lt_size he
    have hT2 : h2.get? s.heap.objs.size = some { cls := .type "tuple", data := .seq #[.int i tk, y] } := hs2.extBut _ _ (neLt (Nat.le_refl _) elt) hT
    have kept : ∀ b ob, b ∉ [e, it] → s.heap.get? b = some ob → h2.get? b = some ob := fun b ob hb q => by
      have h1' : b ≠ e := fun z => hb (by simp [z])
      exact hs2.extBut _ _ h1' (hk b ob h1' (fun z => hb (by simp [z])) q)
    refine ⟨.ref s.heap.objs.size, upd H s.heap.objs.size (.tup [.int i, x]), ?_, rfl, ⟨_, x, I.fresh, rfl, rfl, fun ys hy => by rw [S.inj I hy hq]; exact hx⟩, ⟨⟨_, he2⟩, S.itKeep hs1.1 fun o q => hs2.extBut _ _ (Ne.symm nei) q⟩, fun b hb => ?_⟩
    · refine I.turns (t' := tk + 1) hf kept (Nat.le_refl _) ⟨(by show 2 ≤ sizeLine; decide), [.int i tk, y], .cons ⟨tk, rfl⟩ (.cons ru .nil), _, hT2, rfl, ⟨0, rfl⟩, rfl⟩
    · have lt : b < s.heap.objs.size := by
        rcases List.mem_cons.mp hb with rfl | hb
        · exact elt
        · obtain rfl := List.mem_singleton.mp hb
          exact Heap.lt_size hoi
      rw [upd_ne (ltNe lt (Nat.le_refl _))]
      exact (hf b hb).1
  done := by
    intro X hP hw hK hc i pins s σ H E I hf st hg
    subst hP hw hK
    obtain ⟨xs, hq, hx⟩ := hg
    obtain ⟨its, rv, p, hz⟩ := S.get I hq
    obtain ⟨⟨old, he⟩, hi⟩ := st
    obtain ⟨oa, na, hoa, hda⟩ := S.isSeq p
    obtain ⟨oi, hoi, hci, hdi⟩ := S.isIt hi
    have nai : a ≠ it := fun z => by
      rw [z, hoi] at hoa
      cases hoa
      rw [hdi] at hda
      cases hda
    have hsz : i = its.toArray.size := by
      have := rv.length
      simp only [List.size_toArray]
      omega
    subst hsz
    exact wpAny_pyNext_enum_endD (S.draws (A := X.A.in1) (show X.A.in1.handled = none from I.ok.hd hc) it a nai its.toArray) he ⟨hi, p⟩ fun h' hx' => ⟨rfl, I.turnsN (t' := s.toks) hf fun b ob hb q => hx' b ob (fun z => hb (by simp [z])) q⟩
  self := fun _ _ _ _ _ st h => by
    obtain ⟨⟨old, he⟩, _⟩ := st
    exact wpAny_pyIter_enum he h
section
variable {X : Cx} {elts : List Expr} {k0 : Nat} {tpos : Pos}
theorem new_enum (S : Src) (l : Addr) (its : Array Value) :
    Meets (Builtin.«enumerate.__new__» ⟨[.type "enumerate", .ref l], []⟩) (fun _ R s => S.Is s.heap l its ∧
      R (.ok (.ret (.ref (s.heap.push { cls := .type S.icls, data := .fields #[.ref l, .int 0 0] }).objs.size)))
        { s with heap := (s.heap.push { cls := .type S.icls, data := .fields #[.ref l, .int 0 0] }).push { cls := .type "enumerate", data := .fields #[.none, .bool false, .ref s.heap.objs.size, rawInt 0, .none, .none] } }) :=
  .of_wp fun prog w A R s h => by
    obtain ⟨hp, g, d, tk, os⟩ := s
    obtain ⟨hl, h⟩ := h
    have hsub := sub_enumerate
    have hL : S.Is (Shared.heap ⟨hp, g, d, tk, os⟩) l its := hl
    wp_walk
    refine wpAny_stack_any fun st => wpAny_pure ?_
    split
    · rename_i c _ _ _ _ _
      cases (c == Value.type "enumerate")
      · wp_walk using S.iter hL
        exact ⟨_, rfl, h⟩
      · wp_walk using S.iter hL
        exact ⟨_, rfl, h⟩
    · wp_walk using S.iter hL
      exact ⟨_, rfl, h⟩
theorem call_enum (S : Src) {prog : Program} {w : World} {A : Around} {E : Value → Shared → Prop} {s : Shared} {l : Addr} {its : Array Value} {Q : Value → Shared → Prop} (hL : S.Is s.heap l its)
    (h : ∀ h', IsEnum h' (s.heap.objs.size + 1) s.heap.objs.size 0 .none → S.It h' s.heap.objs.size l 0 → (∀ b o, s.heap.get? b = some o → h'.get? b = some o) → Q (.ref (s.heap.objs.size + 1)) { s with heap := h' }) :
    wpAny (model prog w) A (call (.type "enumerate") [.ref l]) Q E s := by
  refine callType_new F.called_enumerate (by decide) (F.typeCall_enumerate_1 _) (F.newCall_enumerate_1 _) (fun obj => F.args_object_init_2 obj _) F.entry_enumerate_new (new_enum S l its) ⟨hL, ?_⟩
  have hz : (s.heap.push { cls := .type S.icls, data := .fields #[.ref l, .int 0 0] }).objs.size = s.heap.objs.size + 1 := Heap.size_push ..
  show _ ∧ _
  rw [hz]
  have he := Heap.get?_push_size (s.heap.push { cls := .type S.icls, data := .fields #[.ref l, .int 0 0] }) (o := { cls := .type "enumerate", data := .fields #[.none, .bool false, .ref s.heap.objs.size, rawInt 0, .none, .none] }) rfl
  rw [hz] at he
  exact ⟨⟨_, he, rfl⟩, h _ he (S.mkI (Heap.get?_push_of_some _ (Heap.get?_push_size _ rfl)) rfl rfl) fun b o q => Heap.get?_push_of_some _ (Heap.get?_push_of_some _ q)⟩
noncomputable def iEnum (S : Src) (K : PySem.W.Frag) (ta : TA) : TI := fun σ H R => ta σ H fun vs H1 => ∃ a xs, vs = [.ref a] ∧ S.Sq K H1 a xs ∧ R (Ite S K a) H1
theorem pi_enum (S : Src) {a : Expr} {ta : TA} {p pos : Pos} (hg : Gl X "enumerate") (hm : X.mg "enumerate" = none) (hS : S.icls ≠ "enumerate") (ha : PA X [a] ta) (hs : starEach [a] X.env = [(false, eval a X.env)] := by rfl) :
    PI X (.Tuple elts k0 tpos) (.Call (.Name "enumerate" p) [a] [] pos) (iEnum S X.K ta) := by
  intro pins s σ H R I h
  refine Call_ (ld_blt I hg hm boot_enumerate (PyProof.Rows.callWith_type1 (thn (ha pos pins s σ H _ I h) fun us s1 ⟨vs, H1, I1, r1, q1⟩ => ?_) hs rfl))
  obtain ⟨l, xs, e, hq, q⟩ := q1
  subst e
  obtain ⟨u, rfl, ru⟩ := r1.one
  cases ru
  obtain ⟨its, rv, p', hz⟩ := S.get I1 hq
  refine call_enum S p' fun h' he hi kp => wpAny_pyIter_enum he ?_
  have I2 : Inv X pins σ H1 { s1 with heap := h' } := I1.kept (t' := s1.toks) kp
  refine ⟨s1.heap.objs.size + 1, [s1.heap.objs.size + 1, s1.heap.objs.size], _, _, H1, rfl, I2, turn_enum S l _ _ hS, ⟨⟨_, he⟩, hi⟩, fun b hb => ?_, q⟩
  have hb' : s1.heap.objs.size ≤ b := by
    rcases List.mem_cons.mp hb with rfl | hb
    · exact Nat.le_succ _
    · obtain rfl := List.mem_singleton.mp hb
      exact Nat.le_refl _
  exact I1.fpOk hb' (I1.hok.fresh hb')
end
end L2

end

section
-- KcOps
set_option Elab.async false
set_option linter.all false
set_option maxRecDepth 100000
set_option maxHeartbeats 4000000
namespace L2
open PySem PySem.Spec PyProof.Rows

section
variable {X : Cx}
/-! ### isinstance(x, T) for a built-in T -/
noncomputable def rIsi (K : PySem.W.Frag) : List V → Hp → VK → Prop := fun xs H Q => ∃ x T t b, xs = [x, .ty T] ∧ TyOf K H x t ∧ PySem.W.kitOne K t (.type T) = some b ∧ Q (.bl b) H
theorem call_isi : CallR X (.builtin "isinstance") (rIsi X.K) := by
  intro pins s σ H xs us Q I r h
  obtain ⟨x, T, t, b, rfl, ty, e, q⟩ := h
  obtain ⟨u, v, rfl, ru, rv⟩ := r.two
  cases (show v = Value.type T from rv)
  exact isinst_ok I ru ty e fun tk => ⟨.bl b, H, I.tok tk, rfl, q⟩
theorem kit_int_int (K : PySem.W.Frag) : PySem.W.kitOne K (.type "int") (.type "int") = some true := by unfold PySem.W.kitOne; rw [if_pos (beq_self_eq_true _)]
theorem kit_int_bool (K : PySem.W.Frag) : PySem.W.kitOne K (.type "int") (.type "bool") = some false := by show (if (Value.type "int" == Value.type "bool") = true then some true else if PySem.W.kitMeta "bool" = true then (fastBuiltinMro "int").map (·.contains (.type "bool")) else none) = some false; decide +kernel
theorem kit_lst_lst (K : PySem.W.Frag) : PySem.W.kitOne K (.type "list") (.type "list") = some true := by unfold PySem.W.kitOne; rw [if_pos (beq_self_eq_true _)]

/-! ### all of a list of truths, sum of a list of ints -/
theorem all_get : ∀ (bs : List Bool), (List.range bs.length).all (fun i => bs.getD i false) = bs.all id := by
  intro bs
  induction bs with
  | nil => rfl
  | cons b r ih =>
    rw [List.length_cons, List.range_succ_eq_map, List.all_cons, List.all_map, List.all_cons]
    show (b && _) = (b && _)
    rw [← ih]
    rfl
theorem vals_bl {bs : List Bool} {us : List Value} (r : Vals (bs.map V.bl) us) : us = bs.map Value.bool := by
  induction bs generalizing us with
  | nil => cases r; rfl
  | cons b t ih =>
    cases r with
    | cons q r' =>
      rw [List.map_cons, ← ih r', show _ = Value.bool b from q]
theorem Inv.walked {pins : List (Addr × Obj)} {σ : St} {H : Hp} {s : Shared} {h' : Heap} {tk : Nat} {o : Obj} (I : Inv X pins σ H s) (hk : ∀ b ob, b ∉ [s.heap.objs.size] → (s.heap.push o).get? b = some ob → h'.get? b = some ob) : Inv X pins σ H { s with heap := h', toks := tk } :=
  I.kept fun b ob e => hk b ob (fun z => absurd (List.mem_singleton.mp z) (Nat.ne_of_lt (Heap.lt_size e))) (Heap.get?_push_of_some _ e)
theorem call_allL (hc : X.calm = true) : CallR X (.builtin "all") (fun xs H Q => ∃ (p : Addr) (bs : List Bool), xs = [.ref p] ∧ SqL X.K H p (bs.map V.bl) ∧ Q (.bl (bs.all id)) H) := by
  intro pins s σ H xs us Q I r h
  obtain ⟨p, bs, rfl, hq, q⟩ := h
  obtain ⟨u, rfl, rx⟩ := r.one
  cases rx
  obtain ⟨its, rv, pl, hz⟩ := I.list hq
  have e := vals_bl rv
  subst e
  refine call_all_walk (wpAny_pyIter_list pl.isList ⟨s.heap.objs.size, _, _, _, _, _, fun i => bs.getD i false, rfl, Walks.list (show X.A.in1.handled = none from I.ok.hd hc) _ p (by obtain ⟨o, ho, _⟩ := pl.isList; exact Nat.ne_of_lt (Heap.lt_size ho)) (bs.map Value.bool).toArray,
    ⟨⟨_, Heap.get?_push_size _ rfl, rfl, rfl⟩, pl.isList.push _⟩, ?_, fun h' tk hk => ?_⟩)
  · intro i v s' Q' E' hP hQ
    have hP' : (bs.map Value.bool)[i]? = some v := by simpa using hP
    rw [List.getElem?_map] at hP'
    cases e : bs[i]? with
    | none => rw [e] at hP'; cases hP'
    | some b =>
      rw [e] at hP'
      cases hP'
      have : bs.getD i false = b := by rw [List.getD_eq_getElem?_getD, e]; rfl
      have hQ' : Q' (bs.getD i false) s' := hQ
      rw [this] at hQ'
      exact wpAny_truthy_bool hQ'
  · refine ⟨.bl (bs.all id), H, I.walked hk, ?_, q⟩
    show Value.bool _ = Value.bool _
    rw [← all_get]
    simp
theorem preSum_list (ns : List Int) : ∀ k, k ≤ ns.length → preSum (fun i => ns.getD i 0) k = (ns.take k).sum := by
  intro k
  induction k with
  | zero => intro _; simp [preSum]
  | succ k ih =>
    intro hk
    have hlt : k < ns.length := hk
    rw [preSum, ih (Nat.le_of_lt hlt), List.take_add_one, List.sum_append, List.getElem?_eq_getElem hlt, List.getD_eq_getElem?_getD, List.getElem?_eq_getElem hlt]
    simp
theorem call_sumL (hc : X.calm = true) : CallR X (.builtin "sum") (fun xs H Q => ∃ (p : Addr) (ns : List Int), xs = [.ref p] ∧ SqL X.K H p (ns.map V.int) ∧ Q (.int ns.sum) H) := by
  intro pins s σ H xs us Q I r h
  obtain ⟨p, ns, rfl, hq, q⟩ := h
  obtain ⟨u, rfl, rx⟩ := r.one
  cases rx
  obtain ⟨its, rv, pl, hz⟩ := I.list hq
  have hlen : ns.length = its.length := by have := rv.length; simpa using this
  have ia := intsAre_of rv
  refine call_sum_walkG (wpAny_pyIter_list pl.isList ⟨s.heap.objs.size, _, _, _, _, _, fun i => ns.getD i 0, rfl, Walks.list (show X.A.in1.handled = none from I.ok.hd hc) _ p (by obtain ⟨o, ho, _⟩ := pl.isList; exact Nat.ne_of_lt (Heap.lt_size ho)) its.toArray,
    ⟨⟨_, Heap.get?_push_size _ rfl, rfl, rfl⟩, pl.isList.push _⟩, fun b hb => ?_, ?_, fun h' tk t' hk => ?_⟩)
  · have hp : p < s.heap.objs.size := by
      obtain ⟨o, ho, _⟩ := pl.isList
      exact Heap.lt_size ho
    show b < (s.heap.push _).objs.size
    rw [Heap.size_push]
    rcases List.mem_cons.mp hb with rfl | hb
    · exact Nat.lt_succ_self _
    · obtain rfl := List.mem_singleton.mp hb
      exact Nat.lt_succ_of_lt hp
  · intro i v hP
    have hP' : its[i]? = some v := by simpa using hP
    have hlt : i < ns.length := by
      have := (List.getElem?_eq_some_iff.mp hP').1
      omega
    obtain ⟨u', hu', ru'⟩ := rv.get (x := .int ns[i]) (i := i) (by rw [List.getElem?_map, List.getElem?_eq_getElem hlt] <;> rfl)
    rw [hP'] at hu'
    cases hu'
    obtain ⟨t, e⟩ := (show ∃ t, v = Value.int ns[i] t from ru')
    refine ⟨t, ?_⟩
    show v = Value.int (ns.getD i 0) t
    rw [e, List.getD_eq_getElem?_getD, List.getElem?_eq_getElem hlt]
    rfl
  · refine ⟨.int ns.sum, H, I.walked hk, ⟨t', ?_⟩, q⟩
    rw [show its.toArray.size = ns.length by simp; omega, preSum_list ns _ (Nat.le_refl _), List.take_length]

/-! ### == and != of two lists, two tuples, item by item: flat items, or one and the same object -/
noncomputable def EqE (x y : V) (b : Bool) : Prop := (flatV x = true ∧ flatV y = true ∧ b = eqV x y) ∨ (∃ a, x = .ref a ∧ y = .ref a ∧ b = true)
theorem EqE.at {A : Around} {s : Shared} {x y : V} {b : Bool} {u v : Value} (h : EqE x y b) (ru : RelV x u) (rv : RelV y v) : SeqAt.EqAt A s u v b := by
  rcases h with ⟨f1, f2, rfl⟩ | ⟨a, rfl, rfl, rfl⟩
  · exact eqAt_V ru rv f1 f2
  · cases ru
    cases rv
    exact SeqAt.EqAt.same _
end
end L2

end

section
-- KcBase
set_option Elab.async false
set_option linter.all false
set_option maxRecDepth 100000
set_option maxHeartbeats 4000000
namespace L2
open PySem PySem.Spec PyProof.Rows

/-! ### an own def that is called, all that is asked of it in one -/
noncomputable def FnB (P : Program) (w : World) (K : PySem.W.Frag) (mg : Str → Option Value) (base : Heap) (k : Nat) (x : Str) (ps : List Str) (sp : Sp) : Prop :=
  ∃ f fd, FnOk P w K mg base CX0 k f fd ps sp ∧ mg x = some (.ref f) ∧ PySem.W.keepIn K (.ref f) = true ∧ Binds K fd ps []
theorem pe_callF {X : Cx} {k : Nat} {x : Str} {ps : List Str} {sp : Sp} {p pos : Pos} {e : Expr} {es : List Expr} {t : TA} (F : FnB X.prog X.w X.K X.mg X.base k x ps sp) (hr : Room k X.A) (ha : PA X (e :: es) t) (hg : Gl X x := by rfl)
    (hdb : (x == ("__debug__" : Str)) = false := by decide) (he : starEach (e :: es) X.env = (false, eval e X.env) :: starEach es X.env := by rfl) (hpl : (backTo pos (starEach es X.env)).any (·.1) = false := by rfl) :
    PE X (.Call (.Name x p) (e :: es) [] pos) (tCall sp [] E0 t) := by
  obtain ⟨f, fd, ok, m, kp, b⟩ := F
  exact pe_call ok hr hg m kp b .nil pass0 ha hdb he hpl
theorem FnB.mono {P : Program} {w : World} {K : PySem.W.Frag} {mg : Str → Option Value} {base : Heap} {j k : Nat} {x : Str} {ps : List Str} {sp : Sp} (F : FnB P w K mg base j x ps sp) (h : j ≤ k) : FnB P w K mg base k x ps sp := by
  obtain ⟨f, fd, ok, r⟩ := F
  exact ⟨f, fd, ok.mono h, r⟩
structure Def (K : PySem.W.Frag) (mg : Str → Option Value) (x : Str) (st : Stmt) (ps : List Str) (f : Addr) (fd : FuncData) : Prop where
  fn : Fun K x x st f fd
  m : mg x = some (.ref f)
  b : Binds K fd ps []
theorem Def.ok {P : Program} {w : World} {K : PySem.W.Frag} {mg : Str → Option Value} {base : Heap} {x : Str} {st : Stmt} {N ps : List Str} {f : Addr} {fd : FuncData} {k : Nat} {sp : Sp} (D : Def K mg x st ps f fd) (S : FnScope N ps (defScope st)) (len : ∀ vs H Q E, sp vs H Q E → vs.length = ps.length)
    (hbody : ∀ (cdv : Value) (A : Around) (outer : List Env) (s : Shared) (H : Hp) (vs : List V) (Q : VK) (E : XK), Room k (A.deeper (envOfC x (defScope st) s.heap.objs.size f cdv)) → sp vs H Q E →
      ∃ t, PSs (cxOf CX0 P w K mg base N x (defScope st) f cdv A outer s H E).nox (defBody st) t ∧ t { nx := fun _ H' => Q .non H', rt := Q } (start N vs) H) : FnB P w K mg base (k + 1) x ps sp :=
  ⟨f, fd, D.fn.ok S len hbody, D.m, D.fn.kp, D.b⟩

/-! ### products of ints of many figures -/
theorem op_mulB {X : Cx} : OpR X (binaryOp .Mult) (rI IntMulOk fun i j => .int (i * j)) := opI fun _ _ _ _ _ _ _ hc q => mul_int q hc

/-! ### the law's head, with the bits of the script's ints -/
theorem bits_items : ∀ (ns : List Int), ∀ n ∈ ns, Builtin.Int.intBits n ≤ PySem.W.WData.weightAll (ns.map PySem.W.WData.int)
  | [], n, h => (nomatch h)
  | m :: r, n, h => by
    rw [List.map_cons, PySem.W.WData.weightAll]
    have e : PySem.W.WData.weight (.int m) = Builtin.Int.intBits m := by
      rw [PySem.W.WData.weight]
      rfl
    rw [e]
    rcases List.mem_cons.mp h with rfl | h
    · omega
    · have := bits_items r n h
      omega
theorem bits_of_lay {ns : List Int} (h : PySem.W.WData.layableAll [PySem.W.WData.list (ns.map PySem.W.WData.int)] = true) : ∀ n ∈ ns, Builtin.Int.intBits n ≤ 1048576 := by
  intro n hn
  have h1 : PySem.W.WData.layable (PySem.W.WData.list (ns.map PySem.W.WData.int)) = true := by
    unfold PySem.W.WData.layableAll at h
    rw [List.all_cons, Bool.and_eq_true] at h
    exact h.1
  unfold PySem.W.WData.layable at h1
  rw [Bool.and_eq_true] at h1
  have h2 : PySem.W.WData.weight (PySem.W.WData.list (ns.map PySem.W.WData.int)) ≤ 2 ^ 20 := of_decide_eq_true h1.2
  rw [PySem.W.WData.weight] at h2
  have h3 := bits_items ns n hn
  have e : (2 : Nat) ^ 20 = 1048576 := by decide
  omega
noncomputable def ScriptOk (K : PySem.W.Frag) (H : Hp) (a : Addr) (ns : List Int) : Prop := SqL K H a (ns.map V.int) ∧ ns.length ≤ 63 ∧ ∀ n ∈ ns, Builtin.Int.intBits n ≤ 1048576
noncomputable def spLaw (K : PySem.W.Frag) : Sp := fun vs H Q _ => ∃ (a : Addr) (ns : List Int), vs = [.ref a] ∧ ScriptOk K H a ns ∧ ∀ H', Q (.bl true) H'
theorem walk_ofB {l : PySem.W.OpenLaw} {k : Nat} {q : Program} {loose : List Str} {XP : (Str → Option Value) → Heap → Prop} {YP : World → Heap → Prop} {d : DefRec} {K : Params → PySem.W.Frag} {x : Str}
    (hn : l.most = some 63) (hdf : d.params.defaults = []) (hr : Room k callerA) (hY : ∀ (w : World) (h : Heap), YP w h → (K w.params).In h)
    (F : ∀ (w : World) (mg : Str → Option Value) (fa : Addr) (h : Heap), (K w.params).In h → h.Ns mainGlobals mg → mg d.name = some (.ref fa) →
      ∃ fd : FuncData, (∀ (s : Shared) (u : Value), BindsTo s fd ⟨[u], []⟩ [(x, u)]) ∧
        ∀ base : Heap, (K w.params).In base → base.Ns mainGlobals mg → FnOk l.prog w (K w.params) mg base CX0 k fa fd [x] (spLaw (K w.params))) :
    PySem.W.WalkO q loose XP YP l.row.toRowW d [] (fun f vs => PySem.call f vs) := by
  intro w s₀ s₁ mg mb G Y fa o pm cd doc dV kV ho hd hcd hD hmg hg args vals as hpre hlay hrd hwl hlo
  obtain rfl : dV = .none := PySem.W.Dflts.none hD hdf
  obtain rfl : kV = .none := PySem.W.Dflts.noKw hD
  obtain ⟨a, vs, ns, rfl, rfl, hobj, hints, hlen⟩ := Att.script_of hn hpre hwl
  have hbits := bits_of_lay hlay
  have KX := hY w _ Y
  obtain ⟨fd, hb, hF⟩ := F w mg fa _ KX G.T.g hmg
  have c := law_call KX G.T.g G.T.b G.T.builtins G.T.nolimit hg hobj hints (Nat.le_trans hlen (by decide)) hr hF hb (fun H hO hS => ⟨a, ns, rfl, ⟨hS, hlen, hbits⟩, fun _ => rfl⟩) fun H e s' z => z
  refine PySem.W.enter_call (codeAny_mono c fun r s' hq => ?_)
  obtain ⟨rfl, h2, h3, h4⟩ := hq
  exact ⟨.inl ⟨.bool true, .bool true, [], rfl, fun _ => rfl, .bool true, Att.post_true l _, fun _ => ⟨List.Pairwise.nil, fun _ hm => (nomatch hm)⟩⟩, h2, h3, h4⟩

/-! ### loops over any source -/
theorem for_of {J : It} {n : Nat} {g : TG} {tb : TS} {D : Ends} {σ : St} {H : Hp} {Y : Nat → Hp → V → Hp → Prop} (Pv : Nat → St → Hp → Prop) (h0 : Pv 0 σ H) (hgo : ∀ i σ H, i < n → Pv i σ H → J.go i H) (hst : ∀ σ H, Pv n σ H → J.stop n H)
    (hy : ∀ i σ H x H1, i < n → Pv i σ H → J.yld i H x H1 → Y i H x H1) (hs : ∀ i x σ H H1, i < n → Pv i σ H → Y i H x H1 → g x σ H1 fun σ2 H2 => tb { D with nx := Pv (i + 1), ct := Pv (i + 1), bk := D.nx } σ2 H2) (hd : ∀ σ H, Pv n σ H → D.nx σ H) :
    ∃ W : Nat → Nat → St → Hp → Prop, (∃ m, W 0 m σ H) ∧ ∀ i m σ H, W i m σ H →
      (J.stop i H ∧ D.nx σ H) ∨ (J.go i H ∧ ∃ N : St → Hp → Prop, (∀ σ' H', N σ' H' → ∃ m', m' < m ∧ W (i + 1) m' σ' H') ∧ ∀ x H', J.yld i H x H' → g x σ H' fun σ2 H2 => tb { D with nx := N, ct := N, bk := D.nx } σ2 H2) := by
  refine ⟨fun i m σ H => m = n - i ∧ i ≤ n ∧ Pv i σ H, ⟨n, by simp, Nat.zero_le _, h0⟩, ?_⟩
  rintro i m σ H ⟨rfl, hi, p⟩
  by_cases hlt : i < n
  · exact .inr ⟨hgo i σ H hlt p, Pv (i + 1), fun σ' H' p' => ⟨n - (i + 1), by omega, rfl, hlt, p'⟩, fun x H' y => hs i x σ H H' hlt p (hy i σ H x H' hlt p y)⟩
  · have e : i = n := by omega
    subst e
    exact .inl ⟨hst σ H p, hd σ H p⟩
theorem for_enum {S : Src} {K : PySem.W.Frag} {a : Addr} {xs : List V} {g : TG} {tb : TS} {D : Ends} {σ : St} {H : Hp} (Pv : Nat → St → Hp → Prop) (h0 : Pv 0 σ H) (hl : ∀ i σ H, i ≤ xs.length → Pv i σ H → S.Sq K H a xs)
    (hs : ∀ i x T σ H, xs[i]? = some x → Pv i σ H → H T = none → g (.ref T) σ (upd H T (.tup [.int i, x])) fun σ2 H2 => tb { D with nx := Pv (i + 1), ct := Pv (i + 1), bk := D.nx } σ2 H2) (hd : ∀ σ H, Pv xs.length σ H → D.nx σ H) :
    ∃ W : Nat → Nat → St → Hp → Prop, (∃ m, W 0 m σ H) ∧ ∀ i m σ H, W i m σ H →
      ((Ite S K a).stop i H ∧ D.nx σ H) ∨ ((Ite S K a).go i H ∧ ∃ N : St → Hp → Prop, (∀ σ' H', N σ' H' → ∃ m', m' < m ∧ W (i + 1) m' σ' H') ∧ ∀ x H', (Ite S K a).yld i H x H' → g x σ H' fun σ2 H2 => tb { D with nx := N, ct := N, bk := D.nx } σ2 H2) :=
  for_of (J := Ite S K a) (n := xs.length) (Y := fun i H x H1 => ∃ T v, H T = none ∧ x = .ref T ∧ H1 = upd H T (.tup [.int i, v]) ∧ xs[i]? = some v) Pv h0 (fun i σ H hi w => ⟨xs, xs[i], hl i σ H (Nat.le_of_lt hi) w, by simp [hi]⟩) (fun σ H w => ⟨xs, hl _ σ H (Nat.le_refl _) w, rfl⟩)
    (fun i σ H x H1 hi w y => by
      obtain ⟨T, v, e1, e2, e3, e4⟩ := y
      exact ⟨T, v, e1, e2, e3, e4 xs (hl i σ H (Nat.le_of_lt hi) w)⟩) (fun i x σ H H1 hi w y => by
      obtain ⟨T, v, e1, rfl, rfl, e4⟩ := y
      exact hs i v T σ H e4 w e1) hd
/-! ### two names at once -/
/-! ### heaps -/
theorem same_new {H : Hp} {p : Addr} (h : H p = none) (o : HO) : Same H (upd H p o) := fun b u q => by rw [upd_ne (ne_of_none q h)]; exact q
theorem Same.upd {H H' : Hp} {p : Addr} (s : Same H H') (h : H p = none) (o : HO) : Same H (upd H' p o) := fun b u q => by rw [upd_ne (ne_of_none q h)]; exact s b u q
theorem Same.tup {K : PySem.W.Frag} {H H' : Hp} {a : Addr} {xs : List V} (e : Same H H') (h : SqT K H a xs) : SqT K H' a xs := by
  rcases h with (h | ⟨o, h⟩) | h
  · exact .inl (.inl (e _ _ h))
  · exact .inl (.inr ⟨o, e _ _ h⟩)
  · exact .inr h
theorem small {n : Nat} (h : n ≤ 1000) : n ≤ sizeLine := Nat.le_of_lt (small1000 h)
theorem atI_ints {ns : List Int} {k : Int} (h0 : 0 ≤ k) (h1 : k < (ns.length : Int)) : atI (ns.map V.int) k = some (.int (ns.getD k.toNat 0)) := by
  have hk : k.toNat < ns.length := by omega
  have e : k = ((k.toNat : Nat) : Int) := by omega
  have q : atI (ns.map V.int) ((k.toNat : Nat) : Int) = some (.int (ns.getD k.toNat 0)) := atI_nat (by rw [List.getElem?_map, List.getElem?_eq_getElem hk, List.getD_eq_getElem?_getD, List.getElem?_eq_getElem hk] <;> rfl)
  rw [← e] at q
  exact q
theorem ite_of {c : Bool} {A B : Prop} (h1 : c = true → A) (h2 : c = false → B) : if c = true then A else B := by
  cases c with
  | true => rw [if_pos rfl]; exact h1 rfl
  | false => rw [if_neg Bool.false_ne_true]; exact h2 rfl

/-! ### the numbers out of a script: within it the cell, beyond it a draw -/
noncomputable def cellN (ns : List Int) (k : Int) : Int :=
  if k < (ns.length : Int) then ns.getD k.toNat 0 else
    let n0 := if 0 < (ns.length : Int) then ns.getD ((k * 7) % (ns.length : Int)).toNat 0 * 48271 + k * 7919 else k * 7919 + 5
    let n1 := n0 * n0 % 2147483629
    (n1 + k) * (n1 + 69621) % 2147483587
noncomputable def spCell (K : PySem.W.Frag) : Sp := fun vs H Q _ => ∃ (a : Addr) (ns : List Int) (k : Int), vs = [.ref a, .int k] ∧ ScriptOk K H a ns ∧ 0 ≤ k ∧ k ≤ 1000000 ∧ Q (.int (cellN ns k)) H
theorem ScriptOk.same {K : PySem.W.Frag} {H H' : Hp} {a : Addr} {ns : List Int} (h : ScriptOk K H a ns) (s : Same H H') : ScriptOk K H' a ns := ⟨s.seq h.1, h.2⟩
structure Blt (mg : Str → Option Value) : Prop where
  len : mg "len" = none
  range : mg "range" = none
  tuple : mg "tuple" = none
  list : mg "list" = none
  int : mg "int" = none
  bool : mg "bool" = none
  str : mg "str" = none
  dict : mg "dict" = none
  sum : mg "sum" = none
  all : mg "all" = none
  min : mg "min" = none
  max : mg "max" = none
  sorted : mg "sorted" = none
  enumerate : mg "enumerate" = none
  zip : mg "zip" = none
  isinstance : mg "isinstance" = none
theorem bits_getD {ns : List Int} (h : ∀ n ∈ ns, Builtin.Int.intBits n ≤ 1048576) (i : Nat) : Builtin.Int.intBits (ns.getD i 0) ≤ 1048576 := by
  rw [List.getD_eq_getElem?_getD]
  cases e : ns[i]? with
  | none => show Builtin.Int.intBits 0 ≤ _; decide
  | some n => exact h n (List.mem_of_getElem? e)
end L2

end

section
-- KcZip
set_option Elab.async false
set_option linter.all false
set_option maxRecDepth 100000
set_option maxHeartbeats 4000000
namespace L2
open PySem PySem.Spec PyProof.Rows

/-! ### zip of two sources, its tuples unpacked -/
structure ZApart (z TI TO j1 j2 : Addr) (fp1 fp2 : List Addr) : Prop where
  a1 : TI ≠ z
  a2 : TO ≠ z
  a3 : j1 ≠ z
  a4 : j2 ≠ z
  a5 : TI ≠ TO
  a6 : TI ≠ j1
  a7 : TI ≠ j2
  a8 : TO ≠ j1
  a9 : TO ≠ j2
  b0 : j1 ≠ j2
  b1 : z ∉ fp1
  b2 : TO ∉ fp1
  b3 : j2 ∉ fp1
  b4 : z ∉ fp2
  b5 : TO ∉ fp2
  b6 : j1 ∉ fp2
section
variable {prog : Program} {w : World} {A : Around} {E : Value → Shared → Prop} {s : Shared}
theorem _root_.PySem.Draws.but {it : Addr} {fp : List Addr} {n i : Nat} {P : Nat → Value → Prop} {St : Nat → Heap → Prop} {h h' : Heap} {c : Addr} (D : Draws prog w A it fp n P St) (hst : St i h) (hs : Heap.SameBut c h h') (hc : c ∉ fp) : St i h' :=
  D.frame i _ _ hst fun b hb o e => hs.extBut b o (fun z => hc (by rw [← z]; exact hb)) e
end
noncomputable def Itz (S1 S2 : Src) (K : PySem.W.Frag) (a b : Addr) : It :=
  ⟨fun i H => ∃ xs ys x y, S1.Sq K H a xs ∧ S2.Sq K H b ys ∧ xs[i]? = some x ∧ ys[i]? = some y,
   fun i H x H' => ∃ T u v, H T = none ∧ x = .ref T ∧ H' = upd H T (.tup [u, v]) ∧ ∀ xs ys, S1.Sq K H a xs → S2.Sq K H b ys → xs[i]? = some u ∧ ys[i]? = some v,
   fun i H => ∃ xs ys, S1.Sq K H a xs ∧ S2.Sq K H b ys ∧ min xs.length ys.length = i⟩
section
variable {X : Cx} {elts : List Expr} {k0 : Nat} {tpos : Pos}
noncomputable def iZip (S1 S2 : Src) (K : PySem.W.Frag) (ta : TA) : TI := fun σ H R => ta σ H fun vs H1 => ∃ a b xs ys, vs = [.ref a, .ref b] ∧ S1.Sq K H1 a xs ∧ S2.Sq K H1 b ys ∧ R (Itz S1 S2 K a b) H1
end
end L2

end

section
-- KcMore
set_option Elab.async false
set_option linter.all false
set_option maxRecDepth 100000
set_option maxHeartbeats 4000000
namespace L2
open PySem PySem.Spec PyProof.Rows

section
variable {X : Cx}
/-! ### t + u, whatever is empty -/
noncomputable def rCatG (K : PySem.W.Frag) : R2 := fun x y H Q => ∃ a b xs ys, x = .ref a ∧ y = .ref b ∧ SqT K H a xs ∧ SqT K H b ys ∧ xs.length + ys.length ≤ sizeLine ∧
  (xs = [] → Q (.ref b) H) ∧ (xs ≠ [] → ys = [] → Q (.ref a) H) ∧ (xs ≠ [] → ys ≠ [] → ∀ p, H p = none → Q (.ref p) (upd H p (.tup (xs ++ ys))))
theorem op_catG : OpR X (binaryOp .Add) (rCatG X.K) := by
  intro pins s σ H x y v u Q I rx ry h
  obtain ⟨a, b, xs, ys, rfl, rfl, ha, hb, hz, q0, q1, q2⟩ := h
  by_cases hx : xs = []
  · cases rx
    cases ry
    obtain ⟨its, r1, p1, _⟩ := I.tuple ha
    obtain ⟨its2, r2, p2, _⟩ := I.tuple hb
    obtain ⟨⟨cls, dd, data, sl⟩, ho, hc, n, hd⟩ := id p1
    obtain ⟨⟨cls2, dd2, data2, sl2⟩, ho2, hc2, n2, hd2⟩ := id p2
    simp only at hc hd hc2 hd2
    subst hc hd hc2 hd2
    have e : its = [] := r1.nil_iff.mpr hx
    exact concat_meets ⟨_, ho, rfl⟩ ⟨_, ho2, rfl⟩ noFill_tuple_add seq_tuple_add PySem.F.slot_tuple_add PySem.F.entry_tuple_add (PySem.F.args_tuple_add_2 _ _)
      (tuple_addW0 a b its.toArray its2.toArray n n2 dd dd2 sl sl2 (by simp [e])) ⟨ho, ho2, ⟨.ref b, H, I, rfl, q0 hx⟩⟩
  · exact op_catT pins s σ H _ _ v u Q I rx ry ⟨a, b, xs, ys, rfl, rfl, ha, hb, hx, hz, q1 hx, q2 hx⟩

/-! ### t.count(x): flat items -/
theorem count_eqU {x : V} : ∀ {xs : List V} {us : List Value}, Vals xs us → xs.all flatV = true → us.countP (eqU x) = xs.countP fun y => eqV y x
  | _, _, .nil, _ => rfl
  | y :: xs, u :: us, .cons r t, f => by
    rw [List.all_cons, Bool.and_eq_true] at f
    rw [List.countP_cons, List.countP_cons, eqU_of r f.1, count_eqU t f.2]
noncomputable def tBT (r : V → List V → Hp → VK → Prop) (to : TE) (t : TA) : TE := fun σ H Q => to σ H fun x H1 => (∃ a xs, x = .ref a ∧ H1 a = some (.tup xs)) ∧ t σ H1 fun xs H2 => r x xs H2 Q
theorem pe_bt {o e : Expr} {es : List Expr} {to : TE} {t : TA} {name : Str} {apos cpos : Pos} {id : String} {r : V → List V → Hp → VK → Prop} (pa : PlainAttrs "tuple") (slot : Slot "tuple" name id) (hty : typeOf (.builtin id) = pure (.type "method_descriptor")) (hm : MtR X id r) (ho : PE X o to) (ha : PA X (e :: es) t)
    (hbase : attributeBase o name X.env (eval o X.env) = eval o X.env := by rfl)
    (hfew : ((backTo cpos (starEach (e :: es) X.env)).all (fun x => !x.1) && (backToKw cpos (keywordEach [] X.env)).all (fun x => x.1.isSome)
      && decide ((e :: es).length + ([] : List Keyword).length + (if ([] : List Keyword).isEmpty then 0 else 1) < 30)) = true := by rfl)
    (hline : (apos.endLine == cpos.line) = true := by rfl) (hs : starEach (e :: es) X.env = (false, eval e X.env) :: starEach es X.env := by rfl) (hplain : (backTo cpos (starEach es X.env)).any (·.1) = false := by rfl) :
    PE X (.Call (.Attribute o name apos) (e :: es) [] cpos) (tBT r to t) := by
  intro pins s σ H Q I h
  refine wpAny_Call_method_late hbase hfew hline rfl (thn (ho pins s σ H _ I h) fun v s1 ⟨x, H1, I1, r1, ty, q1⟩ => ?_)
  obtain ⟨a, xs, rfl, hx⟩ := ty
  cases r1
  obtain ⟨_, its, _, o', ho', hc', _, hd'⟩ := I1.hok a _ hx
  refine ⟨"tuple", id, pa, slot, hty, ⟨o', ho', hc'⟩, fun b e => ?_, ?_⟩
  · cases e
    exact ⟨o', ho', hd'⟩
  have hA := ha cpos pins s1 σ H1 _ I1 q1
  rw [hs] at hA ⊢
  refine Calls.callWith_builtin (by show (false || (backTo cpos (starEach es X.env)).any (·.1)) = false; rw [hplain] <;> rfl) (Calls.evalArgs_plain ?_)
  exact thn hA fun us s2 ⟨vs, H2, I2, r2, q2⟩ => hm pins s2 σ H2 (.ref a) vs (.ref a) us Q I2 rfl r2 q2
noncomputable def rCountT : V → List V → Hp → VK → Prop := fun x vs H Q => ∃ l xs y, x = .ref l ∧ vs = [y] ∧ H l = some (.tup xs) ∧ flatV y = true ∧ xs.all flatV = true ∧ Q (.int (xs.countP fun z => eqV z y : Nat)) H
theorem mt_countT : MtR X "tuple.count" rCountT := by
  intro pins s σ H x vs v us Q I rx rv h
  obtain ⟨l, xs, y, rfl, rfl, hH, fy, fx, q⟩ := h
  cases rx
  obtain ⟨u, rfl, ru⟩ := rv.one
  obtain ⟨_, its, r, ⟨cls, dd, data, sl⟩, ho, hc, ⟨n, hd⟩, hdd⟩ := I.hok l _ hH
  simp only at hc hd hdd
  subst hc hd hdd
  refine call_meets PySem.F.slot_tuple_count ⟨_, ho, rfl⟩ PySem.F.entry_tuple_count (PySem.F.args_tuple_count_2 _ _) (SeqAt.tuple_countAt l its.toArray n none sl u (eqU y)) ⟨ho, fun z hz => mem_eqAt ru fy r fx z (by simpa using hz), ?_⟩
  refine ⟨.int (xs.countP fun z => eqV z y : Nat), H, I.tok _, ⟨s.toks, ?_⟩, q⟩
  show Value.int ((its.toArray.toList.countP (eqU y) : Nat) : Int) s.toks = _
  rw [show its.toArray.toList = its from rfl, count_eqU r fx]

/-! ### max of a list of ints, xs.index(m) -/
end
end L2

end

section
-- KcRd
set_option Elab.async false
set_option linter.all false
set_option maxRecDepth 100000
set_option maxHeartbeats 4000000
namespace L2
open PySem
/-! ### the reading of a term, one step a row -/
section
variable {σ : St} {H : Hp} {Q : VK} {D : Ends} {K : PySem.W.Frag}
theorem r_seq {t u : TS} (h : t { nx := u D, rt := D.rt, bk := D.bk, ct := D.ct } σ H) : tSeq t u D σ H := h
theorem r_seq_n {t u : TS} (h : ∀ NX : St → Hp → Prop, (∀ σ H, u D σ H → NX σ H) → t { nx := NX, rt := D.rt, bk := D.bk, ct := D.ct } σ H) : tSeq t u D σ H := h _ fun _ _ h => h
theorem r_next (h : D.nx σ H) : tNext D σ H := h
theorem r_asg {te : TE} {g : TG} (h : te σ H fun x H1 => g x σ H1 D.nx) : tAsg te g D σ H := h
theorem r_ret {te : TE} (h : te σ H D.rt) : tRet te D σ H := h
theorem r_retN (h : D.rt .non H) : tRetN D σ H := h
theorem r_drop {te : TE} (h : te σ H fun _ H1 => D.nx σ H1) : tDrop te D σ H := h
theorem r_ifS {c : TT} {t u : TS} (h : c σ H fun b H1 => if b = true then t D σ H1 else u D σ H1) : tIfS c t u D σ H := h
theorem r_break (h : D.bk σ H) : tBreak D σ H := h
theorem r_cont (h : D.ct σ H) : tCont D σ H := h
theorem r_name {i : Nat} {v : V} {R : St → Hp → Prop} (h : R (σ.set i (some v)) H) : gName i v σ H R := h
theorem r_gsub {to ti : TE} {t : TSet} {v : V} {R : St → Hp → Prop} (h : to σ H fun o H1 => ti σ H1 fun i H2 => t o i v H2 fun H3 => R σ H3) : gSub to ti t v σ H R := h
theorem r_var {i : Nat} {v : V} (e : σ[i]? = some (some v)) (h : Q v H) : tVar i σ H Q := ⟨v, e, h⟩
theorem r_c {v : V} (h : Q v H) : tC v σ H Q := h
theorem r_op {r : R2} {ta tb : TE} (h : ta σ H fun x H1 => tb σ H1 fun y H2 => r x y H2 Q) : tOp r ta tb σ H Q := h
theorem r_un {r : V → Hp → VK → Prop} {ta : TE} (h : ta σ H fun x H1 => r x H1 Q) : tUn r ta σ H Q := h
theorem r_I0 {g : Int → Int → V} {i j : Int} (h : Q (g i j) H) : rI0 g (.int i) (.int j) H Q := ⟨i, j, rfl, rfl, h⟩
theorem r_I {C : Int → Int → Prop} {g : Int → Int → V} {i j : Int} (c : C i j) (h : Q (g i j) H) : rI C g (.int i) (.int j) H Q := ⟨i, j, rfl, rfl, c, h⟩
theorem r_U {g : Int → V} {i : Int} (h : Q (g i) H) : rU g (.int i) H Q := ⟨i, rfl, h⟩
theorem r_eqI {i j : Int} (h : Q (.bl (decide (i = j))) H) : rEq (.int i) (.int j) H Q := ⟨rfl, by rw [show decide (V.int i = V.int j) = decide (i = j) from decide_eq_decide.mpr ⟨fun e => by injection e, fun e => by rw [e]⟩]; exact h⟩
theorem r_neI {i j : Int} (h : Q (.bl (!decide (i = j))) H) : rNe (.int i) (.int j) H Q := ⟨rfl, by rw [show decide (V.int i = V.int j) = decide (i = j) from decide_eq_decide.mpr ⟨fun e => by injection e, fun e => by rw [e]⟩]; exact h⟩
theorem r_eqB {i j : Bool} (h : Q (.bl (i == j)) H) : rEq (.bl i) (.bl j) H Q := ⟨rfl, by rw [show decide (V.bl i = V.bl j) = (i == j) by cases i <;> cases j <;> rfl]; exact h⟩
theorem r_neB {i j : Bool} (h : Q (.bl (!(i == j))) H) : rNe (.bl i) (.bl j) H Q := ⟨rfl, by rw [show decide (V.bl i = V.bl j) = (i == j) by cases i <;> cases j <;> rfl]; exact h⟩
theorem r_test {t : TE} {R : Bool → Hp → Prop} (h : t σ H fun x H' => ∃ k, x = .bl k ∧ R k H') : tTest t σ H R := h
theorem r_tb {t : TE} {R : Bool → Hp → Prop} (h : t σ H fun x H' => ∃ k, x = .bl k ∧ R k H') : tB t σ H R := h
theorem r_bl {b : Bool} {R : Bool → Prop} (h : R b) : ∃ k, V.bl b = .bl k ∧ R k := ⟨b, rfl, h⟩
theorem r_and {t u : TT} {R : Bool → Hp → Prop} (h : t σ H fun c H1 => if c = true then u σ H1 R else R false H1) : tAnd t u σ H R := h
theorem r_or {t u : TT} {R : Bool → Hp → Prop} (h : t σ H fun c H1 => if c = true then R true H1 else u σ H1 R) : tOr t u σ H R := h
theorem r_not {t : TT} {R : Bool → Hp → Prop} (h : t σ H fun c H1 => R (!c) H1) : tNot t σ H R := h
theorem r_andV {ta tb : TE} (h : ta σ H fun x H1 => ∃ c, x = .bl c ∧ if c = true then tb σ H1 Q else Q (.bl false) H1) : tAndV ta tb σ H Q := h
theorem r_orV {ta tb : TE} (h : ta σ H fun x H1 => ∃ c, x = .bl c ∧ if c = true then Q (.bl true) H1 else tb σ H1 Q) : tOrV ta tb σ H Q := h
theorem r_notV {ta : TE} (h : ta σ H fun x H1 => ∃ c, x = .bl c ∧ Q (.bl (!c)) H1) : tNotV ta σ H Q := h
theorem r_if {t : TT} {ta tb : TE} (h : t σ H fun c H1 => if c = true then ta σ H1 Q else tb σ H1 Q) : tIf t ta tb σ H Q := h
theorem r_chain {r r' : R2} {ta tb tc : TE} (h : ta σ H fun x H1 => tb σ H1 fun y H2 => r x y H2 fun z H3 => ∃ k, z = .bl k ∧ (if k = true then tc σ H3 fun w' H4 => r' y w' H4 Q else Q (.bl false) H3)) : tChain r r' ta tb tc σ H Q := h
theorem r_nil {R : List V → Hp → Prop} (h : R [] H) : tNil σ H R := h
theorem r_cons {ta : TE} {tr : TA} {R : List V → Hp → Prop} (h : ta σ H fun x H1 => tr σ H1 fun xs H2 => R (x :: xs) H2) : tCons ta tr σ H R := h
theorem r_call {sp : Sp} {E : XK} {t : TA} (h : t σ H fun vs H1 => sp vs H1 Q E) : tCall sp [] E t σ H Q := by
  show t σ H fun vs H1 => sp (vs ++ []) H1 Q E
  simpa only [List.append_nil] using h
theorem r_cb {r : List V → Hp → VK → Prop} {t : TA} (h : t σ H fun vs H1 => r vs H1 Q) : tCB r t σ H Q := h
theorem r_bm {T : String} {r : V → List V → Hp → VK → Prop} {to : TE} {t : TA} (h : to σ H fun x H1 => tyV K T x H1 ∧ t σ H1 fun xs H2 => r x xs H2 Q) : tBM K T r to t σ H Q := h
theorem r_bm0 {T : String} {r : V → List V → Hp → VK → Prop} {to : TE} (h : to σ H fun x H1 => tyV K T x H1 ∧ r x [] H1 Q) : tBM0 K T r to σ H Q := h
theorem r_bt {r : V → List V → Hp → VK → Prop} {to : TE} {t : TA} (h : to σ H fun x H1 => (∃ a xs, x = .ref a ∧ H1 a = some (.tup xs)) ∧ t σ H1 fun xs H2 => r x xs H2 Q) : tBT r to t σ H Q := h
theorem r_sl {r : V → Option Int → Option Int → Hp → VK → Prop} {te : TE} {tl th : TO} (h : te σ H fun x H1 => tl σ H1 fun l H2 => th σ H2 fun u H3 => r x l u H3 Q) : tSl r te tl th σ H Q := h
theorem r_nopart {R : Option Int → Hp → Prop} (h : R none H) : tNoPart σ H R := h
theorem r_part {t : TE} {R : Option Int → Hp → Prop} (h : t σ H fun x H1 => ∃ i, x = .int i ∧ R (some i) H1) : tPart t σ H R := h
theorem r_int {i : Int} {R : Int → Prop} (h : R i) : ∃ j, V.int i = .int j ∧ R j := ⟨i, rfl, h⟩
/-! loops: their sources -/
theorem r_for {wi : TI} {g : TG} {tb : TS} (h : wi σ H fun J H1 => ∃ W : Nat → Nat → St → Hp → Prop, (∃ m, W 0 m σ H1) ∧ ∀ i m σ H, W i m σ H →
    (J.stop i H ∧ D.nx σ H) ∨ (J.go i H ∧ ∃ N : St → Hp → Prop, (∀ σ' H', N σ' H' → ∃ m', m' < m ∧ W (i + 1) m' σ' H') ∧ ∀ x H', J.yld i H x H' → g x σ H' fun σ2 H2 => tb { D with nx := N, ct := N, bk := D.nx } σ2 H2)) : tFor wi g tb D σ H := h
theorem r_comp {wi : TI} {g : CF TG} {tt : CF TT} {te : CF TE} {ix : List (Option Nat)} (h : wi σ H fun J H1 => ∀ p, H1 p = none →
    ∃ W : Nat → Nat → List V → Hp → Prop, (∃ m, W 0 m [] (upd H1 p (.lst []))) ∧ ∀ C s' H' fp, CompBody J (g C s' H' fp) (tt C s' H' fp) (te C s' H' fp) (sub ix σ) p Q W) : tComp wi g tt te ix σ H Q := h
section
variable {R : It → Hp → Prop}
theorem r_iList {tl : TE} (h : tl σ H fun x H1 => ∃ a, x = .ref a ∧ (∃ xs, SqL K H1 a xs) ∧ R (Itl K a) H1) : iList K tl σ H R := h
theorem r_iTup {tl : TE} (h : tl σ H fun x H1 => ∃ a, x = .ref a ∧ (∃ xs, SqT K H1 a xs) ∧ R (Itt K a) H1) : iTup K tl σ H R := h
theorem r_iRng1 {ta : TA} (h : ta σ H fun vs H1 => ∃ j : Int, vs = [.int j] ∧ -(2 ^ 62) ≤ j ∧ j < 2 ^ 62 ∧ R (Itr 0 j.toNat) H1) : iRng1 ta σ H R := h
theorem r_iRng2 {ta : TA} (h : ta σ H fun vs H1 => ∃ i j : Int, vs = [.int i, .int j] ∧ (-(2 ^ 62) ≤ i ∧ i < 2 ^ 62 ∧ -(2 ^ 62) ≤ j ∧ j < 2 ^ 62) ∧ R (Itr i (j - i).toNat) H1) : iRng2 ta σ H R := h
theorem r_iEnum {S : Src} {ta : TA} (h : ta σ H fun vs H1 => ∃ a xs, vs = [.ref a] ∧ S.Sq K H1 a xs ∧ R (Ite S K a) H1) : iEnum S K ta σ H R := h
theorem r_iZip {S1 S2 : Src} {ta : TA} (h : ta σ H fun vs H1 => ∃ a b xs ys, vs = [.ref a, .ref b] ∧ S1.Sq K H1 a xs ∧ S2.Sq K H1 b ys ∧ R (Itz S1 S2 K a b) H1) : iZip S1 S2 K ta σ H R := h
end
/-! the heap -/
noncomputable def Off (l : Addr) (H H' : Hp) : Prop := ∀ b, b ≠ l → H' b = H b
theorem off_upd {l : Addr} {o : HO} : Off l H (upd H l o) := fun b hb => upd_ne hb
theorem Same.off {H0 H' : Hp} {l : Addr} (s : Same H0 H) (h : H0 l = none) (o : Off l H H') : Same H0 H' := fun b u q => by rw [o b (ne_of_none q h)]; exact s b u q
noncomputable def Keep (H H' : Hp) : Prop := ∀ b xs, H b = some (.tup xs) → H' b = some (.tup xs)
theorem Keep.refl (H : Hp) : Keep H H := fun _ _ h => h
theorem Same.keep {H' : Hp} (s : Same H H') : Keep H H' := fun b _ h => s b _ h
theorem Keep.trans {H1 H2 : Hp} (a : Keep H H1) (b : Keep H1 H2) : Keep H H2 := fun c o h => b c o (a c o h)
theorem Off.keep {H' : Hp} {l : Addr} {xs : List V} (o : Off l H H') (e : H l = some (.lst xs)) : Keep H H' := fun b ys q => by
  rw [o b (ne_of q e (by intro z; cases z))]
  exact q
theorem r_tup0 {t : TA} (h : t σ H fun xs H1 => xs.length ≤ sizeLine ∧ ∀ p, H1 p = none → Q (.ref p) (upd H1 p (.tup xs))) : tTup t σ H Q := h
theorem r_lst0 {t : TA} (h : t σ H fun xs H1 => xs.length ≤ sizeLine ∧ ∀ p, H1 p = none → Q (.ref p) (upd H1 p (.lst xs))) : tLst t σ H Q := h
theorem r_append {l : Addr} {xs : List V} {y : V} (e : H l = some (.lst xs)) (hz : xs.length < sizeLine) (h : ∀ H', Off l H H' → H' l = some (.lst (xs ++ [y])) → Q .non H') : rAppend (.ref l) [y] H Q := ⟨l, xs, y, rfl, rfl, e, hz, h _ off_upd upd_same⟩
theorem r_tyL {l : Addr} {xs : List V} (e : H l = some (.lst xs)) : tyV K "list" (.ref l) H := .inl ⟨rfl, xs, SqL.of e⟩
theorem r_ixL {l : Addr} {xs : List V} {i : Int} {v : V} (e : SqL K H l xs) (hv : atI xs i = some v) (h : Q v H) : rIxL K (.ref l) (.int i) H Q := ⟨l, xs, i, v, rfl, rfl, e, hv, h⟩
end
/-! ### tests -/
theorem ite_dec {p A B : Prop} [Decidable p] (h1 : p → A) (h2 : ¬ p → B) : if decide p = true then A else B := by
  by_cases h : p
  · rw [if_pos (decide_eq_true h)]; exact h1 h
  · rw [if_neg (by rw [decide_eq_false h]; exact Bool.false_ne_true)]; exact h2 h
theorem iteNT {A B : Prop} (h : B) : if (!true) = true then A else B := by exact iteF h
theorem iteNF {A B : Prop} (h : A) : if (!false) = true then A else B := by exact iteT h
theorem r_always {σ : St} {H : Hp} {R : Bool → Hp → Prop} (h : R true H) : tAlways σ H R := h
/-! ### the calls of built-ins, by their names -/
noncomputable def cLen (K : PySem.W.Frag) : List V → Hp → VK → Prop := fun xs H Q => ∃ p ys, xs = [.ref p] ∧ (SqL K H p ys ∨ SqT K H p ys) ∧ Q (.int ys.length) H
noncomputable def cSum (K : PySem.W.Frag) : List V → Hp → VK → Prop := fun xs H Q => ∃ (p : Addr) (ns : List Int), xs = [.ref p] ∧ SqL K H p (ns.map V.int) ∧ Q (.int ns.sum) H
noncomputable def cAll (K : PySem.W.Frag) : List V → Hp → VK → Prop := fun xs H Q => ∃ (p : Addr) (bs : List Bool), xs = [.ref p] ∧ SqL K H p (bs.map V.bl) ∧ Q (.bl (bs.all id)) H
noncomputable def cMin2 : List V → Hp → VK → Prop := fun xs H Q => ∃ i j, xs = [.int i, .int j] ∧ Q (.int (if j < i then j else i)) H
noncomputable def cMax2 : List V → Hp → VK → Prop := fun xs H Q => ∃ i j, xs = [.int i, .int j] ∧ Q (.int (if j > i then j else i)) H
noncomputable def cInt : List V → Hp → VK → Prop := fun xs H Q => (∃ i, xs = [.int i] ∧ Q (.int i) H) ∨ ∃ k, xs = [.bl k] ∧ Q (.int (if k then 1 else 0)) H
section
variable {K : PySem.W.Frag} {H : Hp} {Q : VK}
theorem r_len {l : Addr} {ys : List V} (e : SqL K H l ys) (h : Q (.int ys.length) H) : cLen K [.ref l] H Q := ⟨l, ys, rfl, .inl e, h⟩
theorem r_lenTu {l : Addr} {ys : List V} (e : SqT K H l ys) (h : Q (.int ys.length) H) : cLen K [.ref l] H Q := ⟨l, ys, rfl, .inr e, h⟩
theorem r_sum {l : Addr} {ns : List Int} (e : SqL K H l (ns.map V.int)) (h : Q (.int ns.sum) H) : cSum K [.ref l] H Q := ⟨l, ns, rfl, e, h⟩
theorem r_min2 {i j : Int} (h : Q (.int (if j < i then j else i)) H) : cMin2 [.int i, .int j] H Q := ⟨i, j, rfl, h⟩
theorem r_max2 {i j : Int} (h : Q (.int (if j > i then j else i)) H) : cMax2 [.int i, .int j] H Q := ⟨i, j, rfl, h⟩
theorem r_intI {i : Int} (h : Q (.int i) H) : cInt [.int i] H Q := .inl ⟨i, rfl, h⟩
theorem r_intB {k : Bool} (h : Q (.int (if k then 1 else 0)) H) : cInt [.bl k] H Q := .inr ⟨k, rfl, h⟩
end
/-! ### new things: any heap that has one more -/
noncomputable def New (H : Hp) (o : HO) (Q : Addr → Hp → Prop) : Prop := ∀ p H', H p = none → Same H H' → H' p = some o → Q p H'
theorem New.upd {H : Hp} {o : HO} {Q : Addr → Hp → Prop} (h : New H o Q) : ∀ p, H p = none → Q p (upd H p o) := fun p hp => h p _ hp (same_new hp _) upd_same
noncomputable def mTup (t : TA) : TE := fun σ H Q => t σ H fun xs H1 => xs.length ≤ sizeLine ∧ New H1 (.tup xs) fun p H2 => Q (.ref p) H2
noncomputable def mLst (t : TA) : TE := fun σ H Q => t σ H fun xs H1 => xs.length ≤ sizeLine ∧ New H1 (.lst xs) fun p H2 => Q (.ref p) H2
noncomputable def mCat : R2 := fun x y H Q => ∃ l b xs zs, x = .ref l ∧ y = .ref b ∧ H l = some (.lst xs) ∧ H b = some (.lst zs) ∧ xs.length + zs.length ≤ sizeLine ∧ New H (.lst (xs ++ zs)) fun p H2 => Q (.ref p) H2
noncomputable def mRep : R2 := fun x y H Q => ∃ l k xs, x = .ref l ∧ y = .int k ∧ H l = some (.lst xs) ∧ -(2 ^ 63) ≤ k ∧ k < 2 ^ 63 ∧ xs.length * k.toNat ≤ sizeLine ∧ New H (.lst (List.replicate k.toNat xs).flatten) fun p H2 => Q (.ref p) H2
noncomputable def mCList (K : PySem.W.Frag) : List V → Hp → VK → Prop := fun xs H Q => ∃ p ys, xs = [.ref p] ∧ (SqL K H p ys ∨ SqT K H p ys) ∧ New H (.lst ys) fun l H2 => Q (.ref l) H2
noncomputable def mCTuple (K : PySem.W.Frag) : List V → Hp → VK → Prop := fun xs H Q => ∃ p ys, xs = [.ref p] ∧ SqL K H p ys ∧ New H (.tup ys) fun l H2 => Q (.ref l) H2
noncomputable def mSlL (K : PySem.W.Frag) : V → Option Int → Option Int → Hp → VK → Prop := fun x lo hi H Q => ∃ a xs, x = .ref a ∧ SqL K H a xs ∧ New H (.lst (cutV xs lo hi)) fun p H2 => Q (.ref p) H2
section
variable {σ : St} {H : Hp} {Q : VK} {K : PySem.W.Frag}
theorem m_tup {t : TA} (h : t σ H fun xs H1 => xs.length ≤ sizeLine ∧ New H1 (.tup xs) fun p H2 => Q (.ref p) H2) : mTup t σ H Q := h
theorem m_lst {t : TA} (h : t σ H fun xs H1 => xs.length ≤ sizeLine ∧ New H1 (.lst xs) fun p H2 => Q (.ref p) H2) : mLst t σ H Q := h
theorem m_cat {l b : Addr} {xs zs : List V} (h1 : H l = some (.lst xs)) (h2 : H b = some (.lst zs)) (hz : xs.length + zs.length ≤ sizeLine) (h : ∀ p H', H p = none → Same H H' → H' p = some (.lst (xs ++ zs)) → Q (.ref p) H') : mCat (.ref l) (.ref b) H Q := ⟨l, b, xs, zs, rfl, rfl, h1, h2, hz, h⟩
theorem m_list {p : Addr} {ys : List V} (e : SqL K H p ys) (h : ∀ l H', H l = none → Same H H' → H' l = some (.lst ys) → Q (.ref l) H') : mCList K [.ref p] H Q := ⟨p, ys, rfl, .inl e, h⟩
theorem m_tuple {p : Addr} {ys : List V} (e : SqL K H p ys) (h : ∀ l H', H l = none → Same H H' → H' l = some (.tup ys) → Q (.ref l) H') : mCTuple K [.ref p] H Q := ⟨p, ys, rfl, e, h⟩
theorem m_slL {a : Addr} {xs : List V} {lo hi : Option Int} (e : SqL K H a xs) (h : ∀ p H', H p = none → Same H H' → H' p = some (.lst (cutV xs lo hi)) → Q (.ref p) H') : mSlL K (.ref a) lo hi H Q := ⟨a, xs, rfl, e, h⟩
end
/-! ### loops, as the reading leaves them -/
section
variable {g : TG} {tb : TS} {NX : St → Hp → Prop} {RT : VK} {σ : St} {H : Hp} {K : PySem.W.Frag}
theorem lp_range {j : Int} (n : Nat) (hn : j.toNat = n) (hj : j ≤ 1000000000) (hj0 : -1000000000 ≤ j) (Pv : Nat → St → Hp → Prop) (h0 : Pv 0 σ H) (hs : ∀ i σ H, i < n → Pv i σ H → g (.int i) σ H fun σ2 H2 => tb { nx := Pv (i + 1), rt := RT, bk := NX, ct := Pv (i + 1) } σ2 H2) (hd : ∀ σ H, Pv n σ H → NX σ H) :
    ∃ j' : Int, [V.int j] = [.int j'] ∧ -(2 ^ 62) ≤ j' ∧ j' < 2 ^ 62 ∧ ∃ W : Nat → Nat → St → Hp → Prop, (∃ m, W 0 m σ H) ∧ ∀ i m σ H, W i m σ H →
      ((Itr 0 j'.toNat).stop i H ∧ NX σ H) ∨ ((Itr 0 j'.toNat).go i H ∧ ∃ N : St → Hp → Prop, (∀ σ' H', N σ' H' → ∃ m', m' < m ∧ W (i + 1) m' σ' H') ∧ ∀ x H', (Itr 0 j'.toNat).yld i H x H' → g x σ H' fun σ2 H2 => tb { nx := N, rt := RT, bk := NX, ct := N } σ2 H2) := by
  refine ⟨j, rfl, by omega, by omega, ?_⟩
  subst hn
  exact for_range (lo := 0) (D := { nx := NX, rt := RT }) Pv h0 (fun i σ H hi p => by rw [Int.zero_add]; exact hs i σ H hi p) hd
theorem lp_list {a : Addr} (xs : List V) (hx : SqL K H a xs) (Pv : Nat → St → Hp → Prop) (h0 : Pv 0 σ H) (hl : ∀ i σ H, i ≤ xs.length → Pv i σ H → SqL K H a xs) (hs : ∀ i x σ H, xs[i]? = some x → Pv i σ H → g x σ H fun σ2 H2 => tb { nx := Pv (i + 1), rt := RT, bk := NX, ct := Pv (i + 1) } σ2 H2) (hd : ∀ σ H, Pv xs.length σ H → NX σ H) :
    ∃ a', V.ref a = .ref a' ∧ (∃ xs, SqL K H a' xs) ∧ ∃ W : Nat → Nat → St → Hp → Prop, (∃ m, W 0 m σ H) ∧ ∀ i m σ H, W i m σ H →
      ((Itl K a').stop i H ∧ NX σ H) ∨ ((Itl K a').go i H ∧ ∃ N : St → Hp → Prop, (∀ σ' H', N σ' H' → ∃ m', m' < m ∧ W (i + 1) m' σ' H') ∧ ∀ x H', (Itl K a').yld i H x H' → g x σ H' fun σ2 H2 => tb { nx := N, rt := RT, bk := NX, ct := N } σ2 H2) :=
  ⟨a, rfl, ⟨xs, hx⟩, for_list (D := { nx := NX, rt := RT }) Pv h0 hl hs hd⟩
end
theorem at2 (x y : V) (k : Int) : atI [x, y] (k % 2) = some (if k % 2 = 0 then x else y) := by
  have h : k % 2 = 0 ∨ k % 2 = 1 := by omega
  rcases h with h | h <;> rw [h] <;> rfl
/-! two names at once -/
theorem g_pair {K : PySem.W.Frag} {i j : Nat} {a : Addr} {x y : V} {σ : St} {H : Hp} {R : St → Hp → Prop} (e : SqT K H a [x, y]) (h : R ((σ.set i (some x)).set j (some y)) H) : gTup K 2 (gCons (gName i) (gCons (gName j) gNil)) (.ref a) σ H R :=
  ⟨a, [x, y], rfl, e, rfl, x, [y], rfl, y, [], rfl, rfl, h⟩
/-! ### comprehensions, as the reading leaves them -/
section
variable {g : CF TG} {tt : CF TT} {te : CF TE} {σ₀ : St} {Q : VK} {H : Hp} {K : PySem.W.Frag}
end
/-! ### zip -/
section
variable {g : TG} {tb : TS} {NX : St → Hp → Prop} {RT : VK} {σ : St} {H : Hp} {K : PySem.W.Frag}
end
/-! ### lists of ints compared -/
section
variable {K : PySem.W.Frag} {H : Hp} {Q : VK} {a b : Addr} {ns ms : List Int}
theorem r_isi {x : V} {T : String} {t : Value} {c : Bool} (ty : TyOf K H x t) (e : PySem.W.kitOne K t (.type T) = some c) (h : Q (.bl c) H) : rIsi K [x, .ty T] H Q := ⟨x, T, t, c, rfl, ty, e, h⟩
end
/-! ### comprehensions over pairs; slices of tuples; texts -/
section
variable {g : CF TG} {tt : CF TT} {te : CF TE} {σ₀ : St} {Q : VK} {H : Hp} {K : PySem.W.Frag}
theorem r_eqS {x y : Str} (h : Q (.bl (decide (x = y))) H) : rEq (.str x) (.str y) H Q := ⟨rfl, by rw [show decide (V.str x = V.str y) = decide (x = y) from decide_eq_decide.mpr ⟨fun e => by injection e, fun e => by rw [e]⟩]; exact h⟩
theorem r_neS {x y : Str} (h : Q (.bl (!decide (x = y))) H) : rNe (.str x) (.str y) H Q := ⟨rfl, by rw [show decide (V.str x = V.str y) = decide (x = y) from decide_eq_decide.mpr ⟨fun e => by injection e, fun e => by rw [e]⟩]; exact h⟩
end
/-! ### pop, extend; three names at once -/
section
variable {H : Hp} {Q : VK} {K : PySem.W.Frag}
end
/-! ### is not, of truths; != of one thing and itself -/
noncomputable def rIsnB : R2 := fun x y H Q => ∃ a b, x = .bl a ∧ y = .bl b ∧ Q (.bl (!(a == b))) H
theorem r_isnB {a b : Bool} {H : Hp} {Q : VK} (h : Q (.bl (!(a == b))) H) : rIsnB (.bl a) (.bl b) H Q := ⟨a, b, rfl, rfl, h⟩
end L2

end
local macro_rules | `(tactic| walk_at "rb1") => `(tactic| first
  | ((with_reducible refine' L2.r_var (v := ?v) ?e ?h); (case e => exact rfl))
  | (with_reducible first | refine L2.r_next ?_ | refine L2.r_asg ?_ | refine L2.r_ret ?_ | refine L2.r_retN ?_ | refine L2.r_drop ?_ | refine L2.r_break ?_ | refine L2.r_cont ?_ | refine L2.r_name ?_ | refine L2.r_gsub ?_ | refine L2.r_c ?_ | refine L2.r_op ?_ | refine L2.r_un ?_ | refine L2.r_I0 ?_ | refine L2.r_U ?_ | refine L2.r_eqI ?_ | refine L2.r_neI ?_ | refine L2.r_eqS ?_ | refine L2.r_neS ?_ | refine L2.r_eqB ?_ | refine L2.r_neB ?_ | refine L2.r_isnB ?_ | refine L2.r_test ?_ | refine L2.r_tb ?_ | refine L2.r_bl ?_ | refine L2.r_int ?_ | refine L2.r_and ?_ | refine L2.r_or ?_ | refine L2.r_not ?_ | refine L2.r_andV ?_ | refine L2.r_orV ?_ | refine L2.r_notV ?_ | refine L2.r_if ?_ | refine L2.r_chain ?_ | refine L2.r_nil ?_ | refine L2.r_cons ?_ | refine L2.r_call ?_ | refine L2.r_cb ?_ | refine L2.r_bm ?_ | refine L2.r_bm0 ?_ | refine L2.r_bt ?_ | refine L2.r_sl ?_ | refine L2.r_nopart ?_ | refine L2.r_part ?_ | refine L2.r_for ?_ | refine L2.r_comp ?_ | refine L2.r_iList ?_ | refine L2.r_iTup ?_ | refine L2.r_iRng1 ?_ | refine L2.r_iRng2 ?_ | refine L2.r_iEnum ?_ | refine L2.r_iZip ?_ | refine L2.r_tup0 ?_ | refine L2.r_lst0 ?_ | refine L2.m_tup ?_ | refine L2.m_lst ?_ | refine L2.r_min2 ?_ | refine L2.r_max2 ?_ | refine L2.r_intI ?_ | refine L2.r_intB ?_ | refine L2.iteT ?_ | refine L2.iteF ?_ | refine L2.iteNT ?_ | refine L2.iteNF ?_ | refine L2.r_always ?_)
  | ((with_reducible refine L2.r_I ?_ ?_); (first | (show (0 : Int) < _; omega) | (show (0 : Int) < _; decide) | exact ⟨by decide, by decide, by decide⟩ | exact And.intro (by omega) (by omega) | exact (PySem.IntMulOk.of_right (PySem.intBits_le_64 (by omega) (by omega))) | exact (PySem.IntMulOk.of_left (PySem.intBits_le_64 (by omega) (by omega)))))
  | ((with_reducible refine' L2.r_len (ys := ?y) ?e ?h); (case e => first | assumption | exact L2.SqL.of (by assumption)))
  | ((with_reducible refine' L2.r_lenTu (ys := ?y) ?e ?h); (case e => first | assumption | exact L2.SqT.of (by assumption)))
  | dsimp only [List.set_cons_zero, List.set_cons_succ, L2.sub, List.map_cons, List.map_nil, List.getElem?_cons_zero, List.getElem?_cons_succ])
local macro_rules | `(tactic| walk_at "rd") => `(tactic| repeat (first | (with_reducible first | refine L2.r_seq ?_ | refine L2.r_ifS ?_) | walk_at "rb1"))
local macro_rules | `(tactic| walk_at "rs") => `(tactic| repeat (first | (with_reducible refine L2.r_ifS ?_) | walk_at "rb1"))
local macro_rules | `(tactic| walk_at "ra") => `(tactic| repeat (walk_at "rb1"))

section
-- KcMath
set_option linter.all false
namespace KM
noncomputable def fact : Nat → Nat
  | 0 => 1
  | n + 1 => fact n * (n + 1)
noncomputable def choose : Nat → Nat → Nat
  | _, 0 => 1
  | 0, _ + 1 => 0
  | n + 1, k + 1 => choose n k + choose n (k + 1)
theorem fact_pos : ∀ n, 0 < fact n
  | 0 => by decide
  | n + 1 => Nat.mul_pos (fact_pos n) (Nat.succ_pos n)
theorem choose_zero (n : Nat) : choose n 0 = 1 := by cases n <;> rfl
theorem choose_gt : ∀ (n k : Nat), n < k → choose n k = 0
  | _, 0, h => absurd h (Nat.not_lt_zero _)
  | 0, _ + 1, _ => rfl
  | n + 1, k + 1, h => by rw [choose, choose_gt n k (by omega), choose_gt n (k + 1) (by omega)]
theorem choose_self : ∀ n, choose n n = 1
  | 0 => rfl
  | n + 1 => by rw [choose, choose_self n, choose_gt n (n + 1) (by omega)]
theorem choose_fact : ∀ (n k : Nat), k ≤ n → choose n k * (fact k * fact (n - k)) = fact n
  | n, 0, _ => by rw [choose_zero, fact, Nat.sub_zero, Nat.one_mul, Nat.one_mul]
  | 0, _ + 1, h => absurd h (by omega)
  | n + 1, k + 1, h => by
    rw [choose, Nat.add_mul]
    by_cases hk : k = n
    · subst hk
      rw [choose_self, choose_gt k (k + 1) (by omega), Nat.sub_self]
      simp [fact]
    · have hk' : k + 1 ≤ n := by omega
      have e1 := choose_fact n k (by omega)
      have e2 := choose_fact n (k + 1) hk'
      have s1 : n + 1 - (k + 1) = n - k := by omega
      have s2 : n - k = (n - (k + 1)) + 1 := by omega
      rw [s1]
      have a1 : choose n k * (fact (k + 1) * fact (n - k)) = (k + 1) * fact n := by
        rw [← e1, fact]
        simp only [Nat.mul_assoc, Nat.mul_comm, Nat.mul_left_comm]
      have a2 : choose n (k + 1) * (fact (k + 1) * fact (n - k)) = (n - k) * fact n := by
        have s3 : fact (n - k) = fact (n - (k + 1)) * (n - k) := by
          rw [s2, fact, ← s2]
        rw [← e2, s3]
        simp only [Nat.mul_assoc, Nat.mul_comm, Nat.mul_left_comm]
      rw [a1, a2, ← Nat.add_mul, fact, Nat.mul_comm]
      congr 1
      omega
theorem choose_step (n k : Nat) (h : k + 1 ≤ n) : choose n k * (n - k) / (k + 1) = choose n (k + 1) := by
  have e1 := choose_fact n k (by omega)
  have e2 := choose_fact n (k + 1) h
  have s2 : n - k = (n - (k + 1)) + 1 := by omega
  have p : 0 < fact k * fact (n - (k + 1)) := Nat.mul_pos (fact_pos _) (fact_pos _)
  have q : choose n k * (n - k) = choose n (k + 1) * (k + 1) := by
    have : choose n k * (n - k) * (fact k * fact (n - (k + 1))) = choose n (k + 1) * (k + 1) * (fact k * fact (n - (k + 1))) := by
      have l : choose n k * (n - k) * (fact k * fact (n - (k + 1))) = fact n := by
        rw [← e1, show fact (n - k) = fact (n - (k + 1)) * (n - k) by rw [s2, fact, ← s2]]
        simp only [Nat.mul_assoc, Nat.mul_comm, Nat.mul_left_comm]
      have r : choose n (k + 1) * (k + 1) * (fact k * fact (n - (k + 1))) = fact n := by
        rw [← e2, fact]
        simp only [Nat.mul_assoc, Nat.mul_comm, Nat.mul_left_comm]
      rw [l, r]
    exact Nat.eq_of_mul_eq_mul_right p this
  rw [q, Nat.mul_div_cancel _ (Nat.succ_pos k)]
noncomputable def multi : Nat → List Nat → Nat
  | _, [] => 1
  | n, s :: r => choose n s * multi (n - s) r
theorem multi_fact : ∀ (ss : List Nat) (n : Nat), ss.sum ≤ n → multi n ss * ((ss.map fact).foldr (· * ·) 1 * fact (n - ss.sum)) = fact n
  | [], n, _ => by simp [multi]
  | s :: r, n, h => by
    rw [List.sum_cons] at h
    have ih := multi_fact r (n - s) (by omega)
    have c := choose_fact n s (by omega)
    rw [multi, List.map_cons, List.foldr_cons, List.sum_cons, ← c, ← ih, Nat.sub_sub]
    simp only [Nat.mul_assoc, Nat.mul_comm, Nat.mul_left_comm]
end KM

end

section
-- KcDeal
set_option linter.all false
namespace KM
/-! ### deals, built card by card -/
noncomputable def nexts (room : List Nat) (w : List Nat) : List Nat := (List.range room.length).filter fun j => decide (w.count j < room.getD j 0)
noncomputable def grow (room : List Nat) (ws : List (List Nat)) : List (List Nat) := ws.flatMap fun w => (nexts room w).map fun j => w ++ [j]
noncomputable def level (room : List Nat) : Nat → List (List Nat)
  | 0 => [[]]
  | i + 1 => grow room (level room i)
noncomputable def words : Nat → List Nat → Nat
  | 0, _ => 1
  | n + 1, r => (((List.range r.length).filter fun j => decide (0 < r.getD j 0)).map fun j => words n (r.set j (r.getD j 0 - 1))).sum
noncomputable def left (room w : List Nat) : List Nat := (List.range room.length).map fun j => room.getD j 0 - w.count j
theorem left_len (room w : List Nat) : (left room w).length = room.length := by unfold left; rw [List.length_map, List.length_range]
theorem left_get (room w : List Nat) (j : Nat) (h : j < room.length) : (left room w).getD j 0 = room.getD j 0 - w.count j := by
  unfold left
  rw [List.getD_eq_getElem?_getD, List.getElem?_map, List.getElem?_range h]
  rfl
theorem left_snoc (room w : List Nat) (j : Nat) (h : j < room.length) : left room (w ++ [j]) = (left room w).set j ((left room w).getD j 0 - 1) := by
  apply List.ext_getElem?
  intro k
  by_cases hk : k < room.length
  · have e1 : (left room (w ++ [j]))[k]? = some (room.getD k 0 - (w ++ [j]).count k) := by
      unfold left
      rw [List.getElem?_map, List.getElem?_range hk]
      rfl
    rw [e1, List.getElem?_set, left_get room w j h, left_len]
    by_cases hjk : j = k
    · subst hjk
      rw [if_pos rfl, if_pos h, List.count_append]
      simp
      omega
    · rw [if_neg hjk]
      unfold left
      rw [List.getElem?_map, List.getElem?_range hk, List.count_append]
      simp [List.count_cons, hjk]
  · rw [List.getElem?_eq_none (by rw [left_len]; omega), List.getElem?_eq_none (by rw [List.length_set, left_len]; omega)]
theorem nexts_left (room w : List Nat) : nexts room w = (List.range (left room w).length).filter fun j => decide (0 < (left room w).getD j 0) := by
  unfold nexts
  rw [left_len]
  apply List.filter_congr
  intro j hj
  rw [List.mem_range] at hj
  rw [left_get room w j hj]
  by_cases h : w.count j < room.getD j 0
  · simp [h]
    omega
  · simp [h]
    omega
noncomputable def growN (room : List Nat) : Nat → List (List Nat) → List (List Nat)
  | 0, ws => ws
  | n + 1, ws => growN room n (grow room ws)
theorem growN_level (room : List Nat) : ∀ n i, growN room n (level room i) = level room (i + n)
  | 0, i => rfl
  | n + 1, i => by
    rw [growN, show grow room (level room i) = level room (i + 1) from rfl, growN_level room n (i + 1)]
    congr 1
    omega
theorem sum_flatMap_len (f : List Nat → Nat) (room : List Nat) : ∀ ws : List (List Nat), ((grow room ws).map f).sum = (ws.map fun w => ((nexts room w).map fun j => f (w ++ [j])).sum).sum
  | [] => rfl
  | w :: r => by
    have ih := sum_flatMap_len f room r
    unfold grow at ih ⊢
    rw [List.flatMap_cons, List.map_append, List.sum_append, ih, List.map_cons, List.sum_cons, List.map_map]
    rfl
theorem growN_len (room : List Nat) : ∀ (n : Nat) (ws : List (List Nat)), (growN room n ws).length = (ws.map fun w => words n (left room w)).sum
  | 0, ws => by
    rw [growN]
    induction ws with
    | nil => rfl
    | cons w r ih => rw [List.length_cons, ih, List.map_cons, List.sum_cons, words]; omega
  | n + 1, ws => by
    rw [growN, growN_len room n, sum_flatMap_len]
    congr 1
    apply List.map_congr_left
    intro w _
    rw [words, nexts_left]
    congr 1
    apply List.map_congr_left
    intro j hj
    have hj' := List.mem_filter.mp hj
    rw [List.mem_range, left_len] at hj'
    rw [left_snoc room w j hj'.1]
/-! the words are counted by the factorials -/
noncomputable def prodF (r : List Nat) : Nat := (r.map fact).foldr (· * ·) 1
theorem prodF_cons (a : Nat) (r : List Nat) : prodF (a :: r) = fact a * prodF r := rfl
theorem prodF_pos : ∀ r, 0 < prodF r
  | [] => by decide
  | a :: r => Nat.mul_pos (fact_pos a) (prodF_pos r)
theorem prodF_set : ∀ (r : List Nat) (j : Nat), j < r.length → 0 < r.getD j 0 → prodF r = prodF (r.set j (r.getD j 0 - 1)) * r.getD j 0
  | [], j, h, _ => absurd h (by simp)
  | a :: r, 0, _, h => by
    have h' : 0 < a := h
    show prodF (a :: r) = prodF ((a - 1) :: r) * a
    rw [prodF_cons, prodF_cons]
    obtain ⟨b, rfl⟩ : ∃ b, a = b + 1 := ⟨a - 1, by omega⟩
    rw [show b + 1 - 1 = b by omega, fact]
    simp only [Nat.mul_assoc, Nat.mul_comm, Nat.mul_left_comm]
  | a :: r, j + 1, h, hp => by
    have ih := prodF_set r j (by simpa using h) hp
    show prodF (a :: r) = prodF (a :: r.set j (r.getD j 0 - 1)) * r.getD j 0
    rw [prodF_cons, prodF_cons, ih]
    simp only [Nat.mul_assoc, Nat.mul_comm, Nat.mul_left_comm]
theorem sum_set : ∀ (r : List Nat) (j : Nat), j < r.length → 0 < r.getD j 0 → (r.set j (r.getD j 0 - 1)).sum + 1 = r.sum
  | [], j, h, _ => absurd h (by simp)
  | a :: r, 0, _, h => by
    have h' : 0 < a := h
    show ((a - 1) :: r).sum + 1 = (a :: r).sum
    rw [List.sum_cons, List.sum_cons]
    omega
  | a :: r, j + 1, h, hp => by
    have ih := sum_set r j (by simpa using h) hp
    show (a :: r.set j (r.getD j 0 - 1)).sum + 1 = (a :: r).sum
    rw [List.sum_cons, List.sum_cons]
    omega
theorem sum_mul (c : Nat) (f : Nat → Nat) : ∀ l : List Nat, (l.map f).sum * c = (l.map fun j => f j * c).sum
  | [] => by simp
  | a :: r => by rw [List.map_cons, List.sum_cons, Nat.add_mul, sum_mul c f r, List.map_cons, List.sum_cons]
theorem sum_pos_only (r : List Nat) : (((List.range r.length).filter fun j => decide (0 < r.getD j 0)).map fun j => r.getD j 0).sum = r.sum := by
  have go : ∀ (l : List Nat) (g : Nat → Nat), ((l.filter fun j => decide (0 < g j)).map g).sum = (l.map g).sum := by
    intro l g
    induction l with
    | nil => rfl
    | cons a t ih =>
      rw [List.filter_cons]
      by_cases h : 0 < g a
      · rw [if_pos (by simpa using h), List.map_cons, List.sum_cons, ih, List.map_cons, List.sum_cons]
      · rw [if_neg (by simpa using h), ih, List.map_cons, List.sum_cons]
        omega
  rw [go]
  congr 1
  apply List.ext_getElem?
  intro k
  rw [List.getElem?_map]
  by_cases hk : k < r.length
  · rw [List.getElem?_range hk, List.getElem?_eq_getElem hk]
    show some (r.getD k 0) = some r[k]
    rw [List.getD_eq_getElem?_getD, List.getElem?_eq_getElem hk]
    rfl
  · rw [List.getElem?_eq_none (by simpa using hk), List.getElem?_eq_none (by simpa using hk)]
    rfl
theorem words_fact : ∀ (n : Nat) (r : List Nat), r.sum = n → words n r * prodF r = fact n
  | 0, r, h => by
    have : prodF r = 1 := by
      induction r with
      | nil => rfl
      | cons a t ih =>
        rw [List.sum_cons] at h
        have ha : a = 0 := by omega
        subst ha
        rw [prodF_cons, ih (by omega)]
        rfl
    rw [words, this]
    rfl
  | n + 1, r, h => by
    rw [words, sum_mul]
    have e : ((List.range r.length).filter fun j => decide (0 < r.getD j 0)).map (fun j => words n (r.set j (r.getD j 0 - 1)) * prodF r) = ((List.range r.length).filter fun j => decide (0 < r.getD j 0)).map (fun j => r.getD j 0 * fact n) := by
      apply List.map_congr_left
      intro j hj
      have hj' := List.mem_filter.mp hj
      rw [List.mem_range] at hj'
      have hp : 0 < r.getD j 0 := of_decide_eq_true hj'.2
      rw [prodF_set r j hj'.1 hp, ← Nat.mul_assoc, words_fact n _ (by have := sum_set r j hj'.1 hp; omega), Nat.mul_comm]
    rw [e, ← sum_mul, sum_pos_only, h, fact, Nat.mul_comm]
theorem left_nil (room : List Nat) : left room [] = room := by
  apply List.ext_getElem?
  intro k
  unfold left
  rw [List.getElem?_map]
  by_cases hk : k < room.length
  · rw [List.getElem?_range hk, List.getElem?_eq_getElem hk]
    show some (room.getD k 0 - ([] : List Nat).count k) = some room[k]
    rw [List.getD_eq_getElem?_getD, List.getElem?_eq_getElem hk]
    simp
  · rw [List.getElem?_eq_none (by simpa using hk), List.getElem?_eq_none (by simpa using hk)]
    rfl
theorem level_len (room : List Nat) : (level room room.sum).length * prodF room = fact room.sum := by
  have e := growN_level room room.sum 0
  rw [Nat.zero_add] at e
  rw [← e, growN_len]
  show (List.map (fun w => words room.sum (left room w)) [[]]).sum * prodF room = fact room.sum
  rw [List.map_cons, List.map_nil, List.sum_cons, List.sum_nil, left_nil, Nat.add_zero]
  exact words_fact _ _ rfl
/-! ### what holds of each beginning -/
structure Begun (room : List Nat) (i : Nat) (w : List Nat) : Prop where
  len : w.length = i
  all : ∀ j ∈ w, j < room.length
  cnt : ∀ j, j < room.length → w.count j ≤ room.getD j 0
theorem level_begun (room : List Nat) : ∀ i, ∀ w ∈ level room i, Begun room i w
  | 0, w, h => by
    have : w = [] := by simpa [level] using h
    subst this
    exact ⟨rfl, fun _ h => (nomatch h), fun j _ => by simp⟩
  | i + 1, w, h => by
    rw [level, grow, List.mem_flatMap] at h
    obtain ⟨v, hv, h⟩ := h
    obtain ⟨j, hj, rfl⟩ := List.mem_map.mp h
    have b := level_begun room i v hv
    have hj' := List.mem_filter.mp hj
    rw [List.mem_range] at hj'
    have hc : v.count j < room.getD j 0 := of_decide_eq_true hj'.2
    refine ⟨by rw [List.length_append, b.len]; rfl, fun k hk => ?_, fun k hk => ?_⟩
    · rcases List.mem_append.mp hk with hk | hk
      · exact b.all k hk
      · rw [List.mem_singleton] at hk
        omega
    · rw [List.count_append]
      by_cases e : j = k
      · subst e
        rw [List.count_singleton_self]
        omega
      · have := b.cnt k hk
        rw [List.count_singleton, if_neg (by simpa using e)]
        omega
theorem sum_counts : ∀ (n : Nat) (w : List Nat), (∀ j ∈ w, j < n) → ((List.range n).map fun j => w.count j).sum = w.length
  | n, [] , _ => by
    have : ((List.range n).map fun j => ([] : List Nat).count j) = (List.range n).map fun _ => 0 := by simp
    rw [this]
    have go : ∀ m, ((List.range m).map fun _ => 0).sum = 0 := by
      intro m
      induction m with
      | zero => rfl
      | succ m ih => rw [List.range_succ, List.map_append, List.sum_append, ih]; rfl
    exact go n
  | n, a :: w, h => by
    have ih := sum_counts n w fun j hj => h j (List.mem_cons_of_mem _ hj)
    have ha : a < n := h a List.mem_cons_self
    rw [List.length_cons, ← ih]
    clear ih h
    have go : ∀ m, ((List.range m).map fun j => (a :: w).count j).sum = ((List.range m).map fun j => w.count j).sum + (if a < m then 1 else 0) := by
      intro m
      induction m with
      | zero => simp
      | succ m ih =>
        rw [List.range_succ, List.map_append, List.sum_append, List.map_append, List.sum_append, ih]
        simp only [List.map_cons, List.map_nil, List.sum_cons, List.sum_nil, List.count_cons]
        by_cases e : a = m
        · subst e
          rw [if_neg (Nat.lt_irrefl a), if_pos (Nat.lt_succ_self a), if_pos (beq_self_eq_true a)]
          omega
        · rw [if_neg (show ¬ (a == m) = true by simpa using e)]
          by_cases hl : a < m
          · rw [if_pos hl, if_pos (show a < m + 1 by omega)]
            omega
          · rw [if_neg hl, if_neg (show ¬ a < m + 1 by omega)]
            omega
    rw [go, if_pos ha]
theorem range_getD (room : List Nat) : (List.range room.length).map (fun j => room.getD j 0) = room := by
  apply List.ext_getElem?
  intro k
  rw [List.getElem?_map]
  by_cases hk : k < room.length
  · rw [List.getElem?_range hk, List.getElem?_eq_getElem hk]
    show some (room.getD k 0) = some room[k]
    rw [List.getD_eq_getElem?_getD, List.getElem?_eq_getElem hk]
    rfl
  · rw [List.getElem?_eq_none (by simpa using hk), List.getElem?_eq_none (by simpa using hk)]
    rfl
/-! ### their order -/
end KM

end

section
-- KcNum
set_option linter.all false
namespace KM
theorem choose_le (n k : Nat) : choose n k ≤ 2 ^ n := by
  induction n generalizing k with
  | zero => cases k <;> simp [choose]
  | succ n ih =>
    cases k with
    | zero => rw [choose_zero]; exact Nat.one_le_two_pow
    | succ k =>
      rw [choose, Nat.pow_succ]
      have := ih k
      have := ih (k + 1)
      omega
theorem choose_stepZ {n i : Nat} (h : i + 1 ≤ n) : ((choose n i : Nat) : Int) * ((n : Int) - (0 + (i : Int))) / (0 + (i : Int) + 1) = ((choose n (i + 1) : Nat) : Int) := by
  have e1 : (n : Int) - (0 + (i : Int)) = ((n - i : Nat) : Int) := by omega
  have e2 : (0 + (i : Int) + 1) = ((i + 1 : Nat) : Int) := by omega
  rw [e1, e2, ← Int.natCast_mul, ← Int.natCast_ediv, choose_step n i h]
theorem prodF_multi (n : Nat) (ss : List Nat) (h : ss.sum ≤ n) : multi n ss * prodF (ss ++ [n - ss.sum]) = fact n := by
  have e : prodF (ss ++ [n - ss.sum]) = (ss.map fact).foldr (· * ·) 1 * fact (n - ss.sum) := by
    generalize n - ss.sum = k
    induction ss with
    | nil => simp [prodF]
    | cons a r ih =>
      have hr : r.sum ≤ n := by rw [List.sum_cons] at h; omega
      show fact a * prodF (r ++ [k]) = fact a * (r.map fact).foldr (· * ·) 1 * fact k
      rw [ih hr, Nat.mul_assoc]
  rw [e]
  exact multi_fact ss n h
theorem level_multi {n : Nat} {ss : List Nat} (h : ss.sum ≤ n) : (level (ss ++ [n - ss.sum]) n).length = multi n ss := by
  have e1 := prodF_multi n ss h
  have hs : (ss ++ [n - ss.sum]).sum = n := by
    rw [List.sum_append, List.sum_cons, List.sum_nil]
    omega
  have e2 := level_len (ss ++ [n - ss.sum])
  rw [hs] at e2
  exact Nat.eq_of_mul_eq_mul_right (prodF_pos _) (e2.trans e1.symm)
theorem words_pos (n : Nat) (r : List Nat) (h : r.sum = n) : 0 < words n r := by
  have e := words_fact n r h
  have f := fact_pos n
  rcases Nat.eq_zero_or_pos (words n r) with z | z
  · rw [z, Nat.zero_mul] at e
    omega
  · exact z
theorem left_sum {room w : List Nat} {i : Nat} (h : Begun room i w) : (left room w).sum + i = room.sum := by
  have go : ∀ m, m ≤ room.length → ((List.range m).map fun j => room.getD j 0 - w.count j).sum + ((List.range m).map fun j => w.count j).sum = ((List.range m).map fun j => room.getD j 0).sum := by
    intro m
    induction m with
    | zero => intro _; rfl
    | succ m ih =>
      intro hm
      have := ih (by omega)
      have := h.cnt m (by omega)
      simp only [List.range_succ, List.map_append, List.sum_append, List.map_cons, List.map_nil, List.sum_cons, List.sum_nil] at *
      omega
  have e := go room.length (Nat.le_refl _)
  rw [sum_counts room.length w h.all, range_getD, h.len] at e
  exact e
theorem level_le {room : List Nat} {i : Nat} (h : i ≤ room.sum) : (level room i).length ≤ (level room room.sum).length := by
  have e := growN_level room (room.sum - i) i
  rw [show i + (room.sum - i) = room.sum by omega] at e
  rw [← e, growN_len]
  have hb := level_begun room i
  generalize level room i = ws at hb
  induction ws with
  | nil => exact Nat.zero_le _
  | cons w r ih =>
    rw [List.map_cons, List.sum_cons, List.length_cons]
    have := ih fun v hv => hb v (List.mem_cons_of_mem _ hv)
    have := words_pos (room.sum - i) (left room w) (by have := left_sum (hb w List.mem_cons_self); omega)
    omega
theorem divs : ∀ (rs : List Nat) (m : Nat), rs.foldl (fun f s => f / fact s) (m * prodF rs) = m
  | [], m => by simp [prodF]
  | a :: r, m => by
    rw [List.foldl_cons, prodF_cons]
    have e : m * (fact a * prodF r) / fact a = m * prodF r := by
      rw [← Nat.mul_assoc, Nat.mul_comm m, Nat.mul_assoc, Nat.mul_div_cancel_left _ (fact_pos a)]
    rw [e]
    exact divs r m
noncomputable def nextsTo (room w : List Nat) (k : Nat) : List Nat := (List.range k).filter fun j => decide (w.count j < room.getD j 0)
theorem nextsTo_all (room w : List Nat) : nextsTo room w room.length = nexts room w := rfl
theorem nextsTo_succ (room w : List Nat) (k : Nat) : nextsTo room w (k + 1) = nextsTo room w k ++ (if w.count k < room.getD k 0 then [k] else []) := by
  unfold nextsTo
  rw [List.range_succ, List.filter_append]
  by_cases h : w.count k < room.getD k 0
  · rw [if_pos h, List.filter_cons_of_pos (by simpa using h)]
    rfl
  · rw [if_neg h, List.filter_cons_of_neg (by simpa using h)]
    rfl
theorem grow_take (room : List Nat) (ws : List (List Nat)) (i : Nat) (w : List Nat) (h : ws[i]? = some w) : grow room (ws.take (i + 1)) = grow room (ws.take i) ++ (nexts room w).map fun j => w ++ [j] := by
  unfold grow
  rw [List.take_add_one, h, List.flatMap_append]
  simp
theorem grow_take_le (room : List Nat) (ws : List (List Nat)) (i : Nat) : (grow room (ws.take i)).length ≤ (grow room ws).length := by
  have : grow room ws = grow room (ws.take i) ++ grow room (ws.drop i) := by
    unfold grow
    rw [← List.flatMap_append, List.take_append_drop]
  rw [this, List.length_append]
  omega
end KM

end

section
-- KcPack
set_option Elab.async false
set_option linter.all false
set_option maxRecDepth 100000
set_option maxHeartbeats 4000000
namespace L2
open PySem PyProof.Rows
/-! ### things of whatever kind -/
noncomputable def wholeV : V → Bool
  | .int _ => true
  | _ => false
noncomputable def withinV : V → Int → Int → Bool
  | .int i, lo, hi => decide (lo ≤ i) && decide (i ≤ hi)
  | _, _, _ => false
noncomputable def Plain (K : PySem.W.Frag) (H : Hp) (x : V) : Prop := ∃ t b1 b2, TyOf K H x t ∧ PySem.W.kitOne K t (.type "int") = some b1 ∧ PySem.W.kitOne K t (.type "bool") = some b2 ∧ (b1 && !b2) = wholeV x
theorem Plain.int {K : PySem.W.Frag} {H : Hp} (i : Int) : Plain K H (.int i) := ⟨_, _, _, .int i, kit_int_int K, kit_int_bool K, rfl⟩
theorem tyOf_same {K : PySem.W.Frag} {H H' : Hp} {x : V} {t : Value} (h : TyOf K H x t) (s : Same H H') : TyOf K H' x t := by
  cases h with
  | non => exact .non
  | bl b => exact .bl b
  | int i => exact .int i
  | str x => exact .str x
  | flt x => exact .flt x
  | lst e => exact .lst (s _ _ e)
  | frz e => exact .frz (s _ _ e)
  | tup e => exact .tup (s _ _ e)
  | dK e => exact .dK (s _ _ e)
  | dT e => exact .dT (s _ _ e)
  | ins e cl ha hn htk hm => exact .ins (s _ _ e) cl ha hn htk hm
theorem Plain.same {K : PySem.W.Frag} {H H' : Hp} {x : V} (h : Plain K H x) (s : Same H H') : Plain K H' x := by
  obtain ⟨t, b1, b2, ty, r⟩ := h
  exact ⟨t, b1, b2, tyOf_same ty s, r⟩
noncomputable def spWhole (K : PySem.W.Frag) : Sp := fun vs H Q _ => ∃ x, vs = [x] ∧ Plain K H x ∧ Q (.bl (wholeV x)) H
noncomputable abbrev sp_is_whole (K : PySem.W.Frag) : Sp := spWhole K
noncomputable def t_is_whole (K : PySem.W.Frag) : TS := (tRet (tAndV (tCB (rIsi K) (tCons (tVar 0) (tCons (tC (.ty "int")) tNil))) (tNotV (tCB (rIsi K) (tCons (tVar 0) (tCons (tC (.ty "bool")) tNil))))))
theorem len_is_whole {K : PySem.W.Frag} {vs : List V} {H : Hp} {Q : VK} {E : XK} (h : sp_is_whole K vs H Q E) : vs.length = 1 := by
  obtain ⟨x, rfl, _⟩ := h
  rfl
theorem rd_is_whole {K : PySem.W.Frag} {vs : List V} {H : Hp} {Q : VK} {E : XK} (h : sp_is_whole K vs H Q E) : t_is_whole K { nx := fun _ H' => Q .non H', rt := Q } (start ["thing"] vs) H := by
  obtain ⟨x, rfl, ⟨t, b1, b2, ty, k1, k2, e⟩, q⟩ := h
  refine ⟨_, rfl, _, _, _, _, rfl, ty, k1, _, rfl, ite_of (fun c => ?_) (fun c => ?_)⟩
  · subst c
    refine ⟨_, rfl, _, _, _, _, rfl, ty, k2, _, rfl, ?_⟩
    rw [← e, Bool.true_and] at q
    exact q
  · subst c
    rw [← e, Bool.false_and] at q
    exact q
noncomputable def spWithin (K : PySem.W.Frag) : Sp := fun vs H Q _ => ∃ x lo hi, vs = [x, .int lo, .int hi] ∧ Plain K H x ∧ Q (.bl (withinV x lo hi)) H
noncomputable abbrev sp_is_within (K : PySem.W.Frag) : Sp := spWithin K
noncomputable def t_is_within (K : PySem.W.Frag) : TS := (tRet (tAndV (tCall (sp_is_whole K) [] E0 (tCons (tVar 0) tNil)) (tChain (rI0 fun i j => .bl (decide (i ≤ j))) (rI0 fun i j => .bl (decide (i ≤ j))) (tVar 1) (tVar 0) (tVar 2))))
theorem len_is_within {K : PySem.W.Frag} {vs : List V} {H : Hp} {Q : VK} {E : XK} (h : sp_is_within K vs H Q E) : vs.length = 3 := by
  obtain ⟨x, lo, hi, rfl, _⟩ := h
  rfl
theorem rd_is_within {K : PySem.W.Frag} {vs : List V} {H : Hp} {Q : VK} {E : XK} (h : sp_is_within K vs H Q E) : t_is_within K { nx := fun _ H' => Q .non H', rt := Q } (start ["thing", "least", "most"] vs) H := by
  obtain ⟨x, lo, hi, rfl, pl, q⟩ := h
  refine ⟨_, rfl, x, rfl, pl, _, rfl, ite_of (fun c => ?_) (fun c => ?_)⟩
  · cases x with
    | int i =>
      refine ⟨_, rfl, _, rfl, _, _, rfl, rfl, _, rfl, ite_of (fun d => ?_) (fun d => ?_)⟩
      · refine ⟨_, rfl, _, _, rfl, rfl, ?_⟩
        have q' : Q (.bl (decide (lo ≤ i) && decide (i ≤ hi))) H := q
        rw [d, Bool.true_and] at q'
        exact q'
      · have q' : Q (.bl (decide (lo ≤ i) && decide (i ≤ hi))) H := q
        rw [d, Bool.false_and] at q'
        exact q'
    | _ => cases c
  · cases x with
    | int i => cases c
    | _ => exact q
/-! ### what is a pack -/
noncomputable def sumV (zs : List V) : Int := (zs.map fun z => match z with | .int i => i | _ => 0).sum
noncomputable def packV (x : V) (zs : List V) : Bool := match x with
  | .int c => (decide (0 ≤ c) && decide (c ≤ 12)) && (decide (1 ≤ zs.length) && decide (zs.length ≤ 5)) && zs.all (fun z => withinV z 0 c) && decide (sumV zs ≤ c)
  | _ => false
theorem ints_of_within {zs : List V} {lo hi : Int} (h : zs.all (fun z => withinV z lo hi) = true) : ∃ ns : List Int, zs = ns.map V.int ∧ sumV zs = ns.sum := by
  induction zs with
  | nil => exact ⟨[], rfl, rfl⟩
  | cons z r ih =>
    rw [List.all_cons, Bool.and_eq_true] at h
    obtain ⟨ns, e, es⟩ := ih h.2
    cases z with
    | int i =>
      refine ⟨i :: ns, by rw [e]; rfl, ?_⟩
      show i + sumV r = (i :: ns).sum
      rw [es, List.sum_cons]
    | _ => exact absurd h.1 Bool.false_ne_true
noncomputable def Sizes (K : PySem.W.Frag) (H : Hp) (y : V) (zs : Option (List V)) : Prop := match zs with
  | some zs => ∃ a, y = .ref a ∧ (H a = some (.lst zs) ∨ ∃ o, H a = some (.frz o (.lst zs))) ∧ zs.length ≤ 1000 ∧ ∀ z ∈ zs, Plain K H z
  | none => ∃ t, TyOf K H y t ∧ PySem.W.kitOne K t (.type "list") = some false
noncomputable def packO (x : V) : Option (List V) → Bool
  | some zs => packV x zs
  | none => false
noncomputable def spPack (K : PySem.W.Frag) : Sp := fun vs H Q _ => ∃ x y zs, vs = [x, y] ∧ Plain K H x ∧ Sizes K H y zs ∧ ∀ H', Same H H' → Q (.bl (packO x zs)) H'
noncomputable abbrev sp_is_pack (K : PySem.W.Frag) : Sp := spPack K
noncomputable def t_is_pack (K : PySem.W.Frag) : TS := (tSeq (tIfS (tNot (tB (tCall (sp_is_within K) [] E0 (tCons (tVar 0) (tCons (tC (.int 0)) (tCons (tC (.int 12)) tNil)))))) (tRet (tC (.bl false))) tNext)
  (tSeq (tIfS (tOr (tNot (tB (tCB (rIsi K) (tCons (tVar 1) (tCons (tC (.ty "list")) tNil))))) (tNot (tB (tCall (sp_is_within K) [] E0 (tCons (tCB (cLen K) (tCons (tVar 1) tNil)) (tCons (tC (.int 1)) (tCons (tC (.int 5)) tNil))))))) (tRet (tC (.bl false))) tNext)
  (tRet (tAndV (tCB (cAll K) (tCons (tComp (iList K (tVar 1)) (fun _ _ _ _ => (gName 0)) (fun _ _ _ _ => tAlways) (fun _ _ _ _ => (tCall (sp_is_within K) [] E0 (tCons (tVar 0) (tCons (tC (.int 0)) (tCons (tVar 1) tNil))))) [none, some 0]) tNil)) (tOp (rI0 fun i j => .bl (decide (i ≤ j))) (tCB (cSum K) (tCons (tVar 1) tNil)) (tVar 0))))))
theorem len_is_pack {K : PySem.W.Frag} {vs : List V} {H : Hp} {Q : VK} {E : XK} (h : sp_is_pack K vs H Q E) : vs.length = 2 := by
  obtain ⟨x, y, zs, rfl, _⟩ := h
  rfl
theorem rd_is_pack {K : PySem.W.Frag} {vs : List V} {H : Hp} {Q : VK} {E : XK} (h : sp_is_pack K vs H Q E) : t_is_pack K { nx := fun _ H' => Q .non H', rt := Q } (start ["cards", "sizes"] vs) H := by
  obtain ⟨x, y, zs, rfl, px, hz, q⟩ := h
  refine ⟨_, rfl, x, 0, 12, rfl, px, _, rfl, ite_of (fun c => ?_) (fun c => ?_)⟩
  · -- no count of cards
    have e : packO x zs = false := by
      have c' : withinV x 0 12 = false := by simpa using c
      cases zs with
      | none => rfl
      | some zs =>
        cases x with
        | int i =>
          show ((decide (0 ≤ i) && decide (i ≤ 12)) && (decide (1 ≤ zs.length) && decide (zs.length ≤ 5)) && zs.all (fun z => withinV z 0 i) && decide (sumV zs ≤ i)) = false
          rw [show (decide (0 ≤ i) && decide (i ≤ 12)) = false from c']
          rfl
        | _ => rfl
    have := q H (Same.refl H)
    rw [e] at this
    exact this
  · have c' : withinV x 0 12 = true := by simpa using c
    cases x with
    | int i =>
      cases zs with
      | none =>
        obtain ⟨t, ty, k⟩ := hz
        refine ⟨_, rfl, _, _, _, _, rfl, ty, k, _, rfl, iteT (iteT ?_)⟩
        exact q H (Same.refl H)
      | some zs =>
        obtain ⟨a, rfl, ha, hlen, hp⟩ := hz
        have hS : SqL K H a zs := ha.elim (fun h => .inl (.inl h)) (fun h => .inl (.inr h))
        have ty : TyOf K H (.ref a) (.type "list") := ha.elim (fun h => .lst h) (fun ⟨o, h⟩ => .frz h)
        refine ⟨_, rfl, _, _, _, _, rfl, ty, kit_lst_lst K, _, rfl, iteF ?_⟩
        refine ⟨_, rfl, a, _, rfl, .inl hS, _, 1, 5, rfl, Plain.int _, _, rfl, ite_of (fun d => ?_) (fun d => ?_)⟩
        · have e : packO (.int i) (some zs) = false := by
            have d0 : withinV (.int (zs.length : Int)) 1 5 = false := by simpa using d
            have d' : (decide ((1 : Int) ≤ (zs.length : Int)) && decide ((zs.length : Int) ≤ 5)) = false := d0
            show ((decide (0 ≤ i) && decide (i ≤ 12)) && (decide (1 ≤ zs.length) && decide (zs.length ≤ 5)) && zs.all (fun z => withinV z 0 i) && decide (sumV zs ≤ i)) = false
            have e1 : decide (1 ≤ zs.length) = decide ((1 : Int) ≤ (zs.length : Int)) := decide_eq_decide.mpr (by omega)
            have e2 : decide (zs.length ≤ 5) = decide ((zs.length : Int) ≤ 5) := decide_eq_decide.mpr (by omega)
            rw [e1, e2, d', Bool.and_false]
            rfl
          have := q H (Same.refl H)
          rw [e] at this
          exact this
        · have d0 : withinV (.int (zs.length : Int)) 1 5 = true := by simpa using d
          have d' : (decide ((1 : Int) ≤ (zs.length : Int)) && decide ((zs.length : Int) ≤ 5)) = true := d0
          have e0 : packO (.int i) (some zs) = (zs.all (fun z => withinV z 0 i) && decide (sumV zs ≤ i)) := by
            show ((decide (0 ≤ i) && decide (i ≤ 12)) && (decide (1 ≤ zs.length) && decide (zs.length ≤ 5)) && zs.all (fun z => withinV z 0 i) && decide (sumV zs ≤ i)) = _
            have e1 : decide (1 ≤ zs.length) = decide ((1 : Int) ≤ (zs.length : Int)) := decide_eq_decide.mpr (by omega)
            have e2 : decide (zs.length ≤ 5) = decide ((zs.length : Int) ≤ 5) := decide_eq_decide.mpr (by omega)
            rw [e1, e2, d', show (decide (0 ≤ i) && decide (i ≤ 12)) = true from c', Bool.true_and, Bool.true_and]
          rw [e0] at q
          refine ⟨_, rfl, a, rfl, ⟨_, hS⟩, fun p hp' => comp_list (K := K) (a := a) (xs := zs) (fun k acc H2 => acc = ((zs.take k).map fun z => withinV z 0 i).map V.bl ∧ Same H H2 ∧ H2 p = some (.lst acc)) ⟨rfl, same_new hp' _, upd_same⟩ ?_ ?_ (small hlen) ?_ ?_⟩
          · rintro k acc H2 hk ⟨rfl, s2, e2⟩
            exact ⟨e2, by rw [List.length_map, List.length_map, List.length_take]; omega⟩
          · rintro k acc H2 hk ⟨rfl, s2, e2⟩
            exact s2.seq hS
          · rintro _ _ _ _ k z acc H2 hzk ⟨rfl, s2, e2⟩
            refine ⟨_, rfl, _, rfl, z, 0, i, rfl, (hp z (List.mem_of_getElem? hzk)).same s2, e2, ?_, s2.upd hp' _, upd_same⟩
            rw [List.take_add_one, hzk, List.map_append, List.map_append]
            rfl
          · rintro acc H2 ⟨rfl, s2, e2⟩
            rw [List.take_length] at e2
            refine ⟨p, _, rfl, SqL.of e2, _, rfl, ?_⟩
            have ea : (zs.map fun z => withinV z 0 i).all id = zs.all fun z => withinV z 0 i := by
              rw [List.all_map]
              rfl
            rw [ea]
            refine ite_of (fun g => ?_) (fun g => ?_)
            · obtain ⟨ns, en, es⟩ := ints_of_within g
              rw [g, Bool.true_and, es] at q
              refine ⟨_, rfl, a, ns, rfl, by rw [← en]; exact s2.seq hS, _, rfl, _, _, rfl, rfl, ?_⟩
              exact q H2 s2
            · rw [g, Bool.false_and] at q
              exact q H2 s2
    | _ => exact absurd c' Bool.false_ne_true

/-! ### how many -/
noncomputable def spChoices : Sp := fun vs H Q _ => ∃ n k : Nat, vs = [.int n, .int k] ∧ k ≤ n ∧ n ≤ 50 ∧ Q (.int (KM.choose n k : Nat)) H
noncomputable abbrev sp_choices (K : PySem.W.Frag) : Sp := spChoices
noncomputable def t_choices (K : PySem.W.Frag) : TS := (tSeq (tAsg (tC (.int 1)) (gName 2))
  (tSeq (tFor (iRng1 (tCons (tVar 1) tNil)) (gName 3) (tAsg (tOp (rI CDiv fun i j => .int (i / j)) (tOp (rI IntMulOk fun i j => .int (i * j)) (tVar 2) (tOp (rI0 fun i j => .int (i - j)) (tVar 0) (tVar 3))) (tOp (rI0 fun i j => .int (i + j)) (tVar 3) (tC (.int 1)))) (gName 2)))
  (tRet (tVar 2))))
theorem len_choices {K : PySem.W.Frag} {vs : List V} {H : Hp} {Q : VK} {E : XK} (h : sp_choices K vs H Q E) : vs.length = 2 := by
  obtain ⟨n, k, rfl, _⟩ := h
  rfl
theorem rd_choices {K : PySem.W.Frag} {vs : List V} {H : Hp} {Q : VK} {E : XK} (h : sp_choices K vs H Q E) : t_choices K { nx := fun _ H' => Q .non H', rt := Q } (start ["many", "taken", "ways", "step"] vs) H := by
  obtain ⟨n, k, rfl, hk, hn, q⟩ := h
  refine ⟨_, rfl, _, rfl, by omega, by omega, for_range (lo := 0) (n := ((k : Nat) : Int).toNat) (fun i σ H2 => ∃ st, σ = [some (.int n), some (.int k), some (.int (KM.choose n i : Nat)), st] ∧ H2 = H) ⟨none, by rw [KM.choose_zero]; rfl, rfl⟩ ?_ ?_⟩
  · rintro i σ H2 hi ⟨st, rfl, rfl⟩
    have hi' : i + 1 ≤ n := by omega
    refine ⟨_, rfl, _, rfl, _, rfl, _, _, rfl, rfl, _, _, rfl, rfl, .of_right (intBits_le_64 (by omega) (by omega)), _, rfl, _, _, rfl, rfl, _, _, rfl, rfl, ⟨by omega, by omega⟩, ?_⟩
    dsimp only
    rw [KM.choose_stepZ hi']
    exact ⟨_, rfl, rfl⟩
  · rintro σ H2 ⟨st, rfl, rfl⟩
    refine ⟨_, rfl, ?_⟩
    rw [show ((k : Nat) : Int).toNat = k by omega]
    exact q
structure Pack (c : Nat) (ss : List Nat) : Prop where
  c12 : c ≤ 12
  l1 : 1 ≤ ss.length
  l5 : ss.length ≤ 5
  sum : ss.sum ≤ c
noncomputable def natV (ss : List Nat) : List V := ss.map fun (s : Nat) => V.int ((s : Nat) : Int)
theorem natV_ints (ss : List Nat) : natV ss = (ss.map fun (s : Nat) => ((s : Nat) : Int)).map V.int := by unfold natV; rw [List.map_map]; rfl
theorem natV_len (ss : List Nat) : (natV ss).length = ss.length := List.length_map _
theorem sum_cast : ∀ ss : List Nat, (ss.map fun (s : Nat) => ((s : Nat) : Int)).sum = ((ss.sum : Nat) : Int)
  | [] => rfl
  | a :: r => by rw [List.map_cons, List.sum_cons, List.sum_cons, sum_cast r]; omega
theorem mem_le_sum : ∀ {ss : List Nat} {s : Nat}, s ∈ ss → s ≤ ss.sum
  | a :: r, s, h => by
    rw [List.sum_cons]
    rcases List.mem_cons.mp h with rfl | h
    · omega
    · have := mem_le_sum h
      omega
theorem packV_of {c : Nat} {ss : List Nat} (p : Pack c ss) : packV (.int c) (natV ss) = true := by
  have h1 := p.c12
  have h2 := p.l1
  have h3 := p.l5
  have h4 := p.sum
  show ((decide ((0 : Int) ≤ (c : Int)) && decide ((c : Int) ≤ 12)) && (decide (1 ≤ (natV ss).length) && decide ((natV ss).length ≤ 5)) && (natV ss).all (fun z => withinV z 0 c) && decide (sumV (natV ss) ≤ c)) = true
  have e1 : (natV ss).all (fun z => withinV z 0 c) = true := by
    unfold natV
    rw [List.all_map, List.all_eq_true]
    intro s hs
    have := mem_le_sum hs
    show (decide ((0 : Int) ≤ (s : Int)) && decide ((s : Int) ≤ (c : Int))) = true
    rw [decide_eq_true (by omega), decide_eq_true (by omega)]
    rfl
  have e2 : sumV (natV ss) = ((ss.sum : Nat) : Int) := by
    rw [← sum_cast]
    unfold sumV natV
    rw [List.map_map]
    rfl
  rw [e1, e2, natV_len, decide_eq_true (by omega), decide_eq_true (by omega), decide_eq_true h2, decide_eq_true h3, decide_eq_true (by omega)]
  rfl
theorem sizes_of {K : PySem.W.Frag} {H : Hp} {a : Addr} {ss : List Nat} (h : H a = some (.lst (natV ss))) (hl : ss.length ≤ 1000) : Sizes K H (.ref a) (some (natV ss)) :=
  ⟨a, rfl, .inl h, by rw [natV_len]; exact hl, fun z hz => by
    obtain ⟨s, _, rfl⟩ := List.mem_map.mp hz
    exact Plain.int _⟩
noncomputable def spHow (K : PySem.W.Frag) : Sp := fun vs H Q _ => ∃ (c : Nat) (a : Addr) (ss : List Nat), vs = [.int c, .ref a] ∧ H a = some (.lst (natV ss)) ∧ Pack c ss ∧ ∀ H', Same H H' → Q (.int (KM.multi c ss : Nat)) H'
noncomputable abbrev sp_how_many (K : PySem.W.Frag) : Sp := spHow K
noncomputable def t_how_many (K : PySem.W.Frag) : TS := (tSeq (tIfS (tNot (tB (tCall (sp_is_pack K) [] E0 (tCons (tVar 0) (tCons (tVar 1) tNil))))) tNever tNext)
  (tSeq (tAsg (tC (.int 1)) (gName 2))
  (tSeq (tAsg (tVar 0) (gName 3))
  (tSeq (tFor (iList K (tVar 1)) (gName 4) (tSeq (tAsg (tOp (rI IntMulOk fun i j => .int (i * j)) (tVar 2) (tCall (sp_choices K) [] E0 (tCons (tVar 3) (tCons (tVar 4) tNil)))) (gName 2))
  (tAsg (tOp (rI0 fun i j => .int (i - j)) (tVar 3) (tVar 4)) (gName 3))))
  (tRet (tVar 2))))))
theorem len_how_many {K : PySem.W.Frag} {vs : List V} {H : Hp} {Q : VK} {E : XK} (h : sp_how_many K vs H Q E) : vs.length = 2 := by
  obtain ⟨c, a, ss, rfl, _⟩ := h
  rfl
theorem rd_how_many {K : PySem.W.Frag} {vs : List V} {H : Hp} {Q : VK} {E : XK} (h : sp_how_many K vs H Q E) : t_how_many K { nx := fun _ H' => Q .non H', rt := Q } (start ["cards", "sizes", "many", "left", "size"] vs) H := by
  obtain ⟨c, a, ss, rfl, ha, p, q⟩ := h
  have h12 := p.c12
  have h5 := p.l5
  refine ⟨_, rfl, _, rfl, _, _, some (natV ss), rfl, Plain.int _, sizes_of ha (by omega), fun H1 s1 => ⟨_, rfl, ?_⟩⟩
  rw [show packO (.int c) (some (natV ss)) = true from packV_of p]
  refine iteF ?_
  refine ⟨_, rfl, ?_⟩
  refine ⟨_, rfl, a, rfl, ⟨_, SqL.of (s1 _ _ ha)⟩, for_list (K := K) (a := a) (xs := natV ss) (fun i σ H2 => ∃ (m l : Nat) (st : Option V), σ = [some (.int c), some (.ref a), some (.int m), some (.int l), st] ∧ H2 = H1 ∧ m * KM.multi l (ss.drop i) = KM.multi c ss ∧ (ss.drop i).sum ≤ l ∧ l ≤ 12)
    ⟨1, c, none, rfl, rfl, by rw [Nat.one_mul]; rfl, p.sum, h12⟩ (fun i σ H2 _ ⟨_, _, _, _, e, _⟩ => by subst e; exact SqL.of (s1 _ _ ha)) ?_ ?_⟩
  · rintro i x σ H2 hx ⟨m, l, st, rfl, rfl, hm, hs, hl⟩
    obtain ⟨z, hz, rfl⟩ : ∃ z : Nat, ss[i]? = some z ∧ x = .int (z : Int) := by
      unfold natV at hx
      rw [List.getElem?_map] at hx
      cases e : ss[i]? with
      | none => rw [e] at hx; cases hx
      | some z => rw [e] at hx; exact ⟨z, rfl, (Option.some.inj hx).symm⟩
    have hd : ss.drop i = z :: ss.drop (i + 1) := by
      obtain ⟨h1, h2⟩ := List.getElem?_eq_some_iff.mp hz
      rw [List.drop_eq_getElem_cons h1, h2]
    rw [hd, List.sum_cons] at hs
    rw [hd, KM.multi] at hm
    have hle := KM.choose_le l z
    have h2 : (2 : Nat) ^ l ≤ 2 ^ 12 := Nat.pow_le_pow_right (by decide) hl
    refine ⟨_, rfl, _, rfl, _, rfl, l, z, rfl, by omega, by omega, _, _, rfl, rfl, .of_right (intBits_le_64 (by omega) (by omega)), ?_⟩
    refine ⟨_, rfl, _, rfl, _, _, rfl, rfl, m * KM.choose l z, l - z, some (.int (z : Int)), ?_, rfl, by rw [Nat.mul_assoc]; exact hm, by omega, by omega⟩
    have e1 : ((m : Nat) : Int) * ((KM.choose l z : Nat) : Int) = ((m * KM.choose l z : Nat) : Int) := (Int.natCast_mul _ _).symm
    have e2 : ((l : Nat) : Int) - ((z : Nat) : Int) = ((l - z : Nat) : Int) := by omega
    dsimp only
    rw [e1, e2]
    rfl
  · rintro σ H2 ⟨m, l, st, rfl, rfl, hm, hs, hl⟩
    refine ⟨_, rfl, ?_⟩
    rw [natV_len, List.drop_length, KM.multi, Nat.mul_one] at hm
    rw [hm]
    exact q _ s1
/-! ### deals, one more card -/
noncomputable def DealsAt (H : Hp) (p : Addr) (ws : List (List Nat)) : Prop := ∃ rs : List Addr, H p = some (.lst (rs.map V.ref)) ∧ Paired (fun (a : Addr) (w : List Nat) => H a = some (.tup (natV w))) rs ws
theorem paired_same {H H' : Hp} {rs : List Addr} {ws : List (List Nat)} (h : Paired (fun (a : Addr) (w : List Nat) => H a = some (.tup (natV w))) rs ws) (s : ∀ a xs, H a = some (.tup xs) → H' a = some (.tup xs)) : Paired (fun (a : Addr) (w : List Nat) => H' a = some (.tup (natV w))) rs ws :=
  Paired.mapP h fun a w e => s _ _ e
theorem paired_get {α β : Type} {F : α → β → Prop} : ∀ {l : List α} {m : List β} {i : Nat} {a : α}, Paired F l m → l[i]? = some a → ∃ b, m[i]? = some b ∧ F a b
  | _, _, _, _, .nil, h => by simp at h
  | _, _, 0, _, .cons r _, h => by simp at h; subst h; exact ⟨_, rfl, r⟩
  | _, _, i + 1, a, .cons _ t, h => by
    obtain ⟨b, h1, h2⟩ := paired_get (i := i) (a := a) t (by simpa using h)
    exact ⟨b, by simpa using h1, h2⟩
theorem paired_app {α β : Type} {F : α → β → Prop} : ∀ {l : List α} {m : List β} {l' : List α} {m' : List β}, Paired F l m → Paired F l' m' → Paired F (l ++ l') (m ++ m')
  | _, _, _, _, .nil, h => h
  | _, _, _, _, .cons r t, h => .cons r (paired_app t h)
theorem count_natV (w : List Nat) (j : Nat) : (natV w).countP (fun z => eqV z (.int (j : Int))) = w.count j := by
  unfold natV
  rw [List.countP_map, List.count_eq_countP]
  congr 1
  funext k
  show ((k : Int) == (j : Int)) = (k == j)
  by_cases h : k = j
  · subst h; simp
  · rw [beq_eq_false_iff_ne.mpr h, beq_eq_false_iff_ne.mpr (by omega)]
theorem flat_natV (w : List Nat) : (natV w).all flatV = true := by unfold natV; rw [List.all_map]; simp [flatV]
noncomputable def spMore (K : PySem.W.Frag) : Sp := fun vs H Q _ => ∃ (b r : Addr) (ws : List (List Nat)) (room : List Nat), vs = [.ref b, .ref r] ∧ DealsAt H b ws ∧ H r = some (.lst (natV room)) ∧ room.length ≤ 6 ∧ (KM.grow room ws).length ≤ 2000 ∧ (∀ w ∈ ws, w.length ≤ 12) ∧
  ∀ (p : Addr) (H' : Hp), Same H H' → H p = none → DealsAt H' p (KM.grow room ws) → Q (.ref p) H'
noncomputable abbrev sp_with_one_more (K : PySem.W.Frag) : Sp := spMore K
noncomputable def t_with_one_more (K : PySem.W.Frag) : TS := (tSeq (tAsg (tLst tNil) (gName 2))
  (tSeq (tFor (iList K (tVar 0)) (gName 3) (tFor (iEnum srcL K (tCons (tVar 1) tNil)) (gTup K 2 (gCons (gName 4) (gCons (gName 5) gNil))) (tIfS (tTest (tOp (rI0 fun i j => .bl (decide (i < j))) (tBT rCountT (tVar 3) (tCons (tVar 4) tNil)) (tVar 5))) (tDrop (tBM K "list" rAppend (tVar 2) (tCons (tOp (rCatG K) (tVar 3) (tTup (tCons (tVar 4) tNil))) tNil))) tNext)))
  (tRet (tVar 2))))
theorem len_with_one_more {K : PySem.W.Frag} {vs : List V} {H : Hp} {Q : VK} {E : XK} (h : sp_with_one_more K vs H Q E) : vs.length = 2 := by
  obtain ⟨b, r, ws, room, rfl, _⟩ := h
  rfl
theorem rd_with_one_more {K : PySem.W.Frag} {vs : List V} {H : Hp} {Q : VK} {E : XK} (h : sp_with_one_more K vs H Q E) : t_with_one_more K { nx := fun _ H' => Q .non H', rt := Q } (start ["begun", "room", "longer", "deal", "who", "most"] vs) H := by
  obtain ⟨b, r, ws, room, rfl, ⟨rs, hb, hp⟩, hrm, h6, h2000, h12, q⟩ := h
  refine ⟨(by show 0 ≤ sizeLine; decide), fun l hl => ?_⟩
  have sl : Same H (upd H l (.lst [])) := same_new hl _
  have hrl : ws.length = rs.length := hp.length.symm
  refine ⟨_, rfl, b, rfl, ⟨_, SqL.of (sl _ _ hb)⟩, for_list (K := K) (a := b) (xs := rs.map V.ref)
    (fun i σ H2 => ∃ d wh mo : Option V, σ = [some (.ref b), some (.ref r), some (.ref l), d, wh, mo] ∧ Same H H2 ∧ DealsAt H2 l (KM.grow room (ws.take i)))
    ⟨none, none, none, rfl, sl, [], by rw [upd_same]; rfl, .nil⟩ (fun i σ H2 _ ⟨_, _, _, _, s2, _⟩ => SqL.of (s2 _ _ hb)) ?_ ?_⟩
  · rintro i x σ H2 hx ⟨d, wh, mo, rfl, s2, D2⟩
    obtain ⟨a, ea, rfl⟩ : ∃ a, rs[i]? = some a ∧ x = .ref a := by
      rw [List.getElem?_map] at hx
      cases e : rs[i]? with
      | none => rw [e] at hx; cases hx
      | some a => rw [e] at hx; exact ⟨a, rfl, (Option.some.inj hx).symm⟩
    obtain ⟨u, hu, ha⟩ := paired_get hp ea
    have hu12 := h12 u (List.mem_of_getElem? hu)
    have gt := KM.grow_take room ws i u hu
    have gle := KM.grow_take_le room ws (i + 1)
    refine ⟨_, rfl, r, _, rfl, SqL.of (s2 _ _ hrm), for_enum (S := srcL) (K := K) (a := r) (xs := natV room)
      (fun j σ H3 => ∃ wh mo : Option V, σ = [some (.ref b), some (.ref r), some (.ref l), some (.ref a), wh, mo] ∧ Same H H3 ∧ DealsAt H3 l (KM.grow room (ws.take i) ++ (KM.nextsTo room u j).map fun k => u ++ [k]))
      ⟨wh, mo, rfl, s2, by simpa [KM.nextsTo] using D2⟩ (fun j σ H3 _ ⟨_, _, _, s3, _⟩ => SqL.of (s3 _ _ hrm)) ?_ ?_⟩
    · rintro j x T σ H3 hxj ⟨wh', mo', rfl, s3, qs, hq, pq⟩ hT
      obtain ⟨m, hm, rfl⟩ : ∃ m : Nat, room[j]? = some m ∧ x = .int (m : Int) := by
        unfold natV at hxj
        rw [List.getElem?_map] at hxj
        cases e : room[j]? with
        | none => rw [e] at hxj; cases hxj
        | some z => rw [e] at hxj; exact ⟨z, rfl, (Option.some.inj hxj).symm⟩
      have hmD : room.getD j 0 = m := by rw [List.getD_eq_getElem?_getD, hm]; rfl
      have hjl : j < room.length := (List.getElem?_eq_some_iff.mp hm).1
      have nT : H T = none := s3.free hT
      have s4 : Same H (upd H3 T (.tup [.int (j : Int), .int (m : Int)])) := s3.upd nT _
      have a4 : (upd H3 T (.tup [.int (j : Int), .int (m : Int)])) a = some (.tup (natV u)) := s4 _ _ ha
      have nlT : l ≠ T := ne_of_none hq hT
      have q4 : (upd H3 T (.tup [.int (j : Int), .int (m : Int)])) l = some (.lst (qs.map V.ref)) := by rw [upd_ne nlT]; exact hq
      have p4 : Paired (fun (a : Addr) (w : List Nat) => (upd H3 T (.tup [.int (j : Int), .int (m : Int)])) a = some (.tup (natV w))) qs (KM.grow room (ws.take i) ++ (KM.nextsTo room u j).map fun k => u ++ [k]) :=
        paired_same pq fun a xs e => by rw [upd_ne (ne_of_none e hT)]; exact e
      have hqlen : qs.length ≤ 2000 := by
        have e1 := pq.length
        rw [List.length_append, List.length_map] at e1
        rw [gt, List.length_append, List.length_map, ← KM.nextsTo_all] at gle
        have e3 : (KM.nextsTo room u j).length ≤ (KM.nextsTo room u room.length).length := by
          unfold KM.nextsTo
          have : (List.range j).Sublist (List.range room.length) := List.range_sublist.mpr (by omega)
          exact (this.filter _).length_le
        omega
      have t4 : (upd H3 T (.tup [.int (j : Int), .int (m : Int)])) T = some (.tup [.int (j : Int), .int (m : Int)]) := upd_same
      generalize upd H3 T (.tup [.int (j : Int), .int (m : Int)]) = H4 at s4 a4 q4 p4 t4
      have ns := KM.nextsTo_succ room u j
      rw [hmD] at ns
      refine ⟨T, _, rfl, SqT.of t4, rfl, _, _, rfl, _, _, rfl, rfl, ?_⟩
      refine ⟨_, rfl, ⟨a, _, rfl, a4⟩, _, rfl, a, _, _, rfl, rfl, a4, rfl, flat_natV u, _, rfl, _, _, rfl, rfl, _, rfl, ?_⟩
      rw [count_natV]
      refine ite_of (fun c => ?_) (fun c => ?_)
      · have c' : u.count j < m := by have := of_decide_eq_true c; omega
        rw [if_pos c'] at ns
        have fin : ∀ (d : Addr) (H5 : Hp), Same H4 H5 → H5 d = some (.tup (natV (u ++ [j]))) → ∃ (l' : Addr) (xs : List V) (y : V), V.ref l = .ref l' ∧ [V.ref d] = [y] ∧ H5 l' = some (.lst xs) ∧ xs.length < sizeLine ∧
            ∃ wh mo : Option V, ([some (.ref b), some (.ref r), some (.ref l), some (.ref a), some (.int (j : Int)), some (.int (m : Int))] : L2.St) = [some (.ref b), some (.ref r), some (.ref l), some (.ref a), wh, mo] ∧ Same H (upd H5 l' (.lst (xs ++ [y]))) ∧
              DealsAt (upd H5 l' (.lst (xs ++ [y]))) l (KM.grow room (ws.take i) ++ (KM.nextsTo room u (j + 1)).map fun k => u ++ [k]) := by
          intro d H5 s5 e5
          refine ⟨l, _, _, rfl, rfl, s5 _ _ q4, Nat.lt_of_le_of_lt (by rw [List.length_map]; exact hqlen) (by decide), _, _, rfl, (s4.trans s5).upd hl _, qs ++ [d], by rw [upd_same, List.map_append]; rfl, ?_⟩
          have keep : ∀ (c : Addr) (xs : List V), H5 c = some (.tup xs) → upd H5 l (.lst (qs.map V.ref ++ [V.ref d])) c = some (.tup xs) := fun c xs e => by
            rw [upd_ne (ne_of e (s5 _ _ q4) (by intro z; cases z))]
            exact e
          rw [ns, List.map_append, ← List.append_assoc]
          exact paired_app (paired_same (paired_same p4 fun c xs e => s5 _ _ e) keep) (.cons (keep _ _ e5) .nil)
        refine ⟨_, rfl, .inl ⟨rfl, _, SqL.of q4⟩, _, rfl, _, rfl, (by show 1 ≤ sizeLine; decide), fun t ht => ?_⟩
        have st : Same H4 (upd H4 t (.tup [.int (j : Int)])) := same_new ht _
        have ej : natV (u ++ [j]) = natV u ++ [.int (j : Int)] := by unfold natV; rw [List.map_append]; rfl
        refine ⟨a, t, natV u, [.int (j : Int)], rfl, rfl, SqT.of (st _ _ a4), SqT.of upd_same, small (by rw [natV_len]; show u.length + 1 ≤ 1000; omega), fun e0 => ?_, fun _ e0 => (nomatch e0), fun _ _ p hp' => ?_⟩
        · exact fin t _ st (by rw [upd_same, ej, e0]; rfl)
        · exact fin p _ (st.trans (same_new hp' _)) (by rw [upd_same, ej])
      · have c' : ¬ u.count j < m := by have := of_decide_eq_false c; omega
        rw [if_neg c', List.append_nil] at ns
        exact ⟨_, _, rfl, s4, qs, q4, by rw [ns]; exact p4⟩
    · rintro σ H3 ⟨wh', mo', rfl, s3, D3⟩
      rw [natV_len, KM.nextsTo_all, ← gt] at D3
      exact ⟨_, _, _, rfl, s3, D3⟩
  · rintro σ H2 ⟨d, wh, mo, rfl, s2, D2⟩
    refine ⟨_, rfl, ?_⟩
    rw [List.length_map, ← hrl, List.take_length] at D2
    exact q l H2 s2 hl D2
/-! ### the deals -/
noncomputable def spDeals (K : PySem.W.Frag) : Sp := fun vs H Q _ => ∃ (c : Nat) (a : Addr) (ss : List Nat), vs = [.int c, .ref a] ∧ H a = some (.lst (natV ss)) ∧ Pack c ss ∧ KM.multi c ss ≤ 2000 ∧
  ∀ (p : Addr) (H' : Hp), Same H H' → H p = none → DealsAt H' p (KM.level (ss ++ [c - ss.sum]) c) → Q (.ref p) H'
theorem natV_snoc (ss : List Nat) (c : Nat) : natV ss ++ [.int (c : Int)] = natV (ss ++ [c]) := by unfold natV; rw [List.map_append]; rfl
noncomputable abbrev sp_deals_of (K : PySem.W.Frag) : Sp := spDeals K
noncomputable def t_deals_of (K : PySem.W.Frag) : TS := (tSeq (tIfS (tTest (tOp (rI0 fun i j => .bl (decide (j < i))) (tCall (sp_how_many K) [] E0 (tCons (tVar 0) (tCons (tVar 1) tNil))) (tC (.int 2000)))) tNever tNext)
  (tSeq (tAsg (tOp rCat (tVar 1) (tLst (tCons (tOp (rI0 fun i j => .int (i - j)) (tVar 0) (tCB (cSum K) (tCons (tVar 1) tNil))) tNil))) (gName 2))
  (tSeq (tAsg (tLst (tCons (tTup tNil) tNil)) (gName 3))
  (tSeq (tFor (iRng1 (tCons (tVar 0) tNil)) (gName 4) (tAsg (tCall (sp_with_one_more K) [] E0 (tCons (tVar 3) (tCons (tVar 2) tNil))) (gName 3)))
  (tRet (tVar 3))))))
theorem len_deals_of {K : PySem.W.Frag} {vs : List V} {H : Hp} {Q : VK} {E : XK} (h : sp_deals_of K vs H Q E) : vs.length = 2 := by
  obtain ⟨c, a, ss, rfl, _⟩ := h
  rfl
theorem rd_deals_of {K : PySem.W.Frag} {vs : List V} {H : Hp} {Q : VK} {E : XK} (h : sp_deals_of K vs H Q E) : t_deals_of K { nx := fun _ H' => Q .non H', rt := Q } (start ["cards", "sizes", "room", "begun", "card"] vs) H := by
  obtain ⟨c, a, ss, rfl, ha, p, hm, q⟩ := h
  have h12 := p.c12
  have h5 := p.l5
  have hsum := p.sum
  refine ⟨_, rfl, _, rfl, c, a, ss, rfl, ha, p, fun H1 s1 => ?_⟩
  refine ⟨_, _, rfl, rfl, _, rfl, ite_of (fun k => ?_) (fun _ => ?_)⟩
  · have k' : (2000 : Int) < ((KM.multi c ss : Nat) : Int) := of_decide_eq_true k
    omega
  have a1 := s1 _ _ ha
  refine ⟨_, rfl, _, rfl, _, rfl, a, _, rfl, by rw [← natV_ints]; exact SqL.of a1, _, _, rfl, rfl, (by show 1 ≤ sizeLine; decide), fun l hl => ?_⟩
  have s2 : Same H (upd H1 l (.lst [.int ((c : Int) - (ss.map fun (s : Nat) => ((s : Nat) : Int)).sum)])) := s1.trans (same_new hl _)
  have e2 : (upd H1 l (.lst [.int ((c : Int) - (ss.map fun (s : Nat) => ((s : Nat) : Int)).sum)])) l = some (.lst [.int ((c : Int) - (ss.map fun (s : Nat) => ((s : Nat) : Int)).sum)]) := upd_same
  rw [show (c : Int) - (ss.map fun (s : Nat) => ((s : Nat) : Int)).sum = ((c - ss.sum : Nat) : Int) by rw [sum_cast]; omega] at s2 e2
  dsimp only
  rw [show (c : Int) - (ss.map fun (s : Nat) => ((s : Nat) : Int)).sum = ((c - ss.sum : Nat) : Int) by rw [sum_cast]; omega]
  generalize upd H1 l (.lst [.int ((c - ss.sum : Nat) : Int)]) = H2 at s2 e2
  refine ⟨a, l, _, _, rfl, rfl, s2 _ _ ha, e2, small (by rw [natV_len]; show ss.length + 1 ≤ 1000; omega), fun rm hrm => ?_⟩
  rw [natV_snoc]
  have hRs : (ss ++ [c - ss.sum]).sum = c := by rw [List.sum_append, List.sum_cons, List.sum_nil]; omega
  have hRl : (ss ++ [c - ss.sum]).length ≤ 6 := by rw [List.length_append]; show ss.length + 1 ≤ 6; omega
  have hlev := KM.level_multi hsum
  have s3 : Same H (upd H2 rm (.lst (natV (ss ++ [c - ss.sum])))) := s2.trans (same_new hrm _)
  have e3 : (upd H2 rm (.lst (natV (ss ++ [c - ss.sum])))) rm = some (.lst (natV (ss ++ [c - ss.sum]))) := upd_same
  generalize ss ++ [c - ss.sum] = R at *
  generalize upd H2 rm (.lst (natV R)) = H3 at s3 e3
  refine ⟨(by show 0 ≤ sizeLine; decide), fun t ht => ⟨(by show 1 ≤ sizeLine; decide), fun b hb => ?_⟩⟩
  have s4 : Same H3 (upd (upd H3 t (.tup [])) b (.lst [.ref t])) := (same_new ht _).trans (same_new hb _)
  have D4 : DealsAt (upd (upd H3 t (.tup [])) b (.lst [.ref t])) b (KM.level R 0) := ⟨[t], upd_same, .cons (by rw [upd_ne (ne_of_none (upd_same (o := HO.tup [])) hb)]; exact upd_same) .nil⟩
  have f4 : H b = none := by
    have : H3 b = none := (same_new ht _).free hb
    exact s3.free this
  generalize upd (upd H3 t (.tup [])) b (.lst [.ref t]) = H4 at s4 D4
  refine ⟨_, rfl, _, rfl, by omega, by omega, for_range (lo := 0) (n := ((c : Nat) : Int).toNat) (fun i σ H5 => ∃ (b : Addr) (st : Option V), σ = [some (.int c), some (.ref a), some (.ref rm), some (.ref b), st] ∧ Same H3 H5 ∧ H b = none ∧ DealsAt H5 b (KM.level R i)) ⟨b, none, rfl, s4, f4, D4⟩ ?_ ?_⟩
  · rintro i σ H5 hi ⟨b', st, rfl, s5, f5, D5⟩
    have hi' : i + 1 ≤ c := by omega
    refine ⟨_, rfl, _, rfl, b', rm, _, R, rfl, D5, s5 _ _ e3, hRl, ?_, fun u hu => ?_, fun p' H6 s6 f6 D6 => ?_⟩
    · have h1 := KM.level_le (room := R) (i := i + 1) (by omega)
      rw [hRs, hlev] at h1
      exact Nat.le_trans h1 hm
    · have := (KM.level_begun R i u hu).len
      omega
    · exact ⟨p', _, rfl, s5.trans s6, (s3.trans s5).free f6, D6⟩
  · rintro σ H5 ⟨b', st, rfl, s5, f5, D5⟩
    refine ⟨_, rfl, ?_⟩
    rw [show ((c : Nat) : Int).toNat = c by omega] at D5
    exact q b' H5 (s3.trans s5) f5 D5

/-! ### the cards of a holder -/
theorem natV_at {ss : List Nat} {i : Nat} {x : V} (hx : (natV ss)[i]? = some x) : ∃ z : Nat, ss[i]? = some z ∧ x = .int (z : Int) := by
  unfold natV at hx
  rw [List.getElem?_map] at hx
  cases e : ss[i]? with
  | none => rw [e] at hx; cases hx
  | some z => rw [e] at hx; exact ⟨z, rfl, (Option.some.inj hx).symm⟩

end L2

end

section
-- KcLawC
set_option Elab.async false
set_option linter.all false
set_option maxRecDepth 100000
set_option maxHeartbeats 4000000
namespace L2
open PySem PyProof.Rows

/-! ### the numbers out of a script -/
noncomputable abbrev sp__law_cell (K : PySem.W.Frag) : Sp := spCell K
noncomputable def t__law_cell (K : PySem.W.Frag) : TS := (tSeq (tIfS (tTest (tOp (rI0 fun i j => .bl (decide (i < j))) (tVar 1) (tCB (cLen K) (tCons (tVar 0) tNil)))) (tRet (tOp (rIxL K) (tVar 0) (tVar 1))) tNext)
  (tSeq (tAsg (tOp (rI0 fun i j => .int (i + j)) (tOp (rI IntMulOk fun i j => .int (i * j)) (tVar 1) (tC (.int 7919))) (tC (.int 5))) (gName 2))
  (tSeq (tIfS (tTest (tOp (rI0 fun i j => .bl (decide (j < i))) (tCB (cLen K) (tCons (tVar 0) tNil)) (tC (.int 0)))) (tAsg (tOp (rI0 fun i j => .int (i + j)) (tOp (rI IntMulOk fun i j => .int (i * j)) (tOp (rIxL K) (tVar 0) (tOp (rI (fun _ j => 0 < j) fun i j => .int (i % j)) (tOp (rI IntMulOk fun i j => .int (i * j)) (tVar 1) (tC (.int 7))) (tCB (cLen K) (tCons (tVar 0) tNil)))) (tC (.int 48271))) (tOp (rI IntMulOk fun i j => .int (i * j)) (tVar 1) (tC (.int 7919)))) (gName 2)) tNext)
  (tSeq (tAsg (tOp (rI (fun _ j => 0 < j) fun i j => .int (i % j)) (tOp (rI IntMulOk fun i j => .int (i * j)) (tVar 2) (tVar 2)) (tC (.int 2147483629))) (gName 2))
  (tRet (tOp (rI (fun _ j => 0 < j) fun i j => .int (i % j)) (tOp (rI IntMulOk fun i j => .int (i * j)) (tOp (rI0 fun i j => .int (i + j)) (tVar 2) (tVar 1)) (tOp (rI0 fun i j => .int (i + j)) (tVar 2) (tC (.int 69621)))) (tC (.int 2147483587))))))))
theorem len__law_cell {K : PySem.W.Frag} {vs : List V} {H : Hp} {Q : VK} {E : XK} (h : sp__law_cell K vs H Q E) : vs.length = 2 := by
  obtain ⟨a, ns, k, rfl, ⟨hS, h63, hbits⟩, h0, h1, q⟩ := h
  rfl
theorem rd__law_cell {K : PySem.W.Frag} {vs : List V} {H : Hp} {Q : VK} {E : XK} (h : sp__law_cell K vs H Q E) : t__law_cell K { nx := fun _ H' => Q .non H', rt := Q } (start ["_law_script", "_law_k", "_law_number"] vs) H := by
  obtain ⟨a, ns, k, rfl, ⟨hS, h63, hbits⟩, h0, h1, q⟩ := h
  show t__law_cell K _ [some _, some _, none] _
  unfold t__law_cell
  have hl : (ns.map V.int).length = ns.length := List.length_map _
  walk_at "rd"
  rw [hl]
  refine ite_dec (fun c => ?_) (fun c => ?_)
  · walk_at "rd"
    refine r_ixL hS (atI_ints h0 c) ?_
    have e : cellN ns k = ns.getD k.toNat 0 := by unfold cellN; rw [if_pos c]
    rw [e] at q
    exact q
  · refine r_next ?_
    dsimp only
    refine r_seq ?_
    walk_at "rs"
    refine r_seq_n fun NX hNX => ?_
    have last : ∀ n0 : Int, Builtin.Int.intBits n0 ≤ 1048600 → cellN ns k = ((n0 * n0 % 2147483629) + k) * ((n0 * n0 % 2147483629) + 69621) % 2147483587 → NX [some (.ref a), some (.int k), some (.int n0)] H := by
      intro n0 hb e
      refine hNX _ _ ?_
      have z1 : 0 ≤ n0 * n0 % 2147483629 := Int.emod_nonneg _ (by decide)
      have z2 : n0 * n0 % 2147483629 < 2147483629 := Int.emod_lt_of_pos _ (by decide)
      refine r_seq ?_
      refine r_asg ?_
      refine r_op ?_
      refine r_op ?_
      refine r_var rfl ?_
      refine r_var rfl ?_
      refine r_I (.of_le hb hb (by decide)) ?_
      walk_at "rd"
      rw [e] at q
      exact q
    walk_at "rs"
    rw [hl]
    refine ite_dec (fun d => ?_) (fun d => ?_)
    · have m1 : 0 ≤ k * 7 % (ns.length : Int) := Int.emod_nonneg _ (by omega)
      have m2 : k * 7 % (ns.length : Int) < (ns.length : Int) := Int.emod_lt_of_pos _ d
      walk_at "rs"
      rw [hl]
      refine r_ixL hS (atI_ints m1 m2) ?_
      walk_at "rs"
      refine last _ ?_ ?_
      · have b1 := bits_getD hbits (k * 7 % (ns.length : Int)).toNat
        have b2 : Builtin.Int.intBits (48271 : Int) ≤ 16 := by decide
        have b3 : Builtin.Int.intBits k ≤ 20 := intBits_le_iff.mpr (by have : (2 : Nat) ^ 20 = 1048576 := by decide
                                                                       omega)
        have b4 : Builtin.Int.intBits (7919 : Int) ≤ 13 := by decide
        exact Nat.le_trans (intBits_add_le (intBits_mul_le b1 b2) (intBits_mul_le b3 b4)) (by decide)
      · unfold cellN
        rw [if_neg c, if_pos d]
    · walk_at "rs"
      refine last _ ?_ ?_
      · have b3 : Builtin.Int.intBits k ≤ 20 := intBits_le_iff.mpr (by have : (2 : Nat) ^ 20 = 1048576 := by decide
                                                                       omega)
        have b4 : Builtin.Int.intBits (7919 : Int) ≤ 13 := by decide
        have b5 : Builtin.Int.intBits (5 : Int) ≤ 3 := by decide
        exact Nat.le_trans (intBits_add_le (intBits_mul_le b3 b4) b5) (by decide)
      · unfold cellN
        rw [if_neg c, if_neg d]
/-! ### products -/
noncomputable def sp__law_product (_ : PySem.W.Frag) : Sp := fun vs H Q _ => ∃ n : Nat, vs = [.int n] ∧ n ≤ 12 ∧ Q (.int (KM.fact n : Nat)) H
noncomputable def t__law_product (K : PySem.W.Frag) : TS := (tSeq (tAsg (tC (.int 1)) (gName 1))
  (tSeq (tFor (iRng1 (tCons (tVar 0) tNil)) (gName 2) (tAsg (tOp (rI IntMulOk fun i j => .int (i * j)) (tVar 1) (tOp (rI0 fun i j => .int (i + j)) (tVar 2) (tC (.int 1)))) (gName 1)))
  (tRet (tVar 1))))
theorem KM.fact_le {n m : Nat} (h : n ≤ m) : KM.fact n ≤ KM.fact m := by
  induction m with
  | zero => have : n = 0 := by omega
            subst this; exact Nat.le_refl _
  | succ m ih =>
    by_cases e : n = m + 1
    · subst e; exact Nat.le_refl _
    · have := ih (by omega)
      rw [KM.fact]
      exact Nat.le_trans this (Nat.le_mul_of_pos_right _ (Nat.succ_pos m))
theorem fact12 {n : Nat} (h : n ≤ 12) : KM.fact n ≤ 479001600 := Nat.le_trans (KM.fact_le h) (by decide)
theorem len__law_product {K : PySem.W.Frag} {vs : List V} {H : Hp} {Q : VK} {E : XK} (h : sp__law_product K vs H Q E) : vs.length = 1 := by
  obtain ⟨n, rfl, hn, q⟩ := h
  rfl
theorem rd__law_product {K : PySem.W.Frag} {vs : List V} {H : Hp} {Q : VK} {E : XK} (h : sp__law_product K vs H Q E) : t__law_product K { nx := fun _ H' => Q .non H', rt := Q } (start ["_law_many", "_law_found", "_law_k"] vs) H := by
  obtain ⟨n, rfl, hn, q⟩ := h
  show t__law_product K _ [some _, none, none] _
  unfold t__law_product
  walk_at "rd"
  refine lp_range n (by omega) (by omega) (by omega) (fun i σ H2 => ∃ st, σ = [some (.int n), some (.int (KM.fact i : Nat)), st] ∧ H2 = H) ⟨none, rfl, rfl⟩ ?_ ?_
  · rintro i σ H2 hi ⟨st, rfl, rfl⟩
    have := fact12 (n := i) (by omega)
    walk_at "rd"
    refine ⟨some (.int i), ?_, rfl⟩
    rw [KM.fact, Int.natCast_mul, show ((i : Int) + 1) = ((i + 1 : Nat) : Int) by omega]
  · rintro σ H2 ⟨st, rfl, rfl⟩
    walk_at "rd"
    exact q
/-! ### the count of deals by factorials -/
noncomputable def sp__law_count (_ : PySem.W.Frag) : Sp := fun vs H Q _ => ∃ (c : Nat) (a : Addr) (ss : List Nat), vs = [.int c, .ref a] ∧ H a = some (.lst (natV ss)) ∧ ss.sum ≤ c ∧ c ≤ 12 ∧ ss.length ≤ 100 ∧ ∀ H', Same H H' → Q (.int (KM.multi c ss : Nat)) H'
noncomputable def t__law_count (K : PySem.W.Frag) : TS := (tSeq (tAsg (tCall (sp__law_product K) [] E0 (tCons (tVar 0) tNil)) (gName 2))
  (tSeq (tFor (iList K (tOp mCat (tVar 1) (mLst (tCons (tOp (rI0 fun i j => .int (i - j)) (tVar 0) (tCB (cSum K) (tCons (tVar 1) tNil))) tNil)))) (gName 3) (tAsg (tOp (rI CDiv fun i j => .int (i / j)) (tVar 2) (tCall (sp__law_product K) [] E0 (tCons (tVar 3) tNil))) (gName 2)))
  (tRet (tVar 2))))
theorem len__law_count {K : PySem.W.Frag} {vs : List V} {H : Hp} {Q : VK} {E : XK} (h : sp__law_count K vs H Q E) : vs.length = 2 := by
  obtain ⟨c, a, ss, rfl, ha, hs, hc, hl, q⟩ := h
  rfl
theorem rd__law_count {K : PySem.W.Frag} {vs : List V} {H : Hp} {Q : VK} {E : XK} (h : sp__law_count K vs H Q E) : t__law_count K { nx := fun _ H' => Q .non H', rt := Q } (start ["_law_cards", "_law_sizes", "_law_found", "_law_many"] vs) H := by
  obtain ⟨c, a, ss, rfl, ha, hs, hc, hl, q⟩ := h
  show t__law_count K _ [some _, some _, none, none] _
  unfold t__law_count
  walk_at "rd"
  refine ⟨c, rfl, hc, ?_⟩
  walk_at "rd"
  refine r_sum (ns := ss.map fun (s : Nat) => ((s : Nat) : Int)) (SqL.of (by rw [← natV_ints]; exact ha)) ?_
  walk_at "rd"
  rw [sum_cast, show (c : Int) - ((ss.sum : Nat) : Int) = ((c - ss.sum : Nat) : Int) by omega]
  refine ⟨by simp [sizeLine_eq], fun b H1 hb s1 e1 => m_cat (s1 _ _ ha) e1 (by rw [natV_len, sizeLine_eq]; simp; omega) fun p H2 hp s2 e2 => ?_⟩
  rw [natV_snoc] at e2
  generalize hR : ss ++ [c - ss.sum] = R at e2
  have hRs : R.sum = c := by rw [← hR, List.sum_append, List.sum_cons, List.sum_nil]; omega
  have hpf : KM.multi c ss * KM.prodF R = KM.fact c := by rw [← hR]; exact KM.prodF_multi c ss hs
  have hdv : R.foldl (fun f s => f / KM.fact s) (KM.fact c) = KM.multi c ss := by rw [← hpf]; exact KM.divs R _
  have s12 := s1.trans s2
  refine lp_list (natV R) (SqL.of e2) (fun i σ H3 => ∃ st, σ = [some (.int c), some (.ref a), some (.int (((R.take i).foldl (fun f s => f / KM.fact s) (KM.fact c) : Nat) : Int)), st] ∧ H3 = H2) ⟨none, rfl, rfl⟩ (fun i σ H3 _ ⟨_, _, e⟩ => by subst e; exact SqL.of e2) ?_ ?_
  · rintro i x σ H3 hx ⟨st, rfl, rfl⟩
    obtain ⟨z, hz, rfl⟩ := natV_at hx
    have hz12 : z ≤ 12 := by
      have := mem_le_sum (List.mem_of_getElem? hz)
      omega
    walk_at "rd"
    refine ⟨z, rfl, hz12, ?_⟩
    have h1 := KM.fact_pos z
    have h2 := fact12 hz12
    walk_at "rd"
    refine ⟨some (.int z), ?_, rfl⟩
    rw [List.take_add_one, hz, List.foldl_append, ← Int.natCast_ediv]
    rfl
  · rintro σ H3 ⟨st, rfl, rfl⟩
    walk_at "rd"
    rw [natV_len, List.take_length, hdv]
    exact q _ s12

/-! ### the pack -/
end L2

end

section
-- KcLawP
set_option Elab.async false
set_option linter.all false
set_option maxRecDepth 100000
set_option maxHeartbeats 4000000
namespace L2
open PySem PyProof.Rows

end L2

end

section
-- KcSameD
set_option Elab.async false
set_option linter.all false
set_option maxRecDepth 100000
set_option maxHeartbeats 4000000
namespace L2
open PySem PyProof.Rows
/-! ### one and the same data, lists and tuples to any depth -/
noncomputable def flatD : V → Bool
  | .non => true
  | .bl _ => true
  | .int _ => true
  | _ => false
inductive SameD (K : PySem.W.Frag) (H : Hp) : Nat → V → V → Prop where
  | flat {n : Nat} {x : V} (h : flatD x = true) : SameD K H n x x
  | lst {n : Nat} {a b : Addr} {xs ys : List V} (e1 : SqL K H a xs) (e2 : SqL K H b ys) (hl : xs.length = ys.length) (h : ∀ (i : Nat) (x y : V), xs[i]? = some x → ys[i]? = some y → SameD K H n x y) : SameD K H (n + 1) (.ref a) (.ref b)
  | tup {n : Nat} {a b : Addr} {xs ys : List V} (e1 : SqT K H a xs) (e2 : SqT K H b ys) (hl : xs.length = ys.length) (h : ∀ (i : Nat) (x y : V), xs[i]? = some x → ys[i]? = some y → SameD K H n x y) : SameD K H (n + 1) (.ref a) (.ref b)
noncomputable def rSameD (K : PySem.W.Frag) (neg : Bool) : R2 := fun x y H Q => ∃ n, n ≤ 30 ∧ SameD K H n x y ∧ Q (.bl (!neg)) H
section
variable {K : PySem.W.Frag} {H : Hp} {Q : VK}
theorem r_sameE {x y : V} (n : Nat) (hn : n ≤ 30) (h : SameD K H n x y) (q : Q (.bl true) H) : rSameD K false x y H Q := ⟨n, hn, h, q⟩
theorem r_sameN {x y : V} (n : Nat) (hn : n ≤ 30) (h : SameD K H n x y) (q : Q (.bl false) H) : rSameD K true x y H Q := ⟨n, hn, h, q⟩
theorem same_flatL {a b : Addr} {xs : List V} (e1 : SqL K H a xs) (e2 : SqL K H b xs) (hf : ∀ x ∈ xs, flatD x = true) : SameD K H 1 (.ref a) (.ref b) :=
  .lst e1 e2 rfl fun i x y hx hy => by
    rw [hx] at hy
    cases hy
    exact .flat (hf x (List.mem_of_getElem? hx))
theorem SameD.up {n m : Nat} {x y : V} (h : SameD K H n x y) (hm : n ≤ m) : SameD K H m x y := by
  induction h generalizing m with
  | flat h => exact .flat h
  | lst e1 e2 hl _ ih =>
    obtain ⟨k, rfl⟩ : ∃ k, m = k + 1 := ⟨m - 1, by omega⟩
    exact .lst e1 e2 hl fun i x y hx hy => ih i x y hx hy (by omega)
  | tup e1 e2 hl _ ih =>
    obtain ⟨k, rfl⟩ : ∃ k, m = k + 1 := ⟨m - 1, by omega⟩
    exact .tup e1 e2 hl fun i x y hx hy => ih i x y hx hy (by omega)
end
/-! ### a comprehension over enumerate -/
section
variable {g : CF TG} {tt : CF TT} {te : CF TE} {σ₀ : St} {Q : VK} {H : Hp} {K : PySem.W.Frag}
end
end L2

end

section
-- KcNew
set_option Elab.async false
set_option linter.all false
set_option maxRecDepth 100000
set_option maxHeartbeats 4000000
namespace L2
open PySem PySem.Spec PyProof.Rows
theorem Room.units64 {k : Nat} {A : Around} (r : Room k A) : A.units + 64 < cLine := by have := r.un; omega
section
variable {X : Cx}
theorem OpR.weak {f : Value → Value → Sem Value} {r r' : R2} (h : OpR X f r) (w : ∀ x y H Q, r' x y H Q → r x y H Q) : OpR X f r' := fun pins s σ H x y v u Q I rx ry q => h pins s σ H x y v u Q I rx ry (w x y H Q q)
theorem CallR.weak {f : Value} {r r' : List V → Hp → VK → Prop} (h : CallR X f r) (w : ∀ xs H Q, r' xs H Q → r xs H Q) : CallR X f r' := fun pins s σ H xs us Q I rx q => h pins s σ H xs us Q I rx (w xs H Q q)
theorem om_cat : OpR X (binaryOp .Add) mCat := op_cat.weak fun _ _ _ _ ⟨l, b, xs, zs, e1, e2, h1, h2, hz, q⟩ => ⟨l, b, xs, zs, e1, e2, h1, h2, hz, q.upd⟩
theorem om_rep : OpR X (binaryOp .Mult) mRep := op_rep.weak fun _ _ _ _ ⟨l, k, xs, e1, e2, h1, h2, h3, hz, q⟩ => ⟨l, k, xs, e1, e2, h1, h2, h3, hz, q.upd⟩
theorem cm_list : CallR X (.type "list") (mCList X.K) := call_list_of.weak fun _ _ _ ⟨p, ys, e, h, q⟩ => ⟨p, ys, e, h, q.upd⟩
theorem cm_tuple : CallR X (.type "tuple") (mCTuple X.K) := call_tuple_of.weak fun _ _ _ ⟨p, ys, e, h, q⟩ => ⟨p, ys, e, .inl ⟨h, q.upd⟩⟩
theorem sm_list : SlR X (mSlL X.K) := fun pins s σ H x v vl vu lo hi sl Q I rx hs pl pu ⟨a, xs, e, h, q⟩ => sl_list pins s σ H x v vl vu lo hi sl Q I rx hs pl pu ⟨a, xs, e, h, q.upd⟩
end
section
variable {X : Cx} {es : List Expr} {t : TA} {pos : Pos}
theorem pm_tup {x1} (h : PA X es t) : PE X (.Tuple es x1 pos) (mTup t) := by
  intro pins s σ H Q I hq
  refine wpAny_Tuple_spliced (thn (h pos pins s σ H _ I hq) fun us s1 ⟨xs, H1, I1, r, z, q⟩ => ⟨by rw [← r.length]; exact z, ?_⟩)
  have hf : H1 s1.heap.objs.size = none := I1.hok.fresh (Nat.le_refl _)
  refine ⟨.ref s1.heap.objs.size, upd H1 s1.heap.objs.size (.tup xs), I1.laid (t' := s1.toks) (fun b u e => Heap.get?_push_of_some _ e) (Nat.le_refl _) ?_, rfl, q.upd _ hf⟩
  exact ⟨z, us, r, IsTupD.new _ _⟩
theorem pm_lst (h : PA X es t) : PE X (.List es pos) (mLst t) := by
  intro pins s σ H Q I hq
  refine wpAny_List_spliced (thn (h pos pins s σ H _ I hq) fun us s1 ⟨xs, H1, I1, r, z, q⟩ => ⟨by rw [← r.length]; exact z, ?_⟩)
  have hf : H1 s1.heap.objs.size = none := I1.hok.fresh (Nat.le_refl _)
  refine ⟨.ref s1.heap.objs.size, upd H1 s1.heap.objs.size (.lst xs), I1.laid (t' := s1.toks) (fun b u e => Heap.get?_push_of_some _ e) (Nat.le_refl _) ?_, rfl, q.upd _ hf⟩
  exact ⟨z, us, 0, r, Heap.get?_push_size _ rfl⟩
end
/-! ### arguments, names: what is read off the text once -/
section
variable {X : Cx} {es : List Expr} {te : TE} {t : TA}
theorem pac_Constant {v : Const} {j : Nat} {p : Pos} (ha : PE X (.Constant v j p) te) (hr : PA X es t) : PA X (.Constant v j p :: es) (tCons te t) := pa_cons ha hr rfl
theorem pac_Name {x : Str} {p : Pos} (ha : PE X (.Name x p) te) (hr : PA X es t) : PA X (.Name x p :: es) (tCons te t) := pa_cons ha hr rfl
theorem pac_BinOp {a b : Expr} {o : Operator} {p : Pos} (ha : PE X (.BinOp a o b p) te) (hr : PA X es t) : PA X (.BinOp a o b p :: es) (tCons te t) := pa_cons ha hr rfl
theorem pac_UnaryOp {a : Expr} {o : UnaryOp} {p : Pos} (ha : PE X (.UnaryOp o a p) te) (hr : PA X es t) : PA X (.UnaryOp o a p :: es) (tCons te t) := pa_cons ha hr rfl
theorem pac_Call {f : Expr} {as : List Expr} {ks : List Keyword} {p : Pos} (ha : PE X (.Call f as ks p) te) (hr : PA X es t) : PA X (.Call f as ks p :: es) (tCons te t) := pa_cons ha hr rfl
theorem pac_Tuple {as : List Expr} {k : Nat} {p : Pos} (ha : PE X (.Tuple as k p) te) (hr : PA X es t) : PA X (.Tuple as k p :: es) (tCons te t) := pa_cons ha hr rfl
theorem pac_List {as : List Expr} {p : Pos} (ha : PE X (.List as p) te) (hr : PA X es t) : PA X (.List as p :: es) (tCons te t) := pa_cons ha hr rfl
theorem pac_Subscript {a b : Expr} {p : Pos} (ha : PE X (.Subscript a b p) te) (hr : PA X es t) : PA X (.Subscript a b p :: es) (tCons te t) := pa_cons ha hr rfl
theorem pac_ListComp {e : Expr} (ha : PE X e te) (hr : PA X es t) (hs : starEach (e :: es) X.env = (false, eval e X.env) :: starEach es X.env := by rfl) : PA X (e :: es) (tCons te t) := pa_cons ha hr hs
structure VarAt (N : List Str) (sc : Scope) (i : Nat) (x : Str) : Prop where
  n : N[i]? = some x
  v : Vis sc x
  d : (x == ("__debug__" : Str)) = false
  c : (x == ("__classdict__" : Str)) = false
theorem pvQ {N : List Str} {sc : Scope} {i : Nat} {x : Str} {pos : Pos} (h : VarAt N sc i x) (hN : X.N = N) (hS : X.env.scope = sc) : PE X (.Name x pos) (tVar i) := by
  subst hN hS
  exact pe_var h.n h.v h.d h.c
end
end L2

end

section
-- KcDict
set_option Elab.async false
set_option linter.all false
set_option maxRecDepth 100000
set_option maxHeartbeats 4000000
namespace L2
open PySem PySem.Spec PyProof.Rows

/-! ### lists of pairs as tables -/
section
variable {κ : Type} [DecidableEq κ]
noncomputable def valV (kvs : List (κ × V)) (k : κ) : Option V := (kvs.find? fun kv => decide (kv.1 = k)).map (·.2)
noncomputable def putK (kvs : List (κ × V)) (k : κ) (v : V) : List (κ × V) :=
  if (kvs.any fun kv => decide (kv.1 = k)) = true then kvs.map (fun kv => if kv.1 = k then (kv.1, v) else kv) else kvs ++ [(k, v)]
noncomputable def dropK (kvs : List (κ × V)) (k : κ) : List (κ × V) := kvs.filter fun kv => decide (kv.1 ≠ k)

theorem RelO.getD {o : Option V} {u : Option Value} {d : V} {d' : Value} (r : RelO o u) (rd : RelV d d') : RelV (o.getD d) (u.getD d') := by
  cases o with
  | none => cases u with
    | none => exact rd
    | some _ => exact (show False from r).elim
  | some _ => cases u with
    | none => exact (show False from r).elim
    | some _ => exact r

theorem KV.any {kvs : List (κ × V)} {vs : List (κ × Value)} (r : KV kvs vs) (k : κ) : (kvs.any fun kv => decide (kv.1 = k)) = vs.any fun kv => decide (kv.1 = k) := by
  unfold KV at r
  induction r with
  | nil => rfl
  | cons h t ih => rw [List.any_cons, List.any_cons, ih, h.1]
theorem KV.drop {kvs : List (κ × V)} {vs : List (κ × Value)} (r : KV kvs vs) (k : κ) : KV (dropK kvs k) (without vs k) := by
  unfold KV at r ⊢
  unfold dropK without
  induction r with
  | nil => exact .nil
  | @cons p q ps qs h t ih =>
    obtain ⟨h1, h2⟩ := h
    rw [List.filter_cons, List.filter_cons]
    by_cases e : p.1 = k
    · have a : ¬ decide (p.1 ≠ k) = true := by simp [e]
      have b : ¬ decide (q.1 ≠ k) = true := by simp [h1.symm.trans e]
      rw [if_neg a, if_neg b]; exact ih
    · have e' : ¬ q.1 = k := fun z => e (h1.trans z)
      have a : decide (p.1 ≠ k) = true := by simp [e]
      have b : decide (q.1 ≠ k) = true := by simp [e']
      rw [if_pos a, if_pos b]; exact .cons ⟨h1, h2⟩ ih
theorem KV.keys {kvs : List (κ × V)} {vs : List (κ × Value)} (r : KV kvs vs) : kvs.map (·.1) = vs.map (·.1) := by
  unfold KV at r
  induction r with
  | nil => rfl
  | cons h t ih => rw [List.map_cons, List.map_cons, ih, h.1]
theorem KV.length {kvs : List (κ × V)} {vs : List (κ × Value)} (r : KV kvs vs) : kvs.length = vs.length := Paired.length r
end


/-! ### a tracked dict, its keys ints and texts or tuples of these -/
noncomputable abbrev KT (H : Hp) : List (List Key × V) → List (List Key × Addr × Value) → Prop := Paired fun p q => p.1 = q.1 ∧ H q.2.1 = some (.tup (p.1.map kV)) ∧ RelV p.2 q.2.2
theorem KT.keeps {H H' : Hp} {kvs : List (List Key × V)} {xs : List (List Key × Addr × Value)} (r : KT H kvs xs) (ht : ∀ b ys, H b = some (.tup ys) → H' b = some (.tup ys)) : KT H' kvs xs :=
  Paired.mapP r fun _ _ z => ⟨z.1, ht _ _ z.2.1, z.2.2⟩

section
variable {P : Program} {w : World} {H : Hp} {h : Heap} {a : Addr}
end

noncomputable def DGet (H : Hp) (a : Addr) (y : V) (r : Option V) : Prop :=
  (∃ kvs k, Rd H a (.dK kvs) ∧ y = kV k ∧ r = valV kvs k) ∨ ∃ kvs k b, Rd H a (.dT kvs) ∧ y = .ref b ∧ H b = some (.tup (k.map kV)) ∧ r = valV kvs k
noncomputable def DPut (H : Hp) (a : Addr) (y v : V) (H' : Hp) : Prop :=
  (∃ kvs k, H a = some (.dK kvs) ∧ y = kV k ∧ kvs.length < sizeLine ∧ H' = upd H a (.dK (putK kvs k v))) ∨
  ∃ kvs k b, H a = some (.dT kvs) ∧ y = .ref b ∧ H b = some (.tup (k.map kV)) ∧ kvs.length < sizeLine ∧ H' = upd H a (.dT (putK kvs k v))
theorem DGet.k {H : Hp} {a : Addr} {kvs : List (Key × V)} {k : Key} (e : H a = some (.dK kvs)) : DGet H a (kV k) (valV kvs k) := .inl ⟨kvs, k, .inl e, rfl, rfl⟩
theorem DGet.t {H : Hp} {a b : Addr} {kvs : List (List Key × V)} {k : List Key} (e : H a = some (.dT kvs)) (eb : H b = some (.tup (k.map kV))) : DGet H a (.ref b) (valV kvs k) := .inr ⟨kvs, k, b, .inl e, rfl, eb, rfl⟩
theorem DPut.k {H : Hp} {a : Addr} {kvs : List (Key × V)} {k : Key} {v : V} (e : H a = some (.dK kvs)) (hl : kvs.length < sizeLine) : DPut H a (kV k) v (upd H a (.dK (putK kvs k v))) := .inl ⟨kvs, k, e, rfl, hl, rfl⟩
theorem DPut.t {H : Hp} {a b : Addr} {kvs : List (List Key × V)} {k : List Key} {v : V} (e : H a = some (.dT kvs)) (eb : H b = some (.tup (k.map kV))) (hl : kvs.length < sizeLine) :
    DPut H a (.ref b) v (upd H a (.dT (putK kvs k v))) := .inr ⟨kvs, k, b, e, rfl, eb, hl, rfl⟩


section
variable {X : Cx} {pins : List (Addr × Obj)} {σ : St} {H : Hp} {s : Shared} {a : Addr} {y v : V} {u r : Value} {o : Option V} {A : Around} {E : Value → Shared → Prop}

end

section
variable {X : Cx} {pins : List (Addr × Obj)} {σ : St} {H : Hp} {s : Shared} {a : Addr} {kvs : List (Key × V)} {k : Key} {u : Value} {A : Around} {E : Value → Shared → Prop}
end


/-! ### readings and rules -/
section
variable {X : Cx} {o i e value : Expr} {pos pos' tpos : Pos} {td ty tv : TE}
end


/-! ### displays -/
section
variable {X : Cx} {pos : Pos}
end

/-! ### methods -/
structure M1 (X : Cx) (o : Expr) (m : Str) (apos : Pos) (e : Expr) (cpos : Pos) : Prop where
  base : attributeBase o m X.env (eval o X.env) = eval o X.env
  few : ((backTo cpos (starEach [e] X.env)).all (fun x => !x.1) && (backToKw cpos (keywordEach [] X.env)).all (fun x => x.1.isSome)
    && decide (([e] : List Expr).length + ([] : List Keyword).length + (if ([] : List Keyword).isEmpty then 0 else 1) < 30)) = true
  line : (apos.endLine == cpos.line) = true
  trees : backTo cpos (starEach [e] X.env) = [(false, eval e X.env)]
structure M2 (X : Cx) (o : Expr) (m : Str) (apos : Pos) (e f : Expr) (cpos : Pos) : Prop where
  base : attributeBase o m X.env (eval o X.env) = eval o X.env
  few : ((backTo cpos (starEach [e, f] X.env)).all (fun x => !x.1) && (backToKw cpos (keywordEach [] X.env)).all (fun x => x.1.isSome)
    && decide (([e, f] : List Expr).length + ([] : List Keyword).length + (if ([] : List Keyword).isEmpty then 0 else 1) < 30)) = true
  line : (apos.endLine == cpos.line) = true
  trees : backTo cpos (starEach [e, f] X.env) = [(false, eval e X.env), (false, eval f X.env)]

section
variable {X : Cx} {pins : List (Addr × Obj)} {σ : St} {H : Hp} {s : Shared} {a : Addr} {y d : V} {u r : Value} {o : Option V} {A : Around} {E : Value → Shared → Prop}
end

section
variable {X : Cx} {o e f : Expr} {apos cpos : Pos} {td ty tx : TE}
end

/-! ### dict(d): a copy -/
section
variable {X : Cx} {pins : List (Addr × Obj)} {σ : St} {H : Hp} {s : Shared} {a : Addr} {kvs : List (Key × V)} {A : Around} {E : Value → Shared → Prop}
end


section
variable {X : Cx} {pins : List (Addr × Obj)} {σ : St} {H : Hp} {s : Shared} {a : Addr} {y : V} {u : Value} {A : Around} {E : Value → Shared → Prop}
end
end L2

end

section
-- KcForms
set_option Elab.async false
set_option linter.all false
set_option maxRecDepth 100000
set_option maxHeartbeats 4000000
namespace L2
open PySem PySem.Spec PyProof.Rows
/-! ### a dict of the module's own -/
noncomputable def KDict (P : Program) (w : World) (K : PySem.W.Frag) (a : Addr) (kvs : List (Str × V)) : Prop :=
  (a == sysModules) = false ∧ ∃ (o : Obj) (es : Array DictEntry) (ep : Nat) (vs : List (Key × Value)), K.lookup a = some o ∧ o.ExactDict ∧ o.data = .dict es ep ∧ KeysOf (mixKind P w) es ∧ Pairs (mixKind P w) es.toList vs ∧ (vs.map (·.1)).Nodup ∧
    Paired (fun (p : Str × V) (q : Key × Value) => q.1 = .inr p.1 ∧ RelV p.2 q.2) kvs vs
section
variable {X : Cx} {o i : Expr} {pos : Pos} {td ty : TE} {a : Addr} {kvs : List (Str × V)}
theorem KDict.of {pins : List (Addr × Obj)} {σ : St} {H : Hp} {s : Shared} (D : KDict X.prog X.w X.K a kvs) (I : Inv X pins σ H s) : ∃ vs, s.heap.DictOf (mixKind X.prog X.w) a vs ∧ Paired (fun (p : Str × V) (q : Key × Value) => q.1 = .inr p.1 ∧ RelV p.2 q.2) kvs vs := by
  obtain ⟨_, o, es, ep, vs, lk, ex, hd, hk, hp, nd, rel⟩ := D
  exact ⟨vs, ⟨o, es, ep, I.kIn a o lk, ex, hd, hk, hp, nd⟩, rel⟩
end
end L2

end

section
-- KcRaise
set_option Elab.async false
set_option linter.all false
set_option maxRecDepth 100000
set_option maxHeartbeats 4000000
namespace L2
open PySem PySem.Spec PyProof.Rows
/-! ### an exception of a class of the text, on its way out -/
noncomputable def CX1 (P : Program) (w : World) : CXT := fun outer H s E e s' =>
  ∃ (a C : Addr) (a0 : Value) (H' : Hp) (B : Heap), e = .ref a ∧ s'.os = s.os ∧ AllBare s'.gens ∧ Un (frs outer) [] H H' s.heap s'.heap ∧ HOk P w H' s'.heap ∧
    Heap.FlyingW B outer a (.ref C) a0 s'.heap ∧ (∀ b o, s.heap.get? b = some o → H b = none → b ∉ frs outer → B.get? b = some o) ∧
    (∀ b o, s.heap.get? b = some o → b ∉ frs outer → ∃ o', B.get? b = some o') ∧ (∀ b u o, H' b = some u → s'.heap.get? b = some o → B.get? b = some o) ∧ H' a = none ∧ E (.ref C) (some a) H'
theorem ObjOk.there {P : Program} {w : World} {H : Hp} {h : Heap} {a : Addr} {o : HO} (x : ObjOk P w H h a o) : ∃ ob, h.get? a = some ob := by
  cases o with
  | lst xs => obtain ⟨_, _, _, _, e⟩ := x; exact ⟨_, e⟩
  | tup xs => obtain ⟨_, _, _, _, e, _⟩ := x; exact ⟨_, e⟩
  | dK kvs => obtain ⟨_, _, _, _, o, _, _, e, _⟩ := x; exact ⟨_, e⟩
  | dT kvs => obtain ⟨_, _, _, _, o, _, _, e, _⟩ := x; exact ⟨_, e⟩
  | set S n => obtain ⟨o, _, _, _, e, _⟩ := x; exact ⟨_, e⟩
  | ins C dx fs => obtain ⟨_, _, _, e, _⟩ := x; exact ⟨_, e⟩
  | own y => exact x
  | xd fs => obtain ⟨_, ⟨_, _, _, e, _⟩, _⟩ := x; exact ⟨_, e⟩
  | rng lo hi => obtain ⟨_, _, _, e⟩ := x; exact ⟨_, e⟩
  | frz ob u => obtain ⟨e, _⟩ := x; exact ⟨_, e⟩
  | tbl ps => exact ⟨_, x⟩
  | met f y => exact ⟨_, x⟩
  | ext φ => obtain ⟨_, e, _⟩ := x; exact e
theorem HOk.on {P : Program} {w : World} {H : Hp} {h h' : Heap} (x : HOk P w H h) (k : ∀ b u o, H b = some u → h.get? b = some o → h'.get? b = some o) : HOk P w H h' := fun a o e =>
  (x a o e).stay (fun b u hb q => by
    rcases hb with rfl | hb
    · exact k _ _ _ e q
    · exact k _ _ _ hb q) (fun _ q => q) fun _ _ q => q
section
variable {P : Program} {w : World} {K : PySem.W.Frag} {mg : Str → Option Value} {base : Heap} {N : List Str} {qual : Str} {scope : Scope} {f : Addr} {cd : Value} {A : Around} {outer : List Env} {s : Shared} {H : Hp} {E : XK}
theorem pass1 : Passes (CX1 P w) (cxOf (CX1 P w) P w K mg base N qual scope f cd A outer s H E) E := by
  rintro pins σ H1 s1 e s' I ⟨a, C, a0, H', B, rfl, os, bare, un, hok, fl, kb, kth, kt, na, q⟩
  have own : ∀ b o, s.heap.get? b = some o → b ∉ frs outer → b ∉ frs (cxOf (CX1 P w) P w K mg base N qual scope f cd A outer s H E).stack := fun b o hb hn hm => by
    rcases List.mem_cons.mp (show b ∈ s.heap.objs.size :: frs outer from hm) with rfl | hm
    · exact absurd (Heap.lt_size hb) (Nat.lt_irrefl _)
    · exact hn hm
  have inS : ∀ b, b ∈ frs outer → b ∈ frs (cxOf (CX1 P w) P w K mg base N qual scope f cd A outer s H E).stack := fun b h => List.mem_cons_of_mem s.heap.objs.size h
  have un0 : Un (frs outer) [] H H1 s.heap s1.heap := I.base
  have no : ∀ b : Addr, b ∉ ([] : List Addr) := fun b z => by cases z
  refine wpAny_leaves_onW I.ok.frames rfl fl fun h' x1 x2 => ?_
  have keep : ∀ b o, s.heap.get? b = some o → H b = none → b ∉ frs outer → B.get? b = some o := fun b o hb hn hf =>
    kb b o (un0.keep b o hb hn hf (no b)) (un0.free b o hb hn (no b)) (own b o hb hf)
  have ther : ∀ b o, s.heap.get? b = some o → b ∉ frs outer → ∃ o', B.get? b = some o' := fun b o hb hf => by
    obtain ⟨o1, h1⟩ := un0.there b o hb (no b)
    exact kth b o1 h1 (own b o hb hf)
  have slot : ∀ b o, s.heap.get? b = some o → H b = none → b ∈ frs outer → ∃ sl, h'.get? b = some { o with slots := sl } := fun b o hb hn hf => by
    obtain ⟨sl, h1⟩ := un0.slot b o hb hn hf (no b)
    obtain ⟨sl2, h2⟩ := un.slot b _ h1 (un0.free b o hb hn (no b)) (List.mem_cons_of_mem _ hf) (no b)
    obtain ⟨_, o3, h3, nf⟩ := fl.2.2.1.mem (inS b hf)
    rw [h2] at h3; cases h3
    obtain ⟨sl4, h4⟩ := x2 b _ h2 nf
    exact ⟨sl4, h4⟩
  refine ⟨a, C, a0, H', B, rfl, os.trans I.os, bare, ⟨fun b o hb hn hf _ => x1.1 b o (keep b o hb hn hf), fun b o hb hn hf _ => slot b o hb hn hf, fun b o hb hn _ => ?_, fun b o hb _ => ?_, fun b xs e => un.tups b xs (un0.tups b xs e), fun b o u e => un.frzs b o u (un0.frzs b o u e), fun b ps e => ?_⟩,
    hok.on fun b u o e1 e2 => x1.1 b o (kt b u o e1 e2), x1, keep, ther, fun b u o e1 e2 => ?_, na, q⟩
  · obtain ⟨o1, h1⟩ := un0.there b o hb (no b)
    exact un.free b o1 h1 (un0.free b o hb hn (no b)) (no b)
  · by_cases hf : b ∈ frs outer
    · obtain ⟨o1, h1⟩ := un0.there b o hb (no b)
      obtain ⟨o2, h2⟩ := un.there b o1 h1 (no b)
      obtain ⟨_, o3, h3, nf⟩ := x1.2.2.1.mem hf
      exact ⟨o3, h3⟩
    · obtain ⟨o', e'⟩ := ther b o hb hf
      exact ⟨o', x1.1 b o' e'⟩
  · obtain ⟨m1, e1⟩ := un0.tbls b ps e
    obtain ⟨m2, e2⟩ := un.tbls b _ e1
    exact ⟨m1 ++ m2, by rw [e2, Array.append_assoc]⟩
  · have e2 : h'.get? b = some o := e2
    obtain ⟨o1, h1⟩ : ∃ o1, s'.heap.get? b = some o1 := (hok b u e1).there
    have h2 := kt b u o1 e1 h1
    have h3 := x1.1 b o1 h2
    rw [e2] at h3; cases h3; exact h2
theorem made1 {pins : List (Addr × Obj)} {σ : St} {H1 : Hp} {s1 : Shared} {a C : Addr} {h2 : Heap} {us : List Value} (I : Inv (cxOf (CX1 P w) P w K mg base N qual scope f cd A outer s H E) pins σ H1 s1) (hx : Heap.MadeExcOf s1.heap h2 a (.ref C) us) (q : ∀ a, H1 a = none → E (.ref C) (some a) H1) :
    (cxOf (CX1 P w) P w K mg base N qual scope f cd A outer s H E).xe (.ref a) { s1 with heap := h2 } := by
  have un0 : Un (frs outer) [] H H1 s.heap s1.heap := I.base
  have no : ∀ b : Addr, b ∉ ([] : List Addr) := fun b z => by cases z
  have own : ∀ b o, s.heap.get? b = some o → b ∉ frs outer → b ∉ frs (cxOf (CX1 P w) P w K mg base N qual scope f cd A outer s H E).stack := fun b o hb hn hm => by
    rcases List.mem_cons.mp (show b ∈ s.heap.objs.size :: frs outer from hm) with rfl | hm
    · exact absurd (Heap.lt_size hb) (Nat.lt_irrefl _)
    · exact hn hm
  have hin : ∀ env ∈ (cxOf (CX1 P w) P w K mg base N qual scope f cd A outer s H E).stack, ∀ b, env.frame = some b → b ∈ frs (cxOf (CX1 P w) P w K mg base N qual scope f cd A outer s H E).stack := fun env he b hb => List.mem_filterMap.mpr ⟨env, he, hb⟩
  have na : H1 a = none := by
    cases e : H1 a with
    | none => rfl
    | some u => obtain ⟨o, ho⟩ := (I.hok a u e).there; rw [hx.new] at ho; cases ho
  have get : ∀ b o, s1.heap.get? b = some o → b ∉ frs (cxOf (CX1 P w) P w K mg base N qual scope f cd A outer s H E).stack → (PySem.W.hideAll s1.heap (frs (cxOf (CX1 P w) P w K mg base N qual scope f cd A outer s H E).stack)).get? b = some o := fun b o e n => PySem.W.hideAll_get _ e n
  refine wpAny_leaves_madeW (s := { s1 with heap := h2 }) I.ok.frames rfl (fun b o e => PySem.W.of_hideAll _ e) (PySem.W.funFrames_hide I.stack hin) hx fun h' t x1 x2 x3 x4 => ?_
  have keep : ∀ b o, s.heap.get? b = some o → H b = none → b ∉ frs outer → (PySem.W.hideAll s1.heap (frs (cxOf (CX1 P w) P w K mg base N qual scope f cd A outer s H E).stack)).get? b = some o := fun b o hb hn hf =>
    get b o (un0.keep b o hb hn hf (no b)) (own b o hb hf)
  have ther : ∀ b o, s.heap.get? b = some o → b ∉ frs outer → ∃ o', (PySem.W.hideAll s1.heap (frs (cxOf (CX1 P w) P w K mg base N qual scope f cd A outer s H E).stack)).get? b = some o' := fun b o hb hf => by
    obtain ⟨o1, h1⟩ := un0.there b o hb (no b)
    exact ⟨o1, get b o1 h1 (own b o hb hf)⟩
  have trk : ∀ b u o, H1 b = some u → s1.heap.get? b = some o → (PySem.W.hideAll s1.heap (frs (cxOf (CX1 P w) P w K mg base N qual scope f cd A outer s H E).stack)).get? b = some o := fun b u o e1 e2 => get b o e2 fun hm => by
    rw [I.stkFree b hm] at e1; cases e1
  refine ⟨a, C, .ref t, H1, _, rfl, I.os, I.bare, ⟨fun b o hb hn hf _ => x1.1 b o (keep b o hb hn hf), fun b o hb hn hf _ => ?_, fun b o hb hn _ => un0.free b o hb hn (no b), fun b o hb _ => ?_, un0.tups, un0.frzs, un0.tbls⟩,
    I.hok.on fun b u o e1 e2 => x1.1 b o (trk b u o e1 e2), x1, keep, ther, fun b u o e1 e2 => ?_, na, q a na⟩
  · obtain ⟨sl, h1⟩ := un0.slot b o hb hn hf (no b)
    obtain ⟨_, o3, h3, nf⟩ := I.stack.mem (List.mem_cons_of_mem s.heap.objs.size hf : b ∈ s.heap.objs.size :: frs outer)
    rw [h1] at h3; cases h3
    obtain ⟨sl4, h4⟩ := x4 b _ (hx.keeps _ _ h1) nf
    exact ⟨sl4, h4⟩
  · by_cases hf : b ∈ frs outer
    · obtain ⟨_, o3, h3, nf⟩ := x1.2.2.1.mem hf
      exact ⟨o3, h3⟩
    · obtain ⟨o', e'⟩ := ther b o hb hf
      exact ⟨o', x1.1 b o' e'⟩
  · have e2 : h'.get? b = some o := e2
    obtain ⟨o1, h1⟩ := (I.hok b u e1).there
    have h2 := trk b u o1 e1 h1
    have h3 := x1.1 b o1 h2
    rw [e2] at h3; cases h3; exact h2
end

noncomputable def ExCls (K : PySem.W.Frag) (C : Addr) : Prop := ∃ (Bn newId inN B nid initId : String) (bmN bmB : List Value), ExcBaseFacts Bn newId inN bmN ∧ bmB.contains (.type Bn) = true ∧ ExcBaseFacts B nid initId bmB ∧
  ∀ h, K.In h → ∃ nm q N bs bm hdct sn sub ab col dd k0 k1 k2 k3 k5, ∃ mN : Str → Option Value, bm.contains (.type "BaseException") = true ∧ mN "__init__" = none ∧
    h.get? C = some (excClassObj nm q C N bs bm hdct sn sub ab col dd k0 k1 k2 k3 k5 newId) ∧ h.Ns N mN ∧ OwnTail h bmB bm
noncomputable def tRaise (C : Addr) (E : XK) (t : TA) : TS := fun _ σ H => t σ H fun vs H1 => vs.length ≤ sizeLine ∧ ∀ a, H1 a = none → E (.ref C) (some a) H1
noncomputable def Makes (X : Cx) (C : Addr) (E : XK) : Prop := ∀ (pins : List (Addr × Obj)) (σ : St) (H1 : Hp) (s1 : Shared) (a : Addr) (h2 : Heap) (us : List Value), Inv X pins σ H1 s1 → Heap.MadeExcOf s1.heap h2 a (.ref C) us → (∀ a, H1 a = none → E (.ref C) (some a) H1) → X.xe (.ref a) { s1 with heap := h2 }
theorem makes1 {P : Program} {w : World} {K : PySem.W.Frag} {mg : Str → Option Value} {base : Heap} {N : List Str} {qual : Str} {scope : Scope} {f : Addr} {cd : Value} {A : Around} {outer : List Env} {s : Shared} {H : Hp} {E : XK} {C : Addr} :
    Makes (cxOf (CX1 P w) P w K mg base N qual scope f cd A outer s H E) C E := fun _ _ _ _ _ _ _ I hx q => made1 I hx q
theorem ps_raise {X : Cx} {C : Addr} {E : XK} {x : Str} {np cpos pos : Pos} {e : Expr} {es : List Expr} {t : TA} (hc : X.calm = true) (ec : ExCls X.K C) (hg : Gl X x) (hm : X.mg x = some (.ref C)) (mk : Makes X C E) (ha : PA X (e :: es) t)
    (hdb : (x == ("__debug__" : Str)) = false := by decide) (he : starEach (e :: es) X.env = (false, eval e X.env) :: starEach es X.env := by rfl) (hpl : (backTo cpos (starEach es X.env)).any (·.1) = false := by rfl) :
    PS X (.Raise (some (.Call (.Name x np) (e :: es) [] cpos)) none pos) (tRaise C E t) := by
  intro pins s σ H D I h
  obtain ⟨Bn, newId, inN, B, nid, initId, bmN, bmB, Fn, hBn, F, ex⟩ := ec
  obtain ⟨nm, q, N, bs, bm, hdct, sn, sub, ab, col, dd, k0, k1, k2, k3, k5, mN, hbase, hni, hC, hN, hT⟩ := ex X.base I.ok.mod.kin
  obtain ⟨z, hs⟩ : ∃ z, backTo cpos (starEach (e :: es) X.env) = (false, z) :: backTo cpos (starEach es X.env) := ⟨_, by rw [he]; rfl⟩
  refine wpAny_Raise_call_subU (C := C) (nm := nm) (q := q) (N := N) (bs := bs) (hdct := hdct) (sn := sn) (sub := sub) (ab := ab) (col := col) (dd := dd) (k0 := k0) (k1 := k1) (k2 := k2) (k3 := k3) (k5 := k5) Fn hBn F hbase (I.ok.hd hc) (by rw [hs]; show (false || (backTo cpos (starEach es X.env)).any (·.1)) = false; rw [hpl]; rfl) hni (ld_glob I hg hm ⟨rfl, ?_⟩ hdb)
  have hA := ha cpos pins s σ H _ I h
  rw [hs] at hA ⊢
  refine Calls.evalArgs_plain (thn hA fun us s2 ⟨vs, H2, I2, r2, q2⟩ => ⟨rfl, by rw [← r2.length]; exact q2.1, I2.bk _ _ hC, hN.keeps I2.bk, hT.keeps I2.bk, fun h' a hx => mk pins σ H2 s2 a h' us I2 hx q2.2⟩)
theorem ex_value {K : PySem.W.Frag} {C : Addr} (q : PySem.W.excIn K C [.type "ValueError", .type "Exception", .type "BaseException", .type "object"] "ValueError.__new__" = true) : ExCls K C := by
  refine ⟨_, _, _, _, _, _, _, _, PySem.F.excBase_ValueError, PySem.F.excBase_ValueError.hasB, PySem.F.excBase_ValueError, fun h X => ?_⟩
  unfold PySem.W.excIn at q
  split at q
  · rename_i dd cd sl ho
    split at q
    · rename_i C' bm k0 k1 k2 k3 n k5 hm hs
      simp only [Bool.and_eq_true, beq_iff_eq, Bool.not_eq_true'] at q
      obtain ⟨⟨⟨⟨⟨rfl, rfl⟩, hdel⟩, ht⟩, hok⟩, hni⟩ := q
      obtain ⟨nm, bs, mro, ns, qn, hd, sn, sub, ab, col, del⟩ := cd
      dsimp only at hm hdel hok hni
      subst hm hdel
      have hsl : sl = #[k0, k1, k2, k3, some (.builtin "ValueError.__new__"), k5] := by
        obtain ⟨l⟩ := sl
        simp only at hs
        rw [hs]
      subst hsl
      have T := PySem.W.tail_of_in X ht
      exact ⟨nm, qn, ns, bs, bm, hd, sn, sub, ab, col, dd, k0, k1, k2, k3, k5, _, T.hasType PySem.F.excBase_ValueError.hasBase, PySem.W.nsMap_none_of_in X hok hni, X _ _ ho, .of_isNs (PySem.W.isNs_of_in X hok), T⟩
    · cases q
  · cases q
end L2

end

section
-- KcTry
set_option Elab.async false
set_option linter.all false
set_option maxRecDepth 100000
set_option maxHeartbeats 4000000
namespace L2
open PySem PySem.Spec PyProof.Rows
/-! ### what a flight leaves alone: B holds all that the body's facts lean on, but for the frames -/
structure Held (X : Cx) (pins : List (Addr × Obj)) (H : Hp) (B : Heap) : Prop where
  s0 : ∀ b o, X.s₀.heap.get? b = some o → b ∉ frs X.stack → ∃ o', B.get? b = some o'
  ce : ∀ x c, X.env.cells.lookup x = some c → ∃ o, B.get? c = some o
  pi : ∀ p ∈ X.pn ++ pins, B.get? p.1 = some p.2
  tr : ∀ b u, H b = some u → ∃ o, B.get? b = some o
section
variable {X : Cx} {pins : List (Addr × Obj)} {σ : St} {H : Hp} {s : Shared} {B h' : Heap}
theorem Inv.flew (I : Inv X pins σ H s) (hB : B.StaysIn s.heap) (K : Held X pins H B) (k : B.StaysIn h') (sm : s.heap.UpToSlots h') (ff : h'.FunFrames B X.stack) : Inv X pins σ H { s with heap := h' } := by
  have notL : ∀ b o, X.s₀.heap.get? b = some o → b ∉ X.fs → b ∉ frs X.stack := fun b o e n z => by
    rcases List.mem_cons.mp (I.stkSub b z) with rfl | z
    · exact absurd (Nat.lt_of_lt_of_le (Heap.lt_size e) I.ok.above) (Nat.lt_irrefl _)
    · exact n z
  have same : ∀ b o, (∃ o', B.get? b = some o') → s.heap.get? b = some o → h'.get? b = some o := fun b o ⟨o', e⟩ q => by
    have := hB b o' e
    rw [q] at this; cases this; exact k b _ e
  obtain ⟨m, ns, hm⟩ := I.loc
  refine ⟨I.ok, I.os, I.bare, ⟨fun b o e n hf hx => ?_, fun b o e n hf hx => ?_, I.base.free, fun b o e hx => ?_, I.base.tups, I.base.frzs, I.base.tbls⟩, ⟨m, sm.ns ns, fun i x v h1 h2 h3 => ?_⟩, fun x c e => ?_, I.free, I.freeC, fun p hp => ?_, ?_, I.len⟩
  · exact same b o (K.s0 b o e (notL b o e hf)) (I.base.keep b o e n hf hx)
  · obtain ⟨sl, h1⟩ := I.base.slot b o e n hf hx
    have hb : b ∈ frs X.stack := by
      rcases I.ok.stk with q | ⟨q, _⟩
      · rw [q]; exact hf
      · rw [q]
        obtain ⟨env, he, hb⟩ := List.mem_filterMap.mp hf
        exact List.mem_filterMap.mpr ⟨env, List.mem_cons_of_mem _ he, hb⟩
    obtain ⟨_, o3, h3, nf⟩ := I.stack.mem hb
    rw [h1] at h3; cases h3
    obtain ⟨sl2, h4⟩ := sm _ _ h1 nf
    exact ⟨sl2, h4⟩
  · by_cases hb : b ∈ frs X.stack
    · obtain ⟨_, o3, h3, _⟩ := ff.mem hb
      exact ⟨o3, h3⟩
    · obtain ⟨o', e'⟩ := K.s0 b o e hb
      exact ⟨o', k b o' e'⟩
  · obtain ⟨u, r, l⟩ := hm i x v h1 h2 h3
    refine ⟨u, r, ?_⟩
    rcases l with l | ⟨l1, c, l2, o, l3, l4⟩
    · exact .inl l
    · exact .inr ⟨l1, c, l2, o, same c o (K.ce x c l2) l3, l4⟩
  · obtain ⟨v, o, l3, l4⟩ := I.cell x c e
    exact ⟨v, o, same c o (K.ce x c e) l3, l4⟩
  · obtain ⟨_, r⟩ := I.pin p hp
    exact ⟨k _ _ (K.pi p hp), r⟩
  · exact I.hok.on fun b u o e1 e2 => same b o (K.tr b u e1) e2
theorem Inv.thrown {E : XK} {e : Value} {s' : Shared} (hex : X.ex = []) (hfn : ∀ x, X.fn x = true) (I : Inv X pins σ H s) (x : CX1 X.prog X.w X.stack H s E e s') :
    ∃ (a C : Addr) (a0 : Value) (H' : Hp) (B : Heap), e = .ref a ∧ Inv X pins σ H' s' ∧ Held X pins H' B ∧ Heap.FlyingW B X.stack a (.ref C) a0 s'.heap ∧ H' a = none ∧ E (.ref C) (some a) H' := by
  obtain ⟨a, C, a0, H', B, rfl, os, bare, un, hok, fl, kb, kth, kt, na, q⟩ := x
  have notS : ∀ b : Addr, b ≠ X.env.locals → b ∉ X.fs → b ∉ frs X.stack := fun b n1 n2 z => (List.mem_cons.mp (I.stkSub b z)).elim n1 n2
  refine ⟨a, C, a0, H', B, rfl, I.call' (ch := []) os un hok bare (fun b z => by cases z), ⟨fun b o e n => ?_, fun x c e => ?_, fun p hp => ?_, fun b u e => ?_⟩, fl, na, q⟩
  · obtain ⟨o1, h1⟩ := I.base.there b o e (by rw [hex]; intro z; cases z)
    exact kth b o1 h1 n
  · obtain ⟨v, o, l3, l4⟩ := I.cell x c e
    refine kth c o l3 (notS c (fun z => ?_) fun z => ?_)
    · obtain ⟨m, ⟨o2, es, ep, h2, h3, _⟩, _⟩ := I.loc
      rw [← z, l3] at h2; cases h2
      rw [l4] at h3; cases h3
    · obtain ⟨_, o3, h3, _⟩ := I.ok.funs.mem z
      exact absurd (Nat.lt_of_lt_of_le (Heap.lt_size h3) (I.ok.cab x c (hfn x) e)) (Nat.lt_irrefl _)
  · obtain ⟨h1, h2, h3, h4, _⟩ := I.pin p hp
    exact kb _ _ h1 h2 (notS _ h3 h4)
  · obtain ⟨o, ho⟩ := (hok b u e).there
    exact ⟨o, kt b u o e ho⟩
theorem into_suite {a C D : Addr} {a0 : Value} {i : Nat} {n y : Str} {np hpos : Pos} {b0 : Stmt} {suite : List Stmt} {Q : Flow → Shared → Prop} (hst : X.stack = X.env :: X.outer) (hfr : X.env.frame = some X.env.locals) (I : Inv X pins σ H s) (Hd : Held X pins H B)
    (fl : Heap.FlyingW B X.stack a (.ref C) a0 s.heap) (hg : Gl X y) (hm : X.mg y = some (.ref D)) (hx : PySem.W.exmOne X.K (.ref C) (.ref D) = some true) (hN : X.N.Nodup) (hi : X.N[i]? = some n) (hloc : X.env.scope.names.lookup n = some .local)
    (k : ∀ s3 oe vs, Inv X pins (σ.set i (some (.ref a))) H s3 → s3.heap.get? a = some oe → oe.cls = .ref C → oe.data = .fields vs → a ≠ X.env.locals →
      wpAny (model X.prog X.w) (X.A.mark (some (.ref a))) (execs (b0 :: suite) X.env) (fun f s4 => wpAny (model X.prog X.w) X.A (do bindName X.env n .none; unbindBehindTheSuite X.env n hpos) (fun _ s5 => Q f s5) X.xe s4) (fun _ _ => False) s3)
    (hdb : (y == ("__debug__" : Str)) = false := by decide) :
    wpAny (model X.prog X.w) X.A (noteFrame (.ref a) X.env) (fun _ s2 => wpAny (model X.prog X.w) X.A (setFlight (.ref a) none) (fun _ s3 => wpAny (model X.prog X.w) X.A (handleBy (.ref a) X.env [.ExceptHandler (some (.Name y np)) (some n) (b0 :: suite) hpos]) Q X.xe s3) X.xe s2) X.xe s := by
  have fl0 : Heap.FlyingW B (X.env :: X.outer) a (.ref C) a0 s.heap := hst ▸ fl
  refine wpAny_looks_onW (hst ▸ I.ok.frames) hfr fl0 fun h1 x1 u1 => ?_
  refine wpAny_landsW x1 fun h2 x2 u2 => ?_
  have I2 : Inv X pins σ H { s with heap := h2 } := I.flew fl.1 Hd x2.1 (u1.trans u2) (hst ▸ x2.2.2.1)
  refine wpAny_handleBy_cons (codeAny_handlers_test (Calls.Name_function_global I2.ok.kind hg (Calls.loadGlobal_global (by rw [I2.ok.glob]; exact I2.mod.glob.keeps I2.bk) hm ?_) hdb)) (by intro q; cases q)
  have LT : PySem.W.Looks (model X.prog X.w) h2 (typeOf (.ref a)) (.ref C) := by
    obtain ⟨ob, hob, hc⟩ := x2.there
    rw [← hc]
    exact (PySem.W.Looks.ld hob).andThen .now
  refine (PySem.W.exm_one I2.kIn LT hx).here ?_
  refine codeAny_handlers_suite_as ?_
  refine lands_againW x2 fun h3 x3 u3 => ?_
  have I3 : Inv X pins σ H { s with heap := h3 } := I2.flew x2.1 Hd x3.1 u3 (hst ▸ x3.2.2.1)
  obtain ⟨oe, vs, hoe, hoec, hoed, _⟩ := x3.first
  have neL : a ≠ X.env.locals := fun z => by
    obtain ⟨m, ⟨o2, es, ep, h2, h3, _⟩, _⟩ := I3.loc
    rw [← z] at h2
    have h2 := hoe.symm.trans h2
    cases h2
    rw [hoed] at h3; cases h3
  refine store_ok2 I3 hN hi (.inl hloc) (v := .ref a) rfl (fun s4 I4 ⟨b, sb, hb⟩ => ?_) (.inr hloc)
  have neb : a ≠ b := fun z => by
    rcases hb with hb | hb
    · exact neL (z.trans hb)
    · obtain ⟨v, o, e1, e2⟩ := I3.cell n b hb
      rw [← z] at e1
      have e1 := hoe.symm.trans e1
      cases e1
      rw [hoed] at e2; cases e2
  exact wpAny_mono (k s4 oe vs I4 ((sb.2 a neb).trans hoe) hoec hoed neL) (fun _ _ q => q) fun _ _ z => z.elim
theorem unbind_ok {M : Model} {A : Around} {E : Value → Shared → Prop} {i : Nat} {n : Str} {v : V} {Q : Unit → Shared → Prop} (I : Inv X pins (σ.set i (some v)) H s) (hl : i < σ.length) (hN : X.N.Nodup) (hi : X.N[i]? = some n) (hloc : X.env.scope.names.lookup n = some .local)
    (h : ∀ s', Inv X pins (σ.set i none) H s' → Q () s') : wpAny M A (unbindName X.env n) Q E s := by
  obtain ⟨m, hn, hm⟩ := id I.loc
  have hcls : (X.env.scope.kind == .class || (X.env.scope.kind == .module && X.env.locals != X.env.globals)) = false := by rw [I.ok.kind]; rfl
  obtain ⟨u, _, lk⟩ := hm i n v hi (by rw [List.getElem?_set_self hl]) (.inl hloc)
  have hv : m n = some u := by
    rcases lk with ⟨_, e⟩ | ⟨k, _⟩
    · exact e
    · have k : X.env.scope.names.lookup n = some .cell ∨ X.env.scope.names.lookup n = some .free := k
      rw [hloc] at k
      rcases k with k | k <;> cases k
  have cne := I.cne
  have above : ∀ b o, X.s₀.heap.get? b = some o → b ≠ X.env.locals := fun b o e => Nat.ne_of_lt (Nat.lt_of_lt_of_le (Heap.lt_size e) I.ok.above)
  refine wpAny_unbindName_local hloc hn hv hcls fun h' w hn' hs => ?_
  refine h _ ⟨I.ok, I.os, I.bare, ⟨fun b o e n hb hx => (hs.2 b (above b o e)).trans (I.base.keep b o e n hb hx), fun b o e n hb hx => ?_, I.base.free, fun b o e hx => ?_, I.base.tups, I.base.frzs, I.base.tbls⟩, ⟨_, hn', fun j y v' e1 e2 e3 => ?_⟩, fun y c e => ?_, I.free, I.freeC, fun p hp => ?_, I.hok.on fun b ob o e1 e2 => (hs.2 b fun z => ?_).trans e2, by simpa using I.len⟩
  · obtain ⟨sl, e1⟩ := I.base.slot b o e n hb hx
    exact ⟨sl, (hs.2 b (above b o e)).trans e1⟩
  · obtain ⟨o', e1⟩ := I.base.there b o e hx
    exact ⟨o', (hs.2 b (above b o e)).trans e1⟩
  · by_cases hj : j = i
    · subst hj
      rw [List.getElem?_set_self hl] at e2
      cases e2
    · rw [List.getElem?_set_ne (Ne.symm hj)] at e2
      obtain ⟨u', r', q⟩ := hm j y v' e1 (by rw [List.getElem?_set_ne (Ne.symm hj)]; exact e2) e3
      refine ⟨u', r', ?_⟩
      rcases q with ⟨k, e⟩ | ⟨k, c, e, z⟩
      · refine .inl ⟨k, ?_⟩
        have : y ≠ n := fun e => hj (nodup_ix hN e1 (e ▸ hi))
        simp [this, e]
      · exact .inr ⟨k, c, e, z.sameBut hs (cne y c e)⟩
  · obtain ⟨w', z⟩ := I.cell y c e
    exact ⟨w', z.sameBut hs (cne y c e)⟩
  · obtain ⟨e, n, ne, nf, d⟩ := I.pin p hp
    exact ⟨(hs.2 p.1 ne).trans e, n, ne, nf, d⟩
  · rw [z, I.free] at e1; cases e1
theorem out_suite {i : Nat} {n : Str} {hpos : Pos} {Q : Unit → Shared → Prop} (I : Inv X pins σ H s) (hN : X.N.Nodup) (hi : X.N[i]? = some n) (hloc : X.env.scope.names.lookup n = some .local) (h : ∀ s', Inv X pins (σ.set i none) H s' → Q () s') :
    wpAny (model X.prog X.w) X.A (do bindName X.env n .none; unbindBehindTheSuite X.env n hpos) Q X.xe s := by
  have hl : i < σ.length := by rw [I.len]; exact (List.getElem?_eq_some_iff.mp hi).1
  refine wpAny_bind (wpAny_bindName (store_ok I hN hi (.inl hloc) (v := .non) rfl (fun s' I' => ?_) (.inr hloc)))
  exact wpAny_onRaise (unbind_ok I' hl hN hi hloc h)
end
noncomputable abbrev Cx.tried (X : Cx) (pn : List (Addr × Obj)) (E : Value → Shared → Prop) : Cx := { X with pn := pn, xe := E }
noncomputable abbrev Cx.suite (X : Cx) (a : Addr) (pn : List (Addr × Obj)) : Cx := { X with A := X.A.mark (some (.ref a)), calm := false, pn := pn, xe := fun _ _ => False }
section
variable {X : Cx} {pins pn pins' : List (Addr × Obj)} {σ : St} {H : Hp} {s : Shared} {B : Heap} {E : Value → Shared → Prop} {a : Addr}
theorem Inv.tried (I : Inv X pins σ H s) : Inv (X.tried (X.pn ++ pins) E) [] σ H s :=
  ⟨⟨I.ok.mod, I.ok.kind, I.ok.glob, I.ok.blt, I.ok.above, I.ok.inj, I.ok.has, I.ok.cab, I.ok.hd, I.ok.frames, I.ok.stk, I.ok.exf, I.ok.bs, I.ok.bsz, I.ok.noex, I.ok.exfs, I.ok.funs, I.ok.frf⟩,
    I.os, I.bare, I.base, I.loc, I.cell, I.free, I.freeC, fun p hp => I.pin p (by simpa using hp), I.hok, I.len⟩
theorem Inv.untried (I : Inv (X.tried (X.pn ++ pins) E) pins' σ H s) : Inv X pins σ H s :=
  ⟨⟨I.ok.mod, I.ok.kind, I.ok.glob, I.ok.blt, I.ok.above, I.ok.inj, I.ok.has, I.ok.cab, I.ok.hd, I.ok.frames, I.ok.stk, I.ok.exf, I.ok.bs, I.ok.bsz, I.ok.noex, I.ok.exfs, I.ok.funs, I.ok.frf⟩,
    I.os, I.bare, I.base, I.loc, I.cell, I.free, I.freeC, fun p hp => I.pin p (List.mem_append_left _ hp), I.hok, I.len⟩
theorem Inv.suite {oe : Obj} {vs : Array Value} (I : Inv X pins σ H s) (e : s.heap.get? a = some oe) (hd : oe.data = .fields vs) (hn : H a = none) (hL : a ≠ X.env.locals) : Inv (X.suite a (X.pn ++ pins ++ [(a, oe)])) [] σ H s :=
  ⟨⟨I.ok.mod, I.ok.kind, I.ok.glob, I.ok.blt, I.ok.above, I.ok.inj, I.ok.has, I.ok.cab, (fun z => by cases z), I.ok.frames, I.ok.stk, I.ok.exf, I.ok.bs, I.ok.bsz, I.ok.noex, I.ok.exfs, I.ok.funs, I.ok.frf⟩,
    I.os, I.bare, I.base, I.loc, I.cell, I.free, I.freeC, fun p hp => by
      rcases List.mem_append.mp (show p ∈ X.pn ++ pins ++ [(a, oe)] from by simpa using hp) with hp | hp
      · exact I.pin p hp
      · obtain rfl : p = (a, oe) := by simpa using hp
        refine ⟨e, hn, hL, fun z => ?_, fun v q => by have q : oe.data = _ := q; rw [hd] at q; cases q⟩
        obtain ⟨_, o3, h3, nf⟩ := I.funs.mem z
        have h3 := e.symm.trans h3
        cases h3
        exact nf _ hd, I.hok, I.len⟩
theorem Inv.unsuite (ok : X.Ok) {q : Addr × Obj} (I : Inv (X.suite a (X.pn ++ pins ++ [q])) pins' σ H s) : Inv X pins σ H s :=
  ⟨ok, I.os, I.bare, I.base, I.loc, I.cell, I.free, I.freeC, fun p hp => I.pin p (List.mem_append_left _ (List.mem_append_left _ hp)), I.hok, I.len⟩
theorem Inv.blank (I : Inv X pins σ H s) : Inv X pins (List.replicate X.N.length none) H s := by
  obtain ⟨m, ns, _⟩ := id I.loc
  exact ⟨I.ok, I.os, I.bare, I.base, ⟨m, ns, fun i x v _ h2 _ => by
    rw [List.getElem?_replicate] at h2
    split at h2 <;> cases h2⟩, I.cell, I.free, I.freeC, I.pin, I.hok, by simp⟩
theorem Held.untried (K : Held (X.tried (X.pn ++ pins) E) pins' H B) : Held X pins H B := ⟨K.s0, K.ce, fun p hp => K.pi p (List.mem_append_left _ hp), K.tr⟩
end
noncomputable def tTry (K : PySem.W.Frag) (D : Addr) (len i : Nat) (E : XK) (tb : TS) (ts : Addr → Addr → TS) : TS := fun Z σ H => tb Z σ H ∧ ∀ C a H', E (.ref C) (some a) H' → H' a = none → PySem.W.exmOne K (.ref C) (.ref D) = some true ∧
  ts C a { nx := fun σ' H'' => Z.nx (σ'.set i none) H'', bk := fun σ' H'' => Z.bk (σ'.set i none) H'', ct := fun σ' H'' => Z.ct (σ'.set i none) H'', rt := Z.rt } ((List.replicate len none).set i (some (.ref a))) H'
theorem ps_try {X : Cx} {D : Addr} {E : XK} {i : Nat} {n y : Str} {np hpos pos : Pos} {b0 : Stmt} {body suite : List Stmt} {tb : TS} {ts : Addr → Addr → TS} (hst : X.stack = X.env :: X.outer) (hfr : X.env.frame = some X.env.locals) (hex : X.ex = []) (hfn : ∀ x, X.fn x = true)
    (hg : Gl X y) (hm : X.mg y = some (.ref D)) (hN : X.N.Nodup) (hi : X.N[i]? = some n) (hloc : X.env.scope.names.lookup n = some .local)
    (hb : ∀ pn xe, Passes (CX1 X.prog X.w) (X.tried pn xe) E → PSs (X.tried pn xe) body tb)
    (hs : ∀ (a C : Addr) (oe : Obj) (pn : List (Addr × Obj)), oe.cls = .ref C → (a, oe) ∈ pn → PSs (X.suite a pn) (b0 :: suite) (ts C a)) (hdb : (y == ("__debug__" : Str)) = false := by decide) :
    PS X (.Try body [.ExceptHandler (some (.Name y np)) (some n) (b0 :: suite) hpos] [] [] pos) (tTry X.K D X.N.length i E tb ts) := by
  intro pins s σ H Z I h
  obtain ⟨h1, h2⟩ := h
  have hp : Passes (CX1 X.prog X.w) (X.tried (X.pn ++ pins) fun e s' => ∃ (a C : Addr) (a0 : Value) (σ' : St) (H' : Hp) (B : Heap), e = .ref a ∧ Inv X pins σ' H' s' ∧ Held X pins H' B ∧ Heap.FlyingW B X.stack a (.ref C) a0 s'.heap ∧ H' a = none ∧ E (.ref C) (some a) H') E := fun pins' σ' H' s1 e s' I' x => by
    obtain ⟨a, C, a0, H2, B, rfl, I2, K2, fl, na, q⟩ := Inv.thrown (X := X.tried (X.pn ++ pins) _) hex hfn I' x
    exact ⟨a, C, a0, σ', H2, B, rfl, I2.untried, K2.untried, fl, na, q⟩
  refine wpAny_Try_except (wpAny_mono (hb _ _ hp [] s σ H Z I.tried h1) (fun f s1 q => ?_) fun e s1 ⟨a, C, a0, σ', H', B, he, I', K', fl, na, q⟩ => ?_)
  · cases f with
    | next =>
      obtain ⟨σ', H', I', q⟩ := q
      exact wpAny_execs_nil ⟨σ', H', I'.untried, q⟩
    | brk => obtain ⟨σ', H', I', q⟩ := q; exact ⟨σ', H', I'.untried, q⟩
    | cont => obtain ⟨σ', H', I', q⟩ := q; exact ⟨σ', H', I'.untried, q⟩
    | ret u => obtain ⟨v, σ', H', I', r, q⟩ := q; exact ⟨v, σ', H', I'.untried, r, q⟩
  · subst he
    obtain ⟨hx, ht⟩ := h2 C a H' q na
    refine into_suite hst hfr I'.blank K' fl hg hm hx hN hi hloc (fun s3 oe vs I3 e3 c3 d3 n3 => ?_) hdb
    refine wpAny_mono (hs a C oe _ c3 (List.mem_append_right _ (List.mem_singleton.mpr rfl)) [] s3 _ H' _ (I3.suite e3 d3 na n3) ht) (fun f s4 q => ?_) fun _ _ z => z
    cases f with
    | next => obtain ⟨σ4, H4, I4, q⟩ := q; exact out_suite (I4.unsuite I3.ok) hN hi hloc fun s5 I5 => ⟨_, H4, I5, q⟩
    | brk => obtain ⟨σ4, H4, I4, q⟩ := q; exact out_suite (I4.unsuite I3.ok) hN hi hloc fun s5 I5 => ⟨_, H4, I5, q⟩
    | cont => obtain ⟨σ4, H4, I4, q⟩ := q; exact out_suite (I4.unsuite I3.ok) hN hi hloc fun s5 I5 => ⟨_, H4, I5, q⟩
    | ret u => obtain ⟨v, σ4, H4, I4, r, q⟩ := q; exact out_suite (I4.unsuite I3.ok) hN hi hloc fun s5 I5 => ⟨v, _, H4, I5, r, q⟩
end L2

end

section
-- KcExI
set_option Elab.async false
set_option linter.all false
set_option maxRecDepth 100000
set_option maxHeartbeats 4000000
namespace L2
open PySem PySem.Spec PySem.W PyProof.Rows
/-! ### isinstance of an own exception's object -/
structure ExI (K : Frag) (C : Addr) : Prop where
  ga : findIn K (.ref C) "__getattribute__" = some (some (.builtin "BaseException.__getattribute__"))
  gt : findIn K (.ref C) "__getattr__" = some none
  cl : findIn K (.ref C) "__class__" = some (some (.builtin "object.__class__"))
  mo : mroIn K C (.type "object") = some true
  mb : mroIn K C (.type "BaseException") = some true
section
variable {prog : Program} {w : World} {A : Around} {E : Value → Shared → Prop} {h : Heap} {g : Array GenState} {d : Drawn} {t : Nat} {os : OsState} {a : Addr} {o : Obj} {C : Addr} {K : Frag}
theorem xc_get {R : Result → Shared → Prop} (X : K.In h) (Z : ExI K C) (hx : h.get? a = some o) (hc : o.cls = .ref C) (hq : R (.ok (.ret (.ref C))) ⟨h, g, d, t, os⟩) :
    codeAny (model prog w) A (.call (.builtin "getset_descriptor.__get__") ⟨[.builtin "object.__class__", .ref a, .ref C], []⟩) R ⟨h, g, d, t, os⟩ := by
  have hT5 : (⟨h, g, d, t, os⟩ : Shared).TypeIs (.builtin "object.__class__") "getset_descriptor" := F.typeOf_object_class
  have L1 := looks_mroIn (M := model prog w) X Z.mo
  refine codeAny_call_builtin F.slot_gs_get.plain F.entry_gs_get (F.slot_gs_get.check _ _ _ _ _ _ _ _ hT5 (F.args_gs_get _ _ _) ?_)
  repeat (any_goals (first | assumption | (with_reducible refine wpAny_loadPart_at hx ?_; rw [hc]) | (rw [F.owner_object_class]; with_reducible refine L1.at ?_) | wp_step))
  refine ⟨Code.quiet_builtin _ (by decide +kernel), codeAny_builtin F.entry_object_class ?_⟩
  repeat (any_goals (first | assumption | (with_reducible refine wpAny_loadPart_at hx ?_; rw [hc]) | wp_step))
theorem xc_entry {tk : Tok} {Q : Fin → Shared → Prop} (X : K.In h) (Z : ExI K C) (hx : h.get? a = some o) (hc : o.cls = .ref C) (hq : Q (.done (.ret (.ref C))) ⟨h, g, d, t, os⟩) :
    wpAny (model prog w) A (Builtin.«object.__getattribute__» ⟨[.ref a, .str "__class__" tk], []⟩) Q E ⟨h, g, d, t, os⟩ := by
  have hT5 : (⟨h, g, d, t, os⟩ : Shared).TypeIs (.builtin "object.__class__") "getset_descriptor" := F.typeOf_object_class
  have f5 := F.typeOf_object_class
  have f6 := F.slot_gs_get.lookup
  have f7 := F.slot_gs_set.lookup
  have L1 := looks_findIn (M := model prog w) X Z.cl
  repeat (any_goals (first | assumption | (with_reducible refine wpAny_loadPart_at hx ?_; rw [hc]) | with_reducible refine L1.at ?_ | wp_step))
  refine xc_get X Z hx hc ?_
  repeat (any_goals (first | assumption | wp_step))
theorem xc_check {M : Model} {nameV : Value} {Q : Unit → Shared → Prop} (X : K.In h) (Z : ExI K C) (hx : h.get? a = some o) (hc : o.cls = .ref C) (hq : Q () ⟨h, g, d, t, os⟩) : wpAny M A (checkBuiltinCall "BaseException.__getattribute__" ⟨[.ref a, nameV], []⟩) Q E ⟨h, g, d, t, os⟩ := by
  have hk : builtinKind "BaseException.__getattribute__" = some .slot := by decide +kernel
  have hsplit : splitId "BaseException.__getattribute__" = some ("BaseException", "__getattribute__") := by decide +kernel
  have L1 := looks_mroIn (M := M) X Z.mb
  have ha := F.args_bexc_ga (.ref a) nameV
  simp only [checkBuiltinCall, hk, hsplit]
  refine wpAny_bind ?_
  · unfold isInstance
    repeat (first | (with_reducible refine wpAny_loadPart_at hx ?_; rw [hc]) | with_reducible refine L1.at ?_ | wp_step)
    exact hq
theorem xc_call {tk : Tok} {R : Result → Shared → Prop} (X : K.In h) (Z : ExI K C) (hx : h.get? a = some o) (hc : o.cls = .ref C) (hq : R (.ok (.ret (.ref C))) ⟨h, g, d, t, os⟩) :
    codeAny (model prog w) A (.call (.builtin "BaseException.__getattribute__") ⟨[.ref a, .str "__class__" tk], []⟩) R ⟨h, g, d, t, os⟩ :=
  codeAny_call_builtin F.excAttr_ValueError.ga.plain F.entry_bexc_ga (xc_check X Z hx hc (xc_entry X Z hx hc hq))
theorem xc_by {tk : Tok} {Q : Value → Shared → Prop} (X : K.In h) (Z : ExI K C) (hx : h.get? a = some o) (hc : o.cls = .ref C) (hq : Q (.ref C) ⟨h, g, d, t, os⟩) :
    wpAny (model prog w) A (getAttrBy (.ref a) (.str "__class__" tk) false) Q E ⟨h, g, d, t, os⟩ := by
  have f3 := F.excAttr_ValueError.ga.bind (.ref a)
  have hx2 : (Value.builtin "BaseException.__getattribute__" == Value.builtin "object.__getattribute__") = false := by decide +kernel
  have hx1 : (onTheHeap (Value.ref C) && Value.builtin "BaseException.__getattribute__" == Value.builtin "object.__getattribute__") = false := by rw [hx2]; rfl
  have L1 := looks_findIn (M := model prog w) X Z.ga
  have L2 := looks_findIn (M := model prog w) X Z.gt
  repeat (any_goals (first | assumption | (with_reducible refine wpAny_loadPart_at hx ?_; rw [hc]) | with_reducible refine L1.at ?_ | with_reducible refine L2.at ?_ | wp_step))
  refine xc_call X Z hx hc ?_
  repeat (any_goals (first | assumption | wp_step))
theorem xc_attr {Q : Option Value → Shared → Prop} (X : K.In h) (Z : ExI K C) (hx : h.get? a = some o) (hc : o.cls = .ref C) (hq : Q (some (.ref C)) ⟨h, g, d, t + 1, os⟩) : wpAny (model prog w) A (getAttr? (.ref a) "__class__") Q E ⟨h, g, d, t, os⟩ := by
  unfold getAttr? getAttrBy?
  repeat (any_goals (first | assumption | with_reducible apply xc_by X Z hx hc | wp_step))
end
theorem kitx_exc {K : Frag} {a C : Addr} {o : Obj} (Z : ExI K C) (hcl : ∃ c' d' cd' sl', K.lookup C = some ⟨c', d', .cls cd', sl'⟩) (hc : o.cls = .ref C) : KitX K (.ref a) (.ref C) (fun h => h.get? a = some o) where
  ty := fun _ _ _ e => hc ▸ (Looks.ld e).andThen .now
  it := fun _ _ X _ => by
    obtain ⟨c', d', cd', sl', ho⟩ := hcl
    intro A' Q' E' s' k q
    unfold isType loadHead
    exact wpAny_bind (wpAny_loadPart (k _ _ (X _ _ ho)) (wpAny_pure q))
  ne := fun h tp dd its n sl X htp => by
    obtain ⟨c', d', cd', sl', ho⟩ := hcl
    refine Bool.eq_false_iff.mpr fun q => ?_
    have e : C = tp := Value.ref.inj (beq_iff_eq.mp q)
    subst e
    have z := (X _ _ ho).symm.trans htp
    cases z
  ca := fun {_ _ _ _ _ s} X e k => by
    obtain ⟨h, g, d, t, os⟩ := s
    exact xc_attr X Z e hc k
end L2

end

section
-- KcTryN
set_option Elab.async false
set_option linter.all false
set_option maxRecDepth 100000
set_option maxHeartbeats 4000000
namespace L2
open PySem PySem.Spec PySem.W PyProof.Rows
theorem boot_ValueError : bootBuiltins "ValueError" = some (.type "ValueError") := by decide +kernel
/-! ### a def that may raise -/
noncomputable def FnX (P : Program) (w : World) (K : Frag) (mg : Str → Option Value) (base : Heap) (k : Nat) (x : Str) (ps : List Str) (sp : Sp) : Prop :=
  ∃ f fd, FnOk P w K mg base (CX1 P w) k f fd ps sp ∧ mg x = some (.ref f) ∧ keepIn K (.ref f) = true ∧ Binds K fd ps []
theorem FnX.mono {P : Program} {w : World} {K : Frag} {mg : Str → Option Value} {base : Heap} {j k : Nat} {x : Str} {ps : List Str} {sp : Sp} (F : FnX P w K mg base j x ps sp) (h : j ≤ k) : FnX P w K mg base k x ps sp := by
  obtain ⟨f, fd, ok, r⟩ := F
  exact ⟨f, fd, ok.mono h, r⟩
theorem Def.okX {P : Program} {w : World} {K : Frag} {mg : Str → Option Value} {base : Heap} {x : Str} {st : Stmt} {N ps : List Str} {f : Addr} {fd : FuncData} {k : Nat} {sp : Sp} (D : Def K mg x st ps f fd) (S : FnScope N ps (defScope st)) (len : ∀ vs H Q E, sp vs H Q E → vs.length = ps.length)
    (hbody : ∀ (cdv : Value) (A : Around) (outer : List Env) (s : Shared) (H : Hp) (vs : List V) (Q : VK) (E : XK), Room k (A.deeper (envOfC x (defScope st) s.heap.objs.size f cdv)) → sp vs H Q E →
      ∃ t, PSs (cxOf (CX1 P w) P w K mg base N x (defScope st) f cdv A outer s H E) (defBody st) t ∧ t { nx := fun _ H' => Q .non H', rt := Q } (start N vs) H) : FnX P w K mg base (k + 1) x ps sp := by
  refine ⟨f, fd, ?_, D.m, D.fn.kp, D.b⟩
  obtain ⟨oc, od, kV, doc, pm, an, cdv, ct, osl, rfl, lk, hcd⟩ := D.fn.ex
  exact fn_of lk hcd S len fun A outer s H vs Q E hr hsp => hbody cdv A outer s H vs Q E hr hsp
theorem pe_callX {X : Cx} {k : Nat} {x : Str} {ps : List Str} {sp : Sp} {E : XK} {p pos : Pos} {e : Expr} {es : List Expr} {t : TA} (F : FnX X.prog X.w X.K X.mg X.base k x ps sp) (hr : Room k X.A) (hx : Passes (CX1 X.prog X.w) X E) (ha : PA X (e :: es) t) (hg : Gl X x := by rfl)
    (hdb : (x == ("__debug__" : Str)) = false := by decide) (he : starEach (e :: es) X.env = (false, eval e X.env) :: starEach es X.env := by rfl) (hpl : (backTo pos (starEach es X.env)).any (·.1) = false := by rfl) :
    PE X (.Call (.Name x p) (e :: es) [] pos) (tCall sp [] E t) := by
  obtain ⟨f, fd, ok, m, kp, b⟩ := F
  exact pe_call ok hr hg m kp b .nil hx ha hdb he hpl
/-! ### isinstance of the exception at a, of the class at C -/
noncomputable def IsCls (K : Frag) (C : Addr) : Prop := ∃ c' d' cd' sl', K.lookup C = some ⟨c', d', .cls cd', sl'⟩
noncomputable def rIsX (K : Frag) (C a : Addr) : List V → Hp → VK → Prop := fun xs H Q => ExI K C ∧ IsCls K C ∧ ((∃ D b, xs = [.ref a, .ref D] ∧ kitOne K (.ref C) (.ref D) = some b ∧ Q (.bl b) H) ∨
  (∃ T b, xs = [.ref a, .ty T] ∧ kitOne K (.ref C) (.type T) = some b ∧ Q (.bl b) H) ∨ (∃ (p : Addr) (Ds : List Addr) (b : Bool), xs = [.ref a, .ref p] ∧ H p = some (.tup (Ds.map V.ref)) ∧ kitAny K (.ref C) (Ds.map Value.ref) = some b ∧ Q (.bl b) H))
theorem vals_refs : ∀ {Ds : List Addr} {us : List Value}, Vals (Ds.map V.ref) us → us = Ds.map Value.ref
  | [], _, h => by cases h; rfl
  | D :: Ds, _, h => by
    cases h with
    | cons r rs =>
      rw [vals_refs rs, show _ = Value.ref D from r]
      rfl
theorem call_isX {X : Cx} {a C : Addr} {oe : Obj} (hp : (a, oe) ∈ X.pn) (hc : oe.cls = .ref C) : CallR X (.builtin "isinstance") (rIsX X.K C a) := by
  intro pins s σ H xs us Q I r h
  obtain ⟨Z, hcl, h⟩ := h
  have e0 := (I.pin (a, oe) (List.mem_append_left _ hp)).1
  rcases h with ⟨D, b, rfl, e, q⟩ | ⟨T, b, rfl, e, q⟩ | ⟨p, Ds, b, rfl, hH, e, q⟩
  · obtain ⟨u, v, rfl, ru, rv⟩ := r.two
    cases ru
    cases rv
    exact kia_one (kitx_exc Z hcl hc) I.kIn e0 e (fun z => nomatch z) fun tk => ⟨.bl b, H, I.tok tk, rfl, q⟩
  · obtain ⟨u, v, rfl, ru, rv⟩ := r.two
    cases ru
    cases (show v = Value.type T from rv)
    exact kia_one (kitx_exc Z hcl hc) I.kIn e0 e (fun z => nomatch z) fun tk => ⟨.bl b, H, I.tok tk, rfl, q⟩
  · obtain ⟨u, v, rfl, ru, rv⟩ := r.two
    cases ru
    cases rv
    obtain ⟨_, its, ri, o', ho', hcl', ⟨n, hda⟩, hdn⟩ := I.hok p _ hH
    obtain ⟨oc, od, oda, osl⟩ := o'
    cases hcl'
    cases hda
    cases hdn
    have ei := vals_refs ri
    subst ei
    exact kia_tup (kitx_exc Z hcl hc) I.kIn e0 ho' e (fun z => nomatch z) fun tk => ⟨.bl b, H, I.tok tk, rfl, q⟩
noncomputable def tTryE (K : Frag) (D : Addr) (len i : Nat) (tb : XK → TS) (ts : Addr → Addr → TS) : TS := fun Z σ H => ∃ E : XK, tTry K D len i E (tb E) ts Z σ H
theorem ps_tryE {X : Cx} {D : Addr} {i : Nat} {n y : Str} {np hpos pos : Pos} {b0 : Stmt} {body suite : List Stmt} {tb : XK → TS} {ts : Addr → Addr → TS} (hst : X.stack = X.env :: X.outer) (hfr : X.env.frame = some X.env.locals) (hex : X.ex = []) (hfn : ∀ x, X.fn x = true)
    (hg : Gl X y) (hm : X.mg y = some (.ref D)) (hN : X.N.Nodup) (hi : X.N[i]? = some n) (hloc : X.env.scope.names.lookup n = some .local)
    (hb : ∀ E pn xe, Passes (CX1 X.prog X.w) (X.tried pn xe) E → PSs (X.tried pn xe) body (tb E))
    (hs : ∀ (a C : Addr) (oe : Obj) (pn : List (Addr × Obj)), oe.cls = .ref C → (a, oe) ∈ pn → PSs (X.suite a pn) (b0 :: suite) (ts C a)) (hdb : (y == ("__debug__" : Str)) = false := by decide) :
    PS X (.Try body [.ExceptHandler (some (.Name y np)) (some n) (b0 :: suite) hpos] [] [] pos) (tTryE X.K D X.N.length i tb ts) := fun pins s σ H Z I ⟨E, h⟩ =>
  ps_try hst hfr hex hfn hg hm hN hi hloc (hb E) hs hdb pins s σ H Z I h
end L2

end

section
-- KcKit
set_option Elab.async false
set_option linter.all false
set_option maxRecDepth 100000
set_option maxHeartbeats 4000000
namespace L2
open PySem
noncomputable def isaB (t1 t2 : String) : Bool := t1 == t2 || (t1 == "bool" && t2 == "int")
noncomputable def tnames : List String := ["NoneType", "bool", "int", "str", "tuple", "list", "dict"]
noncomputable def tnames2 : List String := ["bool", "int", "str", "tuple", "list"]
theorem kit_by {K : PySem.W.Frag} {t1 t2 : String} {b : Bool} (h : (if (Value.type t1 == Value.type t2) = true then some true else if PySem.W.kitMeta t2 = true then (fastBuiltinMro t1).map (·.contains (.type t2)) else none) = some b) : PySem.W.kitOne K (.type t1) (.type t2) = some b := h
theorem kit_all (K : PySem.W.Frag) : ∀ t1 ∈ tnames, ∀ t2 ∈ tnames2, PySem.W.kitOne K (.type t1) (.type t2) = some (isaB t1 t2) := by
  have go : ∀ t1 ∈ tnames, ∀ t2 ∈ tnames2, (if (Value.type t1 == Value.type t2) = true then some true else if PySem.W.kitMeta t2 = true then (fastBuiltinMro t1).map (·.contains (.type t2)) else none) = some (isaB t1 t2) := by decide +kernel
  exact fun t1 h1 t2 h2 => kit_by (go t1 h1 t2 h2)
end L2

end

section
-- KcErrs
set_option Elab.async false
set_option linter.all false
set_option maxRecDepth 100000
set_option maxHeartbeats 4000000
namespace L2
open PySem PySem.Spec PySem.W PyProof.Rows
/-! ### the text's own errors -/
structure Errs where
  CardError : Addr
  NoPack : Addr
  TooMany : Addr
  NoHand : Addr
  NoRow : Addr
  NoSaying : Addr
structure ErrK (K : Frag) (G : Errs) : Prop where
  exm : exmOne K (.ref G.NoPack) (.ref G.CardError) = some true
  xi : ExI K G.NoPack
  ic : IsCls K G.NoPack
  k1 : kitOne K (.ref G.NoPack) (.ref G.NoPack) = some true
  k2 : kitOne K (.ref G.NoPack) (.type "ValueError") = some true
  k3 : kitAny K (.ref G.NoPack) [.ref G.NoHand, .ref G.NoRow, .ref G.NoSaying, .ref G.TooMany] = some false
structure ErrsOk (P : Program) (w : World) (K : Frag) (mg : Str → Option Value) (G : Errs) : Prop where
  ok : ErrK K G
  m_CardError : mg "CardError" = some (.ref G.CardError)
  m_NoPack : mg "NoPack" = some (.ref G.NoPack)
  m_TooMany : mg "TooMany" = some (.ref G.TooMany)
  m_NoHand : mg "NoHand" = some (.ref G.NoHand)
  m_NoRow : mg "NoRow" = some (.ref G.NoRow)
  m_NoSaying : mg "NoSaying" = some (.ref G.NoSaying)
  ex_NoPack : ExCls K G.NoPack
theorem pss_any {X : Cx} {st : List Stmt} : PSs X st tNever := fun _ _ _ _ _ _ h => h.elim
theorem r_raise {C : Addr} {E : XK} {t : TA} {D : Ends} {σ : St} {H : Hp} (h : t σ H fun vs H1 => vs.length ≤ sizeLine ∧ ∀ a, H1 a = none → E (.ref C) (some a) H1) : tRaise C E t D σ H := h
end L2

end

section
-- KcFs
set_option Elab.async false
set_option linter.all false
set_option maxRecDepth 100000
set_option maxHeartbeats 4000000
namespace L2
open PySem PySem.Spec PySem.W PyProof.Rows
/-! ### two promises of one def; a calm one is a raising one -/
section
variable {P : Program} {w : World} {K : Frag} {mg : Str → Option Value} {base : Heap} {k : Nat} {f : Addr} {fd : FuncData} {ps : List Str}
theorem FnOk.up {sp : Sp} (F : FnOk P w K mg base CX0 k f fd ps sp) : FnOk P w K mg base (CX1 P w) k f fd ps sp :=
  ⟨F.len, fun A outer s H args us vs Q E hr he hb hv hs => codeAny_mono (F.run A outer s H args us vs Q E hr he hb hv hs) fun r s' h => by
    cases r with
    | ok fl => cases fl <;> exact h
    | error e => exact (show False from h).elim⟩
theorem FnOk.or {CX : CXT} {sp sp' : Sp} (F : FnOk P w K mg base CX k f fd ps sp) (G : FnOk P w K mg base CX k f fd ps sp') : FnOk P w K mg base CX k f fd ps (fun vs H Q E => sp vs H Q E ∨ sp' vs H Q E) :=
  ⟨fun vs H Q E h => h.elim (F.len vs H Q E) (G.len vs H Q E), fun A outer s H args us vs Q E hr he hb hv hs => hs.elim (F.run A outer s H args us vs Q E hr he hb hv) (G.run A outer s H args us vs Q E hr he hb hv)⟩
end
theorem Def.fnX {P : Program} {w : World} {K : Frag} {mg : Str → Option Value} {base : Heap} {x : Str} {st : Stmt} {N ps : List Str} {f : Addr} {fd : FuncData} {k : Nat} {sp : Sp} (D : Def K mg x st ps f fd) (S : FnScope N ps (defScope st)) (len : ∀ vs H Q E, sp vs H Q E → vs.length = ps.length)
    (hbody : ∀ (cdv : Value) (A : Around) (outer : List Env) (s : Shared) (H : Hp) (vs : List V) (Q : VK) (E : XK), Room k (A.deeper (envOfC x (defScope st) s.heap.objs.size f cdv)) → sp vs H Q E →
      ∃ t, PSs (cxOf (CX1 P w) P w K mg base N x (defScope st) f cdv A outer s H E) (defBody st) t ∧ t { nx := fun _ H' => Q .non H', rt := Q } (start N vs) H) : FnOk P w K mg base (CX1 P w) (k + 1) f fd ps sp := by
  obtain ⟨oc, od, kV, doc, pm, an, cdv, ct, osl, rfl, lk, hcd⟩ := D.fn.ex
  exact fn_of lk hcd S len fun A outer s H vs Q E hr hsp => hbody cdv A outer s H vs Q E hr hsp
/-! ### f"a {i} b" -/
theorem pe_fstr3 {X : Cx} {a b : Str} {j1 j2 : Nat} {p1 p2 p3 pos : Pos} {v : Expr} {i : Int} (hv : PE X v (tC (.int i))) (hi : i.natAbs.log2 < 1920) (hz : (a ++ (toString i : Str) ++ b).length ≤ sizeLine) (hz1 : a.length ≤ sizeLine) (hz2 : (a ++ (toString i : Str)).length ≤ sizeLine) :
    PE X (.JoinedStr [.Constant (.str a) j1 p1, .FormattedValue v (-1) none p2, .Constant (.str b) j2 p3] pos) (tC (.str (a ++ (toString i : Str) ++ b))) := by
  intro pins s σ H Q I h
  have e0 : Str.empty ++ a = a := by
    obtain ⟨c⟩ := a
    exact congrArg Str.mk (Array.empty_append (xs := c))
  refine PyProof.Rows.JoinedStr_many (PyProof.Rows.joinParts_cons (Calls.Constant_str ⟨by rw [e0]; exact hz1, ?_⟩))
  rw [e0]
  refine PyProof.Rows.joinParts_cons (PyProof.Rows.FormattedValue_plain (thn (hv pins _ σ H (fun x H' => x = .int i ∧ H' = H) (I.tok _) ⟨rfl, rfl⟩) fun u s1 ⟨x, H1, I1, r1, ex, eH⟩ => ?_))
  subst ex eH
  obtain ⟨t, rfl⟩ := (show ∃ t, u = Value.int i t from r1)
  refine PyProof.Rows.formatField_int_small hi ?_
  refine ⟨hz2, PyProof.Rows.joinParts_cons (Calls.Constant_str ⟨hz, PyProof.Rows.joinParts_nil ?_ hz⟩)⟩
  exact ⟨.str _, _, (I1.tok _), ⟨_, rfl⟩, h⟩
end L2

end

section
-- KcErr4
set_option Elab.async false
set_option linter.all false
set_option maxRecDepth 100000
set_option maxHeartbeats 4000000
namespace L2
open PySem PySem.Spec PySem.W PyProof.Rows
structure Err1 (K : Frag) (G : Errs) (C : Addr) (b1 b2 : Bool) : Prop where
  exm : exmOne K (.ref C) (.ref G.CardError) = some true
  xi : ExI K C
  ic : IsCls K C
  k1 : kitOne K (.ref C) (.ref G.NoPack) = some b1
  k2 : kitOne K (.ref C) (.ref G.TooMany) = some b2
  k3 : kitOne K (.ref C) (.type "ValueError") = some true
  k4 : kitAny K (.ref C) [.ref G.NoHand, .ref G.NoRow, .ref G.NoSaying] = some false
structure ErrK4 (K : Frag) (G : Errs) : Prop where
  np : Err1 K G G.NoPack true false
  tm : Err1 K G G.TooMany false true
structure ErrsOk4 (P : Program) (w : World) (K : Frag) (mg : Str → Option Value) (G : Errs) : Prop where
  ok : ErrK4 K G
  m_CardError : mg "CardError" = some (.ref G.CardError)
  m_NoPack : mg "NoPack" = some (.ref G.NoPack)
  m_TooMany : mg "TooMany" = some (.ref G.TooMany)
  m_NoHand : mg "NoHand" = some (.ref G.NoHand)
  m_NoRow : mg "NoRow" = some (.ref G.NoRow)
  m_NoSaying : mg "NoSaying" = some (.ref G.NoSaying)
  ex_NoPack : ExCls K G.NoPack
  ex_TooMany : ExCls K G.TooMany
theorem errs4_mk {P : Program} {w : World} {K : Frag} {mg : Str → Option Value} {c1 c2 c3 c4 c5 c6 : Addr} {u1 v1 : Value} {u2 v2 : Option Addr} {u3 v3 : ClassData} {u4 v4 : Array (Option Value)}
    (m1 : mg "CardError" = some (.ref c1)) (m2 : mg "NoPack" = some (.ref c2)) (m3 : mg "TooMany" = some (.ref c3)) (m4 : mg "NoHand" = some (.ref c4)) (m5 : mg "NoRow" = some (.ref c5)) (m6 : mg "NoSaying" = some (.ref c6))
    (q : excIn K c2 [.type "ValueError", .type "Exception", .type "BaseException", .type "object"] "ValueError.__new__" = true)
    (e : exmOne K (.ref c2) (.ref c1) = some true) (ga : findIn K (.ref c2) "__getattribute__" = some (some (.builtin "BaseException.__getattribute__"))) (gt : findIn K (.ref c2) "__getattr__" = some none) (cl : findIn K (.ref c2) "__class__" = some (some (.builtin "object.__class__")))
    (mo : mroIn K c2 (.type "object") = some true) (mb : mroIn K c2 (.type "BaseException") = some true) (lk : K.lookup c2 = some ⟨u1, u2, .cls u3, u4⟩)
    (k1 : kitOne K (.ref c2) (.ref c2) = some true) (k2 : kitOne K (.ref c2) (.ref c3) = some false) (k3 : kitOne K (.ref c2) (.type "ValueError") = some true) (k4 : kitAny K (.ref c2) [.ref c4, .ref c5, .ref c6] = some false)
    (q' : excIn K c3 [.type "ValueError", .type "Exception", .type "BaseException", .type "object"] "ValueError.__new__" = true)
    (e' : exmOne K (.ref c3) (.ref c1) = some true) (ga' : findIn K (.ref c3) "__getattribute__" = some (some (.builtin "BaseException.__getattribute__"))) (gt' : findIn K (.ref c3) "__getattr__" = some none) (cl' : findIn K (.ref c3) "__class__" = some (some (.builtin "object.__class__")))
    (mo' : mroIn K c3 (.type "object") = some true) (mb' : mroIn K c3 (.type "BaseException") = some true) (lk' : K.lookup c3 = some ⟨v1, v2, .cls v3, v4⟩)
    (k1' : kitOne K (.ref c3) (.ref c2) = some false) (k2' : kitOne K (.ref c3) (.ref c3) = some true) (k3' : kitOne K (.ref c3) (.type "ValueError") = some true) (k4' : kitAny K (.ref c3) [.ref c4, .ref c5, .ref c6] = some false) : ErrsOk4 P w K mg ⟨c1, c2, c3, c4, c5, c6⟩ :=
  ⟨⟨⟨e, ⟨ga, gt, cl, mo, mb⟩, ⟨_, _, _, _, lk⟩, k1, k2, k3, k4⟩, ⟨e', ⟨ga', gt', cl', mo', mb'⟩, ⟨_, _, _, _, lk'⟩, k1', k2', k3', k4'⟩⟩, m1, m2, m3, m4, m5, m6, ex_value q, ex_value q'⟩
end L2

end

section
-- KcK04
set_option Elab.async false
set_option linter.all false
set_option maxRecDepth 100000
set_option maxHeartbeats 4000000
namespace L2
open PySem PyProof.Rows

theorem plain_non {K : PySem.W.Frag} {H : Hp} : Plain K H .non := ⟨_, _, _, .non, kit_all K "NoneType" (by decide) "int" (by decide), kit_all K "NoneType" (by decide) "bool" (by decide), rfl⟩
theorem plain_bl {K : PySem.W.Frag} {H : Hp} (b : Bool) : Plain K H (.bl b) := ⟨_, _, _, .bl b, kit_all K "bool" (by decide) "int" (by decide), kit_all K "bool" (by decide) "bool" (by decide), rfl⟩
theorem plain_str {K : PySem.W.Frag} {H : Hp} (z : Str) : Plain K H (.str z) := ⟨_, _, _, .str z, kit_all K "str" (by decide) "int" (by decide), kit_all K "str" (by decide) "bool" (by decide), rfl⟩
theorem plain_lst {K : PySem.W.Frag} {H : Hp} {p : Addr} {xs : List V} (e : H p = some (.lst xs)) : Plain K H (.ref p) := ⟨_, _, _, .lst e, kit_all K "list" (by decide) "int" (by decide), kit_all K "list" (by decide) "bool" (by decide), rfl⟩
noncomputable def NoPk (K : PySem.W.Frag) (H : Hp) (x y : V) : Prop := ∃ zs, Plain K H x ∧ Sizes K H y zs ∧ packO x zs = false
theorem sizes_same {K : PySem.W.Frag} {H H' : Hp} {y : V} {zs : Option (List V)} (h : Sizes K H y zs) (s : Same H H') : Sizes K H' y zs := by
  cases zs with
  | none => obtain ⟨t, ty, e⟩ := h; exact ⟨t, tyOf_same ty s, e⟩
  | some zs =>
    obtain ⟨a, e, h1, h2, h3⟩ := h
    refine ⟨a, e, ?_, h2, fun z hz => (h3 z hz).same s⟩
    rcases h1 with h1 | ⟨o, h1⟩
    · exact .inl (s _ _ h1)
    · exact .inr ⟨o, s _ _ h1⟩
theorem NoPk.same {K : PySem.W.Frag} {H H' : Hp} {x y : V} (h : NoPk K H x y) (s : Same H H') : NoPk K H' x y := by
  obtain ⟨zs, px, sz, e⟩ := h
  exact ⟨zs, px.same s, sizes_same sz s, e⟩
noncomputable def NoPkT (K : PySem.W.Frag) (H : Hp) (v : V) : Prop := ∃ p x y, v = .ref p ∧ H p = some (.tup [x, y]) ∧ NoPk K H x y
theorem NoPkT.same {K : PySem.W.Frag} {H H' : Hp} {v : V} (h : NoPkT K H v) (s : Same H H') : NoPkT K H' v := by
  obtain ⟨p, x, y, e, h1, h2⟩ := h
  exact ⟨p, x, y, e, s _ _ h1, h2.same s⟩
theorem pack_bad {c : Int} {zs : List V} {z : V} (hz : z ∈ zs) (hb : withinV z 0 c = false) : packV (.int c) zs = false := by
  have : zs.all (fun z => withinV z 0 c) = false := List.all_eq_false.mpr ⟨z, hz, by simp [hb]⟩
  simp only [packV, this, Bool.and_false, Bool.false_and]
theorem plain_natV {K : PySem.W.Frag} {H : Hp} {ss : List Nat} {z : V} (h : z ∈ natV ss) : Plain K H z := by
  unfold natV at h
  obtain ⟨k, _, rfl⟩ := List.mem_map.mp h
  exact Plain.int _
theorem cut_mem {xs : List V} {lo hi : Option Int} {z : V} (h : z ∈ cutV xs lo hi) : z ∈ xs := by
  unfold cutV at h
  exact List.mem_of_mem_drop (List.mem_of_mem_take h)
theorem nopk_put {K : PySem.W.Frag} {H : Hp} {p : Addr} {c : Nat} {ss : List Nat} {z : V} {lo hi : Option Int} (h5 : ss.length ≤ 5) (e : H p = some (.lst (cutV (natV ss) none lo ++ [z] ++ cutV (natV ss) hi none))) (pz : Plain K H z) (hb : withinV z 0 (c : Int) = false) : NoPk K H (.int c) (.ref p) := by
  refine ⟨some _, Plain.int _, ⟨p, rfl, .inl e, ?_, fun y hy => ?_⟩, pack_bad (z := z) (List.mem_append_left _ (List.mem_append_right _ List.mem_cons_self)) hb⟩
  · have h1 := cutV_length (natV ss) none lo
    have h2 := cutV_length (natV ss) hi none
    rw [natV_len] at h1 h2
    rw [List.length_append, List.length_append]
    show _ + 1 + _ ≤ 1000
    omega
  · rcases List.mem_append.mp hy with hy | hy
    · rcases List.mem_append.mp hy with hy | hy
      · exact plain_natV (cut_mem hy)
      · rw [List.mem_singleton] at hy
        subst hy
        exact pz
    · exact plain_natV (cut_mem hy)
theorem nopk_num {K : PySem.W.Frag} {H : Hp} {q : Addr} {ss : List Nat} {i : Int} (e : H q = some (.lst (natV ss))) (h5 : ss.length ≤ 5) (hi : i < 0 ∨ 12 < i) : NoPk K H (.int i) (.ref q) := by
  refine ⟨some _, Plain.int _, sizes_of e (by omega), ?_⟩
  show packV (.int i) (natV ss) = false
  have : (decide (0 ≤ i) && decide (i ≤ 12)) = false := by
    rcases hi with hi | hi
    · rw [decide_eq_false (by omega), Bool.false_and]
    · rw [decide_eq_false (p := i ≤ 12) (by omega), Bool.and_false]
  simp only [packV, this, Bool.false_and]
theorem nopk_nil {K : PySem.W.Frag} {H : Hp} {q : Addr} {c : Nat} (e : H q = some (.lst [])) : NoPk K H (.int c) (.ref q) := by
  refine ⟨some [], Plain.int _, ⟨q, rfl, .inl e, by decide, fun z h => (nomatch h)⟩, ?_⟩
  simp [packO, packV]
theorem List.length_append_rep (ss : List Nat) : (natV ss).length + (List.replicate (6 - (ss.length : Int)).toNat [V.int 0]).flatten.length = ss.length + (6 - (ss.length : Int)).toNat := by
  rw [natV_len, List.length_flatten]
  simp
theorem nopk_six {K : PySem.W.Frag} {H : Hp} {q : Addr} {c : Nat} {ss : List Nat} (e : H q = some (.lst (natV ss ++ (List.replicate (6 - (ss.length : Int)).toNat [V.int 0]).flatten))) (h5 : ss.length ≤ 5) : NoPk K H (.int c) (.ref q) := by
  have hl : (natV ss ++ (List.replicate (6 - (ss.length : Int)).toNat [V.int 0]).flatten).length = 6 := by
    rw [List.length_append, List.length_append_rep]
    omega
  refine ⟨some _, Plain.int _, ⟨q, rfl, .inl e, by rw [hl]; decide, fun z hz => ?_⟩, ?_⟩
  · rcases List.mem_append.mp hz with hz | hz
    · exact plain_natV hz
    · obtain ⟨l, hl', hz⟩ := List.mem_flatten.mp hz
      rw [(List.mem_replicate.mp hl').2, List.mem_singleton] at hz
      subst hz
      exact Plain.int _
  · simp only [packO, packV, hl]
    simp
theorem nopk_kind {K : PySem.W.Frag} {H : Hp} {q : Addr} {ss : List Nat} {x : V} (e : H q = some (.lst (natV ss))) (h5 : ss.length ≤ 5) (px : Plain K H x) (hx : wholeV x = false) : NoPk K H x (.ref q) := by
  refine ⟨some _, px, sizes_of e (by omega), ?_⟩
  cases x with
  | int i => cases hx
  | _ => rfl
theorem wi_neg {i c : Int} (h : i < 0) : withinV (.int i) 0 c = false := by show (decide (0 ≤ i) && _) = false; rw [decide_eq_false (by omega), Bool.false_and]
theorem wi_big {i c : Int} (h : c < i) : withinV (.int i) 0 c = false := by show (_ && decide (i ≤ c)) = false; rw [decide_eq_false (p := i ≤ c) (by omega), Bool.and_false]
theorem flat_nats (ss : List Nat) : ∀ x ∈ natV ss, flatD x = true := fun x h => by
  unfold natV at h
  obtain ⟨k, _, rfl⟩ := List.mem_map.mp h
  rfl
theorem four_at {a b c d : V} {k : Int} (h0 : 0 ≤ k) (h4 : k < 4) : ∃ v, atI [a, b, c, d] k = some v ∧ (v = a ∨ v = b ∨ v = c ∨ v = d) := by
  have : k = 0 ∨ k = 1 ∨ k = 2 ∨ k = 3 := by omega
  rcases this with rfl | rfl | rfl | rfl
  · exact ⟨a, rfl, .inl rfl⟩
  · exact ⟨b, rfl, .inr (.inl rfl)⟩
  · exact ⟨c, rfl, .inr (.inr (.inl rfl))⟩
  · exact ⟨d, rfl, .inr (.inr (.inr rfl))⟩
theorem mem_at {xs : List V} {k : Int} (h0 : 0 ≤ k) (h : k < xs.length) : ∃ v, atI xs k = some v ∧ v ∈ xs := by
  obtain ⟨n, rfl⟩ : ∃ n : Nat, k = (n : Int) := ⟨k.toNat, by omega⟩
  have hl : n < xs.length := by omega
  exact ⟨xs[n], atI_nat (List.getElem?_eq_getElem hl), List.getElem_mem hl⟩
/-! ### it is refused -/
noncomputable def sx_how_many (K : PySem.W.Frag) (G : Errs) : Sp := fun vs H _ E => ∃ x y, vs = [x, y] ∧ NoPk K H x y ∧ ∀ a H', Same H H' → H' a = none → E (.ref G.NoPack) (some a) H'
noncomputable def tx_how_many (K : PySem.W.Frag) (G : Errs) (E : XK) : TS := (tSeq (tIfS (tNot (tB (tCall (sp_is_pack K) [] E0 (tCons (tVar 0) (tCons (tVar 1) tNil))))) (tRaise G.NoPack E (tCons (tC (.str "these cards and sizes tell no pack")) tNil)) tNext)
  tNever)
theorem lenx_how_many {K : PySem.W.Frag} {G : Errs} {vs : List V} {H : Hp} {Q : VK} {E : XK} (h : sx_how_many K G vs H Q E) : vs.length = 2 := by
  obtain ⟨x, y, rfl, _⟩ := h
  rfl
theorem rx_how_many {K : PySem.W.Frag} {G : Errs} {vs : List V} {H : Hp} {Q : VK} {E : XK} (h : sx_how_many K G vs H Q E) : tx_how_many K G E { nx := fun _ H' => Q .non H', rt := Q } (start ["cards", "sizes", "many", "left", "size"] vs) H := by
  obtain ⟨x, y, rfl, ⟨zs, px, sz, e⟩, q⟩ := h
  show tx_how_many K G E _ [some _, some _, none, none, none] _
  unfold tx_how_many
  walk_at "rd"
  refine ⟨x, y, zs, rfl, px, sz, fun H1 s1 => ?_⟩
  rw [e]
  walk_at "rd"
  refine r_raise ?_
  walk_at "rd"
  exact ⟨by simp [sizeLine_eq], fun a n => q a H1 s1 n⟩
theorem paired_lenD {α β : Type} {F : α → β → Prop} {l : List α} {m : List β} (h : Paired F l m) : l.length = m.length := by
  induction h with
  | nil => rfl
  | cons _ _ ih => rw [List.length_cons, List.length_cons, ih]
theorem six_at {a b c d e f : V} {k : Int} (h0 : 0 ≤ k) (h4 : k < 6) : ∃ v, atI [a, b, c, d, e, f] k = some v ∧ (v = a ∨ v = b ∨ v = c ∨ v = d ∨ v = e ∨ v = f) := by
  have : k = 0 ∨ k = 1 ∨ k = 2 ∨ k = 3 ∨ k = 4 ∨ k = 5 := by omega
  rcases this with rfl | rfl | rfl | rfl | rfl | rfl
  · exact ⟨a, rfl, .inl rfl⟩
  · exact ⟨b, rfl, .inr (.inl rfl)⟩
  · exact ⟨c, rfl, .inr (.inr (.inl rfl))⟩
  · exact ⟨d, rfl, .inr (.inr (.inr (.inl rfl)))⟩
  · exact ⟨e, rfl, .inr (.inr (.inr (.inr (.inl rfl))))⟩
  · exact ⟨f, rfl, .inr (.inr (.inr (.inr (.inr rfl))))⟩
/-! ### deals_of: refused, by how_many or by itself -/
noncomputable def sx1_deals_of (K : PySem.W.Frag) (G : Errs) : Sp := sx_how_many K G
noncomputable def sx2_deals_of (K : PySem.W.Frag) (G : Errs) : Sp := fun vs H _ E => ∃ (c : Nat) (a : Addr) (ss : List Nat), vs = [.int c, .ref a] ∧ H a = some (.lst (natV ss)) ∧ Pack c ss ∧ 2000 < KM.multi c ss ∧ ∀ a H', Same H H' → H' a = none → E (.ref G.TooMany) (some a) H'
noncomputable def sx_deals_of (K : PySem.W.Frag) (G : Errs) : Sp := fun vs H Q E => sp_deals_of K vs H Q E ∨ (sx1_deals_of K G vs H Q E ∨ sx2_deals_of K G vs H Q E)
noncomputable def tx1_deals_of (K : PySem.W.Frag) (G : Errs) (E : XK) : TS := (tSeq (tIfS (tTest (tOp (rI0 fun i j => .bl (decide (j < i))) (tCall (sx_how_many K G) [] E (tCons (tVar 0) (tCons (tVar 1) tNil))) (tC (.int 2000)))) tNever tNext)
  tNever)
noncomputable def tx_deals_of (K : PySem.W.Frag) (G : Errs) (E : XK) : TS := (tSeq (tIfS (tTest (tOp (rI0 fun i j => .bl (decide (j < i))) (tCall (sp_how_many K) [] E0 (tCons (tVar 0) (tCons (tVar 1) tNil))) (tC (.int 2000)))) (tRaise G.TooMany E (tCons (tC (.str ("the pack has more than " ++ (toString (2000 : Int) : Str) ++ " deals"))) tNil)) tNext)
  tNever)
theorem len1_deals_of {K : PySem.W.Frag} {G : Errs} {vs : List V} {H : Hp} {Q : VK} {E : XK} (h : sx1_deals_of K G vs H Q E) : vs.length = 2 := lenx_how_many h
theorem lenx_deals_of {K : PySem.W.Frag} {G : Errs} {vs : List V} {H : Hp} {Q : VK} {E : XK} (h : sx2_deals_of K G vs H Q E) : vs.length = 2 := by
  obtain ⟨c, a, ss, rfl, _⟩ := h
  rfl
theorem rx1_deals_of {K : PySem.W.Frag} {G : Errs} {vs : List V} {H : Hp} {Q : VK} {E : XK} (h : sx1_deals_of K G vs H Q E) : tx1_deals_of K G E { nx := fun _ H' => Q .non H', rt := Q } (start ["cards", "sizes", "room", "begun", "card"] vs) H := by
  obtain ⟨x, y, rfl, np, q⟩ := h
  show tx1_deals_of K G E _ [some _, some _, none, none, none] _
  unfold tx1_deals_of
  walk_at "rd"
  exact ⟨x, y, rfl, np, q⟩
theorem rx_deals_of {K : PySem.W.Frag} {G : Errs} {vs : List V} {H : Hp} {Q : VK} {E : XK} (h : sx2_deals_of K G vs H Q E) : tx_deals_of K G E { nx := fun _ H' => Q .non H', rt := Q } (start ["cards", "sizes", "room", "begun", "card"] vs) H := by
  obtain ⟨c, a, ss, rfl, e, pk, hm, q⟩ := h
  show tx_deals_of K G E _ [some _, some _, none, none, none] _
  unfold tx_deals_of
  walk_at "rd"
  refine ⟨c, a, ss, rfl, e, pk, fun H1 s1 => ?_⟩
  walk_at "rd"
  refine ite_dec (fun _ => ?_) (fun c => absurd (by omega) c)
  refine r_raise ?_
  walk_at "rd"
  exact ⟨by simp [sizeLine_eq], fun a n => q a H1 s1 n⟩
/-! ### what is told -/
noncomputable def Told4 (K : PySem.W.Frag) (H : Hp) (x y : V) (out : List V) : Prop :=
  (∃ (c : Nat) (a : Addr) (ss : List Nat), x = .int c ∧ y = .ref a ∧ H a = some (.lst (natV ss)) ∧ Pack c ss ∧ ((KM.multi c ss ≤ 2000 ∧ out = [.bl true, .int (KM.multi c ss : Nat)]) ∨ (2000 < KM.multi c ss ∧ out = [.bl false, .bl true, .bl true, .bl false]))) ∨ (NoPk K H x y ∧ out = [.bl true, .bl false, .bl true, .bl false])
noncomputable def sp__law_told (K : PySem.W.Frag) : Sp := fun vs H Q _ => ∃ x y out, vs = [x, y] ∧ Told4 K H x y out ∧ ∀ p H', Same H H' → H p = none → H' p = some (.lst out) → Q (.ref p) H'
noncomputable def t__law_told (K : PySem.W.Frag) (G : Errs) : TS := (tSeq (tAsg (tC .non) (gName 2))
  (tSeq (tTryE K G.CardError 6 4 (fun E => (tSeq (tAsg (tCall (sx_deals_of K G) [] E (tCons (tVar 0) (tCons (tVar 1) tNil))) (gName 3))
  (tAsg (mLst (tCons (tCB (rIsi K) (tCons (tVar 3) (tCons (tC (.ty "list")) tNil))) (tCons (tCB (cLen K) (tCons (tVar 3) tNil)) tNil))) (gName 2)))) (fun C a => (tSeq (tAsg (tCB (rIsX K C a) (tCons (tVar 4) (tCons (mTup (tCons (tC (.ref G.NoHand)) (tCons (tC (.ref G.NoRow)) (tCons (tC (.ref G.NoSaying)) tNil)))) tNil))) (gName 5))
  (tAsg (mLst (tCons (tCB (rIsX K C a) (tCons (tVar 4) (tCons (tC (.ref G.NoPack)) tNil))) (tCons (tCB (rIsX K C a) (tCons (tVar 4) (tCons (tC (.ref G.TooMany)) tNil))) (tCons (tCB (rIsX K C a) (tCons (tVar 4) (tCons (tC (.ty "ValueError")) tNil))) (tCons (tVar 5) tNil))))) (gName 2)))))
  (tRet (tVar 2))))
noncomputable abbrev N__law_told : List Str := ["_law_cards", "_law_sizes", "_law_heard", "_law_found", "e", "_law_others"]
theorem len__law_told {K : PySem.W.Frag} {vs : List V} {H : Hp} {Q : VK} {E : XK} (h : sp__law_told K vs H Q E) : vs.length = 2 := by
  obtain ⟨x, y, out, rfl, _⟩ := h
  rfl
theorem rd__law_told {K : PySem.W.Frag} {G : Errs} (ok : ErrK4 K G) {vs : List V} {H : Hp} {Q : VK} {E : XK} (h : sp__law_told K vs H Q E) : t__law_told K G { nx := fun _ H' => Q .non H', rt := Q } (start N__law_told vs) H := by
  obtain ⟨x, y, out, rfl, td, q⟩ := h
  show t__law_told K G _ [some _, some _, none, none, none, none] _
  unfold t__law_told
  refine r_seq ?_
  walk_at "rs"
  refine r_seq ?_
  refine ⟨fun v oa H' => Same H H' ∧ ((v = .ref G.NoPack ∧ out = [.bl true, .bl false, .bl true, .bl false]) ∨ (v = .ref G.TooMany ∧ out = [.bl false, .bl true, .bl true, .bl false])), ?_, ?_⟩
  · walk_at "rd"
    rcases td with ⟨c, a, ss, rfl, rfl, e, pk, ⟨hm, ho⟩ | ⟨hm, ho⟩⟩ | ⟨np, ho⟩
    · refine .inl ⟨c, a, ss, rfl, e, pk, hm, fun f H1 s1 hf D => ?_⟩
      obtain ⟨rs, er, hrp⟩ := D
      have hrl : rs.length = KM.multi c ss := by rw [paired_lenD hrp, KM.level_multi pk.sum]
      walk_at "rd"
      refine r_isi (.lst er) (kit_all K "list" (by decide) "list" (by decide)) ?_
      walk_at "rd"
      refine ⟨by simp [sizeLine_eq], fun p H2 hp s2 e2 => ?_⟩
      walk_at "rd"
      refine q p H2 (s1.trans s2) (s1.free hp) ?_
      rw [e2, ho, List.length_map, hrl]
      rfl
    · exact .inr (.inr ⟨c, a, ss, rfl, e, pk, hm, fun a H' s' _ => ⟨s', .inr ⟨rfl, ho⟩⟩⟩)
    · exact .inr (.inl ⟨x, y, rfl, np, fun a H' s' _ => ⟨s', .inl ⟨rfl, ho⟩⟩⟩)
  · rintro C a H2 ⟨s2, ⟨eC, ho⟩ | ⟨eC, ho⟩⟩ hn
    · cases eC
      refine ⟨ok.np.exm, ?_⟩
      show (tSeq _ _) _ [none, none, none, none, some (.ref a), none] H2
      walk_at "rd"
      refine ⟨by simp [sizeLine_eq], fun p3 H3 hp3 s3 e3 => ?_⟩
      refine ⟨ok.np.xi, ok.np.ic, .inr (.inr ⟨p3, [G.NoHand, G.NoRow, G.NoSaying], false, rfl, e3, ok.np.k4, ?_⟩)⟩
      walk_at "rd"
      refine ⟨ok.np.xi, ok.np.ic, .inl ⟨_, true, rfl, ok.np.k1, ?_⟩⟩
      walk_at "rd"
      refine ⟨ok.np.xi, ok.np.ic, .inl ⟨_, false, rfl, ok.np.k2, ?_⟩⟩
      walk_at "rd"
      refine ⟨ok.np.xi, ok.np.ic, .inr (.inl ⟨_, true, rfl, ok.np.k3, ?_⟩)⟩
      walk_at "rd"
      refine ⟨by simp [sizeLine_eq], fun p4 H4 hp4 s4 e4 => ?_⟩
      walk_at "rd"
      exact q p4 H4 ((s2.trans s3).trans s4) ((s2.trans s3).free hp4) (by rw [e4, ho])
    · cases eC
      refine ⟨ok.tm.exm, ?_⟩
      show (tSeq _ _) _ [none, none, none, none, some (.ref a), none] H2
      walk_at "rd"
      refine ⟨by simp [sizeLine_eq], fun p3 H3 hp3 s3 e3 => ?_⟩
      refine ⟨ok.tm.xi, ok.tm.ic, .inr (.inr ⟨p3, [G.NoHand, G.NoRow, G.NoSaying], false, rfl, e3, ok.tm.k4, ?_⟩)⟩
      walk_at "rd"
      refine ⟨ok.tm.xi, ok.tm.ic, .inl ⟨_, false, rfl, ok.tm.k1, ?_⟩⟩
      walk_at "rd"
      refine ⟨ok.tm.xi, ok.tm.ic, .inl ⟨_, true, rfl, ok.tm.k2, ?_⟩⟩
      walk_at "rd"
      refine ⟨ok.tm.xi, ok.tm.ic, .inr (.inl ⟨_, true, rfl, ok.tm.k3, ?_⟩)⟩
      walk_at "rd"
      refine ⟨by simp [sizeLine_eq], fun p4 H4 hp4 s4 e4 => ?_⟩
      walk_at "rd"
      exact q p4 H4 ((s2.trans s3).trans s4) ((s2.trans s3).free hp4) (by rw [e4, ho])
noncomputable def sp__law_spoiled (K : PySem.W.Frag) : Sp := fun vs H Q _ => ∃ (a : Addr) (ns : List Int) (c : Nat) (q : Addr) (ss : List Nat), vs = [.ref a, .int c, .ref q] ∧ ScriptOk K H a ns ∧ H q = some (.lst (natV ss)) ∧ Pack c ss ∧ ∀ (v : V) (H' : Hp), Same H H' → NoPkT K H' v → Q v H'
noncomputable def t__law_spoiled (K : PySem.W.Frag) : TS := (tSeq (tAsg (tCall (sp__law_cell K) [] E0 (tCons (tVar 0) (tCons (tC (.int 8)) tNil))) (gName 3))
  (tSeq (tAsg (tOp (rI (fun _ j => 0 < j) fun i j => .int (i % j)) (tOp (rI CDiv fun i j => .int (i / j)) (tVar 3) (tC (.int 7))) (tCB (cLen K) (tCons (tVar 2) tNil))) (gName 4))
  (tSeq (tAsg (mLst (tCons (mTup (tCons (tVar 1) (tCons (tOp mCat (tOp mCat (tSl (mSlL K) (tVar 2) tNoPart (tPart (tVar 4))) (mLst (tCons (tOp (rI0 fun i j => .int (i - j)) (tUn (rU fun i => .int (-i)) (tC (.int 1))) (tOp (rI (fun _ j => 0 < j) fun i j => .int (i % j)) (tOp (rI CDiv fun i j => .int (i / j)) (tVar 3) (tC (.int 7))) (tC (.int 5)))) tNil))) (tSl (mSlL K) (tVar 2) (tPart (tOp (rI0 fun i j => .int (i + j)) (tVar 4) (tC (.int 1)))) tNoPart)) tNil))) (tCons (mTup (tCons (tVar 1) (tCons (mLst tNil) tNil))) tNil))) (gName 5))
  (tSeq (tAsg (tOp mCat (tVar 5) (mLst (tCons (mTup (tCons (tVar 1) (tCons (tOp mCat (tOp mCat (tSl (mSlL K) (tVar 2) tNoPart (tPart (tVar 4))) (mLst (tCons (tOp (rI0 fun i j => .int (i + j)) (tVar 1) (tC (.int 1))) tNil))) (tSl (mSlL K) (tVar 2) (tPart (tOp (rI0 fun i j => .int (i + j)) (tVar 4) (tC (.int 1)))) tNoPart)) tNil))) (tCons (mTup (tCons (tVar 1) (tCons (tOp mCat (tVar 2) (tOp mRep (mLst (tCons (tC (.int 0)) tNil)) (tOp (rI0 fun i j => .int (i - j)) (tC (.int 6)) (tCB (cLen K) (tCons (tVar 2) tNil))))) tNil))) tNil)))) (gName 5))
  (tSeq (tAsg (tOp mCat (tVar 5) (mLst (tCons (mTup (tCons (tOp (rIxL K) (mLst (tCons (tC .non) (tCons (tC (.str "9")) (tCons (tC (.bl true)) (tCons (mLst (tCons (tC (.int 9)) tNil)) (tCons (tC (.int 13)) (tCons (tUn (rU fun i => .int (-i)) (tC (.int 1))) tNil))))))) (tOp (rI (fun _ j => 0 < j) fun i j => .int (i % j)) (tOp (rI CDiv fun i j => .int (i / j)) (tVar 3) (tC (.int 7))) (tC (.int 6)))) (tCons (tVar 2) tNil))) tNil))) (gName 5))
  (tSeq (tAsg (tOp mCat (tVar 5) (mLst (tCons (mTup (tCons (tVar 1) (tCons (tOp (rIxL K) (mLst (tCons (tCB (mCTuple K) (tCons (tVar 2) tNil)) (tCons (tC .non) (tCons (tC (.int 2)) (tCons (tC (.str "12")) tNil))))) (tOp (rI (fun _ j => 0 < j) fun i j => .int (i % j)) (tOp (rI CDiv fun i j => .int (i / j)) (tVar 3) (tC (.int 7))) (tC (.int 4)))) tNil))) tNil))) (gName 5))
  (tSeq (tAsg (tOp mCat (tVar 5) (mLst (tCons (mTup (tCons (tVar 1) (tCons (tOp mCat (tOp mCat (tSl (mSlL K) (tVar 2) tNoPart (tPart (tVar 4))) (mLst (tCons (tOp (rIxL K) (mLst (tCons (tC .non) (tCons (tC (.str "1")) (tCons (tC (.bl true)) (tCons (mLst (tCons (tC (.int 0)) tNil)) tNil))))) (tOp (rI (fun _ j => 0 < j) fun i j => .int (i % j)) (tOp (rI CDiv fun i j => .int (i / j)) (tVar 3) (tC (.int 35))) (tC (.int 4)))) tNil))) (tSl (mSlL K) (tVar 2) (tPart (tOp (rI0 fun i j => .int (i + j)) (tVar 4) (tC (.int 1)))) tNoPart)) tNil))) tNil))) (gName 5))
  (tRet (tOp (rIxL K) (tVar 5) (tOp (rI (fun _ j => 0 < j) fun i j => .int (i % j)) (tVar 3) (tC (.int 7))))))))))))
theorem len__law_spoiled {K : PySem.W.Frag} {vs : List V} {H : Hp} {Q : VK} {E : XK} (h : sp__law_spoiled K vs H Q E) : vs.length = 3 := by
  obtain ⟨a, ns, c, q, ss, rfl, hSc, e, pk, k⟩ := h
  rfl
theorem rd__law_spoiled {K : PySem.W.Frag} {vs : List V} {H : Hp} {Q : VK} {E : XK} (h : sp__law_spoiled K vs H Q E) : t__law_spoiled K { nx := fun _ H' => Q .non H', rt := Q } (start ["_law_script", "_law_cards", "_law_sizes", "_law_cell_here", "_law_at", "_law_some"] vs) H := by
  obtain ⟨a, ns, c, q, ss, rfl, hSc, e, pk, k⟩ := h
  show t__law_spoiled K _ [some _, some _, some _, none, none, none] _
  unfold t__law_spoiled
  have h5 := pk.l5
  have h1 := pk.l1
  have c12 := pk.c12
  walk_at "rd"
  refine ⟨a, ns, 8, rfl, hSc, by decide, by decide, ?_⟩
  generalize cellN ns 8 = z
  walk_at "rd"
  rw [natV_len]
  refine r_I (by omega) ?_
  generalize z / 7 % (ss.length : Int) = at_
  walk_at "rd"
  have S : Same H H := Same.refl H
  have f0 := e
  have hk1 := cutV_length (natV ss) none (some at_)
  have hk2 := cutV_length (natV ss) (some (at_ + 1)) none
  rw [natV_len] at hk1 hk2
  refine m_slL (SqL.of f0) fun x1 H1 nn1 s1 f1 => ?_
  have S := S.trans s1
  have f0 := s1 _ _ f0
  walk_at "rd"
  refine ⟨by simp [sizeLine_eq], fun x2 H2 nn2 s2 f2 => ?_⟩
  have S := S.trans s2
  have f0 := s2 _ _ f0
  have f1 := s2 _ _ f1
  walk_at "rd"
  refine m_cat f1 f2 (by simp only [List.length_append, List.length_cons, List.length_nil, natV_len, sizeLine_eq]; omega) fun x3 H3 nn3 s3 f3 => ?_
  have S := S.trans s3
  have f0 := s3 _ _ f0
  have f1 := s3 _ _ f1
  have f2 := s3 _ _ f2
  walk_at "rd"
  refine m_slL (SqL.of f0) fun x4 H4 nn4 s4 f4 => ?_
  have S := S.trans s4
  have f0 := s4 _ _ f0
  have f1 := s4 _ _ f1
  have f2 := s4 _ _ f2
  have f3 := s4 _ _ f3
  walk_at "rd"
  refine m_cat f3 f4 (by simp only [List.length_append, List.length_cons, List.length_nil, natV_len, sizeLine_eq]; omega) fun x5 H5 nn5 s5 f5 => ?_
  have S := S.trans s5
  have f0 := s5 _ _ f0
  have f1 := s5 _ _ f1
  have f2 := s5 _ _ f2
  have f3 := s5 _ _ f3
  have f4 := s5 _ _ f4
  walk_at "rd"
  refine ⟨by simp [sizeLine_eq], fun x6 H6 nn6 s6 f6 => ?_⟩
  have S := S.trans s6
  have f0 := s6 _ _ f0
  have f1 := s6 _ _ f1
  have f2 := s6 _ _ f2
  have f3 := s6 _ _ f3
  have f4 := s6 _ _ f4
  have f5 := s6 _ _ f5
  walk_at "rd"
  refine ⟨by simp [sizeLine_eq], fun x7 H7 nn7 s7 f7 => ?_⟩
  have S := S.trans s7
  have f0 := s7 _ _ f0
  have f1 := s7 _ _ f1
  have f2 := s7 _ _ f2
  have f3 := s7 _ _ f3
  have f4 := s7 _ _ f4
  have f5 := s7 _ _ f5
  have f6 := s7 _ _ f6
  walk_at "rd"
  refine ⟨by simp [sizeLine_eq], fun x8 H8 nn8 s8 f8 => ?_⟩
  have S := S.trans s8
  have f0 := s8 _ _ f0
  have f1 := s8 _ _ f1
  have f2 := s8 _ _ f2
  have f3 := s8 _ _ f3
  have f4 := s8 _ _ f4
  have f5 := s8 _ _ f5
  have f6 := s8 _ _ f6
  have f7 := s8 _ _ f7
  walk_at "rd"
  refine ⟨by simp [sizeLine_eq], fun x9 H9 nn9 s9 f9 => ?_⟩
  have S := S.trans s9
  have f0 := s9 _ _ f0
  have f1 := s9 _ _ f1
  have f2 := s9 _ _ f2
  have f3 := s9 _ _ f3
  have f4 := s9 _ _ f4
  have f5 := s9 _ _ f5
  have f6 := s9 _ _ f6
  have f7 := s9 _ _ f7
  have f8 := s9 _ _ f8
  walk_at "rd"
  have b6 : NoPkT K H9 (.ref x6) := ⟨x6, _, _, rfl, f6, nopk_put (z := .int (-1 - z / 7 % 5)) h5 f5 (Plain.int _) (wi_neg (by omega))⟩
  have b8 : NoPkT K H9 (.ref x8) := ⟨x8, _, _, rfl, f8, nopk_nil f7⟩
  refine m_slL (SqL.of f0) fun x10 H10 nn10 s10 f10 => ?_
  have S := S.trans s10
  have f0 := s10 _ _ f0
  have f1 := s10 _ _ f1
  have f2 := s10 _ _ f2
  have f3 := s10 _ _ f3
  have f4 := s10 _ _ f4
  have f5 := s10 _ _ f5
  have f6 := s10 _ _ f6
  have f7 := s10 _ _ f7
  have f8 := s10 _ _ f8
  have f9 := s10 _ _ f9
  have b6 := NoPkT.same b6 s10
  have b8 := NoPkT.same b8 s10
  walk_at "rd"
  refine ⟨by simp [sizeLine_eq], fun x11 H11 nn11 s11 f11 => ?_⟩
  have S := S.trans s11
  have f0 := s11 _ _ f0
  have f1 := s11 _ _ f1
  have f2 := s11 _ _ f2
  have f3 := s11 _ _ f3
  have f4 := s11 _ _ f4
  have f5 := s11 _ _ f5
  have f6 := s11 _ _ f6
  have f7 := s11 _ _ f7
  have f8 := s11 _ _ f8
  have f9 := s11 _ _ f9
  have f10 := s11 _ _ f10
  have b6 := NoPkT.same b6 s11
  have b8 := NoPkT.same b8 s11
  walk_at "rd"
  refine m_cat f10 f11 (by simp only [List.length_append, List.length_cons, List.length_nil, natV_len, sizeLine_eq]; omega) fun x12 H12 nn12 s12 f12 => ?_
  have S := S.trans s12
  have f0 := s12 _ _ f0
  have f1 := s12 _ _ f1
  have f2 := s12 _ _ f2
  have f3 := s12 _ _ f3
  have f4 := s12 _ _ f4
  have f5 := s12 _ _ f5
  have f6 := s12 _ _ f6
  have f7 := s12 _ _ f7
  have f8 := s12 _ _ f8
  have f9 := s12 _ _ f9
  have f10 := s12 _ _ f10
  have f11 := s12 _ _ f11
  have b6 := NoPkT.same b6 s12
  have b8 := NoPkT.same b8 s12
  walk_at "rd"
  refine m_slL (SqL.of f0) fun x13 H13 nn13 s13 f13 => ?_
  have S := S.trans s13
  have f0 := s13 _ _ f0
  have f1 := s13 _ _ f1
  have f2 := s13 _ _ f2
  have f3 := s13 _ _ f3
  have f4 := s13 _ _ f4
  have f5 := s13 _ _ f5
  have f6 := s13 _ _ f6
  have f7 := s13 _ _ f7
  have f8 := s13 _ _ f8
  have f9 := s13 _ _ f9
  have f10 := s13 _ _ f10
  have f11 := s13 _ _ f11
  have f12 := s13 _ _ f12
  have b6 := NoPkT.same b6 s13
  have b8 := NoPkT.same b8 s13
  walk_at "rd"
  refine m_cat f12 f13 (by simp only [List.length_append, List.length_cons, List.length_nil, natV_len, sizeLine_eq]; omega) fun x14 H14 nn14 s14 f14 => ?_
  have S := S.trans s14
  have f0 := s14 _ _ f0
  have f1 := s14 _ _ f1
  have f2 := s14 _ _ f2
  have f3 := s14 _ _ f3
  have f4 := s14 _ _ f4
  have f5 := s14 _ _ f5
  have f6 := s14 _ _ f6
  have f7 := s14 _ _ f7
  have f8 := s14 _ _ f8
  have f9 := s14 _ _ f9
  have f10 := s14 _ _ f10
  have f11 := s14 _ _ f11
  have f12 := s14 _ _ f12
  have f13 := s14 _ _ f13
  have b6 := NoPkT.same b6 s14
  have b8 := NoPkT.same b8 s14
  walk_at "rd"
  refine ⟨by simp [sizeLine_eq], fun x15 H15 nn15 s15 f15 => ?_⟩
  have S := S.trans s15
  have f0 := s15 _ _ f0
  have f1 := s15 _ _ f1
  have f2 := s15 _ _ f2
  have f3 := s15 _ _ f3
  have f4 := s15 _ _ f4
  have f5 := s15 _ _ f5
  have f6 := s15 _ _ f6
  have f7 := s15 _ _ f7
  have f8 := s15 _ _ f8
  have f9 := s15 _ _ f9
  have f10 := s15 _ _ f10
  have f11 := s15 _ _ f11
  have f12 := s15 _ _ f12
  have f13 := s15 _ _ f13
  have f14 := s15 _ _ f14
  have b6 := NoPkT.same b6 s15
  have b8 := NoPkT.same b8 s15
  walk_at "rd"
  refine ⟨by simp [sizeLine_eq], fun x16 H16 nn16 s16 f16 => ?_⟩
  have S := S.trans s16
  have f0 := s16 _ _ f0
  have f1 := s16 _ _ f1
  have f2 := s16 _ _ f2
  have f3 := s16 _ _ f3
  have f4 := s16 _ _ f4
  have f5 := s16 _ _ f5
  have f6 := s16 _ _ f6
  have f7 := s16 _ _ f7
  have f8 := s16 _ _ f8
  have f9 := s16 _ _ f9
  have f10 := s16 _ _ f10
  have f11 := s16 _ _ f11
  have f12 := s16 _ _ f12
  have f13 := s16 _ _ f13
  have f14 := s16 _ _ f14
  have f15 := s16 _ _ f15
  have b6 := NoPkT.same b6 s16
  have b8 := NoPkT.same b8 s16
  walk_at "rd"
  rw [natV_len]
  walk_at "rd"
  refine ⟨x16, 6 - (ss.length : Int), [.int 0], rfl, rfl, f16, by omega, by omega, by simp only [List.length_cons, List.length_nil, sizeLine_eq]; omega, fun x17 H17 nn17 s17 f17 => ?_⟩
  have S := S.trans s17
  have f0 := s17 _ _ f0
  have f1 := s17 _ _ f1
  have f2 := s17 _ _ f2
  have f3 := s17 _ _ f3
  have f4 := s17 _ _ f4
  have f5 := s17 _ _ f5
  have f6 := s17 _ _ f6
  have f7 := s17 _ _ f7
  have f8 := s17 _ _ f8
  have f9 := s17 _ _ f9
  have f10 := s17 _ _ f10
  have f11 := s17 _ _ f11
  have f12 := s17 _ _ f12
  have f13 := s17 _ _ f13
  have f14 := s17 _ _ f14
  have f15 := s17 _ _ f15
  have f16 := s17 _ _ f16
  have b6 := NoPkT.same b6 s17
  have b8 := NoPkT.same b8 s17
  walk_at "rd"
  refine m_cat f0 f17 (by rw [List.length_append_rep ss, sizeLine_eq]; omega) fun x18 H18 nn18 s18 f18 => ?_
  have S := S.trans s18
  have f0 := s18 _ _ f0
  have f1 := s18 _ _ f1
  have f2 := s18 _ _ f2
  have f3 := s18 _ _ f3
  have f4 := s18 _ _ f4
  have f5 := s18 _ _ f5
  have f6 := s18 _ _ f6
  have f7 := s18 _ _ f7
  have f8 := s18 _ _ f8
  have f9 := s18 _ _ f9
  have f10 := s18 _ _ f10
  have f11 := s18 _ _ f11
  have f12 := s18 _ _ f12
  have f13 := s18 _ _ f13
  have f14 := s18 _ _ f14
  have f15 := s18 _ _ f15
  have f16 := s18 _ _ f16
  have f17 := s18 _ _ f17
  have b6 := NoPkT.same b6 s18
  have b8 := NoPkT.same b8 s18
  walk_at "rd"
  refine ⟨by simp [sizeLine_eq], fun x19 H19 nn19 s19 f19 => ?_⟩
  have S := S.trans s19
  have f0 := s19 _ _ f0
  have f1 := s19 _ _ f1
  have f2 := s19 _ _ f2
  have f3 := s19 _ _ f3
  have f4 := s19 _ _ f4
  have f5 := s19 _ _ f5
  have f6 := s19 _ _ f6
  have f7 := s19 _ _ f7
  have f8 := s19 _ _ f8
  have f9 := s19 _ _ f9
  have f10 := s19 _ _ f10
  have f11 := s19 _ _ f11
  have f12 := s19 _ _ f12
  have f13 := s19 _ _ f13
  have f14 := s19 _ _ f14
  have f15 := s19 _ _ f15
  have f16 := s19 _ _ f16
  have f17 := s19 _ _ f17
  have f18 := s19 _ _ f18
  have b6 := NoPkT.same b6 s19
  have b8 := NoPkT.same b8 s19
  walk_at "rd"
  refine ⟨by simp [sizeLine_eq], fun x20 H20 nn20 s20 f20 => ?_⟩
  have S := S.trans s20
  have f0 := s20 _ _ f0
  have f1 := s20 _ _ f1
  have f2 := s20 _ _ f2
  have f3 := s20 _ _ f3
  have f4 := s20 _ _ f4
  have f5 := s20 _ _ f5
  have f6 := s20 _ _ f6
  have f7 := s20 _ _ f7
  have f8 := s20 _ _ f8
  have f9 := s20 _ _ f9
  have f10 := s20 _ _ f10
  have f11 := s20 _ _ f11
  have f12 := s20 _ _ f12
  have f13 := s20 _ _ f13
  have f14 := s20 _ _ f14
  have f15 := s20 _ _ f15
  have f16 := s20 _ _ f16
  have f17 := s20 _ _ f17
  have f18 := s20 _ _ f18
  have f19 := s20 _ _ f19
  have b6 := NoPkT.same b6 s20
  have b8 := NoPkT.same b8 s20
  walk_at "rd"
  refine m_cat f9 f20 (by simp only [List.length_append, List.length_cons, List.length_nil, natV_len, sizeLine_eq]; omega) fun x21 H21 nn21 s21 f21 => ?_
  have S := S.trans s21
  have f0 := s21 _ _ f0
  have f1 := s21 _ _ f1
  have f2 := s21 _ _ f2
  have f3 := s21 _ _ f3
  have f4 := s21 _ _ f4
  have f5 := s21 _ _ f5
  have f6 := s21 _ _ f6
  have f7 := s21 _ _ f7
  have f8 := s21 _ _ f8
  have f9 := s21 _ _ f9
  have f10 := s21 _ _ f10
  have f11 := s21 _ _ f11
  have f12 := s21 _ _ f12
  have f13 := s21 _ _ f13
  have f14 := s21 _ _ f14
  have f15 := s21 _ _ f15
  have f16 := s21 _ _ f16
  have f17 := s21 _ _ f17
  have f18 := s21 _ _ f18
  have f19 := s21 _ _ f19
  have f20 := s21 _ _ f20
  have b6 := NoPkT.same b6 s21
  have b8 := NoPkT.same b8 s21
  walk_at "rd"
  have b15 : NoPkT K H21 (.ref x15) := ⟨x15, _, _, rfl, f15, nopk_put (z := .int ((c : Int) + 1)) h5 f14 (Plain.int _) (wi_big (by omega))⟩
  have b19 : NoPkT K H21 (.ref x19) := ⟨x19, _, _, rfl, f19, nopk_six f18 h5⟩
  refine ⟨by simp [sizeLine_eq], fun x22 H22 nn22 s22 f22 => ?_⟩
  have S := S.trans s22
  have f0 := s22 _ _ f0
  have f1 := s22 _ _ f1
  have f2 := s22 _ _ f2
  have f3 := s22 _ _ f3
  have f4 := s22 _ _ f4
  have f5 := s22 _ _ f5
  have f6 := s22 _ _ f6
  have f7 := s22 _ _ f7
  have f8 := s22 _ _ f8
  have f9 := s22 _ _ f9
  have f10 := s22 _ _ f10
  have f11 := s22 _ _ f11
  have f12 := s22 _ _ f12
  have f13 := s22 _ _ f13
  have f14 := s22 _ _ f14
  have f15 := s22 _ _ f15
  have f16 := s22 _ _ f16
  have f17 := s22 _ _ f17
  have f18 := s22 _ _ f18
  have f19 := s22 _ _ f19
  have f20 := s22 _ _ f20
  have f21 := s22 _ _ f21
  have b6 := NoPkT.same b6 s22
  have b8 := NoPkT.same b8 s22
  have b15 := NoPkT.same b15 s22
  have b19 := NoPkT.same b19 s22
  walk_at "rd"
  refine ⟨by simp [sizeLine_eq], fun x23 H23 nn23 s23 f23 => ?_⟩
  have S := S.trans s23
  have f0 := s23 _ _ f0
  have f1 := s23 _ _ f1
  have f2 := s23 _ _ f2
  have f3 := s23 _ _ f3
  have f4 := s23 _ _ f4
  have f5 := s23 _ _ f5
  have f6 := s23 _ _ f6
  have f7 := s23 _ _ f7
  have f8 := s23 _ _ f8
  have f9 := s23 _ _ f9
  have f10 := s23 _ _ f10
  have f11 := s23 _ _ f11
  have f12 := s23 _ _ f12
  have f13 := s23 _ _ f13
  have f14 := s23 _ _ f14
  have f15 := s23 _ _ f15
  have f16 := s23 _ _ f16
  have f17 := s23 _ _ f17
  have f18 := s23 _ _ f18
  have f19 := s23 _ _ f19
  have f20 := s23 _ _ f20
  have f21 := s23 _ _ f21
  have f22 := s23 _ _ f22
  have b6 := NoPkT.same b6 s23
  have b8 := NoPkT.same b8 s23
  have b15 := NoPkT.same b15 s23
  have b19 := NoPkT.same b19 s23
  walk_at "rd"
  obtain ⟨vA, hvA, hcA⟩ := six_at (a := .non) (b := .str "9") (c := .bl true) (d := .ref x22) (e := .int 13) (f := .int (-1)) (k := z / 7 % 6) (by omega) (by omega)
  refine r_ixL (SqL.of f23) hvA ?_
  walk_at "rd"
  refine ⟨by simp [sizeLine_eq], fun x24 H24 nn24 s24 f24 => ?_⟩
  have S := S.trans s24
  have f0 := s24 _ _ f0
  have f1 := s24 _ _ f1
  have f2 := s24 _ _ f2
  have f3 := s24 _ _ f3
  have f4 := s24 _ _ f4
  have f5 := s24 _ _ f5
  have f6 := s24 _ _ f6
  have f7 := s24 _ _ f7
  have f8 := s24 _ _ f8
  have f9 := s24 _ _ f9
  have f10 := s24 _ _ f10
  have f11 := s24 _ _ f11
  have f12 := s24 _ _ f12
  have f13 := s24 _ _ f13
  have f14 := s24 _ _ f14
  have f15 := s24 _ _ f15
  have f16 := s24 _ _ f16
  have f17 := s24 _ _ f17
  have f18 := s24 _ _ f18
  have f19 := s24 _ _ f19
  have f20 := s24 _ _ f20
  have f21 := s24 _ _ f21
  have f22 := s24 _ _ f22
  have f23 := s24 _ _ f23
  have b6 := NoPkT.same b6 s24
  have b8 := NoPkT.same b8 s24
  have b15 := NoPkT.same b15 s24
  have b19 := NoPkT.same b19 s24
  walk_at "rd"
  refine ⟨by simp [sizeLine_eq], fun x25 H25 nn25 s25 f25 => ?_⟩
  have S := S.trans s25
  have f0 := s25 _ _ f0
  have f1 := s25 _ _ f1
  have f2 := s25 _ _ f2
  have f3 := s25 _ _ f3
  have f4 := s25 _ _ f4
  have f5 := s25 _ _ f5
  have f6 := s25 _ _ f6
  have f7 := s25 _ _ f7
  have f8 := s25 _ _ f8
  have f9 := s25 _ _ f9
  have f10 := s25 _ _ f10
  have f11 := s25 _ _ f11
  have f12 := s25 _ _ f12
  have f13 := s25 _ _ f13
  have f14 := s25 _ _ f14
  have f15 := s25 _ _ f15
  have f16 := s25 _ _ f16
  have f17 := s25 _ _ f17
  have f18 := s25 _ _ f18
  have f19 := s25 _ _ f19
  have f20 := s25 _ _ f20
  have f21 := s25 _ _ f21
  have f22 := s25 _ _ f22
  have f23 := s25 _ _ f23
  have f24 := s25 _ _ f24
  have b6 := NoPkT.same b6 s25
  have b8 := NoPkT.same b8 s25
  have b15 := NoPkT.same b15 s25
  have b19 := NoPkT.same b19 s25
  walk_at "rd"
  refine m_cat f21 f25 (by simp only [List.length_append, List.length_cons, List.length_nil, natV_len, sizeLine_eq]; omega) fun x26 H26 nn26 s26 f26 => ?_
  have S := S.trans s26
  have f0 := s26 _ _ f0
  have f1 := s26 _ _ f1
  have f2 := s26 _ _ f2
  have f3 := s26 _ _ f3
  have f4 := s26 _ _ f4
  have f5 := s26 _ _ f5
  have f6 := s26 _ _ f6
  have f7 := s26 _ _ f7
  have f8 := s26 _ _ f8
  have f9 := s26 _ _ f9
  have f10 := s26 _ _ f10
  have f11 := s26 _ _ f11
  have f12 := s26 _ _ f12
  have f13 := s26 _ _ f13
  have f14 := s26 _ _ f14
  have f15 := s26 _ _ f15
  have f16 := s26 _ _ f16
  have f17 := s26 _ _ f17
  have f18 := s26 _ _ f18
  have f19 := s26 _ _ f19
  have f20 := s26 _ _ f20
  have f21 := s26 _ _ f21
  have f22 := s26 _ _ f22
  have f23 := s26 _ _ f23
  have f24 := s26 _ _ f24
  have f25 := s26 _ _ f25
  have b6 := NoPkT.same b6 s26
  have b8 := NoPkT.same b8 s26
  have b15 := NoPkT.same b15 s26
  have b19 := NoPkT.same b19 s26
  walk_at "rd"
  have b24 : NoPkT K H26 (.ref x24) := ⟨x24, _, _, rfl, f24, (by rcases hcA with rfl | rfl | rfl | rfl | rfl | rfl; exact nopk_kind f0 h5 plain_non rfl; exact nopk_kind f0 h5 (plain_str _) rfl; exact nopk_kind f0 h5 (plain_bl _) rfl; exact nopk_kind f0 h5 (plain_lst f22) rfl; exact nopk_num f0 h5 (.inr (by decide)); exact nopk_num f0 h5 (.inl (by decide)))⟩
  refine m_tuple (SqL.of f0) fun x27 H27 nn27 s27 f27 => ?_
  have S := S.trans s27
  have f0 := s27 _ _ f0
  have f1 := s27 _ _ f1
  have f2 := s27 _ _ f2
  have f3 := s27 _ _ f3
  have f4 := s27 _ _ f4
  have f5 := s27 _ _ f5
  have f6 := s27 _ _ f6
  have f7 := s27 _ _ f7
  have f8 := s27 _ _ f8
  have f9 := s27 _ _ f9
  have f10 := s27 _ _ f10
  have f11 := s27 _ _ f11
  have f12 := s27 _ _ f12
  have f13 := s27 _ _ f13
  have f14 := s27 _ _ f14
  have f15 := s27 _ _ f15
  have f16 := s27 _ _ f16
  have f17 := s27 _ _ f17
  have f18 := s27 _ _ f18
  have f19 := s27 _ _ f19
  have f20 := s27 _ _ f20
  have f21 := s27 _ _ f21
  have f22 := s27 _ _ f22
  have f23 := s27 _ _ f23
  have f24 := s27 _ _ f24
  have f25 := s27 _ _ f25
  have f26 := s27 _ _ f26
  have b6 := NoPkT.same b6 s27
  have b8 := NoPkT.same b8 s27
  have b15 := NoPkT.same b15 s27
  have b19 := NoPkT.same b19 s27
  have b24 := NoPkT.same b24 s27
  walk_at "rd"
  refine ⟨by simp [sizeLine_eq], fun x28 H28 nn28 s28 f28 => ?_⟩
  have S := S.trans s28
  have f0 := s28 _ _ f0
  have f1 := s28 _ _ f1
  have f2 := s28 _ _ f2
  have f3 := s28 _ _ f3
  have f4 := s28 _ _ f4
  have f5 := s28 _ _ f5
  have f6 := s28 _ _ f6
  have f7 := s28 _ _ f7
  have f8 := s28 _ _ f8
  have f9 := s28 _ _ f9
  have f10 := s28 _ _ f10
  have f11 := s28 _ _ f11
  have f12 := s28 _ _ f12
  have f13 := s28 _ _ f13
  have f14 := s28 _ _ f14
  have f15 := s28 _ _ f15
  have f16 := s28 _ _ f16
  have f17 := s28 _ _ f17
  have f18 := s28 _ _ f18
  have f19 := s28 _ _ f19
  have f20 := s28 _ _ f20
  have f21 := s28 _ _ f21
  have f22 := s28 _ _ f22
  have f23 := s28 _ _ f23
  have f24 := s28 _ _ f24
  have f25 := s28 _ _ f25
  have f26 := s28 _ _ f26
  have f27 := s28 _ _ f27
  have b6 := NoPkT.same b6 s28
  have b8 := NoPkT.same b8 s28
  have b15 := NoPkT.same b15 s28
  have b19 := NoPkT.same b19 s28
  have b24 := NoPkT.same b24 s28
  walk_at "rd"
  obtain ⟨vB, hvB, hcB⟩ := four_at (a := .ref x27) (b := .non) (c := .int 2) (d := .str "12") (k := z / 7 % 4) (by omega) (by omega)
  refine r_ixL (SqL.of f28) hvB ?_
  walk_at "rd"
  refine ⟨by simp [sizeLine_eq], fun x29 H29 nn29 s29 f29 => ?_⟩
  have S := S.trans s29
  have f0 := s29 _ _ f0
  have f1 := s29 _ _ f1
  have f2 := s29 _ _ f2
  have f3 := s29 _ _ f3
  have f4 := s29 _ _ f4
  have f5 := s29 _ _ f5
  have f6 := s29 _ _ f6
  have f7 := s29 _ _ f7
  have f8 := s29 _ _ f8
  have f9 := s29 _ _ f9
  have f10 := s29 _ _ f10
  have f11 := s29 _ _ f11
  have f12 := s29 _ _ f12
  have f13 := s29 _ _ f13
  have f14 := s29 _ _ f14
  have f15 := s29 _ _ f15
  have f16 := s29 _ _ f16
  have f17 := s29 _ _ f17
  have f18 := s29 _ _ f18
  have f19 := s29 _ _ f19
  have f20 := s29 _ _ f20
  have f21 := s29 _ _ f21
  have f22 := s29 _ _ f22
  have f23 := s29 _ _ f23
  have f24 := s29 _ _ f24
  have f25 := s29 _ _ f25
  have f26 := s29 _ _ f26
  have f27 := s29 _ _ f27
  have f28 := s29 _ _ f28
  have b6 := NoPkT.same b6 s29
  have b8 := NoPkT.same b8 s29
  have b15 := NoPkT.same b15 s29
  have b19 := NoPkT.same b19 s29
  have b24 := NoPkT.same b24 s29
  walk_at "rd"
  refine ⟨by simp [sizeLine_eq], fun x30 H30 nn30 s30 f30 => ?_⟩
  have S := S.trans s30
  have f0 := s30 _ _ f0
  have f1 := s30 _ _ f1
  have f2 := s30 _ _ f2
  have f3 := s30 _ _ f3
  have f4 := s30 _ _ f4
  have f5 := s30 _ _ f5
  have f6 := s30 _ _ f6
  have f7 := s30 _ _ f7
  have f8 := s30 _ _ f8
  have f9 := s30 _ _ f9
  have f10 := s30 _ _ f10
  have f11 := s30 _ _ f11
  have f12 := s30 _ _ f12
  have f13 := s30 _ _ f13
  have f14 := s30 _ _ f14
  have f15 := s30 _ _ f15
  have f16 := s30 _ _ f16
  have f17 := s30 _ _ f17
  have f18 := s30 _ _ f18
  have f19 := s30 _ _ f19
  have f20 := s30 _ _ f20
  have f21 := s30 _ _ f21
  have f22 := s30 _ _ f22
  have f23 := s30 _ _ f23
  have f24 := s30 _ _ f24
  have f25 := s30 _ _ f25
  have f26 := s30 _ _ f26
  have f27 := s30 _ _ f27
  have f28 := s30 _ _ f28
  have f29 := s30 _ _ f29
  have b6 := NoPkT.same b6 s30
  have b8 := NoPkT.same b8 s30
  have b15 := NoPkT.same b15 s30
  have b19 := NoPkT.same b19 s30
  have b24 := NoPkT.same b24 s30
  walk_at "rd"
  refine m_cat f26 f30 (by simp only [List.length_append, List.length_cons, List.length_nil, natV_len, sizeLine_eq]; omega) fun x31 H31 nn31 s31 f31 => ?_
  have S := S.trans s31
  have f0 := s31 _ _ f0
  have f1 := s31 _ _ f1
  have f2 := s31 _ _ f2
  have f3 := s31 _ _ f3
  have f4 := s31 _ _ f4
  have f5 := s31 _ _ f5
  have f6 := s31 _ _ f6
  have f7 := s31 _ _ f7
  have f8 := s31 _ _ f8
  have f9 := s31 _ _ f9
  have f10 := s31 _ _ f10
  have f11 := s31 _ _ f11
  have f12 := s31 _ _ f12
  have f13 := s31 _ _ f13
  have f14 := s31 _ _ f14
  have f15 := s31 _ _ f15
  have f16 := s31 _ _ f16
  have f17 := s31 _ _ f17
  have f18 := s31 _ _ f18
  have f19 := s31 _ _ f19
  have f20 := s31 _ _ f20
  have f21 := s31 _ _ f21
  have f22 := s31 _ _ f22
  have f23 := s31 _ _ f23
  have f24 := s31 _ _ f24
  have f25 := s31 _ _ f25
  have f26 := s31 _ _ f26
  have f27 := s31 _ _ f27
  have f28 := s31 _ _ f28
  have f29 := s31 _ _ f29
  have f30 := s31 _ _ f30
  have b6 := NoPkT.same b6 s31
  have b8 := NoPkT.same b8 s31
  have b15 := NoPkT.same b15 s31
  have b19 := NoPkT.same b19 s31
  have b24 := NoPkT.same b24 s31
  walk_at "rd"
  have b29 : NoPkT K H31 (.ref x29) := ⟨x29, _, _, rfl, f29, ⟨none, Plain.int _, (by rcases hcB with rfl | rfl | rfl | rfl <;> first | exact ⟨_, .tup f27, kit_all K "tuple" (by decide) "list" (by decide)⟩ | exact ⟨_, .non, kit_all K "NoneType" (by decide) "list" (by decide)⟩ | exact ⟨_, .int _, kit_all K "int" (by decide) "list" (by decide)⟩ | exact ⟨_, .str _, kit_all K "str" (by decide) "list" (by decide)⟩), rfl⟩⟩
  refine m_slL (SqL.of f0) fun x32 H32 nn32 s32 f32 => ?_
  have S := S.trans s32
  have f0 := s32 _ _ f0
  have f1 := s32 _ _ f1
  have f2 := s32 _ _ f2
  have f3 := s32 _ _ f3
  have f4 := s32 _ _ f4
  have f5 := s32 _ _ f5
  have f6 := s32 _ _ f6
  have f7 := s32 _ _ f7
  have f8 := s32 _ _ f8
  have f9 := s32 _ _ f9
  have f10 := s32 _ _ f10
  have f11 := s32 _ _ f11
  have f12 := s32 _ _ f12
  have f13 := s32 _ _ f13
  have f14 := s32 _ _ f14
  have f15 := s32 _ _ f15
  have f16 := s32 _ _ f16
  have f17 := s32 _ _ f17
  have f18 := s32 _ _ f18
  have f19 := s32 _ _ f19
  have f20 := s32 _ _ f20
  have f21 := s32 _ _ f21
  have f22 := s32 _ _ f22
  have f23 := s32 _ _ f23
  have f24 := s32 _ _ f24
  have f25 := s32 _ _ f25
  have f26 := s32 _ _ f26
  have f27 := s32 _ _ f27
  have f28 := s32 _ _ f28
  have f29 := s32 _ _ f29
  have f30 := s32 _ _ f30
  have f31 := s32 _ _ f31
  have b6 := NoPkT.same b6 s32
  have b8 := NoPkT.same b8 s32
  have b15 := NoPkT.same b15 s32
  have b19 := NoPkT.same b19 s32
  have b24 := NoPkT.same b24 s32
  have b29 := NoPkT.same b29 s32
  walk_at "rd"
  refine ⟨by simp [sizeLine_eq], fun x33 H33 nn33 s33 f33 => ?_⟩
  have S := S.trans s33
  have f0 := s33 _ _ f0
  have f1 := s33 _ _ f1
  have f2 := s33 _ _ f2
  have f3 := s33 _ _ f3
  have f4 := s33 _ _ f4
  have f5 := s33 _ _ f5
  have f6 := s33 _ _ f6
  have f7 := s33 _ _ f7
  have f8 := s33 _ _ f8
  have f9 := s33 _ _ f9
  have f10 := s33 _ _ f10
  have f11 := s33 _ _ f11
  have f12 := s33 _ _ f12
  have f13 := s33 _ _ f13
  have f14 := s33 _ _ f14
  have f15 := s33 _ _ f15
  have f16 := s33 _ _ f16
  have f17 := s33 _ _ f17
  have f18 := s33 _ _ f18
  have f19 := s33 _ _ f19
  have f20 := s33 _ _ f20
  have f21 := s33 _ _ f21
  have f22 := s33 _ _ f22
  have f23 := s33 _ _ f23
  have f24 := s33 _ _ f24
  have f25 := s33 _ _ f25
  have f26 := s33 _ _ f26
  have f27 := s33 _ _ f27
  have f28 := s33 _ _ f28
  have f29 := s33 _ _ f29
  have f30 := s33 _ _ f30
  have f31 := s33 _ _ f31
  have f32 := s33 _ _ f32
  have b6 := NoPkT.same b6 s33
  have b8 := NoPkT.same b8 s33
  have b15 := NoPkT.same b15 s33
  have b19 := NoPkT.same b19 s33
  have b24 := NoPkT.same b24 s33
  have b29 := NoPkT.same b29 s33
  walk_at "rd"
  refine ⟨by simp [sizeLine_eq], fun x34 H34 nn34 s34 f34 => ?_⟩
  have S := S.trans s34
  have f0 := s34 _ _ f0
  have f1 := s34 _ _ f1
  have f2 := s34 _ _ f2
  have f3 := s34 _ _ f3
  have f4 := s34 _ _ f4
  have f5 := s34 _ _ f5
  have f6 := s34 _ _ f6
  have f7 := s34 _ _ f7
  have f8 := s34 _ _ f8
  have f9 := s34 _ _ f9
  have f10 := s34 _ _ f10
  have f11 := s34 _ _ f11
  have f12 := s34 _ _ f12
  have f13 := s34 _ _ f13
  have f14 := s34 _ _ f14
  have f15 := s34 _ _ f15
  have f16 := s34 _ _ f16
  have f17 := s34 _ _ f17
  have f18 := s34 _ _ f18
  have f19 := s34 _ _ f19
  have f20 := s34 _ _ f20
  have f21 := s34 _ _ f21
  have f22 := s34 _ _ f22
  have f23 := s34 _ _ f23
  have f24 := s34 _ _ f24
  have f25 := s34 _ _ f25
  have f26 := s34 _ _ f26
  have f27 := s34 _ _ f27
  have f28 := s34 _ _ f28
  have f29 := s34 _ _ f29
  have f30 := s34 _ _ f30
  have f31 := s34 _ _ f31
  have f32 := s34 _ _ f32
  have f33 := s34 _ _ f33
  have b6 := NoPkT.same b6 s34
  have b8 := NoPkT.same b8 s34
  have b15 := NoPkT.same b15 s34
  have b19 := NoPkT.same b19 s34
  have b24 := NoPkT.same b24 s34
  have b29 := NoPkT.same b29 s34
  walk_at "rd"
  obtain ⟨vC, hvC, hcC⟩ := four_at (a := .non) (b := .str "1") (c := .bl true) (d := .ref x33) (k := z / 35 % 4) (by omega) (by omega)
  refine r_ixL (SqL.of f34) hvC ?_
  walk_at "rd"
  refine ⟨by simp [sizeLine_eq], fun x35 H35 nn35 s35 f35 => ?_⟩
  have S := S.trans s35
  have f0 := s35 _ _ f0
  have f1 := s35 _ _ f1
  have f2 := s35 _ _ f2
  have f3 := s35 _ _ f3
  have f4 := s35 _ _ f4
  have f5 := s35 _ _ f5
  have f6 := s35 _ _ f6
  have f7 := s35 _ _ f7
  have f8 := s35 _ _ f8
  have f9 := s35 _ _ f9
  have f10 := s35 _ _ f10
  have f11 := s35 _ _ f11
  have f12 := s35 _ _ f12
  have f13 := s35 _ _ f13
  have f14 := s35 _ _ f14
  have f15 := s35 _ _ f15
  have f16 := s35 _ _ f16
  have f17 := s35 _ _ f17
  have f18 := s35 _ _ f18
  have f19 := s35 _ _ f19
  have f20 := s35 _ _ f20
  have f21 := s35 _ _ f21
  have f22 := s35 _ _ f22
  have f23 := s35 _ _ f23
  have f24 := s35 _ _ f24
  have f25 := s35 _ _ f25
  have f26 := s35 _ _ f26
  have f27 := s35 _ _ f27
  have f28 := s35 _ _ f28
  have f29 := s35 _ _ f29
  have f30 := s35 _ _ f30
  have f31 := s35 _ _ f31
  have f32 := s35 _ _ f32
  have f33 := s35 _ _ f33
  have f34 := s35 _ _ f34
  have b6 := NoPkT.same b6 s35
  have b8 := NoPkT.same b8 s35
  have b15 := NoPkT.same b15 s35
  have b19 := NoPkT.same b19 s35
  have b24 := NoPkT.same b24 s35
  have b29 := NoPkT.same b29 s35
  walk_at "rd"
  refine m_cat f32 f35 (by simp only [List.length_append, List.length_cons, List.length_nil, natV_len, sizeLine_eq]; omega) fun x36 H36 nn36 s36 f36 => ?_
  have S := S.trans s36
  have f0 := s36 _ _ f0
  have f1 := s36 _ _ f1
  have f2 := s36 _ _ f2
  have f3 := s36 _ _ f3
  have f4 := s36 _ _ f4
  have f5 := s36 _ _ f5
  have f6 := s36 _ _ f6
  have f7 := s36 _ _ f7
  have f8 := s36 _ _ f8
  have f9 := s36 _ _ f9
  have f10 := s36 _ _ f10
  have f11 := s36 _ _ f11
  have f12 := s36 _ _ f12
  have f13 := s36 _ _ f13
  have f14 := s36 _ _ f14
  have f15 := s36 _ _ f15
  have f16 := s36 _ _ f16
  have f17 := s36 _ _ f17
  have f18 := s36 _ _ f18
  have f19 := s36 _ _ f19
  have f20 := s36 _ _ f20
  have f21 := s36 _ _ f21
  have f22 := s36 _ _ f22
  have f23 := s36 _ _ f23
  have f24 := s36 _ _ f24
  have f25 := s36 _ _ f25
  have f26 := s36 _ _ f26
  have f27 := s36 _ _ f27
  have f28 := s36 _ _ f28
  have f29 := s36 _ _ f29
  have f30 := s36 _ _ f30
  have f31 := s36 _ _ f31
  have f32 := s36 _ _ f32
  have f33 := s36 _ _ f33
  have f34 := s36 _ _ f34
  have f35 := s36 _ _ f35
  have b6 := NoPkT.same b6 s36
  have b8 := NoPkT.same b8 s36
  have b15 := NoPkT.same b15 s36
  have b19 := NoPkT.same b19 s36
  have b24 := NoPkT.same b24 s36
  have b29 := NoPkT.same b29 s36
  walk_at "rd"
  refine m_slL (SqL.of f0) fun x37 H37 nn37 s37 f37 => ?_
  have S := S.trans s37
  have f0 := s37 _ _ f0
  have f1 := s37 _ _ f1
  have f2 := s37 _ _ f2
  have f3 := s37 _ _ f3
  have f4 := s37 _ _ f4
  have f5 := s37 _ _ f5
  have f6 := s37 _ _ f6
  have f7 := s37 _ _ f7
  have f8 := s37 _ _ f8
  have f9 := s37 _ _ f9
  have f10 := s37 _ _ f10
  have f11 := s37 _ _ f11
  have f12 := s37 _ _ f12
  have f13 := s37 _ _ f13
  have f14 := s37 _ _ f14
  have f15 := s37 _ _ f15
  have f16 := s37 _ _ f16
  have f17 := s37 _ _ f17
  have f18 := s37 _ _ f18
  have f19 := s37 _ _ f19
  have f20 := s37 _ _ f20
  have f21 := s37 _ _ f21
  have f22 := s37 _ _ f22
  have f23 := s37 _ _ f23
  have f24 := s37 _ _ f24
  have f25 := s37 _ _ f25
  have f26 := s37 _ _ f26
  have f27 := s37 _ _ f27
  have f28 := s37 _ _ f28
  have f29 := s37 _ _ f29
  have f30 := s37 _ _ f30
  have f31 := s37 _ _ f31
  have f32 := s37 _ _ f32
  have f33 := s37 _ _ f33
  have f34 := s37 _ _ f34
  have f35 := s37 _ _ f35
  have f36 := s37 _ _ f36
  have b6 := NoPkT.same b6 s37
  have b8 := NoPkT.same b8 s37
  have b15 := NoPkT.same b15 s37
  have b19 := NoPkT.same b19 s37
  have b24 := NoPkT.same b24 s37
  have b29 := NoPkT.same b29 s37
  walk_at "rd"
  refine m_cat f36 f37 (by simp only [List.length_append, List.length_cons, List.length_nil, natV_len, sizeLine_eq]; omega) fun x38 H38 nn38 s38 f38 => ?_
  have S := S.trans s38
  have f0 := s38 _ _ f0
  have f1 := s38 _ _ f1
  have f2 := s38 _ _ f2
  have f3 := s38 _ _ f3
  have f4 := s38 _ _ f4
  have f5 := s38 _ _ f5
  have f6 := s38 _ _ f6
  have f7 := s38 _ _ f7
  have f8 := s38 _ _ f8
  have f9 := s38 _ _ f9
  have f10 := s38 _ _ f10
  have f11 := s38 _ _ f11
  have f12 := s38 _ _ f12
  have f13 := s38 _ _ f13
  have f14 := s38 _ _ f14
  have f15 := s38 _ _ f15
  have f16 := s38 _ _ f16
  have f17 := s38 _ _ f17
  have f18 := s38 _ _ f18
  have f19 := s38 _ _ f19
  have f20 := s38 _ _ f20
  have f21 := s38 _ _ f21
  have f22 := s38 _ _ f22
  have f23 := s38 _ _ f23
  have f24 := s38 _ _ f24
  have f25 := s38 _ _ f25
  have f26 := s38 _ _ f26
  have f27 := s38 _ _ f27
  have f28 := s38 _ _ f28
  have f29 := s38 _ _ f29
  have f30 := s38 _ _ f30
  have f31 := s38 _ _ f31
  have f32 := s38 _ _ f32
  have f33 := s38 _ _ f33
  have f34 := s38 _ _ f34
  have f35 := s38 _ _ f35
  have f36 := s38 _ _ f36
  have f37 := s38 _ _ f37
  have b6 := NoPkT.same b6 s38
  have b8 := NoPkT.same b8 s38
  have b15 := NoPkT.same b15 s38
  have b19 := NoPkT.same b19 s38
  have b24 := NoPkT.same b24 s38
  have b29 := NoPkT.same b29 s38
  walk_at "rd"
  refine ⟨by simp [sizeLine_eq], fun x39 H39 nn39 s39 f39 => ?_⟩
  have S := S.trans s39
  have f0 := s39 _ _ f0
  have f1 := s39 _ _ f1
  have f2 := s39 _ _ f2
  have f3 := s39 _ _ f3
  have f4 := s39 _ _ f4
  have f5 := s39 _ _ f5
  have f6 := s39 _ _ f6
  have f7 := s39 _ _ f7
  have f8 := s39 _ _ f8
  have f9 := s39 _ _ f9
  have f10 := s39 _ _ f10
  have f11 := s39 _ _ f11
  have f12 := s39 _ _ f12
  have f13 := s39 _ _ f13
  have f14 := s39 _ _ f14
  have f15 := s39 _ _ f15
  have f16 := s39 _ _ f16
  have f17 := s39 _ _ f17
  have f18 := s39 _ _ f18
  have f19 := s39 _ _ f19
  have f20 := s39 _ _ f20
  have f21 := s39 _ _ f21
  have f22 := s39 _ _ f22
  have f23 := s39 _ _ f23
  have f24 := s39 _ _ f24
  have f25 := s39 _ _ f25
  have f26 := s39 _ _ f26
  have f27 := s39 _ _ f27
  have f28 := s39 _ _ f28
  have f29 := s39 _ _ f29
  have f30 := s39 _ _ f30
  have f31 := s39 _ _ f31
  have f32 := s39 _ _ f32
  have f33 := s39 _ _ f33
  have f34 := s39 _ _ f34
  have f35 := s39 _ _ f35
  have f36 := s39 _ _ f36
  have f37 := s39 _ _ f37
  have f38 := s39 _ _ f38
  have b6 := NoPkT.same b6 s39
  have b8 := NoPkT.same b8 s39
  have b15 := NoPkT.same b15 s39
  have b19 := NoPkT.same b19 s39
  have b24 := NoPkT.same b24 s39
  have b29 := NoPkT.same b29 s39
  walk_at "rd"
  refine ⟨by simp [sizeLine_eq], fun x40 H40 nn40 s40 f40 => ?_⟩
  have S := S.trans s40
  have f0 := s40 _ _ f0
  have f1 := s40 _ _ f1
  have f2 := s40 _ _ f2
  have f3 := s40 _ _ f3
  have f4 := s40 _ _ f4
  have f5 := s40 _ _ f5
  have f6 := s40 _ _ f6
  have f7 := s40 _ _ f7
  have f8 := s40 _ _ f8
  have f9 := s40 _ _ f9
  have f10 := s40 _ _ f10
  have f11 := s40 _ _ f11
  have f12 := s40 _ _ f12
  have f13 := s40 _ _ f13
  have f14 := s40 _ _ f14
  have f15 := s40 _ _ f15
  have f16 := s40 _ _ f16
  have f17 := s40 _ _ f17
  have f18 := s40 _ _ f18
  have f19 := s40 _ _ f19
  have f20 := s40 _ _ f20
  have f21 := s40 _ _ f21
  have f22 := s40 _ _ f22
  have f23 := s40 _ _ f23
  have f24 := s40 _ _ f24
  have f25 := s40 _ _ f25
  have f26 := s40 _ _ f26
  have f27 := s40 _ _ f27
  have f28 := s40 _ _ f28
  have f29 := s40 _ _ f29
  have f30 := s40 _ _ f30
  have f31 := s40 _ _ f31
  have f32 := s40 _ _ f32
  have f33 := s40 _ _ f33
  have f34 := s40 _ _ f34
  have f35 := s40 _ _ f35
  have f36 := s40 _ _ f36
  have f37 := s40 _ _ f37
  have f38 := s40 _ _ f38
  have f39 := s40 _ _ f39
  have b6 := NoPkT.same b6 s40
  have b8 := NoPkT.same b8 s40
  have b15 := NoPkT.same b15 s40
  have b19 := NoPkT.same b19 s40
  have b24 := NoPkT.same b24 s40
  have b29 := NoPkT.same b29 s40
  walk_at "rd"
  refine m_cat f31 f40 (by simp only [List.length_append, List.length_cons, List.length_nil, natV_len, sizeLine_eq]; omega) fun x41 H41 nn41 s41 f41 => ?_
  have S := S.trans s41
  have f0 := s41 _ _ f0
  have f1 := s41 _ _ f1
  have f2 := s41 _ _ f2
  have f3 := s41 _ _ f3
  have f4 := s41 _ _ f4
  have f5 := s41 _ _ f5
  have f6 := s41 _ _ f6
  have f7 := s41 _ _ f7
  have f8 := s41 _ _ f8
  have f9 := s41 _ _ f9
  have f10 := s41 _ _ f10
  have f11 := s41 _ _ f11
  have f12 := s41 _ _ f12
  have f13 := s41 _ _ f13
  have f14 := s41 _ _ f14
  have f15 := s41 _ _ f15
  have f16 := s41 _ _ f16
  have f17 := s41 _ _ f17
  have f18 := s41 _ _ f18
  have f19 := s41 _ _ f19
  have f20 := s41 _ _ f20
  have f21 := s41 _ _ f21
  have f22 := s41 _ _ f22
  have f23 := s41 _ _ f23
  have f24 := s41 _ _ f24
  have f25 := s41 _ _ f25
  have f26 := s41 _ _ f26
  have f27 := s41 _ _ f27
  have f28 := s41 _ _ f28
  have f29 := s41 _ _ f29
  have f30 := s41 _ _ f30
  have f31 := s41 _ _ f31
  have f32 := s41 _ _ f32
  have f33 := s41 _ _ f33
  have f34 := s41 _ _ f34
  have f35 := s41 _ _ f35
  have f36 := s41 _ _ f36
  have f37 := s41 _ _ f37
  have f38 := s41 _ _ f38
  have f39 := s41 _ _ f39
  have f40 := s41 _ _ f40
  have b6 := NoPkT.same b6 s41
  have b8 := NoPkT.same b8 s41
  have b15 := NoPkT.same b15 s41
  have b19 := NoPkT.same b19 s41
  have b24 := NoPkT.same b24 s41
  have b29 := NoPkT.same b29 s41
  walk_at "rd"
  have b39 : NoPkT K H41 (.ref x39) := ⟨x39, _, _, rfl, f39, nopk_put (z := vC) h5 f38 (by rcases hcC with rfl | rfl | rfl | rfl <;> first | exact plain_non | exact plain_str _ | exact plain_bl _ | exact plain_lst f33) (by rcases hcC with rfl | rfl | rfl | rfl <;> rfl)⟩
  obtain ⟨v, hv, hmem⟩ := mem_at (xs := _) (k := z % 7) (by omega) (show z % 7 < (([.ref x6, .ref x8] ++ [.ref x15, .ref x19] ++ [.ref x24] ++ [.ref x29] ++ [.ref x39] : List V).length : Int) by show z % 7 < 7; omega)
  refine r_ixL (SqL.of f41) hv ?_
  refine k v _ S ?_
  simp only [List.mem_append, List.mem_cons, List.not_mem_nil, or_false] at hmem
  rcases hmem with ((((rfl | rfl) | (rfl | rfl)) | rfl) | rfl) | rfl
  · exact b6
  · exact b8
  · exact b15
  · exact b19
  · exact b24
  · exact b29
  · exact b39
noncomputable abbrev sp_law (K : PySem.W.Frag) : Sp := spLaw K
noncomputable def t_law (K : PySem.W.Frag) : TS := (tSeq (tAsg (tOp (rI0 fun i j => .int (i + j)) (tC (.int 8)) (tOp (rI (fun _ j => 0 < j) fun i j => .int (i % j)) (tCall (sp__law_cell K) [] E0 (tCons (tVar 0) (tCons (tC (.int 0)) tNil))) (tC (.int 5)))) (gName 1))
  (tSeq (tAsg (mLst tNil) (gName 2))
  (tSeq (tFor (iRng1 (tCons (tOp (rI0 fun i j => .int (i + j)) (tC (.int 1)) (tOp (rI (fun _ j => 0 < j) fun i j => .int (i % j)) (tCall (sp__law_cell K) [] E0 (tCons (tVar 0) (tCons (tC (.int 1)) tNil))) (tC (.int 5)))) tNil)) (gName 3) (tSeq (tAsg (tCB cMin2 (tCons (tOp (rIxL K) (mLst (tCons (tC (.int 5)) (tCons (tC (.int 12)) tNil))) (tOp (rI (fun _ j => 0 < j) fun i j => .int (i % j)) (tOp (rI CDiv fun i j => .int (i / j)) (tCall (sp__law_cell K) [] E0 (tCons (tVar 0) (tCons (tC (.int 1)) tNil))) (tC (.int 5))) (tC (.int 2)))) (tCons (tOp (rI0 fun i j => .int (i - j)) (tVar 1) (tCB (cSum K) (tCons (tVar 2) tNil))) tNil))) (gName 4))
  (tDrop (tBM K "list" rAppend (tVar 2) (tCons (tOp (rI (fun _ j => 0 < j) fun i j => .int (i % j)) (tCall (sp__law_cell K) [] E0 (tCons (tVar 0) (tCons (tOp (rI0 fun i j => .int (i + j)) (tC (.int 2)) (tVar 3)) tNil))) (tOp (rI0 fun i j => .int (i + j)) (tVar 4) (tC (.int 1)))) tNil)))))
  (tSeq (tAsg (mLst (tCons (tC (.bl true)) (tCons (tCall (sp__law_count K) [] E0 (tCons (tVar 1) (tCons (tVar 2) tNil))) tNil))) (gName 5))
  (tSeq (tIfS (tTest (tOp (rI0 fun i j => .bl (decide (j < i))) (tOp (rIxL K) (tVar 5) (tC (.int 1))) (tC (.int 2000)))) (tAsg (mLst (tCons (tC (.bl false)) (tCons (tC (.bl true)) (tCons (tC (.bl true)) (tCons (tC (.bl false)) tNil))))) (gName 5)) tNext)
  (tSeq (tAsg (tCB (mCList K) (tCons (tVar 2) tNil)) (gName 6))
  (tSeq (tIfS (tOr (tTest (tOp (rSameD K true) (tCall (sp__law_told K) [] E0 (tCons (tVar 1) (tCons (tVar 6) tNil))) (tVar 5))) (tTest (tOp (rSameD K true) (tVar 6) (tVar 2)))) (tRet (tC (.bl false))) tNext)
  (tSeq (tAsg (tCall (sp__law_spoiled K) [] E0 (tCons (tVar 0) (tCons (tVar 1) (tCons (tVar 2) tNil)))) (gTup K 2 (gCons (gName 7) (gCons (gName 8) gNil))))
  (tRet (tAndV (tOp (rSameD K false) (tCall (sp__law_told K) [] E0 (tCons (tVar 7) (tCons (tVar 8) tNil))) (mLst (tCons (tC (.bl true)) (tCons (tC (.bl false)) (tCons (tC (.bl true)) (tCons (tC (.bl false)) tNil)))))) (tOp (rSameD K false) (tCall (sp__law_told K) [] E0 (tCons (tC (.int 4)) (tCons (mLst (tCons (tC (.int 2)) (tCons (tC (.int 1)) tNil))) tNil))) (mLst (tCons (tC (.bl true)) (tCons (tC (.int 12)) tNil))))))))))))))
theorem flat_out {out : List V} {K : PySem.W.Frag} {H : Hp} {x y : V} (h : Told4 K H x y out) : ∀ v ∈ out, flatD v = true := by
  rcases h with ⟨c, a, ss, _, _, _, _, ⟨_, rfl⟩ | ⟨_, rfl⟩⟩ | ⟨_, rfl⟩ <;> intro v hv <;> simp only [List.mem_cons, List.not_mem_nil, or_false] at hv
  · rcases hv with rfl | rfl <;> rfl
  · rcases hv with rfl | rfl | rfl | rfl <;> rfl
  · rcases hv with rfl | rfl | rfl | rfl <;> rfl
theorem len_law {K : PySem.W.Frag} {vs : List V} {H : Hp} {Q : VK} {E : XK} (h : sp_law K vs H Q E) : vs.length = 1 := by
  obtain ⟨a, ns, rfl, hSc, g⟩ := h
  rfl
theorem rd_law {K : PySem.W.Frag} {vs : List V} {H : Hp} {Q : VK} {E : XK} (h : sp_law K vs H Q E) : t_law K { nx := fun _ H' => Q .non H', rt := Q } (start ["_law_script", "_law_cards", "_law_sizes", "_law_k", "_law_least", "_law_due", "_law_handed", "_law_other", "_law_spoiled_here"] vs) H := by
  obtain ⟨a, ns, rfl, hSc, g⟩ := h
  show t_law K _ [some _, none, none, none, none, none, none, none, none] _
  unfold t_law
  walk_at "rd"
  refine ⟨a, ns, 0, rfl, hSc, by decide, by decide, ?_⟩
  walk_at "rs"
  obtain ⟨c, hc, hc2⟩ : ∃ c : Nat, (8 : Int) + cellN ns 0 % 5 = (c : Int) ∧ c ≤ 12 := ⟨((8 : Int) + cellN ns 0 % 5).toNat, by omega, by omega⟩
  rw [hc]
  refine r_seq ?_
  walk_at "rs"
  refine ⟨by simp [sizeLine_eq], fun q H1 hq s1 e1 => ?_⟩
  walk_at "rs"
  refine r_seq ?_
  have hSc1 := hSc.same s1
  walk_at "rs"
  refine ⟨a, ns, 1, rfl, hSc1, by decide, by decide, ?_⟩
  walk_at "rs"
  refine lp_range (1 + cellN ns 1 % 5).toNat rfl (by omega) (by omega) (fun i σ H2 => ∃ (ss : List Nat) (st lt : Option V), σ = [some (.ref a), some (.int c), some (.ref q), st, lt, none, none, none, none] ∧ Same H H2 ∧ H2 q = some (.lst (natV ss)) ∧ ss.length = i ∧ ss.sum ≤ c) ⟨[], none, none, rfl, s1, e1, rfl, Nat.zero_le _⟩ ?_ ?_
  · rintro i σ H2 hi ⟨ss, st, lt, rfl, s2, e2, hl, hs⟩
    have hSc2 := hSc.same s2
    walk_at "rd"
    refine ⟨by simp [sizeLine_eq], fun b H3 hb s3 e3 => ?_⟩
    walk_at "rd"
    refine ⟨a, ns, 1, rfl, hSc2.same s3, by decide, by decide, ?_⟩
    walk_at "rd"
    refine r_ixL (SqL.of e3) (at2 _ _ _) ?_
    have e23 := s3 _ _ e2
    obtain ⟨v, hv, hv4⟩ : ∃ v : Int, (if cellN ns 1 / 5 % 2 = 0 then V.int 5 else V.int 12) = .int v ∧ 5 ≤ v := by
      by_cases h : cellN ns 1 / 5 % 2 = 0
      · exact ⟨5, by rw [if_pos h], by omega⟩
      · exact ⟨12, by rw [if_neg h], by omega⟩
    rw [hv]
    walk_at "rd"
    refine r_sum (ns := ss.map fun (s : Nat) => ((s : Nat) : Int)) (by rw [← natV_ints]; exact SqL.of e23) ?_
    walk_at "rd"
    rw [sum_cast]
    obtain ⟨lst, hlst, hlst2⟩ : ∃ l : Nat, (if (c : Int) - ((ss.sum : Nat) : Int) < v then (c : Int) - ((ss.sum : Nat) : Int) else v) = (l : Int) ∧ l ≤ c - ss.sum := by
      by_cases h : (c : Int) - ((ss.sum : Nat) : Int) < v
      · exact ⟨c - ss.sum, by rw [if_pos h]; omega, Nat.le_refl _⟩
      · exact ⟨v.toNat, by rw [if_neg h]; omega, by omega⟩
    rw [hlst]
    walk_at "rd"
    refine ⟨r_tyL e23, ?_⟩
    walk_at "rd"
    refine ⟨a, ns, 2 + (i : Int), rfl, hSc2.same s3, by omega, by omega, ?_⟩
    walk_at "rd"
    obtain ⟨z, hz, hz2⟩ : ∃ z : Nat, cellN ns (2 + (i : Int)) % ((lst : Int) + 1) = (z : Int) ∧ z ≤ lst := by
      have m1 := Int.emod_nonneg (cellN ns (2 + (i : Int))) (b := (lst : Int) + 1) (by omega)
      have m2 := Int.emod_lt_of_pos (cellN ns (2 + (i : Int))) (b := (lst : Int) + 1) (by omega)
      exact ⟨(cellN ns (2 + (i : Int)) % ((lst : Int) + 1)).toNat, by omega, by omega⟩
    rw [hz]
    refine r_append e23 (by rw [natV_len, sizeLine_eq]; omega) fun H4 o4 e4 => ?_
    rw [natV_snoc] at e4
    refine ⟨ss ++ [z], _, _, rfl, (s2.trans s3).off hq o4, e4, by rw [List.length_append, hl]; rfl, ?_⟩
    rw [List.sum_append, List.sum_cons, List.sum_nil]
    omega
  · rintro σ H2 ⟨ss, st, lt, rfl, s2, e2, hl, hs⟩
    have pk : Pack c ss := ⟨hc2, by omega, by omega, hs⟩
    walk_at "rd"
    refine ⟨c, q, ss, rfl, e2, hs, hc2, by omega, fun H3 s3 => ?_⟩
    have e3 := s3 _ _ e2
    walk_at "rd"
    refine ⟨by simp [sizeLine_eq], fun d H4 hd s4 e4 => ?_⟩
    have e34 := s4 _ _ e3
    refine r_seq_n fun NX hNX => ?_
    have key : ∀ (d2 : Addr) (out : List V) (H5 : Hp), Same H2 H5 → H5 d2 = some (.lst out) → ((KM.multi c ss ≤ 2000 ∧ out = [.bl true, .int (KM.multi c ss : Nat)]) ∨ (2000 < KM.multi c ss ∧ out = [.bl false, .bl true, .bl true, .bl false])) → NX [some (.ref a), some (.int c), some (.ref q), st, lt, some (.ref d2), none, none, none] H5 := by
      intro d2 out H5 s5 e5 td
      refine hNX _ _ ?_
      have eq5 := s5 _ _ e2
      walk_at "rd"
      refine m_list (SqL.of eq5) fun h H6 hh s6 e6 => ?_
      have eq6 := s6 _ _ eq5
      have td6 : Told4 K H6 (.int c) (.ref h) out := .inl ⟨c, h, ss, rfl, rfl, e6, pk, td⟩
      walk_at "rd"
      refine ⟨_, _, out, rfl, td6, fun p H7 s7 hp7 e7 => ?_⟩
      walk_at "rd"
      refine r_sameN 1 (by decide) (same_flatL (SqL.of e7) (SqL.of ((s6.trans s7) _ _ e5)) (flat_out td6)) ?_
      walk_at "rd"
      refine r_sameN 1 (by decide) (same_flatL (SqL.of (s7 _ _ e6)) (SqL.of (s7 _ _ eq6)) (flat_nats ss)) ?_
      walk_at "rd"
      have s57 := s6.trans s7
      have s27 := s5.trans s57
      refine ⟨a, ns, c, q, ss, rfl, (hSc.same s2).same s27, s27 _ _ e2, pk, fun v H8 s8 np => ?_⟩
      obtain ⟨p5, x, y, rfl, e5', np5⟩ := np
      refine g_pair (SqT.of e5') ?_
      walk_at "rd"
      refine ⟨x, y, _, rfl, .inr ⟨np5, rfl⟩, fun p9 H9 s9 hp9 e9 => ?_⟩
      walk_at "rd"
      refine ⟨by simp [sizeLine_eq], fun pA HA hA sA eA => ?_⟩
      refine r_sameE 1 (by decide) (same_flatL (SqL.of (sA _ _ e9)) (SqL.of eA) (flat_out (.inr ⟨np5, rfl⟩))) ?_
      walk_at "rd"
      refine ⟨by simp [sizeLine_eq], fun pB HB hB sB eB => ?_⟩
      walk_at "rd"
      refine ⟨_, _, [.bl true, .int 12], rfl, .inl ⟨4, pB, [2, 1], rfl, rfl, eB, ⟨by decide, by decide, by decide, by decide⟩, .inl ⟨by decide, rfl⟩⟩, fun pC HC sC hC eC => ?_⟩
      walk_at "rd"
      refine ⟨by simp [sizeLine_eq], fun pD HD hD sD eD => ?_⟩
      refine r_sameE 1 (by decide) (same_flatL (SqL.of (sD _ _ eC)) (SqL.of eD) (fun x hx => ?_)) (g _)
      simp only [List.mem_cons, List.not_mem_nil, or_false] at hx
      rcases hx with rfl | rfl <;> rfl
    walk_at "rs"
    refine r_ixL (SqL.of e4) rfl ?_
    walk_at "rs"
    refine ite_dec (fun c0 => ?_) (fun c0 => ?_)
    · walk_at "rs"
      refine ⟨by simp [sizeLine_eq], fun d2 H5 hd2 s5 e5 => ?_⟩
      walk_at "rs"
      exact key d2 _ H5 ((s3.trans s4).trans s5) e5 (.inr ⟨by omega, rfl⟩)
    · walk_at "rs"
      exact key d _ H4 (s3.trans s4) e4 (.inl ⟨by omega, rfl⟩)

end L2

end

section
-- KcEq
set_option Elab.async false
set_option linter.all false
set_option maxRecDepth 100000
set_option maxHeartbeats 4000000
namespace L2
open PySem PySem.Spec PyProof.Rows
/-! ### data behind a value: lists and tuples to any depth -/
mutual
inductive Dat (K : PySem.W.Frag) (H : Hp) : V → PyData → Prop where
  | non : Dat K H .non .none
  | bl (b : Bool) : Dat K H (.bl b) (.bool b)
  | int (i : Int) : Dat K H (.int i) (.int i)
  | str (x : Str) : Dat K H (.str x) (.str x)
  | lst {a : Addr} {xs : List V} {ds : List PyData} (e : SqL K H a xs) (h : Dats K H xs ds) : Dat K H (.ref a) (.list ds)
  | tup {a : Addr} {xs : List V} {ds : List PyData} (e : SqT K H a xs) (h : Dats K H xs ds) : Dat K H (.ref a) (.tuple ds)
inductive Dats (K : PySem.W.Frag) (H : Hp) : List V → List PyData → Prop where
  | nil : Dats K H [] []
  | cons {x : V} {xs : List V} {d : PyData} {ds : List PyData} (h : Dat K H x d) (t : Dats K H xs ds) : Dats K H (x :: xs) (d :: ds)
end
section
variable {X : Cx} {pins : List (Addr × Obj)} {σ : St} {H : Hp} {s : Shared}
mutual
theorem Dat.reads (I : Inv X pins σ H s) : ∀ {x : V} {d : PyData} {u : Value}, Dat X.K H x d → RelV x u → ∃ as, Reads s.heap u d as
  | _, _, _, .non, r => by cases r; exact ⟨_, .none⟩
  | _, _, _, .bl b, r => by cases r; exact ⟨_, .bool b⟩
  | _, _, _, .int i, r => by obtain ⟨t, rfl⟩ := r; exact ⟨_, .int i t⟩
  | _, _, _, .str x, r => by obtain ⟨t, rfl⟩ := r; exact ⟨_, .str x t⟩
  | _, _, _, .lst e h, r => by
    cases r
    obtain ⟨its, rv, ⟨o, n, h1, h2, h3, h4⟩, _⟩ := I.list e
    obtain ⟨as, ra⟩ := Dats.reads I h rv
    exact ⟨_, .list h1 h2 h4 (by simpa using ra)⟩
  | _, _, _, .tup e h, r => by
    cases r
    obtain ⟨its, rv, ⟨o, h1, h2, n, h3⟩, _⟩ := I.tuple e
    obtain ⟨as, ra⟩ := Dats.reads I h rv
    exact ⟨_, .tuple h1 h2 h3 (by simpa using ra)⟩
theorem Dats.reads (I : Inv X pins σ H s) : ∀ {xs : List V} {ds : List PyData} {us : List Value}, Dats X.K H xs ds → Vals xs us → ∃ as, ReadsAll s.heap us ds as
  | _, _, _, .nil, .nil => ⟨_, .nil⟩
  | _, _, _, .cons h t, .cons r q => by
    obtain ⟨as, ra⟩ := Dat.reads I h r
    obtain ⟨bs, rb⟩ := Dats.reads I t q
    exact ⟨_, .cons ra rb⟩
end
end
section
variable {X : Cx}
end
end L2

end

section
-- KcSameN
set_option Elab.async false
set_option linter.all false
set_option maxRecDepth 100000
set_option maxHeartbeats 4000000
namespace L2
open PySem PySem.Spec PyProof.Rows
mutual
theorem datD {K : PySem.W.Frag} {H : Hp} : ∀ {n : Nat} {x y : V}, SameD K H n x y → ∃ d, Dat K H x d ∧ Dat K H y d ∧ d.canLay0 = true ∧ d.depth ≤ n
  | n, x, _, .flat h => by
    cases x with
    | non => exact ⟨_, .non, .non, rfl, Nat.zero_le _⟩
    | bl b => exact ⟨_, .bl b, .bl b, rfl, Nat.zero_le _⟩
    | int i => exact ⟨_, .int i, .int i, rfl, Nat.zero_le _⟩
    | _ => cases h
  | _, _, _, .lst (xs := xs) (ys := ys) e1 e2 hl h => by
    obtain ⟨ds, h1, h2, h3, h4⟩ := datsD xs ys hl h
    exact ⟨_, .lst e1 h1, .lst e2 h2, h3, Nat.succ_le_succ h4⟩
  | _, _, _, .tup (xs := xs) (ys := ys) e1 e2 hl h => by
    obtain ⟨ds, h1, h2, h3, h4⟩ := datsD xs ys hl h
    exact ⟨_, .tup e1 h1, .tup e2 h2, h3, Nat.succ_le_succ h4⟩
theorem datsD {K : PySem.W.Frag} {H : Hp} {n : Nat} : ∀ (xs ys : List V), xs.length = ys.length → (∀ (i : Nat) (x y : V), xs[i]? = some x → ys[i]? = some y → SameD K H n x y) → ∃ ds, Dats K H xs ds ∧ Dats K H ys ds ∧ PyData.canLayAll0 ds = true ∧ PyData.depthAll ds ≤ n
  | [], [], _, _ => ⟨[], .nil, .nil, rfl, Nat.zero_le _⟩
  | x :: xs, y :: ys, hl, h => by
    obtain ⟨d, a1, a2, a3, a4⟩ := datD (h 0 x y rfl rfl)
    obtain ⟨ds, b1, b2, b3, b4⟩ := datsD xs ys (by simpa using hl) (fun i x y hx hy => h (i + 1) x y hx hy)
    refine ⟨d :: ds, .cons a1 b1, .cons a2 b2, ?_, ?_⟩
    · show (d.canLay0 && PyData.canLayAll0 ds) = true
      rw [a3, b3]; rfl
    · show max d.depth (PyData.depthAll ds) ≤ n
      omega
  | [], _ :: _, hl, _ => by simp at hl
  | _ :: _, [], hl, _ => by simp at hl
end
section
variable {X : Cx}
theorem op_sameE (hu : X.A.units + 64 < cLine) : OpR X (compareOp .Eq) (rSameD X.K false) := by
  intro pins s σ H x y v u Q I rx ry h
  obtain ⟨n, hn, hd, q⟩ := h
  obtain ⟨d, h1, h2, h3, h4⟩ := datD hd
  obtain ⟨as, ra⟩ := h1.reads I rx
  obtain ⟨bs, rb⟩ := h2.reads I ry
  have sh : SeqAt.shaped d = true := by unfold SeqAt.shaped; rw [h3, decide_eq_true (by omega)]; rfl
  refine eq_dataH ra rb sh sh hu ⟨.bl true, H, I, ?_, q⟩
  rw [SeqAt.eqv_refl d h3]; rfl
theorem op_sameN (hu : X.A.units + 64 < cLine) : OpR X (compareOp .NotEq) (rSameD X.K true) := by
  intro pins s σ H x y v u Q I rx ry h
  obtain ⟨n, hn, hd, q⟩ := h
  obtain ⟨d, h1, h2, h3, h4⟩ := datD hd
  obtain ⟨as, ra⟩ := h1.reads I rx
  obtain ⟨bs, rb⟩ := h2.reads I ry
  have sh : SeqAt.shaped d = true := by unfold SeqAt.shaped; rw [h3, decide_eq_true (by omega)]; rfl
  refine ne_dataH ra rb sh sh hu ⟨.bl false, H, I, ?_, q⟩
  rw [SeqAt.eqv_refl d h3]; rfl
end
end L2

end

section
-- KcSame
set_option Elab.async false
set_option linter.all false
set_option maxRecDepth 100000
set_option maxHeartbeats 4000000
namespace L2
open PySem PySem.Spec PyProof.Rows
section
variable {X : Cx}
end
end L2

end

set_option Elab.async false
set_option linter.all false
set_option maxRecDepth 100000
set_option maxHeartbeats 4000000
namespace Kc_k04
open PySem L2 PyProof.Rows
seal L2.PE L2.PA L2.PS L2.PSs L2.PT L2.PW L2.PI L2.PG L2.PGs L2.PO L2.PTL L2.OpR L2.UnR L2.CallR L2.SlR L2.IxR L2.PSet
noncomputable def top (i : Nat) : Stmt := PySem.Challenge.pw_knowcards_k04_deals_refused.main.body.getD i (.Pass ⟨0, 0, 0, 0⟩)
noncomputable abbrev S_is_whole : Stmt := top 8
theorem sc_is_whole : FnScope ["thing"] ["thing"] (defScope S_is_whole) := ⟨rfl, rfl, rfl, by decide +kernel, rfl, by decide +kernel, by decide +kernel⟩
theorem v_is_whole_0 : VarAt ["thing"] (defScope S_is_whole) 0 "thing" := ⟨rfl, by first | exact Or.inl rfl | exact Or.inr (Or.inl rfl) | exact Or.inr (Or.inr rfl), by decide, by decide⟩
noncomputable abbrev S_is_within : Stmt := top 9
theorem sc_is_within : FnScope ["thing", "least", "most"] ["thing", "least", "most"] (defScope S_is_within) := ⟨rfl, rfl, rfl, by decide +kernel, rfl, by decide +kernel, by decide +kernel⟩
theorem v_is_within_0 : VarAt ["thing", "least", "most"] (defScope S_is_within) 0 "thing" := ⟨rfl, by first | exact Or.inl rfl | exact Or.inr (Or.inl rfl) | exact Or.inr (Or.inr rfl), by decide, by decide⟩
theorem v_is_within_1 : VarAt ["thing", "least", "most"] (defScope S_is_within) 1 "least" := ⟨rfl, by first | exact Or.inl rfl | exact Or.inr (Or.inl rfl) | exact Or.inr (Or.inr rfl), by decide, by decide⟩
theorem v_is_within_2 : VarAt ["thing", "least", "most"] (defScope S_is_within) 2 "most" := ⟨rfl, by first | exact Or.inl rfl | exact Or.inr (Or.inl rfl) | exact Or.inr (Or.inr rfl), by decide, by decide⟩
noncomputable abbrev S_is_pack : Stmt := top 14
theorem sc_is_pack : FnScope ["cards", "sizes"] ["cards", "sizes"] (defScope S_is_pack) := ⟨rfl, rfl, rfl, by decide +kernel, rfl, by decide +kernel, by decide +kernel⟩
theorem v_is_pack_0 : VarAt ["cards", "sizes"] (defScope S_is_pack) 0 "cards" := ⟨rfl, by first | exact Or.inl rfl | exact Or.inr (Or.inl rfl) | exact Or.inr (Or.inr rfl), by decide, by decide⟩
theorem v_is_pack_1 : VarAt ["cards", "sizes"] (defScope S_is_pack) 1 "sizes" := ⟨rfl, by first | exact Or.inl rfl | exact Or.inr (Or.inl rfl) | exact Or.inr (Or.inr rfl), by decide, by decide⟩
noncomputable abbrev S_how_many : Stmt := top 15
theorem sc_how_many : FnScope ["cards", "sizes", "many", "left", "size"] ["cards", "sizes"] (defScope S_how_many) := ⟨rfl, rfl, rfl, by decide +kernel, rfl, by decide +kernel, by decide +kernel⟩
theorem v_how_many_0 : VarAt ["cards", "sizes", "many", "left", "size"] (defScope S_how_many) 0 "cards" := ⟨rfl, by first | exact Or.inl rfl | exact Or.inr (Or.inl rfl) | exact Or.inr (Or.inr rfl), by decide, by decide⟩
theorem v_how_many_1 : VarAt ["cards", "sizes", "many", "left", "size"] (defScope S_how_many) 1 "sizes" := ⟨rfl, by first | exact Or.inl rfl | exact Or.inr (Or.inl rfl) | exact Or.inr (Or.inr rfl), by decide, by decide⟩
theorem v_how_many_2 : VarAt ["cards", "sizes", "many", "left", "size"] (defScope S_how_many) 2 "many" := ⟨rfl, by first | exact Or.inl rfl | exact Or.inr (Or.inl rfl) | exact Or.inr (Or.inr rfl), by decide, by decide⟩
theorem v_how_many_3 : VarAt ["cards", "sizes", "many", "left", "size"] (defScope S_how_many) 3 "left" := ⟨rfl, by first | exact Or.inl rfl | exact Or.inr (Or.inl rfl) | exact Or.inr (Or.inr rfl), by decide, by decide⟩
theorem v_how_many_4 : VarAt ["cards", "sizes", "many", "left", "size"] (defScope S_how_many) 4 "size" := ⟨rfl, by first | exact Or.inl rfl | exact Or.inr (Or.inl rfl) | exact Or.inr (Or.inr rfl), by decide, by decide⟩
noncomputable abbrev S_choices : Stmt := top 16
theorem sc_choices : FnScope ["many", "taken", "ways", "step"] ["many", "taken"] (defScope S_choices) := ⟨rfl, rfl, rfl, by decide +kernel, rfl, by decide +kernel, by decide +kernel⟩
theorem v_choices_0 : VarAt ["many", "taken", "ways", "step"] (defScope S_choices) 0 "many" := ⟨rfl, by first | exact Or.inl rfl | exact Or.inr (Or.inl rfl) | exact Or.inr (Or.inr rfl), by decide, by decide⟩
theorem v_choices_1 : VarAt ["many", "taken", "ways", "step"] (defScope S_choices) 1 "taken" := ⟨rfl, by first | exact Or.inl rfl | exact Or.inr (Or.inl rfl) | exact Or.inr (Or.inr rfl), by decide, by decide⟩
theorem v_choices_2 : VarAt ["many", "taken", "ways", "step"] (defScope S_choices) 2 "ways" := ⟨rfl, by first | exact Or.inl rfl | exact Or.inr (Or.inl rfl) | exact Or.inr (Or.inr rfl), by decide, by decide⟩
theorem v_choices_3 : VarAt ["many", "taken", "ways", "step"] (defScope S_choices) 3 "step" := ⟨rfl, by first | exact Or.inl rfl | exact Or.inr (Or.inl rfl) | exact Or.inr (Or.inr rfl), by decide, by decide⟩
noncomputable abbrev S_deals_of : Stmt := top 17
theorem sc_deals_of : FnScope ["cards", "sizes", "room", "begun", "card"] ["cards", "sizes"] (defScope S_deals_of) := ⟨rfl, rfl, rfl, by decide +kernel, rfl, by decide +kernel, by decide +kernel⟩
theorem v_deals_of_0 : VarAt ["cards", "sizes", "room", "begun", "card"] (defScope S_deals_of) 0 "cards" := ⟨rfl, by first | exact Or.inl rfl | exact Or.inr (Or.inl rfl) | exact Or.inr (Or.inr rfl), by decide, by decide⟩
theorem v_deals_of_1 : VarAt ["cards", "sizes", "room", "begun", "card"] (defScope S_deals_of) 1 "sizes" := ⟨rfl, by first | exact Or.inl rfl | exact Or.inr (Or.inl rfl) | exact Or.inr (Or.inr rfl), by decide, by decide⟩
theorem v_deals_of_2 : VarAt ["cards", "sizes", "room", "begun", "card"] (defScope S_deals_of) 2 "room" := ⟨rfl, by first | exact Or.inl rfl | exact Or.inr (Or.inl rfl) | exact Or.inr (Or.inr rfl), by decide, by decide⟩
theorem v_deals_of_3 : VarAt ["cards", "sizes", "room", "begun", "card"] (defScope S_deals_of) 3 "begun" := ⟨rfl, by first | exact Or.inl rfl | exact Or.inr (Or.inl rfl) | exact Or.inr (Or.inr rfl), by decide, by decide⟩
noncomputable abbrev S_with_one_more : Stmt := top 18
theorem sc_with_one_more : FnScope ["begun", "room", "longer", "deal", "who", "most"] ["begun", "room"] (defScope S_with_one_more) := ⟨rfl, rfl, rfl, by decide +kernel, rfl, by decide +kernel, by decide +kernel⟩
theorem v_with_one_more_0 : VarAt ["begun", "room", "longer", "deal", "who", "most"] (defScope S_with_one_more) 0 "begun" := ⟨rfl, by first | exact Or.inl rfl | exact Or.inr (Or.inl rfl) | exact Or.inr (Or.inr rfl), by decide, by decide⟩
theorem v_with_one_more_1 : VarAt ["begun", "room", "longer", "deal", "who", "most"] (defScope S_with_one_more) 1 "room" := ⟨rfl, by first | exact Or.inl rfl | exact Or.inr (Or.inl rfl) | exact Or.inr (Or.inr rfl), by decide, by decide⟩
theorem v_with_one_more_2 : VarAt ["begun", "room", "longer", "deal", "who", "most"] (defScope S_with_one_more) 2 "longer" := ⟨rfl, by first | exact Or.inl rfl | exact Or.inr (Or.inl rfl) | exact Or.inr (Or.inr rfl), by decide, by decide⟩
theorem v_with_one_more_3 : VarAt ["begun", "room", "longer", "deal", "who", "most"] (defScope S_with_one_more) 3 "deal" := ⟨rfl, by first | exact Or.inl rfl | exact Or.inr (Or.inl rfl) | exact Or.inr (Or.inr rfl), by decide, by decide⟩
theorem v_with_one_more_4 : VarAt ["begun", "room", "longer", "deal", "who", "most"] (defScope S_with_one_more) 4 "who" := ⟨rfl, by first | exact Or.inl rfl | exact Or.inr (Or.inl rfl) | exact Or.inr (Or.inr rfl), by decide, by decide⟩
theorem v_with_one_more_5 : VarAt ["begun", "room", "longer", "deal", "who", "most"] (defScope S_with_one_more) 5 "most" := ⟨rfl, by first | exact Or.inl rfl | exact Or.inr (Or.inl rfl) | exact Or.inr (Or.inr rfl), by decide, by decide⟩
noncomputable abbrev S__law_cell : Stmt := top 20
theorem sc__law_cell : FnScope ["_law_script", "_law_k", "_law_number"] ["_law_script", "_law_k"] (defScope S__law_cell) := ⟨rfl, rfl, rfl, by decide +kernel, rfl, by decide +kernel, by decide +kernel⟩
theorem v__law_cell_0 : VarAt ["_law_script", "_law_k", "_law_number"] (defScope S__law_cell) 0 "_law_script" := ⟨rfl, by first | exact Or.inl rfl | exact Or.inr (Or.inl rfl) | exact Or.inr (Or.inr rfl), by decide, by decide⟩
theorem v__law_cell_1 : VarAt ["_law_script", "_law_k", "_law_number"] (defScope S__law_cell) 1 "_law_k" := ⟨rfl, by first | exact Or.inl rfl | exact Or.inr (Or.inl rfl) | exact Or.inr (Or.inr rfl), by decide, by decide⟩
theorem v__law_cell_2 : VarAt ["_law_script", "_law_k", "_law_number"] (defScope S__law_cell) 2 "_law_number" := ⟨rfl, by first | exact Or.inl rfl | exact Or.inr (Or.inl rfl) | exact Or.inr (Or.inr rfl), by decide, by decide⟩
noncomputable abbrev S__law_product : Stmt := top 21
theorem sc__law_product : FnScope ["_law_many", "_law_found", "_law_k"] ["_law_many"] (defScope S__law_product) := ⟨rfl, rfl, rfl, by decide +kernel, rfl, by decide +kernel, by decide +kernel⟩
theorem v__law_product_0 : VarAt ["_law_many", "_law_found", "_law_k"] (defScope S__law_product) 0 "_law_many" := ⟨rfl, by first | exact Or.inl rfl | exact Or.inr (Or.inl rfl) | exact Or.inr (Or.inr rfl), by decide, by decide⟩
theorem v__law_product_1 : VarAt ["_law_many", "_law_found", "_law_k"] (defScope S__law_product) 1 "_law_found" := ⟨rfl, by first | exact Or.inl rfl | exact Or.inr (Or.inl rfl) | exact Or.inr (Or.inr rfl), by decide, by decide⟩
theorem v__law_product_2 : VarAt ["_law_many", "_law_found", "_law_k"] (defScope S__law_product) 2 "_law_k" := ⟨rfl, by first | exact Or.inl rfl | exact Or.inr (Or.inl rfl) | exact Or.inr (Or.inr rfl), by decide, by decide⟩
noncomputable abbrev S__law_count : Stmt := top 22
theorem sc__law_count : FnScope ["_law_cards", "_law_sizes", "_law_found", "_law_many"] ["_law_cards", "_law_sizes"] (defScope S__law_count) := ⟨rfl, rfl, rfl, by decide +kernel, rfl, by decide +kernel, by decide +kernel⟩
theorem v__law_count_0 : VarAt ["_law_cards", "_law_sizes", "_law_found", "_law_many"] (defScope S__law_count) 0 "_law_cards" := ⟨rfl, by first | exact Or.inl rfl | exact Or.inr (Or.inl rfl) | exact Or.inr (Or.inr rfl), by decide, by decide⟩
theorem v__law_count_1 : VarAt ["_law_cards", "_law_sizes", "_law_found", "_law_many"] (defScope S__law_count) 1 "_law_sizes" := ⟨rfl, by first | exact Or.inl rfl | exact Or.inr (Or.inl rfl) | exact Or.inr (Or.inr rfl), by decide, by decide⟩
theorem v__law_count_2 : VarAt ["_law_cards", "_law_sizes", "_law_found", "_law_many"] (defScope S__law_count) 2 "_law_found" := ⟨rfl, by first | exact Or.inl rfl | exact Or.inr (Or.inl rfl) | exact Or.inr (Or.inr rfl), by decide, by decide⟩
theorem v__law_count_3 : VarAt ["_law_cards", "_law_sizes", "_law_found", "_law_many"] (defScope S__law_count) 3 "_law_many" := ⟨rfl, by first | exact Or.inl rfl | exact Or.inr (Or.inl rfl) | exact Or.inr (Or.inr rfl), by decide, by decide⟩
noncomputable abbrev S__law_told : Stmt := top 23
theorem sc__law_told : FnScope ["_law_cards", "_law_sizes", "_law_heard", "_law_found", "e", "_law_others"] ["_law_cards", "_law_sizes"] (defScope S__law_told) := ⟨rfl, rfl, rfl, by decide +kernel, rfl, by decide +kernel, by decide +kernel⟩
theorem v__law_told_0 : VarAt ["_law_cards", "_law_sizes", "_law_heard", "_law_found", "e", "_law_others"] (defScope S__law_told) 0 "_law_cards" := ⟨rfl, by first | exact Or.inl rfl | exact Or.inr (Or.inl rfl) | exact Or.inr (Or.inr rfl), by decide, by decide⟩
theorem v__law_told_1 : VarAt ["_law_cards", "_law_sizes", "_law_heard", "_law_found", "e", "_law_others"] (defScope S__law_told) 1 "_law_sizes" := ⟨rfl, by first | exact Or.inl rfl | exact Or.inr (Or.inl rfl) | exact Or.inr (Or.inr rfl), by decide, by decide⟩
theorem v__law_told_2 : VarAt ["_law_cards", "_law_sizes", "_law_heard", "_law_found", "e", "_law_others"] (defScope S__law_told) 2 "_law_heard" := ⟨rfl, by first | exact Or.inl rfl | exact Or.inr (Or.inl rfl) | exact Or.inr (Or.inr rfl), by decide, by decide⟩
theorem v__law_told_3 : VarAt ["_law_cards", "_law_sizes", "_law_heard", "_law_found", "e", "_law_others"] (defScope S__law_told) 3 "_law_found" := ⟨rfl, by first | exact Or.inl rfl | exact Or.inr (Or.inl rfl) | exact Or.inr (Or.inr rfl), by decide, by decide⟩
theorem v__law_told_4 : VarAt ["_law_cards", "_law_sizes", "_law_heard", "_law_found", "e", "_law_others"] (defScope S__law_told) 4 "e" := ⟨rfl, by first | exact Or.inl rfl | exact Or.inr (Or.inl rfl) | exact Or.inr (Or.inr rfl), by decide, by decide⟩
theorem v__law_told_5 : VarAt ["_law_cards", "_law_sizes", "_law_heard", "_law_found", "e", "_law_others"] (defScope S__law_told) 5 "_law_others" := ⟨rfl, by first | exact Or.inl rfl | exact Or.inr (Or.inl rfl) | exact Or.inr (Or.inr rfl), by decide, by decide⟩
noncomputable abbrev S__law_spoiled : Stmt := top 24
theorem sc__law_spoiled : FnScope ["_law_script", "_law_cards", "_law_sizes", "_law_cell_here", "_law_at", "_law_some"] ["_law_script", "_law_cards", "_law_sizes"] (defScope S__law_spoiled) := ⟨rfl, rfl, rfl, by decide +kernel, rfl, by decide +kernel, by decide +kernel⟩
theorem v__law_spoiled_0 : VarAt ["_law_script", "_law_cards", "_law_sizes", "_law_cell_here", "_law_at", "_law_some"] (defScope S__law_spoiled) 0 "_law_script" := ⟨rfl, by first | exact Or.inl rfl | exact Or.inr (Or.inl rfl) | exact Or.inr (Or.inr rfl), by decide, by decide⟩
theorem v__law_spoiled_1 : VarAt ["_law_script", "_law_cards", "_law_sizes", "_law_cell_here", "_law_at", "_law_some"] (defScope S__law_spoiled) 1 "_law_cards" := ⟨rfl, by first | exact Or.inl rfl | exact Or.inr (Or.inl rfl) | exact Or.inr (Or.inr rfl), by decide, by decide⟩
theorem v__law_spoiled_2 : VarAt ["_law_script", "_law_cards", "_law_sizes", "_law_cell_here", "_law_at", "_law_some"] (defScope S__law_spoiled) 2 "_law_sizes" := ⟨rfl, by first | exact Or.inl rfl | exact Or.inr (Or.inl rfl) | exact Or.inr (Or.inr rfl), by decide, by decide⟩
theorem v__law_spoiled_3 : VarAt ["_law_script", "_law_cards", "_law_sizes", "_law_cell_here", "_law_at", "_law_some"] (defScope S__law_spoiled) 3 "_law_cell_here" := ⟨rfl, by first | exact Or.inl rfl | exact Or.inr (Or.inl rfl) | exact Or.inr (Or.inr rfl), by decide, by decide⟩
theorem v__law_spoiled_4 : VarAt ["_law_script", "_law_cards", "_law_sizes", "_law_cell_here", "_law_at", "_law_some"] (defScope S__law_spoiled) 4 "_law_at" := ⟨rfl, by first | exact Or.inl rfl | exact Or.inr (Or.inl rfl) | exact Or.inr (Or.inr rfl), by decide, by decide⟩
theorem v__law_spoiled_5 : VarAt ["_law_script", "_law_cards", "_law_sizes", "_law_cell_here", "_law_at", "_law_some"] (defScope S__law_spoiled) 5 "_law_some" := ⟨rfl, by first | exact Or.inl rfl | exact Or.inr (Or.inl rfl) | exact Or.inr (Or.inr rfl), by decide, by decide⟩
noncomputable abbrev S_law : Stmt := top 25
theorem sc_law : FnScope ["_law_script", "_law_cards", "_law_sizes", "_law_k", "_law_least", "_law_due", "_law_handed", "_law_other", "_law_spoiled_here"] ["_law_script"] (defScope S_law) := ⟨rfl, rfl, rfl, by decide +kernel, rfl, by decide +kernel, by decide +kernel⟩
theorem v_law_0 : VarAt ["_law_script", "_law_cards", "_law_sizes", "_law_k", "_law_least", "_law_due", "_law_handed", "_law_other", "_law_spoiled_here"] (defScope S_law) 0 "_law_script" := ⟨rfl, by first | exact Or.inl rfl | exact Or.inr (Or.inl rfl) | exact Or.inr (Or.inr rfl), by decide, by decide⟩
theorem v_law_1 : VarAt ["_law_script", "_law_cards", "_law_sizes", "_law_k", "_law_least", "_law_due", "_law_handed", "_law_other", "_law_spoiled_here"] (defScope S_law) 1 "_law_cards" := ⟨rfl, by first | exact Or.inl rfl | exact Or.inr (Or.inl rfl) | exact Or.inr (Or.inr rfl), by decide, by decide⟩
theorem v_law_2 : VarAt ["_law_script", "_law_cards", "_law_sizes", "_law_k", "_law_least", "_law_due", "_law_handed", "_law_other", "_law_spoiled_here"] (defScope S_law) 2 "_law_sizes" := ⟨rfl, by first | exact Or.inl rfl | exact Or.inr (Or.inl rfl) | exact Or.inr (Or.inr rfl), by decide, by decide⟩
theorem v_law_3 : VarAt ["_law_script", "_law_cards", "_law_sizes", "_law_k", "_law_least", "_law_due", "_law_handed", "_law_other", "_law_spoiled_here"] (defScope S_law) 3 "_law_k" := ⟨rfl, by first | exact Or.inl rfl | exact Or.inr (Or.inl rfl) | exact Or.inr (Or.inr rfl), by decide, by decide⟩
theorem v_law_4 : VarAt ["_law_script", "_law_cards", "_law_sizes", "_law_k", "_law_least", "_law_due", "_law_handed", "_law_other", "_law_spoiled_here"] (defScope S_law) 4 "_law_least" := ⟨rfl, by first | exact Or.inl rfl | exact Or.inr (Or.inl rfl) | exact Or.inr (Or.inr rfl), by decide, by decide⟩
theorem v_law_5 : VarAt ["_law_script", "_law_cards", "_law_sizes", "_law_k", "_law_least", "_law_due", "_law_handed", "_law_other", "_law_spoiled_here"] (defScope S_law) 5 "_law_due" := ⟨rfl, by first | exact Or.inl rfl | exact Or.inr (Or.inl rfl) | exact Or.inr (Or.inr rfl), by decide, by decide⟩
theorem v_law_6 : VarAt ["_law_script", "_law_cards", "_law_sizes", "_law_k", "_law_least", "_law_due", "_law_handed", "_law_other", "_law_spoiled_here"] (defScope S_law) 6 "_law_handed" := ⟨rfl, by first | exact Or.inl rfl | exact Or.inr (Or.inl rfl) | exact Or.inr (Or.inr rfl), by decide, by decide⟩
theorem v_law_7 : VarAt ["_law_script", "_law_cards", "_law_sizes", "_law_k", "_law_least", "_law_due", "_law_handed", "_law_other", "_law_spoiled_here"] (defScope S_law) 7 "_law_other" := ⟨rfl, by first | exact Or.inl rfl | exact Or.inr (Or.inl rfl) | exact Or.inr (Or.inr rfl), by decide, by decide⟩
theorem v_law_8 : VarAt ["_law_script", "_law_cards", "_law_sizes", "_law_k", "_law_least", "_law_due", "_law_handed", "_law_other", "_law_spoiled_here"] (defScope S_law) 8 "_law_spoiled_here" := ⟨rfl, by first | exact Or.inl rfl | exact Or.inr (Or.inl rfl) | exact Or.inr (Or.inr rfl), by decide, by decide⟩
section
variable {P : Program} {w : World} {K : PySem.W.Frag} {mg : Str → Option Value} {base : Heap}
theorem ok_is_whole {f : Addr} {fd : FuncData} (D : Def K mg "is_whole" S_is_whole ["thing"] f fd) (B : Blt mg) : FnB P w K mg base 1 "is_whole" ["thing"] (sp_is_whole K) := by
  refine D.ok sc_is_whole (fun vs H Q E h => len_is_whole h) (fun cdv A outer s H vs Q E hr h => ?_)
  have hu := hr.units0
  have hux := hr.units64
  exact ⟨t_is_whole K, (pss_one (ps_ret (pe_and (pe_callB call_isi rfl B.isinstance boot_isinstance (pac_Name (pvQ v_is_whole_0 rfl rfl) (pac_Name (pe_bltn (v := .ty "int") rfl B.int boot_int rfl) pa_nil))) (pe_one (pe_not (pe_callB call_isi rfl B.isinstance boot_isinstance (pac_Name (pvQ v_is_whole_0 rfl rfl) (pac_Name (pe_bltn (v := .ty "bool") rfl B.bool boot_bool rfl) pa_nil)))))))), rd_is_whole h⟩
theorem ok_is_within {f : Addr} {fd : FuncData} (D : Def K mg "is_within" S_is_within ["thing", "least", "most"] f fd) (B : Blt mg) (F_is_whole : FnB P w K mg base 1 "is_whole" ["thing"] (sp_is_whole K)) : FnB P w K mg base 2 "is_within" ["thing", "least", "most"] (sp_is_within K) := by
  refine D.ok sc_is_within (fun vs H Q E h => len_is_within h) (fun cdv A outer s H vs Q E hr h => ?_)
  have hu := hr.units0
  have hux := hr.units64
  exact ⟨t_is_within K, (pss_one (ps_ret (pe_and (pe_callF F_is_whole (hr.mono (by decide)) (pac_Name (pvQ v_is_within_0 rfl rfl) pa_nil)) (pe_one (pe_chain op_le op_le (pvQ v_is_within_1 rfl rfl) (pvQ v_is_within_0 rfl rfl) (pvQ v_is_within_2 rfl rfl)))))), rd_is_within h⟩
theorem ok_is_pack {f : Addr} {fd : FuncData} (D : Def K mg "is_pack" S_is_pack ["cards", "sizes"] f fd) (B : Blt mg) {t_MOST_CARDS : Tok} (m_MOST_CARDS : mg "MOST_CARDS" = some (.int 12 t_MOST_CARDS)) {t_MOST_HANDS : Tok} (m_MOST_HANDS : mg "MOST_HANDS" = some (.int 5 t_MOST_HANDS)) (F_is_within : FnB P w K mg base 2 "is_within" ["thing", "least", "most"] (sp_is_within K)) : FnB P w K mg base 3 "is_pack" ["cards", "sizes"] (sp_is_pack K) := by
  refine D.ok sc_is_pack (fun vs H Q E h => len_is_pack h) (fun cdv A outer s H vs Q E hr h => ?_)
  have hu := hr.units0
  have hux := hr.units64
  exact ⟨t_is_pack K, (pss_cons (ps_if (pt_not (pt_val (pe_callF F_is_within (hr.mono (by decide)) (pac_Name (pvQ v_is_pack_0 rfl rfl) (pac_Constant pe_int (pac_Name (pe_glob (v := (.int 12)) rfl m_MOST_CARDS ⟨_, rfl⟩) pa_nil)))))) (pss_one (ps_ret pe_bl)) pss_nil)
    (pss_cons (ps_if (PW.pt (pw_or (pt_not (pt_val (pe_callB call_isi rfl B.isinstance boot_isinstance (pac_Name (pvQ v_is_pack_1 rfl rfl) (pac_Name (pe_bltn (v := .ty "list") rfl B.list boot_list rfl) pa_nil))))) (pw_or1 (pt_not (pt_val (pe_callF F_is_within (hr.mono (by decide)) (pac_Call (pe_callB call_len_seq rfl B.len boot_len (pac_Name (pvQ v_is_pack_1 rfl rfl) pa_nil)) (pac_Constant pe_int (pac_Name (pe_glob (v := (.int 5)) rfl m_MOST_HANDS ⟨_, rfl⟩) pa_nil))))))))) (pss_one (ps_ret pe_bl)) pss_nil)
    (pss_one (ps_ret (pe_and (pe_callB (call_allL rfl) rfl B.all boot_all (pac_ListComp (pe_comp (sc := (defScope S_is_pack)) (NX := ["cards", "sizes"]) (N := ["size", "cards"]) (ix := [none, some 0]) rfl (by refine ⟨rfl, ?_, ?_, ?_, ?_, rfl, ?_⟩ <;> decide +kernel) (pi_list (pvQ v_is_pack_1 rfl rfl)) (by intros; exact (pg_name (i := 0) (show (["size", "cards"] : List Str).Nodup by decide +kernel) rfl (Or.inl rfl))) (by intros; exact ptl_nil) (by intros; exact (pe_callF F_is_within (hr.mono (by decide)) (pac_Name (pv 0) (pac_Constant pe_int (pac_Name (pv 1) pa_nil)))))) pa_nil)) (pe_one (pe_cmpR op_le (pe_callB (call_sumL rfl) rfl B.sum boot_sum (pac_Name (pvQ v_is_pack_1 rfl rfl) pa_nil)) (pvQ v_is_pack_0 rfl rfl) (nomark _)))))))), rd_is_pack h⟩
theorem ok_how_many {f : Addr} {fd : FuncData} (D : Def K mg "how_many" S_how_many ["cards", "sizes"] f fd) (B : Blt mg) (F_choices : FnB P w K mg base 1 "choices" ["many", "taken"] (sp_choices K)) (F_is_pack : FnB P w K mg base 3 "is_pack" ["cards", "sizes"] (sp_is_pack K)) : FnB P w K mg base 4 "how_many" ["cards", "sizes"] (sp_how_many K) := by
  refine D.ok sc_how_many (fun vs H Q E h => len_how_many h) (fun cdv A outer s H vs Q E hr h => ?_)
  have hu := hr.units0
  have hux := hr.units64
  exact ⟨t_how_many K, (pss_cons (ps_if (pt_not (pt_val (pe_callF F_is_pack (hr.mono (by decide)) (pac_Name (pvQ v_how_many_0 rfl rfl) (pac_Name (pvQ v_how_many_1 rfl rfl) pa_nil))))) (pss_one ps_never) pss_nil)
    (pss_cons (ps_set (i := 2) sc_how_many.nd rfl (Or.inl rfl) pe_int)
    (pss_cons (ps_set (i := 3) sc_how_many.nd rfl (Or.inl rfl) (pvQ v_how_many_0 rfl rfl))
    (pss_cons (ps_for PassesOwn.never rfl (pi_list (pvQ v_how_many_1 rfl rfl)) (pg_name (i := 4) sc_how_many.nd rfl (Or.inl rfl)) (pss_cons (ps_set (i := 2) sc_how_many.nd rfl (Or.inl rfl) (pe_op op_mulB (pvQ v_how_many_2 rfl rfl) (pe_callF F_choices (hr.mono (by decide)) (pac_Name (pvQ v_how_many_3 rfl rfl) (pac_Name (pvQ v_how_many_4 rfl rfl) pa_nil)))))
    (pss_one (ps_set (i := 3) sc_how_many.nd rfl (Or.inl rfl) (pe_op op_sub (pvQ v_how_many_3 rfl rfl) (pvQ v_how_many_4 rfl rfl))))))
    (pss_one (ps_ret (pvQ v_how_many_2 rfl rfl))))))), rd_how_many h⟩
theorem okx_how_many {f : Addr} {fd : FuncData} (D : Def K mg "how_many" S_how_many ["cards", "sizes"] f fd) (B : Blt mg) {G : Errs} (T : ErrsOk4 P w K mg G) (F_choices : FnB P w K mg base 1 "choices" ["many", "taken"] (sp_choices K)) (F_is_pack : FnB P w K mg base 3 "is_pack" ["cards", "sizes"] (sp_is_pack K)) : FnX P w K mg base 4 "how_many" ["cards", "sizes"] (sx_how_many K G) := by
  refine D.okX sc_how_many (fun vs H Q E h => lenx_how_many h) (fun cdv A outer s H vs Q E hr h => ?_)
  have hu := hr.units0
  have hux := hr.units64
  exact ⟨tx_how_many K G E, (pss_cons (ps_if (pt_not (pt_val (pe_callF F_is_pack (hr.mono (by decide)) (pac_Name (pvQ v_how_many_0 rfl rfl) (pac_Name (pvQ v_how_many_1 rfl rfl) pa_nil))))) (pss_one (ps_raise rfl T.ex_NoPack rfl T.m_NoPack makes1 (pac_Constant pe_str pa_nil))) pss_nil)
    pss_any), rx_how_many h⟩
theorem ok_choices {f : Addr} {fd : FuncData} (D : Def K mg "choices" S_choices ["many", "taken"] f fd) (B : Blt mg) : FnB P w K mg base 1 "choices" ["many", "taken"] (sp_choices K) := by
  refine D.ok sc_choices (fun vs H Q E h => len_choices h) (fun cdv A outer s H vs Q E hr h => ?_)
  have hu := hr.units0
  have hux := hr.units64
  exact ⟨t_choices K, (pss_cons (ps_set (i := 2) sc_choices.nd rfl (Or.inl rfl) pe_int)
    (pss_cons (ps_for PassesOwn.never rfl (pi_range1 rfl B.range (pac_Name (pvQ v_choices_1 rfl rfl) pa_nil)) (pg_name (i := 3) sc_choices.nd rfl (Or.inl rfl)) (pss_one (ps_set (i := 2) sc_choices.nd rfl (Or.inl rfl) (pe_op op_fdiv (pe_op op_mulB (pvQ v_choices_2 rfl rfl) (pe_op op_sub (pvQ v_choices_0 rfl rfl) (pvQ v_choices_3 rfl rfl))) (pe_op op_add (pvQ v_choices_3 rfl rfl) pe_int)))))
    (pss_one (ps_ret (pvQ v_choices_2 rfl rfl))))), rd_choices h⟩
theorem ok_deals_of {f : Addr} {fd : FuncData} (D : Def K mg "deals_of" S_deals_of ["cards", "sizes"] f fd) (B : Blt mg) {t_MOST_DEALS : Tok} (m_MOST_DEALS : mg "MOST_DEALS" = some (.int 2000 t_MOST_DEALS)) (F_how_many : FnB P w K mg base 4 "how_many" ["cards", "sizes"] (sp_how_many K)) (F_with_one_more : FnB P w K mg base 1 "with_one_more" ["begun", "room"] (sp_with_one_more K)) : FnB P w K mg base 5 "deals_of" ["cards", "sizes"] (sp_deals_of K) := by
  refine D.ok sc_deals_of (fun vs H Q E h => len_deals_of h) (fun cdv A outer s H vs Q E hr h => ?_)
  have hu := hr.units0
  have hux := hr.units64
  exact ⟨t_deals_of K, (pss_cons (ps_if (pt_cmpR op_gt (pe_callF F_how_many (hr.mono (by decide)) (pac_Name (pvQ v_deals_of_0 rfl rfl) (pac_Name (pvQ v_deals_of_1 rfl rfl) pa_nil))) (pe_glob (v := (.int 2000)) rfl m_MOST_DEALS ⟨_, rfl⟩) (nomark _)) (pss_one ps_never) pss_nil)
    (pss_cons (ps_set (i := 2) sc_deals_of.nd rfl (Or.inl rfl) (pe_op op_cat (pvQ v_deals_of_1 rfl rfl) (pe_lst (pac_BinOp (pe_op op_sub (pvQ v_deals_of_0 rfl rfl) (pe_callB (call_sumL rfl) rfl B.sum boot_sum (pac_Name (pvQ v_deals_of_1 rfl rfl) pa_nil))) pa_nil))))
    (pss_cons (ps_set (i := 3) sc_deals_of.nd rfl (Or.inl rfl) (pe_lst (pac_Tuple (pe_tup pa_nil) pa_nil)))
    (pss_cons (ps_for PassesOwn.never rfl (pi_range1 rfl B.range (pac_Name (pvQ v_deals_of_0 rfl rfl) pa_nil)) (pg_name (i := 4) sc_deals_of.nd rfl (Or.inl rfl)) (pss_one (ps_set (i := 3) sc_deals_of.nd rfl (Or.inl rfl) (pe_callF F_with_one_more (hr.mono (by decide)) (pac_Name (pvQ v_deals_of_3 rfl rfl) (pac_Name (pvQ v_deals_of_2 rfl rfl) pa_nil))))))
    (pss_one (ps_ret (pvQ v_deals_of_3 rfl rfl))))))), rd_deals_of h⟩
theorem okx_deals_of {f : Addr} {fd : FuncData} (D : Def K mg "deals_of" S_deals_of ["cards", "sizes"] f fd) (B : Blt mg) {G : Errs} (T : ErrsOk4 P w K mg G) {t_MOST_DEALS : Tok} (m_MOST_DEALS : mg "MOST_DEALS" = some (.int 2000 t_MOST_DEALS)) (F_how_many : FnB P w K mg base 4 "how_many" ["cards", "sizes"] (sp_how_many K)) (F_with_one_more : FnB P w K mg base 1 "with_one_more" ["begun", "room"] (sp_with_one_more K)) (FX_how_many : FnX P w K mg base 4 "how_many" ["cards", "sizes"] (sx_how_many K G)) : FnX P w K mg base 5 "deals_of" ["cards", "sizes"] (sx_deals_of K G) := by
  have Z0 : FnOk P w K mg base CX0 5 f fd ["cards", "sizes"] (sp_deals_of K) := by
    refine D.fn.ok sc_deals_of (fun vs H Q E h => len_deals_of h) (fun cdv A outer s H vs Q E hr h => ?_)
    have hu := hr.units0
    have hux := hr.units64
    exact ⟨t_deals_of K, (pss_cons (ps_if (pt_cmpR op_gt (pe_callF F_how_many (hr.mono (by decide)) (pac_Name (pvQ v_deals_of_0 rfl rfl) (pac_Name (pvQ v_deals_of_1 rfl rfl) pa_nil))) (pe_glob (v := (.int 2000)) rfl m_MOST_DEALS ⟨_, rfl⟩) (nomark _)) (pss_one ps_never) pss_nil)
    (pss_cons (ps_set (i := 2) sc_deals_of.nd rfl (Or.inl rfl) (pe_op op_cat (pvQ v_deals_of_1 rfl rfl) (pe_lst (pac_BinOp (pe_op op_sub (pvQ v_deals_of_0 rfl rfl) (pe_callB (call_sumL rfl) rfl B.sum boot_sum (pac_Name (pvQ v_deals_of_1 rfl rfl) pa_nil))) pa_nil))))
    (pss_cons (ps_set (i := 3) sc_deals_of.nd rfl (Or.inl rfl) (pe_lst (pac_Tuple (pe_tup pa_nil) pa_nil)))
    (pss_cons (ps_for PassesOwn.never rfl (pi_range1 rfl B.range (pac_Name (pvQ v_deals_of_0 rfl rfl) pa_nil)) (pg_name (i := 4) sc_deals_of.nd rfl (Or.inl rfl)) (pss_one (ps_set (i := 3) sc_deals_of.nd rfl (Or.inl rfl) (pe_callF F_with_one_more (hr.mono (by decide)) (pac_Name (pvQ v_deals_of_3 rfl rfl) (pac_Name (pvQ v_deals_of_2 rfl rfl) pa_nil))))))
    (pss_one (ps_ret (pvQ v_deals_of_3 rfl rfl))))))), rd_deals_of h⟩
  have Z1 : FnOk P w K mg base (CX1 P w) 5 f fd ["cards", "sizes"] (sx1_deals_of K G) := by
    refine D.fnX sc_deals_of (fun vs H Q E h => len1_deals_of h) (fun cdv A outer s H vs Q E hr h => ?_)
    have hu := hr.units0
    have hux := hr.units64
    exact ⟨tx1_deals_of K G E, (pss_cons (ps_if (pt_cmpR op_gt (pe_callX FX_how_many (hr.mono (by decide)) pass1 (pac_Name (pvQ v_deals_of_0 rfl rfl) (pac_Name (pvQ v_deals_of_1 rfl rfl) pa_nil))) (pe_glob (v := (.int 2000)) rfl m_MOST_DEALS ⟨_, rfl⟩) (nomark _)) pss_any pss_nil)
    pss_any), rx1_deals_of h⟩
  have Z2 : FnOk P w K mg base (CX1 P w) 5 f fd ["cards", "sizes"] (sx2_deals_of K G) := by
    refine D.fnX sc_deals_of (fun vs H Q E h => lenx_deals_of h) (fun cdv A outer s H vs Q E hr h => ?_)
    have hu := hr.units0
    have hux := hr.units64
    exact ⟨tx_deals_of K G E, (pss_cons (ps_if (pt_cmpR op_gt (pe_callF F_how_many (hr.mono (by decide)) (pac_Name (pvQ v_deals_of_0 rfl rfl) (pac_Name (pvQ v_deals_of_1 rfl rfl) pa_nil))) (pe_glob (v := (.int 2000)) rfl m_MOST_DEALS ⟨_, rfl⟩) (nomark _)) (pss_one (ps_raise rfl T.ex_TooMany rfl T.m_TooMany makes1 (pa_cons (pe_fstr3 (a := "the pack has more than ") (b := " deals") (pe_glob (v := (.int 2000)) rfl m_MOST_DEALS ⟨_, rfl⟩) (by decide) (by decide +kernel) (by decide +kernel) (by decide +kernel)) pa_nil))) pss_nil)
    pss_any), rx_deals_of h⟩
  exact ⟨f, fd, FnOk.or Z0.up (FnOk.or Z1 Z2), D.m, D.fn.kp, D.b⟩
theorem ok_with_one_more {f : Addr} {fd : FuncData} (D : Def K mg "with_one_more" S_with_one_more ["begun", "room"] f fd) (B : Blt mg) : FnB P w K mg base 1 "with_one_more" ["begun", "room"] (sp_with_one_more K) := by
  refine D.ok sc_with_one_more (fun vs H Q E h => len_with_one_more h) (fun cdv A outer s H vs Q E hr h => ?_)
  have hu := hr.units0
  have hux := hr.units64
  exact ⟨t_with_one_more K, (pss_cons (ps_set (i := 2) sc_with_one_more.nd rfl (Or.inl rfl) (pe_lst pa_nil))
    (pss_cons (ps_for PassesOwn.never rfl (pi_list (pvQ v_with_one_more_0 rfl rfl)) (pg_name (i := 3) sc_with_one_more.nd rfl (Or.inl rfl)) (pss_one (ps_for PassesOwn.never rfl (pi_enum srcL rfl B.enumerate (by decide) (pac_Name (pvQ v_with_one_more_1 rfl rfl) pa_nil)) (pg_tup rfl (pgs_cons (pg_name (i := 4) sc_with_one_more.nd rfl (Or.inl rfl)) (pgs_cons (pg_name (i := 5) sc_with_one_more.nd rfl (Or.inl rfl)) pgs_nil))) (pss_one (ps_if (pt_cmpR op_lt (pe_bt PySem.F.plainAttrs_tuple PySem.F.slot_tuple_count PySem.F.type_tuple_count mt_countT (pvQ v_with_one_more_3 rfl rfl) (pac_Name (pvQ v_with_one_more_4 rfl rfl) pa_nil)) (pvQ v_with_one_more_5 rfl rfl) (nomark _)) (pss_one (ps_expr (pe_bm PySem.F.plainAttrs_list PySem.F.slot_list_append PySem.F.type_list_append mt_append (pvQ v_with_one_more_2 rfl rfl) (pac_BinOp (pe_op op_catG (pvQ v_with_one_more_3 rfl rfl) (pe_tup (pac_Name (pvQ v_with_one_more_4 rfl rfl) pa_nil))) pa_nil)))) pss_nil)))))
    (pss_one (ps_ret (pvQ v_with_one_more_2 rfl rfl))))), rd_with_one_more h⟩
theorem ok__law_cell {f : Addr} {fd : FuncData} (D : Def K mg "_law_cell" S__law_cell ["_law_script", "_law_k"] f fd) (B : Blt mg) : FnB P w K mg base 1 "_law_cell" ["_law_script", "_law_k"] (sp__law_cell K) := by
  refine D.ok sc__law_cell (fun vs H Q E h => len__law_cell h) (fun cdv A outer s H vs Q E hr h => ?_)
  have hu := hr.units0
  have hux := hr.units64
  exact ⟨t__law_cell K, (pss_cons (ps_if (pt_cmpR op_lt (pvQ v__law_cell_1 rfl rfl) (pe_callB call_len_seq rfl B.len boot_len (pac_Name (pvQ v__law_cell_0 rfl rfl) pa_nil)) (nomark _)) (pss_one (ps_ret (pe_ix ix_list (pvQ v__law_cell_0 rfl rfl) (pvQ v__law_cell_1 rfl rfl) (fun _ _ => rfl)))) pss_nil)
    (pss_cons (ps_set (i := 2) sc__law_cell.nd rfl (Or.inl rfl) (pe_op op_add (pe_op op_mulB (pvQ v__law_cell_1 rfl rfl) pe_int) pe_int))
    (pss_cons (ps_if (pt_cmpR op_gt (pe_callB call_len_seq rfl B.len boot_len (pac_Name (pvQ v__law_cell_0 rfl rfl) pa_nil)) pe_int (nomark _)) (pss_one (ps_set (i := 2) sc__law_cell.nd rfl (Or.inl rfl) (pe_op op_add (pe_op op_mulB (pe_ix ix_list (pvQ v__law_cell_0 rfl rfl) (pe_op op_mod (pe_op op_mulB (pvQ v__law_cell_1 rfl rfl) pe_int) (pe_callB call_len_seq rfl B.len boot_len (pac_Name (pvQ v__law_cell_0 rfl rfl) pa_nil))) (fun _ _ => rfl)) pe_int) (pe_op op_mulB (pvQ v__law_cell_1 rfl rfl) pe_int)))) pss_nil)
    (pss_cons (ps_set (i := 2) sc__law_cell.nd rfl (Or.inl rfl) (pe_op op_mod (pe_op op_mulB (pvQ v__law_cell_2 rfl rfl) (pvQ v__law_cell_2 rfl rfl)) pe_int))
    (pss_one (ps_ret (pe_op op_mod (pe_op op_mulB (pe_op op_add (pvQ v__law_cell_2 rfl rfl) (pvQ v__law_cell_1 rfl rfl)) (pe_op op_add (pvQ v__law_cell_2 rfl rfl) pe_int)) pe_int))))))), rd__law_cell h⟩
theorem ok__law_product {f : Addr} {fd : FuncData} (D : Def K mg "_law_product" S__law_product ["_law_many"] f fd) (B : Blt mg) : FnB P w K mg base 1 "_law_product" ["_law_many"] (sp__law_product K) := by
  refine D.ok sc__law_product (fun vs H Q E h => len__law_product h) (fun cdv A outer s H vs Q E hr h => ?_)
  have hu := hr.units0
  have hux := hr.units64
  exact ⟨t__law_product K, (pss_cons (ps_set (i := 1) sc__law_product.nd rfl (Or.inl rfl) pe_int)
    (pss_cons (ps_for PassesOwn.never rfl (pi_range1 rfl B.range (pac_Name (pvQ v__law_product_0 rfl rfl) pa_nil)) (pg_name (i := 2) sc__law_product.nd rfl (Or.inl rfl)) (pss_one (ps_set (i := 1) sc__law_product.nd rfl (Or.inl rfl) (pe_op op_mulB (pvQ v__law_product_1 rfl rfl) (pe_op op_add (pvQ v__law_product_2 rfl rfl) pe_int)))))
    (pss_one (ps_ret (pvQ v__law_product_1 rfl rfl))))), rd__law_product h⟩
theorem ok__law_count {f : Addr} {fd : FuncData} (D : Def K mg "_law_count" S__law_count ["_law_cards", "_law_sizes"] f fd) (B : Blt mg) (F__law_product : FnB P w K mg base 1 "_law_product" ["_law_many"] (sp__law_product K)) : FnB P w K mg base 2 "_law_count" ["_law_cards", "_law_sizes"] (sp__law_count K) := by
  refine D.ok sc__law_count (fun vs H Q E h => len__law_count h) (fun cdv A outer s H vs Q E hr h => ?_)
  have hu := hr.units0
  have hux := hr.units64
  exact ⟨t__law_count K, (pss_cons (ps_set (i := 2) sc__law_count.nd rfl (Or.inl rfl) (pe_callF F__law_product (hr.mono (by decide)) (pac_Name (pvQ v__law_count_0 rfl rfl) pa_nil)))
    (pss_cons (ps_for PassesOwn.never rfl (pi_list (pe_op om_cat (pvQ v__law_count_1 rfl rfl) (pm_lst (pac_BinOp (pe_op op_sub (pvQ v__law_count_0 rfl rfl) (pe_callB (call_sumL rfl) rfl B.sum boot_sum (pac_Name (pvQ v__law_count_1 rfl rfl) pa_nil))) pa_nil)))) (pg_name (i := 3) sc__law_count.nd rfl (Or.inl rfl)) (pss_one (ps_set (i := 2) sc__law_count.nd rfl (Or.inl rfl) (pe_op op_fdiv (pvQ v__law_count_2 rfl rfl) (pe_callF F__law_product (hr.mono (by decide)) (pac_Name (pvQ v__law_count_3 rfl rfl) pa_nil))))))
    (pss_one (ps_ret (pvQ v__law_count_2 rfl rfl))))), rd__law_count h⟩
theorem ok__law_told {f : Addr} {fd : FuncData} (D : Def K mg "_law_told" S__law_told ["_law_cards", "_law_sizes"] f fd) (B : Blt mg) {G : Errs} (T : ErrsOk4 P w K mg G) (m_ValueError : mg "ValueError" = none) (FX_deals_of : FnX P w K mg base 5 "deals_of" ["cards", "sizes"] (sx_deals_of K G)) : FnB P w K mg base 6 "_law_told" ["_law_cards", "_law_sizes"] (sp__law_told K) := by
  refine D.ok sc__law_told (fun vs H Q E h => len__law_told h) (fun cdv A outer s H vs Q E hr h => ?_)
  have hu := hr.units0
  have hux := hr.units64
  exact ⟨t__law_told K G, (pss_cons (ps_set (i := 2) sc__law_told.nd rfl (Or.inl rfl) pe_non)
    (pss_cons (ps_tryE (D := G.CardError) rfl rfl rfl (fun _ => rfl) rfl T.m_CardError sc__law_told.nd rfl rfl (fun E pn xe hx => (pss_cons (ps_set (i := 3) sc__law_told.nd rfl (Or.inl rfl) (pe_callX FX_deals_of (hr.mono (by decide)) hx (pac_Name (pvQ v__law_told_0 rfl rfl) (pac_Name (pvQ v__law_told_1 rfl rfl) pa_nil))))
    (pss_one (ps_set (i := 2) sc__law_told.nd rfl (Or.inl rfl) (pm_lst (pac_Call (pe_callB call_isi rfl B.isinstance boot_isinstance (pac_Name (pvQ v__law_told_3 rfl rfl) (pac_Name (pe_bltn (v := .ty "list") rfl B.list boot_list rfl) pa_nil))) (pac_Call (pe_callB call_len_seq rfl B.len boot_len (pac_Name (pvQ v__law_told_3 rfl rfl) pa_nil)) pa_nil))))))) (fun a C oe pn hc hm => (pss_cons (ps_set (i := 5) sc__law_told.nd rfl (Or.inl rfl) (pe_callB (call_isX hm hc) rfl B.isinstance boot_isinstance (pac_Name (pvQ v__law_told_4 rfl rfl) (pac_Tuple (pm_tup (pac_Name (pe_glob (v := .ref G.NoHand) rfl T.m_NoHand rfl) (pac_Name (pe_glob (v := .ref G.NoRow) rfl T.m_NoRow rfl) (pac_Name (pe_glob (v := .ref G.NoSaying) rfl T.m_NoSaying rfl) pa_nil)))) pa_nil))))
    (pss_one (ps_set (i := 2) sc__law_told.nd rfl (Or.inl rfl) (pm_lst (pac_Call (pe_callB (call_isX hm hc) rfl B.isinstance boot_isinstance (pac_Name (pvQ v__law_told_4 rfl rfl) (pac_Name (pe_glob (v := .ref G.NoPack) rfl T.m_NoPack rfl) pa_nil))) (pac_Call (pe_callB (call_isX hm hc) rfl B.isinstance boot_isinstance (pac_Name (pvQ v__law_told_4 rfl rfl) (pac_Name (pe_glob (v := .ref G.TooMany) rfl T.m_TooMany rfl) pa_nil))) (pac_Call (pe_callB (call_isX hm hc) rfl B.isinstance boot_isinstance (pac_Name (pvQ v__law_told_4 rfl rfl) (pac_Name (pe_bltn (v := .ty "ValueError") rfl m_ValueError boot_ValueError rfl) pa_nil))) (pac_Name (pvQ v__law_told_5 rfl rfl) pa_nil))))))))))
    (pss_one (ps_ret (pvQ v__law_told_2 rfl rfl))))), rd__law_told T.ok h⟩
theorem ok__law_spoiled {f : Addr} {fd : FuncData} (D : Def K mg "_law_spoiled" S__law_spoiled ["_law_script", "_law_cards", "_law_sizes"] f fd) (B : Blt mg) (F__law_cell : FnB P w K mg base 1 "_law_cell" ["_law_script", "_law_k"] (sp__law_cell K)) : FnB P w K mg base 2 "_law_spoiled" ["_law_script", "_law_cards", "_law_sizes"] (sp__law_spoiled K) := by
  refine D.ok sc__law_spoiled (fun vs H Q E h => len__law_spoiled h) (fun cdv A outer s H vs Q E hr h => ?_)
  have hu := hr.units0
  have hux := hr.units64
  exact ⟨t__law_spoiled K, (pss_cons (ps_set (i := 3) sc__law_spoiled.nd rfl (Or.inl rfl) (pe_callF F__law_cell (hr.mono (by decide)) (pac_Name (pvQ v__law_spoiled_0 rfl rfl) (pac_Constant pe_int pa_nil))))
    (pss_cons (ps_set (i := 4) sc__law_spoiled.nd rfl (Or.inl rfl) (pe_op op_mod (pe_op op_fdiv (pvQ v__law_spoiled_3 rfl rfl) pe_int) (pe_callB call_len_seq rfl B.len boot_len (pac_Name (pvQ v__law_spoiled_2 rfl rfl) pa_nil))))
    (pss_cons (ps_set (i := 5) sc__law_spoiled.nd rfl (Or.inl rfl) (pm_lst (pac_Tuple (pm_tup (pac_Name (pvQ v__law_spoiled_1 rfl rfl) (pac_BinOp (pe_op om_cat (pe_op om_cat (pe_slice sm_list (pvQ v__law_spoiled_2 rfl rfl) po_none (po_some (pvQ v__law_spoiled_4 rfl rfl))) (pm_lst (pac_BinOp (pe_op op_sub (pe_un un_neg pe_int) (pe_op op_mod (pe_op op_fdiv (pvQ v__law_spoiled_3 rfl rfl) pe_int) pe_int)) pa_nil))) (pe_slice sm_list (pvQ v__law_spoiled_2 rfl rfl) (po_some (pe_op op_add (pvQ v__law_spoiled_4 rfl rfl) pe_int)) po_none)) pa_nil))) (pac_Tuple (pm_tup (pac_Name (pvQ v__law_spoiled_1 rfl rfl) (pac_List (pm_lst pa_nil) pa_nil))) pa_nil))))
    (pss_cons (ps_set (i := 5) sc__law_spoiled.nd rfl (Or.inl rfl) (pe_op om_cat (pvQ v__law_spoiled_5 rfl rfl) (pm_lst (pac_Tuple (pm_tup (pac_Name (pvQ v__law_spoiled_1 rfl rfl) (pac_BinOp (pe_op om_cat (pe_op om_cat (pe_slice sm_list (pvQ v__law_spoiled_2 rfl rfl) po_none (po_some (pvQ v__law_spoiled_4 rfl rfl))) (pm_lst (pac_BinOp (pe_op op_add (pvQ v__law_spoiled_1 rfl rfl) pe_int) pa_nil))) (pe_slice sm_list (pvQ v__law_spoiled_2 rfl rfl) (po_some (pe_op op_add (pvQ v__law_spoiled_4 rfl rfl) pe_int)) po_none)) pa_nil))) (pac_Tuple (pm_tup (pac_Name (pvQ v__law_spoiled_1 rfl rfl) (pac_BinOp (pe_op om_cat (pvQ v__law_spoiled_2 rfl rfl) (pe_op om_rep (pm_lst (pac_Constant pe_int pa_nil)) (pe_op op_sub pe_int (pe_callB call_len_seq rfl B.len boot_len (pac_Name (pvQ v__law_spoiled_2 rfl rfl) pa_nil))))) pa_nil))) pa_nil)))))
    (pss_cons (ps_set (i := 5) sc__law_spoiled.nd rfl (Or.inl rfl) (pe_op om_cat (pvQ v__law_spoiled_5 rfl rfl) (pm_lst (pac_Tuple (pm_tup (pac_Subscript (pe_ix ix_list (pm_lst (pac_Constant pe_non (pac_Constant pe_str (pac_Constant pe_bl (pac_List (pm_lst (pac_Constant pe_int pa_nil)) (pac_Constant pe_int (pac_UnaryOp (pe_un un_neg pe_int) pa_nil))))))) (pe_op op_mod (pe_op op_fdiv (pvQ v__law_spoiled_3 rfl rfl) pe_int) pe_int) (fun _ _ => rfl)) (pac_Name (pvQ v__law_spoiled_2 rfl rfl) pa_nil))) pa_nil))))
    (pss_cons (ps_set (i := 5) sc__law_spoiled.nd rfl (Or.inl rfl) (pe_op om_cat (pvQ v__law_spoiled_5 rfl rfl) (pm_lst (pac_Tuple (pm_tup (pac_Name (pvQ v__law_spoiled_1 rfl rfl) (pac_Subscript (pe_ix ix_list (pm_lst (pac_Call (pe_callTy cm_tuple rfl B.tuple boot_tuple (pac_Name (pvQ v__law_spoiled_2 rfl rfl) pa_nil)) (pac_Constant pe_non (pac_Constant pe_int (pac_Constant pe_str pa_nil))))) (pe_op op_mod (pe_op op_fdiv (pvQ v__law_spoiled_3 rfl rfl) pe_int) pe_int) (fun _ _ => rfl)) pa_nil))) pa_nil))))
    (pss_cons (ps_set (i := 5) sc__law_spoiled.nd rfl (Or.inl rfl) (pe_op om_cat (pvQ v__law_spoiled_5 rfl rfl) (pm_lst (pac_Tuple (pm_tup (pac_Name (pvQ v__law_spoiled_1 rfl rfl) (pac_BinOp (pe_op om_cat (pe_op om_cat (pe_slice sm_list (pvQ v__law_spoiled_2 rfl rfl) po_none (po_some (pvQ v__law_spoiled_4 rfl rfl))) (pm_lst (pac_Subscript (pe_ix ix_list (pm_lst (pac_Constant pe_non (pac_Constant pe_str (pac_Constant pe_bl (pac_List (pm_lst (pac_Constant pe_int pa_nil)) pa_nil))))) (pe_op op_mod (pe_op op_fdiv (pvQ v__law_spoiled_3 rfl rfl) pe_int) pe_int) (fun _ _ => rfl)) pa_nil))) (pe_slice sm_list (pvQ v__law_spoiled_2 rfl rfl) (po_some (pe_op op_add (pvQ v__law_spoiled_4 rfl rfl) pe_int)) po_none)) pa_nil))) pa_nil))))
    (pss_one (ps_ret (pe_ix ix_list (pvQ v__law_spoiled_5 rfl rfl) (pe_op op_mod (pvQ v__law_spoiled_3 rfl rfl) pe_int) (fun _ _ => rfl))))))))))), rd__law_spoiled h⟩
theorem ok_law {f : Addr} {fd : FuncData} (D : Def K mg "law" S_law ["_law_script"] f fd) (B : Blt mg) (F__law_cell : FnB P w K mg base 1 "_law_cell" ["_law_script", "_law_k"] (sp__law_cell K)) (F__law_count : FnB P w K mg base 2 "_law_count" ["_law_cards", "_law_sizes"] (sp__law_count K)) (F__law_spoiled : FnB P w K mg base 2 "_law_spoiled" ["_law_script", "_law_cards", "_law_sizes"] (sp__law_spoiled K)) (F__law_told : FnB P w K mg base 6 "_law_told" ["_law_cards", "_law_sizes"] (sp__law_told K)) : FnOk P w K mg base CX0 7 f fd ["_law_script"] (spLaw K) := by
  refine D.fn.ok sc_law (fun vs H Q E h => len_law h) (fun cdv A outer s H vs Q E hr h => ?_)
  have hu := hr.units0
  have hux := hr.units64
  exact ⟨t_law K, (pss_cons (ps_set (i := 1) sc_law.nd rfl (Or.inl rfl) (pe_op op_add pe_int (pe_op op_mod (pe_callF F__law_cell (hr.mono (by decide)) (pac_Name (pvQ v_law_0 rfl rfl) (pac_Constant pe_int pa_nil))) pe_int)))
    (pss_cons (ps_set (i := 2) sc_law.nd rfl (Or.inl rfl) (pm_lst pa_nil))
    (pss_cons (ps_for PassesOwn.never rfl (pi_range1 rfl B.range (pac_BinOp (pe_op op_add pe_int (pe_op op_mod (pe_callF F__law_cell (hr.mono (by decide)) (pac_Name (pvQ v_law_0 rfl rfl) (pac_Constant pe_int pa_nil))) pe_int)) pa_nil)) (pg_name (i := 3) sc_law.nd rfl (Or.inl rfl)) (pss_cons (ps_set (i := 4) sc_law.nd rfl (Or.inl rfl) (pe_callB (call_min2 rfl) rfl B.min boot_min (pac_Subscript (pe_ix ix_list (pm_lst (pac_Constant pe_int (pac_Constant pe_int pa_nil))) (pe_op op_mod (pe_op op_fdiv (pe_callF F__law_cell (hr.mono (by decide)) (pac_Name (pvQ v_law_0 rfl rfl) (pac_Constant pe_int pa_nil))) pe_int) pe_int) (fun _ _ => rfl)) (pac_BinOp (pe_op op_sub (pvQ v_law_1 rfl rfl) (pe_callB (call_sumL rfl) rfl B.sum boot_sum (pac_Name (pvQ v_law_2 rfl rfl) pa_nil))) pa_nil))))
    (pss_one (ps_expr (pe_bm PySem.F.plainAttrs_list PySem.F.slot_list_append PySem.F.type_list_append mt_append (pvQ v_law_2 rfl rfl) (pac_BinOp (pe_op op_mod (pe_callF F__law_cell (hr.mono (by decide)) (pac_Name (pvQ v_law_0 rfl rfl) (pac_BinOp (pe_op op_add pe_int (pvQ v_law_3 rfl rfl)) pa_nil))) (pe_op op_add (pvQ v_law_4 rfl rfl) pe_int)) pa_nil))))))
    (pss_cons (ps_set (i := 5) sc_law.nd rfl (Or.inl rfl) (pm_lst (pac_Constant pe_bl (pac_Call (pe_callF F__law_count (hr.mono (by decide)) (pac_Name (pvQ v_law_1 rfl rfl) (pac_Name (pvQ v_law_2 rfl rfl) pa_nil))) pa_nil))))
    (pss_cons (ps_if (pt_cmpR op_gt (pe_ix ix_list (pvQ v_law_5 rfl rfl) pe_int (fun _ _ => rfl)) pe_int (nomark _)) (pss_one (ps_set (i := 5) sc_law.nd rfl (Or.inl rfl) (pm_lst (pac_Constant pe_bl (pac_Constant pe_bl (pac_Constant pe_bl (pac_Constant pe_bl pa_nil))))))) pss_nil)
    (pss_cons (ps_set (i := 6) sc_law.nd rfl (Or.inl rfl) (pe_callTy cm_list rfl B.list boot_list (pac_Name (pvQ v_law_2 rfl rfl) pa_nil)))
    (pss_cons (ps_if (PW.pt (pw_or (pt_cmpR (op_sameN hux) (pe_callF F__law_told (hr.mono (by decide)) (pac_Name (pvQ v_law_1 rfl rfl) (pac_Name (pvQ v_law_6 rfl rfl) pa_nil))) (pvQ v_law_5 rfl rfl) (nomark _)) (pw_or1 (pt_cmpR (op_sameN hux) (pvQ v_law_6 rfl rfl) (pvQ v_law_2 rfl rfl) (nomark _))))) (pss_one (ps_ret pe_bl)) pss_nil)
    (pss_cons (ps_asg (pe_callF F__law_spoiled (hr.mono (by decide)) (pac_Name (pvQ v_law_0 rfl rfl) (pac_Name (pvQ v_law_1 rfl rfl) (pac_Name (pvQ v_law_2 rfl rfl) pa_nil)))) (pg_tup rfl (pgs_cons (pg_name (i := 7) sc_law.nd rfl (Or.inl rfl)) (pgs_cons (pg_name (i := 8) sc_law.nd rfl (Or.inl rfl)) pgs_nil))))
    (pss_one (ps_ret (pe_and (pe_cmpR (op_sameE hux) (pe_callF F__law_told (hr.mono (by decide)) (pac_Name (pvQ v_law_7 rfl rfl) (pac_Name (pvQ v_law_8 rfl rfl) pa_nil))) (pm_lst (pac_Constant pe_bl (pac_Constant pe_bl (pac_Constant pe_bl (pac_Constant pe_bl pa_nil))))) (nomark _)) (pe_one (pe_cmpR (op_sameE hux) (pe_callF F__law_told (hr.mono (by decide)) (pac_Constant pe_int (pac_List (pm_lst (pac_Constant pe_int (pac_Constant pe_int pa_nil))) pa_nil))) (pm_lst (pac_Constant pe_bl (pac_Constant pe_int pa_nil))) (nomark _)))))))))))))), rd_law h⟩
theorem build (B : Blt mg) {f1 : Addr} {fd1 : FuncData} (D_is_whole : Def K mg "is_whole" S_is_whole ["thing"] f1 fd1) {f2 : Addr} {fd2 : FuncData} (D_is_within : Def K mg "is_within" S_is_within ["thing", "least", "most"] f2 fd2) {f3 : Addr} {fd3 : FuncData} (D_is_pack : Def K mg "is_pack" S_is_pack ["cards", "sizes"] f3 fd3) {f4 : Addr} {fd4 : FuncData} (D_how_many : Def K mg "how_many" S_how_many ["cards", "sizes"] f4 fd4) {f5 : Addr} {fd5 : FuncData} (D_choices : Def K mg "choices" S_choices ["many", "taken"] f5 fd5) {f6 : Addr} {fd6 : FuncData} (D_deals_of : Def K mg "deals_of" S_deals_of ["cards", "sizes"] f6 fd6) {f7 : Addr} {fd7 : FuncData} (D_with_one_more : Def K mg "with_one_more" S_with_one_more ["begun", "room"] f7 fd7) {f8 : Addr} {fd8 : FuncData} (D__law_cell : Def K mg "_law_cell" S__law_cell ["_law_script", "_law_k"] f8 fd8) {f9 : Addr} {fd9 : FuncData} (D__law_product : Def K mg "_law_product" S__law_product ["_law_many"] f9 fd9) {f10 : Addr} {fd10 : FuncData} (D__law_count : Def K mg "_law_count" S__law_count ["_law_cards", "_law_sizes"] f10 fd10) {f11 : Addr} {fd11 : FuncData} (D__law_told : Def K mg "_law_told" S__law_told ["_law_cards", "_law_sizes"] f11 fd11) {f12 : Addr} {fd12 : FuncData} (D__law_spoiled : Def K mg "_law_spoiled" S__law_spoiled ["_law_script", "_law_cards", "_law_sizes"] f12 fd12) {f13 : Addr} {fd13 : FuncData} (D_law : Def K mg "law" S_law ["_law_script"] f13 fd13) {G : Errs} (T : ErrsOk4 P w K mg G) {t_MOST_CARDS : Tok} (m_MOST_CARDS : mg "MOST_CARDS" = some (.int 12 t_MOST_CARDS)) {t_MOST_HANDS : Tok} (m_MOST_HANDS : mg "MOST_HANDS" = some (.int 5 t_MOST_HANDS)) {t_MOST_DEALS : Tok} (m_MOST_DEALS : mg "MOST_DEALS" = some (.int 2000 t_MOST_DEALS)) (m_ValueError : mg "ValueError" = none) : FnOk P w K mg base CX0 7 f13 fd13 ["_law_script"] (spLaw K) := by
  have F__law_cell : FnB P w K mg base 1 "_law_cell" ["_law_script", "_law_k"] (sp__law_cell K) := ok__law_cell D__law_cell B
  have F__law_product : FnB P w K mg base 1 "_law_product" ["_law_many"] (sp__law_product K) := ok__law_product D__law_product B
  have F__law_count : FnB P w K mg base 2 "_law_count" ["_law_cards", "_law_sizes"] (sp__law_count K) := ok__law_count D__law_count B F__law_product
  have F__law_spoiled : FnB P w K mg base 2 "_law_spoiled" ["_law_script", "_law_cards", "_law_sizes"] (sp__law_spoiled K) := ok__law_spoiled D__law_spoiled B F__law_cell
  have F_choices : FnB P w K mg base 1 "choices" ["many", "taken"] (sp_choices K) := ok_choices D_choices B
  have F_is_whole : FnB P w K mg base 1 "is_whole" ["thing"] (sp_is_whole K) := ok_is_whole D_is_whole B
  have F_is_within : FnB P w K mg base 2 "is_within" ["thing", "least", "most"] (sp_is_within K) := ok_is_within D_is_within B F_is_whole
  have F_is_pack : FnB P w K mg base 3 "is_pack" ["cards", "sizes"] (sp_is_pack K) := ok_is_pack D_is_pack B m_MOST_CARDS m_MOST_HANDS F_is_within
  have F_how_many : FnB P w K mg base 4 "how_many" ["cards", "sizes"] (sp_how_many K) := ok_how_many D_how_many B F_choices F_is_pack
  have F_with_one_more : FnB P w K mg base 1 "with_one_more" ["begun", "room"] (sp_with_one_more K) := ok_with_one_more D_with_one_more B
  have F_deals_of : FnB P w K mg base 5 "deals_of" ["cards", "sizes"] (sp_deals_of K) := ok_deals_of D_deals_of B m_MOST_DEALS F_how_many F_with_one_more
  have FX_how_many : FnX P w K mg base 4 "how_many" ["cards", "sizes"] (sx_how_many K G) := okx_how_many D_how_many B T F_choices F_is_pack
  have FX_deals_of : FnX P w K mg base 5 "deals_of" ["cards", "sizes"] (sx_deals_of K G) := okx_deals_of D_deals_of B T m_MOST_DEALS F_how_many F_with_one_more FX_how_many
  have F__law_told : FnB P w K mg base 6 "_law_told" ["_law_cards", "_law_sizes"] (sp__law_told K) := ok__law_told D__law_told B T m_ValueError FX_deals_of
  exact ok_law D_law B F__law_cell F__law_count F__law_spoiled F__law_told
end
@[elab_as_elim] theorem ofLen1 {α : Type} {P : List α → Prop} (us : List α) (hl : us.length = 1) (h : ∀ a0 : α, P [a0]) : P us := match us, hl with | [a0], _ => h a0
@[elab_as_elim] theorem ofLen2 {α : Type} {P : List α → Prop} (us : List α) (hl : us.length = 2) (h : ∀ a0 a1 : α, P [a0, a1]) : P us := match us, hl with | [a0, a1], _ => h a0 a1
@[elab_as_elim] theorem ofLen3 {α : Type} {P : List α → Prop} (us : List α) (hl : us.length = 3) (h : ∀ a0 a1 a2 : α, P [a0, a1, a2]) : P us := match us, hl with | [a0, a1, a2], _ => h a0 a1 a2
theorem all_mk {l : PySem.W.OpenLaw} {w : World} {K : PySem.W.Frag} {h : Heap} {mg : Str → Option Value} {fa f1 f2 f3 f4 f5 f6 f7 f8 f9 f10 f11 f12 f13 : Addr} (X : K.In h) (G : h.Ns mainGlobals mg) (hfa : mg "law" = some (.ref fa))
    {od1 an1 od2 an2 od3 an3 od4 an4 od5 an5 od6 an6 od7 an7 od8 an8 od9 an9 od10 an10 od11 an11 od12 an12 od13 an13 : Option Addr} {sl1 sl2 sl3 sl4 sl5 sl6 sl7 sl8 sl9 sl10 sl11 sl12 sl13 : Array (Option Value)} {oc1 kV1 dc1 pm1 cd1 ct1 oc2 kV2 dc2 pm2 cd2 ct2 oc3 kV3 dc3 pm3 cd3 ct3 oc4 kV4 dc4 pm4 cd4 ct4 oc5 kV5 dc5 pm5 cd5 ct5 oc6 kV6 dc6 pm6 cd6 ct6 oc7 kV7 dc7 pm7 cd7 ct7 oc8 kV8 dc8 pm8 cd8 ct8 oc9 kV9 dc9 pm9 cd9 ct9 oc10 kV10 dc10 pm10 cd10 ct10 oc11 kV11 dc11 pm11 cd11 ct11 oc12 kV12 dc12 pm12 cd12 ct12 oc13 kV13 dc13 pm13 cd13 ct13 : Value} {t_MOST_CARDS : Tok}  {t_MOST_HANDS : Tok}  {t_MOST_DEALS : Tok}   {er1 er2 er3 er4 er5 er6 : Addr} {erc2 erc3 : Value} {erd2 erd3 : Option Addr} {ercd2 ercd3 : ClassData} {ersl2 ersl3 : Array (Option Value)}
    (a1 : PySem.W.nsIn K mainGlobals "is_whole" = some (some (.ref f1))) (l1 : K.lookup f1 = some ⟨oc1, od1, .func (PySem.W.fnOf "is_whole" "is_whole" (defArgs S_is_whole) (defBody S_is_whole) (defScope S_is_whole) .none kV1 dc1 pm1 an1 cd1 ct1), sl1⟩) (c1 : PySem.W.codeIn K cd1 "is_whole" = true) (k1 : PySem.W.keepIn K (.ref f1) = true)
    (a2 : PySem.W.nsIn K mainGlobals "is_within" = some (some (.ref f2))) (l2 : K.lookup f2 = some ⟨oc2, od2, .func (PySem.W.fnOf "is_within" "is_within" (defArgs S_is_within) (defBody S_is_within) (defScope S_is_within) .none kV2 dc2 pm2 an2 cd2 ct2), sl2⟩) (c2 : PySem.W.codeIn K cd2 "is_within" = true) (k2 : PySem.W.keepIn K (.ref f2) = true)
    (a3 : PySem.W.nsIn K mainGlobals "is_pack" = some (some (.ref f3))) (l3 : K.lookup f3 = some ⟨oc3, od3, .func (PySem.W.fnOf "is_pack" "is_pack" (defArgs S_is_pack) (defBody S_is_pack) (defScope S_is_pack) .none kV3 dc3 pm3 an3 cd3 ct3), sl3⟩) (c3 : PySem.W.codeIn K cd3 "is_pack" = true) (k3 : PySem.W.keepIn K (.ref f3) = true)
    (a4 : PySem.W.nsIn K mainGlobals "how_many" = some (some (.ref f4))) (l4 : K.lookup f4 = some ⟨oc4, od4, .func (PySem.W.fnOf "how_many" "how_many" (defArgs S_how_many) (defBody S_how_many) (defScope S_how_many) .none kV4 dc4 pm4 an4 cd4 ct4), sl4⟩) (c4 : PySem.W.codeIn K cd4 "how_many" = true) (k4 : PySem.W.keepIn K (.ref f4) = true)
    (a5 : PySem.W.nsIn K mainGlobals "choices" = some (some (.ref f5))) (l5 : K.lookup f5 = some ⟨oc5, od5, .func (PySem.W.fnOf "choices" "choices" (defArgs S_choices) (defBody S_choices) (defScope S_choices) .none kV5 dc5 pm5 an5 cd5 ct5), sl5⟩) (c5 : PySem.W.codeIn K cd5 "choices" = true) (k5 : PySem.W.keepIn K (.ref f5) = true)
    (a6 : PySem.W.nsIn K mainGlobals "deals_of" = some (some (.ref f6))) (l6 : K.lookup f6 = some ⟨oc6, od6, .func (PySem.W.fnOf "deals_of" "deals_of" (defArgs S_deals_of) (defBody S_deals_of) (defScope S_deals_of) .none kV6 dc6 pm6 an6 cd6 ct6), sl6⟩) (c6 : PySem.W.codeIn K cd6 "deals_of" = true) (k6 : PySem.W.keepIn K (.ref f6) = true)
    (a7 : PySem.W.nsIn K mainGlobals "with_one_more" = some (some (.ref f7))) (l7 : K.lookup f7 = some ⟨oc7, od7, .func (PySem.W.fnOf "with_one_more" "with_one_more" (defArgs S_with_one_more) (defBody S_with_one_more) (defScope S_with_one_more) .none kV7 dc7 pm7 an7 cd7 ct7), sl7⟩) (c7 : PySem.W.codeIn K cd7 "with_one_more" = true) (k7 : PySem.W.keepIn K (.ref f7) = true)
    (a8 : PySem.W.nsIn K mainGlobals "_law_cell" = some (some (.ref f8))) (l8 : K.lookup f8 = some ⟨oc8, od8, .func (PySem.W.fnOf "_law_cell" "_law_cell" (defArgs S__law_cell) (defBody S__law_cell) (defScope S__law_cell) .none kV8 dc8 pm8 an8 cd8 ct8), sl8⟩) (c8 : PySem.W.codeIn K cd8 "_law_cell" = true) (k8 : PySem.W.keepIn K (.ref f8) = true)
    (a9 : PySem.W.nsIn K mainGlobals "_law_product" = some (some (.ref f9))) (l9 : K.lookup f9 = some ⟨oc9, od9, .func (PySem.W.fnOf "_law_product" "_law_product" (defArgs S__law_product) (defBody S__law_product) (defScope S__law_product) .none kV9 dc9 pm9 an9 cd9 ct9), sl9⟩) (c9 : PySem.W.codeIn K cd9 "_law_product" = true) (k9 : PySem.W.keepIn K (.ref f9) = true)
    (a10 : PySem.W.nsIn K mainGlobals "_law_count" = some (some (.ref f10))) (l10 : K.lookup f10 = some ⟨oc10, od10, .func (PySem.W.fnOf "_law_count" "_law_count" (defArgs S__law_count) (defBody S__law_count) (defScope S__law_count) .none kV10 dc10 pm10 an10 cd10 ct10), sl10⟩) (c10 : PySem.W.codeIn K cd10 "_law_count" = true) (k10 : PySem.W.keepIn K (.ref f10) = true)
    (a11 : PySem.W.nsIn K mainGlobals "_law_told" = some (some (.ref f11))) (l11 : K.lookup f11 = some ⟨oc11, od11, .func (PySem.W.fnOf "_law_told" "_law_told" (defArgs S__law_told) (defBody S__law_told) (defScope S__law_told) .none kV11 dc11 pm11 an11 cd11 ct11), sl11⟩) (c11 : PySem.W.codeIn K cd11 "_law_told" = true) (k11 : PySem.W.keepIn K (.ref f11) = true)
    (a12 : PySem.W.nsIn K mainGlobals "_law_spoiled" = some (some (.ref f12))) (l12 : K.lookup f12 = some ⟨oc12, od12, .func (PySem.W.fnOf "_law_spoiled" "_law_spoiled" (defArgs S__law_spoiled) (defBody S__law_spoiled) (defScope S__law_spoiled) .none kV12 dc12 pm12 an12 cd12 ct12), sl12⟩) (c12 : PySem.W.codeIn K cd12 "_law_spoiled" = true) (k12 : PySem.W.keepIn K (.ref f12) = true)
    (a13 : PySem.W.nsIn K mainGlobals "law" = some (some (.ref f13))) (l13 : K.lookup f13 = some ⟨oc13, od13, .func (PySem.W.fnOf "law" "law" (defArgs S_law) (defBody S_law) (defScope S_law) .none kV13 dc13 pm13 an13 cd13 ct13), sl13⟩) (c13 : PySem.W.codeIn K cd13 "law" = true) (k13 : PySem.W.keepIn K (.ref f13) = true)
    (y1 : PySem.W.nsIn K mainGlobals "MOST_CARDS" = some (some (.int 12 t_MOST_CARDS)))
    (y2 : PySem.W.nsIn K mainGlobals "MOST_HANDS" = some (some (.int 5 t_MOST_HANDS)))
    (y3 : PySem.W.nsIn K mainGlobals "MOST_DEALS" = some (some (.int 2000 t_MOST_DEALS)))
    (y4 : PySem.W.nsIn K mainGlobals "ValueError" = some none)
    (x1 : PySem.W.nsIn K mainGlobals "CardError" = some (some (.ref er1)))
    (x2 : PySem.W.nsIn K mainGlobals "NoPack" = some (some (.ref er2)))
    (x3 : PySem.W.nsIn K mainGlobals "TooMany" = some (some (.ref er3)))
    (x4 : PySem.W.nsIn K mainGlobals "NoHand" = some (some (.ref er4)))
    (x5 : PySem.W.nsIn K mainGlobals "NoRow" = some (some (.ref er5)))
    (x6 : PySem.W.nsIn K mainGlobals "NoSaying" = some (some (.ref er6)))
    (x7 : PySem.W.excIn K er2 [.type "ValueError", .type "Exception", .type "BaseException", .type "object"] "ValueError.__new__" = true)
    (x8 : PySem.W.exmOne K (.ref er2) (.ref er1) = some true)
    (x9 : PySem.W.findIn K (.ref er2) "__getattribute__" = some (some (.builtin "BaseException.__getattribute__")))
    (x10 : PySem.W.findIn K (.ref er2) "__getattr__" = some none)
    (x11 : PySem.W.findIn K (.ref er2) "__class__" = some (some (.builtin "object.__class__")))
    (x12 : PySem.W.mroIn K er2 (.type "object") = some true)
    (x13 : PySem.W.mroIn K er2 (.type "BaseException") = some true)
    (x14 : K.lookup er2 = some ⟨erc2, erd2, .cls ercd2, ersl2⟩)
    (x15 : PySem.W.kitOne K (.ref er2) (.ref er2) = some true)
    (x16 : PySem.W.kitOne K (.ref er2) (.ref er3) = some false)
    (x17 : PySem.W.kitOne K (.ref er2) (.type "ValueError") = some true)
    (x18 : PySem.W.kitAny K (.ref er2) [.ref er4, .ref er5, .ref er6] = some false)
    (x19 : PySem.W.excIn K er3 [.type "ValueError", .type "Exception", .type "BaseException", .type "object"] "ValueError.__new__" = true)
    (x20 : PySem.W.exmOne K (.ref er3) (.ref er1) = some true)
    (x21 : PySem.W.findIn K (.ref er3) "__getattribute__" = some (some (.builtin "BaseException.__getattribute__")))
    (x22 : PySem.W.findIn K (.ref er3) "__getattr__" = some none)
    (x23 : PySem.W.findIn K (.ref er3) "__class__" = some (some (.builtin "object.__class__")))
    (x24 : PySem.W.mroIn K er3 (.type "object") = some true)
    (x25 : PySem.W.mroIn K er3 (.type "BaseException") = some true)
    (x26 : K.lookup er3 = some ⟨erc3, erd3, .cls ercd3, ersl3⟩)
    (x27 : PySem.W.kitOne K (.ref er3) (.ref er2) = some false)
    (x28 : PySem.W.kitOne K (.ref er3) (.ref er3) = some true)
    (x29 : PySem.W.kitOne K (.ref er3) (.type "ValueError") = some true)
    (x30 : PySem.W.kitAny K (.ref er3) [.ref er4, .ref er5, .ref er6] = some false)
    (z1 : PySem.W.nsIn K mainGlobals "len" = some none) (z2 : PySem.W.nsIn K mainGlobals "range" = some none) (z3 : PySem.W.nsIn K mainGlobals "tuple" = some none) (z4 : PySem.W.nsIn K mainGlobals "list" = some none) (z5 : PySem.W.nsIn K mainGlobals "int" = some none) (z6 : PySem.W.nsIn K mainGlobals "bool" = some none) (z7 : PySem.W.nsIn K mainGlobals "str" = some none) (z8 : PySem.W.nsIn K mainGlobals "dict" = some none) (z9 : PySem.W.nsIn K mainGlobals "sum" = some none) (z10 : PySem.W.nsIn K mainGlobals "all" = some none) (z11 : PySem.W.nsIn K mainGlobals "min" = some none) (z12 : PySem.W.nsIn K mainGlobals "max" = some none) (z13 : PySem.W.nsIn K mainGlobals "sorted" = some none) (z14 : PySem.W.nsIn K mainGlobals "enumerate" = some none) (z15 : PySem.W.nsIn K mainGlobals "zip" = some none) (z16 : PySem.W.nsIn K mainGlobals "isinstance" = some none) :
    ∃ fd : FuncData, (∀ (s : Shared) (v : Value), BindsTo s fd ⟨[v], []⟩ [("_law_script", v)]) ∧ ∀ base : Heap, K.In base → base.Ns mainGlobals mg → FnOk l.prog w K mg base CX0 7 fa fd ["_law_script"] (spLaw K) := by
  have e := hfa.symm.trans (PySem.W.mg_of X G a13)
  cases e
  have B : Blt mg := ⟨PySem.W.mg_none_of X G z1, PySem.W.mg_none_of X G z2, PySem.W.mg_none_of X G z3, PySem.W.mg_none_of X G z4, PySem.W.mg_none_of X G z5, PySem.W.mg_none_of X G z6, PySem.W.mg_none_of X G z7, PySem.W.mg_none_of X G z8, PySem.W.mg_none_of X G z9, PySem.W.mg_none_of X G z10, PySem.W.mg_none_of X G z11, PySem.W.mg_none_of X G z12, PySem.W.mg_none_of X G z13, PySem.W.mg_none_of X G z14, PySem.W.mg_none_of X G z15, PySem.W.mg_none_of X G z16⟩
  have F1 := fun_mk (st := S_is_whole) l1 c1 k1
  have D1 : Def K mg "is_whole" S_is_whole ["thing"] _ _ := ⟨F1, PySem.W.mg_of X G a1, F1.binds (ps := ["thing"]) fun _ _ _ _ _ _ us hl => ofLen1 us hl fun _ => rfl⟩
  have F2 := fun_mk (st := S_is_within) l2 c2 k2
  have D2 : Def K mg "is_within" S_is_within ["thing", "least", "most"] _ _ := ⟨F2, PySem.W.mg_of X G a2, F2.binds (ps := ["thing", "least", "most"]) fun _ _ _ _ _ _ us hl => ofLen3 us hl fun _ _ _ => rfl⟩
  have F3 := fun_mk (st := S_is_pack) l3 c3 k3
  have D3 : Def K mg "is_pack" S_is_pack ["cards", "sizes"] _ _ := ⟨F3, PySem.W.mg_of X G a3, F3.binds (ps := ["cards", "sizes"]) fun _ _ _ _ _ _ us hl => ofLen2 us hl fun _ _ => rfl⟩
  have F4 := fun_mk (st := S_how_many) l4 c4 k4
  have D4 : Def K mg "how_many" S_how_many ["cards", "sizes"] _ _ := ⟨F4, PySem.W.mg_of X G a4, F4.binds (ps := ["cards", "sizes"]) fun _ _ _ _ _ _ us hl => ofLen2 us hl fun _ _ => rfl⟩
  have F5 := fun_mk (st := S_choices) l5 c5 k5
  have D5 : Def K mg "choices" S_choices ["many", "taken"] _ _ := ⟨F5, PySem.W.mg_of X G a5, F5.binds (ps := ["many", "taken"]) fun _ _ _ _ _ _ us hl => ofLen2 us hl fun _ _ => rfl⟩
  have F6 := fun_mk (st := S_deals_of) l6 c6 k6
  have D6 : Def K mg "deals_of" S_deals_of ["cards", "sizes"] _ _ := ⟨F6, PySem.W.mg_of X G a6, F6.binds (ps := ["cards", "sizes"]) fun _ _ _ _ _ _ us hl => ofLen2 us hl fun _ _ => rfl⟩
  have F7 := fun_mk (st := S_with_one_more) l7 c7 k7
  have D7 : Def K mg "with_one_more" S_with_one_more ["begun", "room"] _ _ := ⟨F7, PySem.W.mg_of X G a7, F7.binds (ps := ["begun", "room"]) fun _ _ _ _ _ _ us hl => ofLen2 us hl fun _ _ => rfl⟩
  have F8 := fun_mk (st := S__law_cell) l8 c8 k8
  have D8 : Def K mg "_law_cell" S__law_cell ["_law_script", "_law_k"] _ _ := ⟨F8, PySem.W.mg_of X G a8, F8.binds (ps := ["_law_script", "_law_k"]) fun _ _ _ _ _ _ us hl => ofLen2 us hl fun _ _ => rfl⟩
  have F9 := fun_mk (st := S__law_product) l9 c9 k9
  have D9 : Def K mg "_law_product" S__law_product ["_law_many"] _ _ := ⟨F9, PySem.W.mg_of X G a9, F9.binds (ps := ["_law_many"]) fun _ _ _ _ _ _ us hl => ofLen1 us hl fun _ => rfl⟩
  have F10 := fun_mk (st := S__law_count) l10 c10 k10
  have D10 : Def K mg "_law_count" S__law_count ["_law_cards", "_law_sizes"] _ _ := ⟨F10, PySem.W.mg_of X G a10, F10.binds (ps := ["_law_cards", "_law_sizes"]) fun _ _ _ _ _ _ us hl => ofLen2 us hl fun _ _ => rfl⟩
  have F11 := fun_mk (st := S__law_told) l11 c11 k11
  have D11 : Def K mg "_law_told" S__law_told ["_law_cards", "_law_sizes"] _ _ := ⟨F11, PySem.W.mg_of X G a11, F11.binds (ps := ["_law_cards", "_law_sizes"]) fun _ _ _ _ _ _ us hl => ofLen2 us hl fun _ _ => rfl⟩
  have F12 := fun_mk (st := S__law_spoiled) l12 c12 k12
  have D12 : Def K mg "_law_spoiled" S__law_spoiled ["_law_script", "_law_cards", "_law_sizes"] _ _ := ⟨F12, PySem.W.mg_of X G a12, F12.binds (ps := ["_law_script", "_law_cards", "_law_sizes"]) fun _ _ _ _ _ _ us hl => ofLen3 us hl fun _ _ _ => rfl⟩
  have F13 := fun_mk (st := S_law) l13 c13 k13
  have D13 : Def K mg "law" S_law ["_law_script"] _ _ := ⟨F13, PySem.W.mg_of X G a13, F13.binds (ps := ["_law_script"]) fun _ _ _ _ _ _ us hl => ofLen1 us hl fun _ => rfl⟩
  refine ⟨PySem.W.fnOf "law" "law" (defArgs S_law) (defBody S_law) (defScope S_law) .none kV13 dc13 pm13 an13 cd13 ct13, fun s v => .of_eq rfl, fun base _ _ => ?_⟩
  have T : ErrsOk4 l.prog w K mg _ := errs4_mk (PySem.W.mg_of X G x1) (PySem.W.mg_of X G x2) (PySem.W.mg_of X G x3) (PySem.W.mg_of X G x4) (PySem.W.mg_of X G x5) (PySem.W.mg_of X G x6) x7 x8 x9 x10 x11 x12 x13 x14 x15 x16 x17 x18 x19 x20 x21 x22 x23 x24 x25 x26 x27 x28 x29 x30
  exact build B D1 D2 D3 D4 D5 D6 D7 D8 D9 D10 D11 D12 D13 T (PySem.W.mg_of X G y1) (PySem.W.mg_of X G y2) (PySem.W.mg_of X G y3) (PySem.W.mg_none_of X G y4)
end Kc_k04
open PySem PySem.W PyProof.Rows
set_option maxRecDepth 100000 in
set_option maxHeartbeats 0 in
theorem PySem.Challenge.cw_knowcards_k04_deals_refused_holds : PySem.Challenge.rw_knowcards_k04_deals_refused.Holds := by
  w_on; o_law; k_head; (case hw => w_witness2)
  k_fill
  refine L2.walk_ofB (l := PySem.Challenge.rw_knowcards_k04_deals_refused) (k := 7) (x := "_law_script") rfl rfl ⟨rfl, by decide, by decide⟩ (fun w h Y => PySem.W.kIn_of Y) ?F
  case F =>
    intro w mg fa h KX G hmg
    refine' Kc_k04.all_mk KX G hmg ?a1 ?l1 ?c1 ?k1 ?a2 ?l2 ?c2 ?k2 ?a3 ?l3 ?c3 ?k3 ?a4 ?l4 ?c4 ?k4 ?a5 ?l5 ?c5 ?k5 ?a6 ?l6 ?c6 ?k6 ?a7 ?l7 ?c7 ?k7 ?a8 ?l8 ?c8 ?k8 ?a9 ?l9 ?c9 ?k9 ?a10 ?l10 ?c10 ?k10 ?a11 ?l11 ?c11 ?k11 ?a12 ?l12 ?c12 ?k12 ?a13 ?l13 ?c13 ?k13 ?y1 ?y2 ?y3 ?y4 ?x1 ?x2 ?x3 ?x4 ?x5 ?x6 ?x7 ?x8 ?x9 ?x10 ?x11 ?x12 ?x13 ?x14 ?x15 ?x16 ?x17 ?x18 ?x19 ?x20 ?x21 ?x22 ?x23 ?x24 ?x25 ?x26 ?x27 ?x28 ?x29 ?x30 ?z1 ?z2 ?z3 ?z4 ?z5 ?z6 ?z7 ?z8 ?z9 ?z10 ?z11 ?z12 ?z13 ?z14 ?z15 ?z16
    (case a1 => k_is); (case l1 => k_is); (case c1 => k_is); (case k1 => k_is)
    (case a2 => k_is); (case l2 => k_is); (case c2 => k_is); (case k2 => k_is)
    (case a3 => k_is); (case l3 => k_is); (case c3 => k_is); (case k3 => k_is)
    (case a4 => k_is); (case l4 => k_is); (case c4 => k_is); (case k4 => k_is)
    (case a5 => k_is); (case l5 => k_is); (case c5 => k_is); (case k5 => k_is)
    (case a6 => k_is); (case l6 => k_is); (case c6 => k_is); (case k6 => k_is)
    (case a7 => k_is); (case l7 => k_is); (case c7 => k_is); (case k7 => k_is)
    (case a8 => k_is); (case l8 => k_is); (case c8 => k_is); (case k8 => k_is)
    (case a9 => k_is); (case l9 => k_is); (case c9 => k_is); (case k9 => k_is)
    (case a10 => k_is); (case l10 => k_is); (case c10 => k_is); (case k10 => k_is)
    (case a11 => k_is); (case l11 => k_is); (case c11 => k_is); (case k11 => k_is)
    (case a12 => k_is); (case l12 => k_is); (case c12 => k_is); (case k12 => k_is)
    (case a13 => k_is); (case l13 => k_is); (case c13 => k_is); (case k13 => k_is)
    (case y1 => k_is)
    (case y2 => k_is)
    (case y3 => k_is)
    (case y4 => k_is)
    (case x1 => k_is)
    (case x2 => k_is)
    (case x3 => k_is)
    (case x4 => k_is)
    (case x5 => k_is)
    (case x6 => k_is)
    (case x7 => first | kernel_rfl | rfl | decide +kernel)
    (case x8 => first | kernel_rfl | rfl | decide +kernel)
    (case x9 => k_is)
    (case x10 => k_is)
    (case x11 => k_is)
    (case x12 => k_is)
    (case x13 => k_is)
    (case x14 => k_is)
    (case x15 => first | kernel_rfl | rfl | decide +kernel)
    (case x16 => first | kernel_rfl | rfl | decide +kernel)
    (case x17 => first | kernel_rfl | rfl | decide +kernel)
    (case x18 => first | kernel_rfl | rfl | decide +kernel)
    (case x19 => first | kernel_rfl | rfl | decide +kernel)
    (case x20 => first | kernel_rfl | rfl | decide +kernel)
    (case x21 => k_is)
    (case x22 => k_is)
    (case x23 => k_is)
    (case x24 => k_is)
    (case x25 => k_is)
    (case x26 => k_is)
    (case x27 => first | kernel_rfl | rfl | decide +kernel)
    (case x28 => first | kernel_rfl | rfl | decide +kernel)
    (case x29 => first | kernel_rfl | rfl | decide +kernel)
    (case x30 => first | kernel_rfl | rfl | decide +kernel)
    (case z1 => k_is); (case z2 => k_is); (case z3 => k_is); (case z4 => k_is); (case z5 => k_is); (case z6 => k_is); (case z7 => k_is); (case z8 => k_is); (case z9 => k_is); (case z10 => k_is); (case z11 => k_is); (case z12 => k_is); (case z13 => k_is); (case z14 => k_is); (case z15 => k_is); (case z16 => k_is)
