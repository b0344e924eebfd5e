import PyProof.Rows.All
import Wide.All
import OpenK.AllK
import Wide.FinOn
import Lean
import PyProof.EqAt
import PyProof.EqKinds
import PyProof.TupleCall
import PyProof.NeKinds
import PyProof.SumWalkG
import PyProof.ConsumeWalk
import KE.IntBitsLaws
import PyProof.ZipIter
import PyProof.DictWalks
import KE.KDictList
import PyProof.Rows.SortRuns
import KE.KSortTup
import PyProof.ListMulRoad
import PyProof.Rows.SetFrom
import PyProof.Rows.CallKwBuiltin
import PyProof.Rows.SeqMore
import PyProof.WalkInts
import KE.KMinBuiltin
import PyProof.Rows.EqDataRows
import KE.KRevSl
import PyProof.Rows.SortShell
import KE.KDictLaws
import PyProof.ListRange
import KE.KEqDict
import PySem.Challenge.RW_knowcards_k53_what_is_a_code
set_option compiler.extract_closed false
section
-- KcLayer
-- CHANGE: your row's module here, as the last of these rows
set_option Elab.async false
set_option linter.all false
set_option maxRecDepth 100000
/-! THE HAND LAYER, for ints, bools, texts, own classes, LISTS and tuples (index, slices, in, append, pop ..), calls, loops. Paste it whole ahead of your own text; what your proof does not reach may be deleted. -/
namespace L2
open PySem PySem.Spec PyProof.Rows

noncomputable abbrev Key := Sum Int Str
noncomputable def keyIs : Key → Value → Bool
  | .inl k, v => Value.isInt k v
  | .inr x, v => Value.isStrOf x v
noncomputable def keyH (w : World) : Key → Int
  | .inl k => hashInt k
  | .inr x => hashStr w x
theorem keyIs_shape : ∀ {k : Key} {v : Value}, keyIs k v = true → (∃ i t, k = Sum.inl i ∧ v = Value.int i t) ∨ (∃ x t, k = Sum.inr x ∧ v = Value.str x t)
  | .inl i, v, h => by
    obtain ⟨t, e⟩ := Value.isInt_shape (k := i) (v := v) h
    exact .inl ⟨i, t, rfl, e⟩
  | .inr x, v, h => by
    obtain ⟨t, e⟩ := Value.isStrOf_shape (x := x) (v := v) h
    exact .inr ⟨x, t, rfl, e⟩
theorem key_ll (a b : Int) : decide ((Sum.inl a : Key) = Sum.inl b) = (a == b) := by
  by_cases e : a = b
  · subst e; simp
  · have h : ¬ (Sum.inl a : Key) = Sum.inl b := fun q => e (Sum.inl.inj q)
    rw [decide_eq_false h]
    exact (beq_eq_false_iff_ne.mpr e).symm
theorem key_rr (a b : Str) : decide ((Sum.inr a : Key) = Sum.inr b) = decide (a = b) := by
  by_cases e : a = b
  · subst e; simp
  · have h : ¬ (Sum.inr a : Key) = Sum.inr b := fun q => e (Sum.inr.inj q)
    rw [decide_eq_false h, decide_eq_false e]
theorem key_lr (a : Int) (b : Str) : decide ((Sum.inl a : Key) = Sum.inr b) = false := decide_eq_false (fun q => nomatch q)
theorem key_rl (a : Str) (b : Int) : decide ((Sum.inr a : Key) = Sum.inl b) = false := decide_eq_false (fun q => nomatch q)

noncomputable def mixKind (prog : Program) (w : World) : PySem.KeyKind prog w Key where
  is := keyIs
  hash := keyH w
  inj := fun v a b ha hb => by
    rcases keyIs_shape ha with ⟨i, t, rfl, rfl⟩ | ⟨x, t, rfl, rfl⟩
    · rcases keyIs_shape hb with ⟨j, u, rfl, e⟩ | ⟨y, u, rfl, e⟩
      · injection e with e1 _; rw [e1]
      · exact nomatch e
    · rcases keyIs_shape hb with ⟨j, u, rfl, e⟩ | ⟨y, u, rfl, e⟩
      · exact nomatch e
      · injection e with e1 _; rw [e1]
  byValue := fun k v h => by
    rcases keyIs_shape h with ⟨i, t, rfl, rfl⟩ | ⟨x, t, rfl, rfl⟩ <;> rfl
  pyHash := fun hv h => by
    rcases keyIs_shape hv with ⟨i, t, rfl, rfl⟩ | ⟨x, t, rfl, rfl⟩
    · exact wpAny_pyHash_int h
    · exact wpAny_pyHash_str h
  eqBool := fun hu hv h => by
    rcases keyIs_shape hu with ⟨i, t, rfl, rfl⟩ | ⟨x, t, rfl, rfl⟩
    · rcases keyIs_shape hv with ⟨j, u, rfl, rfl⟩ | ⟨y, u, rfl, rfl⟩
      · rw [key_ll] at h; exact wpAny_eqBool_int h
      · rw [key_lr] at h; exact SeqAt.EqAt.int_str i t y u _ _ _ _ h
    · rcases keyIs_shape hv with ⟨j, u, rfl, rfl⟩ | ⟨y, u, rfl, rfl⟩
      · rw [key_rl] at h; exact SeqAt.EqAt.str_int x t j u _ _ _ _ h
      · rw [key_rr] at h; exact wpAny_eqBool_str h
  «strs» := fun k x t v h => by
    rcases keyIs_shape h with ⟨i, u, rfl, e⟩ | ⟨y, u, rfl, e⟩
    · exact nomatch e
    · injection e with e1 _
      subst e1
      cases v <;> rfl

end L2

namespace L2
open PySem PySem.Spec PyProof.Rows

inductive V where
  | non | bl (b : Bool) | int (i : Int) | str (x : Str) | byt (b : Array UInt8) | flt (b : UInt64) | ref (a : Addr) | ty (n : String)
  deriving DecidableEq

noncomputable def RelV : V → Value → Prop
  | .non, u => u = Value.none
  | .bl b, u => u = Value.bool b
  | .int i, u => ∃ t, u = Value.int i t
  | .str x, u => ∃ t, u = Value.str x t
  | .byt b, u => ∃ t, u = Value.bytes b t
  | .flt b, u => ∃ t, u = Value.float b t
  | .ref a, u => u = Value.ref a
  | .ty n, u => u = Value.type n

noncomputable abbrev Vals : List V → List Value → Prop := Paired RelV
theorem Vals.length {xs : List V} {us : List Value} (r : Vals xs us) : xs.length = us.length := Paired.length r
theorem Vals.get : ∀ {xs : List V} {us : List Value} {i : Nat} {x : V}, Vals xs us → xs[i]? = some x → ∃ u, us[i]? = some u ∧ RelV x u
  | _, _, _, _, .nil, e => by simp at e
  | _, _, 0, _, .cons r _, e => by simp at e; subst e; exact ⟨_, rfl, r⟩
  | _, _, i + 1, x, .cons _ t, e => by
    obtain ⟨u, h1, h2⟩ := Vals.get (i := i) (x := x) t (by simpa using e)
    exact ⟨u, by simpa using h1, h2⟩
theorem Vals.set {x : V} {u : Value} (r : RelV x u) : ∀ {xs : List V} {us : List Value} (i : Nat), Vals xs us → Vals (xs.set i x) (us.set i u)
  | _, _, _, .nil => .nil
  | _, _, 0, .cons _ t => .cons r t
  | _, _, i + 1, .cons q t => .cons q (Vals.set r i t)
theorem Vals.append : ∀ {xs ys : List V} {us ws : List Value}, Vals xs us → Vals ys ws → Vals (xs ++ ys) (us ++ ws)
  | _, _, _, _, .nil, s => s
  | _, _, _, _, .cons r t, s => .cons r (Vals.append t s)
theorem Vals.take : ∀ {xs : List V} {us : List Value} (n : Nat), Vals xs us → Vals (xs.take n) (us.take n)
  | _, _, 0, _ => .nil
  | _, _, _ + 1, .nil => .nil
  | _, _, n + 1, .cons r t => .cons r (Vals.take n t)
theorem Vals.drop : ∀ {xs : List V} {us : List Value} (n : Nat), Vals xs us → Vals (xs.drop n) (us.drop n)
  | _, _, 0, r => r
  | _, _, _ + 1, .nil => .nil
  | _, _, n + 1, .cons _ t => Vals.drop n t
noncomputable def RelO : Option V → Option Value → Prop
  | some v, some u => RelV v u
  | none, none => True
  | _, _ => False
noncomputable def KV {κ : Type} : List (κ × V) → List (κ × Value) → Prop := Paired fun (p : κ × V) (q : κ × Value) => p.1 = q.1 ∧ RelV p.2 q.2

noncomputable def kV : Key → V
  | .inl i => .int i
  | .inr x => .str x

inductive HO where
  /-- a list -/
  | lst (xs : List V)
  /-- a tuple (never changes) -/
  | tup (xs : List V)
  /-- a dict whose keys are ints and texts; one whose keys are tuples of ints and texts (the empty one is both) -/
  | dK (kvs : List (Key × V)) | dT (kvs : List (List Key × V))
  /-- a set of ints: its members, its size -/
  | set (S : Int → Bool) (n : Nat)
  /-- an instance of the class at C, its dict at dx, its attributes -/
  | ins (C dx : Addr) (fs : List (Str × V))
  /-- the dict of the instance at x -/
  | own (x : Addr)
  /-- the dict of an exception -/
  | xd (fs : List (Str × V))
  /-- a bound method, f of x -/
  | met (f x : Addr)
  /-- a range object lo, lo + 1, .. below hi -/
  | rng (lo hi : Int)
  /-- a thing that is known to the object (the script; a dict while a loop walks it): read, never written while it is so -/
  | frz (o : Obj) (u : HO)
  /-- a code object's table -/
  | tbl (ps : Array Value)
  /-- any other thing, by what is true of its one object (a def of one's own: SetO a S n := HO.ext fun h => ..) -/
  | ext (φ : Heap → Prop)

noncomputable abbrev Hp := Addr → Option HO
noncomputable def upd (H : Hp) (a : Addr) (o : HO) : Hp := fun b => if b = a then some o else H b
theorem upd_same {H : Hp} {a : Addr} {o : HO} : upd H a o a = some o := by unfold upd; rw [if_pos rfl]
theorem upd_ne {H : Hp} {a b : Addr} {o : HO} (h : b ≠ a) : upd H a o b = H b := by unfold upd; rw [if_neg h]
theorem ne_of {H : Hp} {a b : Addr} {o u : HO} (h : H a = some o) (h' : H b = some u) (d : o ≠ u) : a ≠ b := by
  intro e; subst e; rw [h] at h'; exact d (Option.some.inj h')
theorem ne_of_none {H : Hp} {a b : Addr} {o : HO} (h : H a = some o) (h' : H b = none) : a ≠ b := by
  intro e; subst e; rw [h] at h'; cases h'

noncomputable def IsTupD (h : Heap) (a : Addr) (items : Array Value) : Prop := ∃ o, h.get? a = some o ∧ o.cls = .type "tuple" ∧ (∃ n, o.data = .seq items n) ∧ o.dict = none
theorem IsTupD.lt {h : Heap} {a : Addr} {items : Array Value} (x : IsTupD h a items) : a < h.objs.size := let ⟨_, e, _⟩ := x; Heap.lt_size e
theorem IsTupD.tup {h : Heap} {a : Addr} {items : Array Value} (x : IsTupD h a items) : IsTup h a items := let ⟨o, e, c, d, _⟩ := x; ⟨o, e, c, d⟩
theorem IsTupD.new (h : Heap) (items : Array Value) : IsTupD (h.push { cls := .type "tuple", data := .seq items }) h.objs.size items := ⟨_, Heap.get?_push_size _ rfl, rfl, ⟨_, rfl⟩, rfl⟩
section
variable (P : Program) (w : World)
noncomputable def ObjOk (H : Hp) (h : Heap) (a : Addr) : HO → Prop
  | .lst xs => xs.length ≤ sizeLine ∧ ∃ (its : List Value) (n : Nat), Vals xs its ∧ h.get? a = some { cls := .type "list", data := .seq its.toArray n }
  | .tup xs => xs.length ≤ sizeLine ∧ ∃ its : List Value, Vals xs its ∧ IsTupD h a its.toArray
  | .dK kvs => kvs.length ≤ sizeLine ∧ (a == sysModules) = false ∧ ∃ vs, KV kvs vs ∧ h.DictOf (mixKind P w) a vs
  | .dT kvs => kvs.length ≤ sizeLine ∧ (a == sysModules) = false ∧ ∃ xs : List (List Key × Addr × Value),
      Paired (fun (p : List Key × V) (q : List Key × Addr × Value) => p.1 = q.1 ∧ H q.2.1 = some (.tup (p.1.map kV)) ∧ RelV p.2 q.2.2) kvs xs ∧
      ∃ o es ep, h.get? a = some o ∧ o.ExactDict ∧ o.data = .dict es ep ∧ es.toList = xs.map (entryOfKey (tupleKind (mixKind P w))) ∧ (xs.map (·.1)).Nodup
  | .set S n => h.SetOf (intKind P w) a S n
  | .ins C dx fs => H dx = some (.own a) ∧ fs.length ≤ 1000 ∧ dx ≠ a ∧ h.get? a = some (PySem.W.instObj C dx) ∧
      ∃ mA, h.Ns1 dx mA ∧ (∀ f, RelO (fs.lookup f) (mA f)) ∧ PySem.Within mA (fs.map (·.1))
  | .own _ => ∃ o, h.get? a = some o
  | .xd fs => ∃ mA, h.Ns1 a mA ∧ ∀ f, RelO (fs.lookup f) (mA f)
  | .rng lo hi => ∃ t u v, h.get? a = some { cls := .type "range", data := .fields #[.int lo t, .int hi u, .int 1 v] }
  | .frz o u => h.get? a = some o ∧ ObjOk H h a u
  | .tbl ps => h.get? a = some { cls := .none, data := .fields ps }
  | .met f x => h.get? a = some (PySem.W.methodObj (.ref f) (.ref x))
  | .ext φ => φ h ∧ (∃ o, h.get? a = some o) ∧ ∀ h1 h2 : Heap, φ h1 → (∀ o, h1.get? a = some o → h2.get? a = some o) → φ h2
noncomputable def HOk (H : Hp) (h : Heap) : Prop := ∀ a o, H a = some o → ObjOk P w H h a o
end

section
variable {P : Program} {w : World} {H H' : Hp} {h h' : Heap} {a : Addr} {o : HO}
theorem ObjOk.lt (x : ObjOk P w H h a o) : a < h.objs.size := by
  cases o with
  | lst xs => obtain ⟨_, _, _, _, e⟩ := x; exact Heap.lt_size e
  | tup xs => obtain ⟨_, _, _, p⟩ := x; exact p.lt
  | dK kvs => obtain ⟨_, _, _, _, o, _, _, e, _⟩ := x; exact Heap.lt_size e
  | dT kvs => obtain ⟨_, _, _, _, o, _, _, e, _⟩ := x; exact Heap.lt_size e
  | set S n => obtain ⟨o, _, _, _, e, _⟩ := x; exact Heap.lt_size e
  | ins C dx fs => obtain ⟨_, _, _, e, _⟩ := x; exact Heap.lt_size e
  | own y => obtain ⟨_, e⟩ := x; exact Heap.lt_size e
  | xd fs => obtain ⟨_, ⟨_, _, _, e, _⟩, _⟩ := x; exact Heap.lt_size e
  | rng lo hi => obtain ⟨_, _, _, e⟩ := x; exact Heap.lt_size e
  | frz ob u => obtain ⟨e, _⟩ := x; exact Heap.lt_size e
  | tbl ps => exact Heap.lt_size (show h.get? a = some _ from x)
  | met f y => exact Heap.lt_size (show h.get? a = some _ from x)
  | ext φ => obtain ⟨_, ⟨_, e⟩, _⟩ := x; exact Heap.lt_size e
theorem Paired.mapP {α β : Type} {F G : α → β → Prop} : ∀ {l₁ : List α} {l₂ : List β}, Paired F l₁ l₂ → (∀ a b, F a b → G a b) → Paired G l₁ l₂
  | _, _, .nil, _ => .nil
  | _, _, .cons r t, f => .cons (f _ _ r) (Paired.mapP t f)
theorem ObjOk.stay (x : ObjOk P w H h a o) (k : ∀ b u, (b = a ∨ H b = some (.own a)) → h.get? b = some u → h'.get? b = some u)
    (ho : ∀ b, H b = some (.own a) → H' b = some (.own a)) (ht : ∀ b xs, H b = some (.tup xs) → H' b = some (.tup xs)) : ObjOk P w H' h' a o := by
  induction o with
  | lst xs => obtain ⟨z, its, n, r, e⟩ := x; exact ⟨z, its, n, r, k _ _ (.inl rfl) e⟩
  | tup xs => obtain ⟨z, its, r, ob, e, c⟩ := x; exact ⟨z, its, r, ob, k _ _ (.inl rfl) e, c⟩
  | dK kvs => obtain ⟨z, y, vs, r, ob, es, ep, e, c⟩ := x; exact ⟨z, y, vs, r, ob, es, ep, k _ _ (.inl rfl) e, c⟩
  | dT kvs =>
    obtain ⟨z, y, xs, r, ob, es, ep, e, c⟩ := x
    exact ⟨z, y, xs, Paired.mapP r fun p q z => ⟨z.1, ht _ _ z.2.1, z.2.2⟩, ob, es, ep, k _ _ (.inl rfl) e, c⟩
  | set S n => obtain ⟨ob, es, ep, t, e, c⟩ := x; exact ⟨ob, es, ep, t, k _ _ (.inl rfl) e, c⟩
  | ins C dx fs =>
    obtain ⟨d, z, ne, e, mA, ⟨od, es, ep, e2, c⟩, r⟩ := x
    exact ⟨ho _ d, z, ne, k _ _ (.inl rfl) e, mA, ⟨od, es, ep, k _ _ (.inr d) e2, c⟩, r⟩
  | own y => obtain ⟨ob, e⟩ := x; exact ⟨ob, k _ _ (.inl rfl) e⟩
  | xd fs => obtain ⟨mA, ⟨od, es, ep, e, c⟩, r⟩ := x; exact ⟨mA, ⟨od, es, ep, k _ _ (.inl rfl) e, c⟩, r⟩
  | rng lo hi => obtain ⟨t, u, v, e⟩ := x; exact ⟨t, u, v, k _ _ (.inl rfl) e⟩
  | frz ob u ih => obtain ⟨e, q⟩ := x; exact ⟨k _ _ (.inl rfl) e, ih q⟩
  | tbl ps =>
    have e : h.get? a = some { cls := .none, data := .fields ps } := x
    show h'.get? a = some { cls := .none, data := .fields ps }
    exact k a _ (.inl rfl) e
  | met f y =>
    have e : h.get? a = some (PySem.W.methodObj (.ref f) (.ref y)) := x
    show h'.get? a = some (PySem.W.methodObj (.ref f) (.ref y))
    exact k a _ (.inl rfl) e
  | ext φ => obtain ⟨p, ⟨o, e⟩, st⟩ := x; exact ⟨st _ _ p fun o q => k _ _ (.inl rfl) q, ⟨o, k _ _ (.inl rfl) e⟩, st⟩
theorem HOk.lt (x : HOk P w H h) (e : H a = some o) : a < h.objs.size := (x a o e).lt
theorem HOk.fresh (x : HOk P w H h) (e : h.objs.size ≤ a) : H a = none := by
  cases q : H a with
  | none => rfl
  | some u => exact absurd (Nat.lt_of_lt_of_le (x.lt q) e) (Nat.lt_irrefl _)
theorem HOk.kept (x : HOk P w H h) (k : ∀ b u, h.get? b = some u → h'.get? b = some u) : HOk P w H h' := fun a o e =>
  (x a o e).stay (fun b u _ q => k b u q) (fun _ q => q) fun _ _ q => q
theorem HOk.laid (x : HOk P w H h) (k : ∀ b u, h.get? b = some u → h'.get? b = some u) (hp : h.objs.size ≤ a) (new : ObjOk P w (upd H a o) h' a o) : HOk P w (upd H a o) h' := fun b u e => by
  have hn := x.fresh hp
  by_cases hb : b = a
  · subst hb; rw [upd_same] at e; cases e; exact new
  · rw [upd_ne hb] at e
    exact (x b u e).stay (fun c v _ q => k c v q) (fun c q => by rw [upd_ne (ne_of_none q hn)]; exact q) fun c xs q => by rw [upd_ne (ne_of_none q hn)]; exact q
end

noncomputable def Rd (H : Hp) (a : Addr) (u : HO) : Prop := H a = some u ∨ ∃ o, H a = some (.frz o u)
theorem Rd.of {H : Hp} {a : Addr} {u : HO} (h : H a = some u) : Rd H a u := .inl h
theorem Rd.ok {P : Program} {w : World} {H : Hp} {h : Heap} {a : Addr} {u : HO} (r : Rd H a u) (x : HOk P w H h) : ObjOk P w H h a u := by
  rcases r with r | ⟨o, r⟩
  · exact x a u r
  · obtain ⟨_, q⟩ := x a _ r
    exact q
noncomputable def Mut : Option HO → Prop
  | some (.lst _) => True
  | some (.dK _) => True
  | some (.dT _) => True
  | some (.set _ _) => True
  | some (.ins _ _ _) => True
  | some (.ext _) => True
  | _ => False
section
variable {P : Program} {w : World} {H : Hp} {h h' : Heap} {x e : Addr} {o' : HO}
theorem HOk.write (ok : HOk P w H h) (mu : Mut (H x)) (he : e = x ∨ H e = some (.own x)) (k : ∀ b u, b ≠ e → h.get? b = some u → h'.get? b = some u) (heo : ∃ u, h'.get? e = some u)
    (new : ObjOk P w (upd H x o') h' x o') : HOk P w (upd H x o') h' := fun b u q => by
  have nown : ∀ c y, H c = some (.own y) → c ≠ x := fun c y r z => by subst z; rw [r] at mu; exact mu
  have ntup : ∀ c xs, H c = some (.tup xs) → c ≠ x := fun c xs r z => by subst z; rw [r] at mu; exact mu
  by_cases hb : b = x
  · subst hb; rw [upd_same] at q; cases q; exact new
  · rw [upd_ne hb] at q
    by_cases hbe : b = e
    · have q' : H b = some (.own x) := by
        rcases he with z | z
        · exact absurd (hbe.trans z) hb
        · rw [hbe]; exact z
      rw [q] at q'; cases q'
      obtain ⟨v, hv⟩ := heo
      exact ⟨v, by rw [hbe]; exact hv⟩
    · refine (ok b u q).stay (fun c v hc r => k c v ?_ r) (fun c r => by rw [upd_ne (nown c b r)]; exact r) fun c xs r => by rw [upd_ne (ntup c xs r)]; exact r
      rcases hc with rfl | hc
      · exact hbe
      · rintro rfl
        rcases he with z | z
        · exact nown c b hc z
        · rw [hc] at z; cases z; exact hb rfl
end

/-! ### kept unless tracked; of the frames at fs (the callers') the slots may change (an exception that passes writes there); of the records at ex (iterators) nothing is said -/
structure Un (fs ex : List Addr) (H H' : Hp) (h h' : Heap) : Prop where
  keep : ∀ b o, h.get? b = some o → H b = none → b ∉ fs → b ∉ ex → h'.get? b = some o
  slot : ∀ b o, h.get? b = some o → H b = none → b ∈ fs → b ∉ ex → ∃ sl, h'.get? b = some { o with slots := sl }
  free : ∀ b o, h.get? b = some o → H b = none → b ∉ ex → H' b = none
  there : ∀ b o, h.get? b = some o → b ∉ ex → ∃ o', h'.get? b = some o'
  tups : ∀ b xs, H b = some (.tup xs) → H' b = some (.tup xs)
  frzs : ∀ b o u, H b = some (.frz o u) → H' b = some (.frz o u)
  tbls : ∀ b ps, H b = some (.tbl ps) → ∃ more, H' b = some (.tbl (ps ++ more))
section
variable {fs fs' ex ex' : List Addr} {H H1 H2 : Hp} {h h1 h2 h' : Heap} {a x e : Addr} {o : HO}
theorem Un.any (u : Un fs ex H H1 h h1) {b : Addr} {ob : Obj} (q : h.get? b = some ob) (n : H b = none) (hx : b ∉ ex) : ∃ sl, h1.get? b = some { ob with slots := sl } := by
  by_cases hb : b ∈ fs
  · exact u.slot b ob q n hb hx
  · exact ⟨ob.slots, u.keep b ob q n hb hx⟩
theorem Un.trans (a : Un fs ex H H1 h h1) (b : Un fs ex H1 H2 h1 h2) : Un fs ex H H2 h h2 where
  keep := fun c ob q n hc hx => b.keep c ob (a.keep c ob q n hc hx) (a.free c ob q n hx) hc hx
  slot := fun c ob q n hc hx => by
    obtain ⟨sl, e1⟩ := a.slot c ob q n hc hx
    obtain ⟨sl', e2⟩ := b.slot c _ e1 (a.free c ob q n hx) hc hx
    exact ⟨sl', e2⟩
  free := fun c ob q n hx => by
    obtain ⟨o', e1⟩ := a.there c ob q hx
    exact b.free c o' e1 (a.free c ob q n hx) hx
  there := fun c ob q hx => by
    obtain ⟨o', e1⟩ := a.there c ob q hx
    exact b.there c o' e1 hx
  tups := fun c xs q => b.tups c xs (a.tups c xs q)
  frzs := fun c ob xs q => b.frzs c ob xs (a.frzs c ob xs q)
  tbls := fun c ps q => by
    obtain ⟨m1, e1⟩ := a.tbls c ps q
    obtain ⟨m2, e2⟩ := b.tbls c _ e1
    exact ⟨m1 ++ m2, by rw [e2, Array.append_assoc]⟩
theorem Un.kept (k : ∀ b u, h.get? b = some u → h'.get? b = some u) : Un fs ex H H h h' :=
  ⟨fun b ob q _ _ _ => k b ob q, fun b ob q _ _ _ => ⟨ob.slots, k b ob q⟩, fun _ _ _ n _ => n, fun b ob q _ => ⟨ob, k b ob q⟩, fun _ _ q => q, fun _ _ _ q => q, fun _ ps q => ⟨#[], by rw [q]; simp⟩⟩
theorem Un.refl : Un fs ex H H h h := Un.kept fun _ _ q => q
theorem Un.laid (k : ∀ b u, h.get? b = some u → h'.get? b = some u) (hp : h.objs.size ≤ a) (hn : H a = none) : Un fs ex H (upd H a o) h h' where
  keep := fun b u q _ _ _ => k b u q
  slot := fun b u q _ _ _ => ⟨u.slots, k b u q⟩
  free := fun b u q n _ => by rw [upd_ne (Nat.ne_of_lt (Nat.lt_of_lt_of_le (Heap.lt_size q) hp))]; exact n
  there := fun b u q _ => ⟨u, k b u q⟩
  tups := fun b xs q => by rw [upd_ne (ne_of_none q hn)]; exact q
  frzs := fun b u xs q => by rw [upd_ne (ne_of_none q hn)]; exact q
  tbls := fun b ps q => ⟨#[], by rw [upd_ne (ne_of_none q hn), q]; simp⟩
theorem Un.write (mu : Mut (H x)) (he : e = x ∨ H e = some (.own x)) (k : ∀ b u, b ≠ e → h.get? b = some u → h'.get? b = some u) (heo : ∃ u, h'.get? e = some u) : Un fs ex H (upd H x o) h h' := by
  have hx : ∀ b, H b = none → b ≠ x := fun b n z => by subst z; rw [n] at mu; exact mu
  have hb : ∀ b, H b = none → b ≠ e := fun b n z => by
    subst z
    rcases he with r | r
    · exact hx b n r
    · rw [n] at r; cases r
  have hm : ∀ b u, H b = some u → ¬ Mut (some u) → b ≠ x := fun b u q nm z => by subst z; rw [q] at mu; exact nm mu
  refine ⟨fun b u q n _ _ => k b u (hb b n) q, fun b u q n _ _ => ⟨u.slots, k b u (hb b n) q⟩, fun b u q n _ => by rw [upd_ne (hx b n)]; exact n, fun b u q _ => ?_,
    fun b xs q => by rw [upd_ne (hm b _ q fun z => z)]; exact q, fun b u xs q => by rw [upd_ne (hm b _ q fun z => z)]; exact q, fun b ps q => ⟨#[], by rw [upd_ne (hm b _ q fun z => z), q]; simp⟩⟩
  by_cases hbe : b = e
  · subst hbe; exact heo
  · exact ⟨u, k b u hbe q⟩
theorem Un.mono (u : Un fs ex H H1 h h1) (hs : ∀ b ∈ fs, b ∈ fs') (hx : ∀ b ∈ ex, b ∈ ex') : Un fs' ex' H H1 h h1 :=
  ⟨fun b ob q n hb he => u.keep b ob q n (fun z => hb (hs b z)) fun z => he (hx b z), fun _ _ q n _ he => u.any q n fun z => he (hx _ z), fun b ob q n he => u.free b ob q n fun z => he (hx b z), fun b ob q he => u.there b ob q fun z => he (hx b z), u.tups, u.frzs, u.tbls⟩
end

/-! ### the heap without what is tracked -/
noncomputable def trk (h : Heap) (H : Hp) : List Addr := (List.range h.objs.size).filter fun a => (H a).isSome
noncomputable def hidT (h : Heap) (H : Hp) : Heap := PySem.W.hideAll h (trk h H)
theorem hidT_size (h : Heap) (H : Hp) : (hidT h H).objs.size = h.objs.size := PySem.W.hideAll_size _ _
theorem hidT_get {h : Heap} {H : Hp} {b : Addr} {o : Obj} (e : h.get? b = some o) (n : H b = none) : (hidT h H).get? b = some o :=
  PySem.W.hideAll_get _ e fun hm => by
    have q : (H b).isSome = true := (List.mem_filter.mp hm).2
    rw [n] at q; simp at q
theorem of_hidT {h : Heap} {H : Hp} {b : Addr} {o : Obj} (e : (hidT h H).get? b = some o) : h.get? b = some o ∧ H b = none := by
  have e' : h.get? b = some o := PySem.W.of_hideAll (trk h H) e
  refine ⟨e', ?_⟩
  cases q : H b with
  | none => rfl
  | some x =>
    have hm : b ∈ trk h H := List.mem_filter.mpr ⟨List.mem_range.mpr (Heap.lt_size e'), by simp [q]⟩
    have z : (hidT h H).get? b = none := PySem.W.hideAll_none (trk h H) hm
    rw [z] at e; cases e

/-! ### OpenK's ledger, filled with every new object but one -/
noncomputable def allNews (g h : Heap) (L : Addr) : List (Addr × Obj) := (List.range h.objs.size).filterMap fun a => if a = L ∨ (g.get? a).isSome = true then none else (h.get? a).map fun o => (a, o)
noncomputable def rest (g h : Heap) (L d : Addr) : List (Addr × Obj) := (allNews g h L).filter fun p => decide (p.1 ≠ d)
end L2

namespace L2
open PySem PySem.Spec PyProof.Rows

structure Mod (K : PySem.W.Frag) (mg : Str → Option Value) (base : Heap) : Prop where
  kin : K.In base
  glob : base.Ns mainGlobals mg
  blt : ∃ mb, base.Ns builtinsNs mb ∧ ∀ x : Str, x ≠ "__name__" → mb x = bootBuiltins x
  nolimit : base.NoLimit

structure Cx where
  prog : Program
  w : World
  K : PySem.W.Frag
  mg : Str → Option Value
  base : Heap
  A : Around
  N : List Str
  s₀ : Shared
  H₀ : Hp
  env : Env
  outer : List Env
  stack : List Env
  ex : List Addr
  fn : Str → Bool
  calm : Bool
  pn : List (Addr × Obj)
  xe : Value → Shared → Prop
noncomputable def frs (l : List Env) : List Addr := l.filterMap (·.frame)
noncomputable abbrev Cx.fs (X : Cx) : List Addr := frs X.outer

noncomputable def Vis (sc : Scope) (x : Str) : Prop := sc.names.lookup x = some .local ∨ sc.names.lookup x = some .cell ∨ sc.names.lookup x = some .free
noncomputable def Loc (sc : Scope) (x : Str) : Prop := sc.names.lookup x = some .local ∨ sc.names.lookup x = some .cell
noncomputable def Look (env : Env) (h : Heap) (m : Str → Option Value) (x : Str) (u : Value) : Prop :=
  (env.kindOf x = some .local ∧ m x = some u) ∨ ((env.kindOf x = some .cell ∨ env.kindOf x = some .free) ∧ ∃ c, env.cells.lookup x = some c ∧ h.IsCell c (some u))

structure Cx.Ok (X : Cx) : Prop where
  mod : Mod X.K X.mg X.base
  kind : X.env.scope.kind = .function
  glob : X.env.globals = mainGlobals
  blt : X.env.builtins = builtinsNs
  above : X.s₀.heap.objs.size ≤ X.env.locals
  inj : ∀ x y c, X.env.cells.lookup x = some c → X.env.cells.lookup y = some c → x = y
  has : ∀ x, (X.env.kindOf x = some .cell ∨ X.env.kindOf x = some .free) → ∃ c, X.env.cells.lookup x = some c
  cab : ∀ x c, X.fn x = true → X.env.cells.lookup x = some c → X.s₀.heap.objs.size ≤ c
  hd : X.calm = true → X.A.handled = none
  frames : X.A.frames = some X.stack
  stk : X.stack = X.outer ∨ (X.stack = X.env :: X.outer ∧ X.env.frame = some X.env.locals)
  exf : ∀ b ∈ X.ex, b ≠ X.env.locals ∧ ∀ x c, X.env.cells.lookup x = some c → c ≠ b
  bs : ∀ b o, X.base.get? b = some o → X.s₀.heap.get? b = some o ∧ X.H₀ b = none
  bsz : X.base.objs.size ≤ X.s₀.heap.objs.size
  noex : ∀ b o, X.base.get? b = some o → b ∉ X.ex
  exfs : ∀ b ∈ X.ex, b ∉ X.fs
  funs : X.s₀.heap.FunFrames X.base X.outer
  frf : ∀ b ∈ X.fs, X.H₀ b = none

structure Inv (X : Cx) (pins : List (Addr × Obj)) (σ : List (Option V)) (H : Hp) (s : Shared) : Prop where
  ok : X.Ok
  os : s.os = X.s₀.os
  bare : AllBare s.gens
  base : Un X.fs X.ex X.H₀ H X.s₀.heap s.heap
  loc : ∃ m, s.heap.Ns X.env.locals m ∧ ∀ (i : Nat) (x : Str) (v : V), X.N[i]? = some x → σ[i]? = some (some v) → Vis X.env.scope x → ∃ u, RelV v u ∧ Look X.env s.heap m x u
  cell : ∀ x c, X.env.cells.lookup x = some c → ∃ v, s.heap.IsCell c v
  free : H X.env.locals = none
  freeC : ∀ x c, X.env.cells.lookup x = some c → H c = none
  pin : ∀ p ∈ X.pn ++ pins, s.heap.get? p.1 = some p.2 ∧ H p.1 = none ∧ p.1 ≠ X.env.locals ∧ p.1 ∉ X.fs ∧ ∀ v, p.2.data ≠ .cell v
  hok : HOk X.prog X.w H s.heap
  len : σ.length = X.N.length

section
variable {X : Cx} {pins : List (Addr × Obj)} {σ : List (Option V)} {H H' : Hp} {s : Shared} {h' : Heap}

theorem Cx.Ok.nofr (ok : X.Ok) {b : Addr} {o : Obj} (e : X.base.get? b = some o) : b ∉ X.fs := fun hb => by
  have := (ok.funs.mem hb).1
  rw [e] at this; cases this
theorem Inv.bs (I : Inv X pins σ H s) : ∀ b o, X.base.get? b = some o → s.heap.get? b = some o ∧ H b = none := fun b o e =>
  ⟨I.base.keep b o (I.ok.bs b o e).1 (I.ok.bs b o e).2 (I.ok.nofr e) (I.ok.noex b o e), I.base.free b o (I.ok.bs b o e).1 (I.ok.bs b o e).2 (I.ok.noex b o e)⟩
theorem Inv.bk (I : Inv X pins σ H s) : ∀ b o, X.base.get? b = some o → s.heap.get? b = some o := fun b o e => (I.bs b o e).1
theorem Inv.mod (I : Inv X pins σ H s) : Mod X.K X.mg X.base := I.ok.mod
theorem Inv.kIn (I : Inv X pins σ H s) : X.K.In s.heap := I.ok.mod.kin.keeps I.bk
theorem Inv.nolimit (I : Inv X pins σ H s) : s.heap.NoLimit := I.ok.mod.nolimit.keeps I.bk
theorem Inv.lt (I : Inv X pins σ H s) : X.env.locals < s.heap.objs.size := let ⟨_, hn, _⟩ := I.loc; hn.lt
theorem Inv.sz (I : Inv X pins σ H s) : X.s₀.heap.objs.size ≤ s.heap.objs.size := Nat.le_trans I.ok.above (Nat.le_of_lt I.lt)
theorem Inv.nofs (I : Inv X pins σ H s) {a : Addr} (h : s.heap.objs.size ≤ a) : a ∉ X.fs := fun hb => by
  obtain ⟨_, o, ho, _⟩ := I.ok.funs.mem hb
  exact absurd (Nat.lt_of_lt_of_le (Heap.lt_size ho) (Nat.le_trans I.sz h)) (Nat.lt_irrefl _)
theorem Inv.cne (I : Inv X pins σ H s) : ∀ x c, X.env.cells.lookup x = some c → c ≠ X.env.locals := fun x c e z => by
  obtain ⟨v, o, ho, hd⟩ := I.cell x c e
  obtain ⟨m, ⟨o', es, ep, ho', hd', _⟩, _⟩ := I.loc
  rw [z, ho'] at ho; cases ho; rw [hd'] at hd; cases hd
theorem Inv.funs (I : Inv X pins σ H s) : s.heap.FunFrames X.base X.outer := by
  have all : ∀ (l : List Env), (∀ b ∈ frs l, b ∈ X.fs) → X.s₀.heap.FunFrames X.base l → s.heap.FunFrames X.base l := by
    intro l
    induction l with
    | nil => intro _ _; trivial
    | cons env r ih =>
      intro hs hl
      obtain ⟨hk, ⟨L, o, hf, hn, ho, hd⟩, hr⟩ := hl
      have hL : L ∈ X.fs := hs L (by unfold frs; rw [List.filterMap_cons, hf]; exact List.mem_cons_self)
      obtain ⟨sl, e⟩ := I.base.slot L o ho (I.ok.frf L hL) hL fun z => I.ok.exfs L z hL
      exact ⟨hk, ⟨L, _, hf, hn, e, hd⟩, ih (fun b hb => hs b (by unfold frs; rw [List.filterMap_cons, hf]; exact List.mem_cons_of_mem _ hb)) hr⟩
  exact all X.outer (fun _ hb => hb) I.ok.funs

theorem Inv.stack (I : Inv X pins σ H s) : s.heap.FunFrames X.base X.stack := by
  rcases I.ok.stk with e | ⟨e, hf⟩
  · rw [e]; exact I.funs
  · rw [e]
    obtain ⟨m, hn, _⟩ := I.loc
    refine .cons (by rw [I.ok.kind]; decide) hf hn ?_ I.funs
    exact Heap.get?_none_of_le (Nat.le_trans I.ok.bsz I.ok.above)
theorem Inv.stkSub (I : Inv X pins σ H s) : ∀ b ∈ frs X.stack, b ∈ X.env.locals :: X.fs := fun b hb => by
  rcases I.ok.stk with e | ⟨e, hf⟩
  · rw [e] at hb; exact List.mem_cons_of_mem _ hb
  · rw [e] at hb
    unfold frs at hb
    rw [List.filterMap_cons, hf] at hb
    exact hb
theorem Inv.stkFree (I : Inv X pins σ H s) : ∀ b ∈ frs X.stack, H b = none := fun b hb => by
  rcases List.mem_cons.mp (I.stkSub b hb) with e | hb
  · rw [e]; exact I.free
  · obtain ⟨_, o, ho, _⟩ := I.ok.funs.mem hb
    exact I.base.free b o ho (I.ok.frf b hb) fun z => I.ok.exfs b z hb

theorem Inv.step {g' : Array GenState} {t' : Nat} {d' : Drawn} {ch : List Addr} (I : Inv X pins σ H s)
    (hch : ∀ b ∈ ch, (b ∈ X.ex ∨ X.s₀.heap.objs.size ≤ b) ∧ b ≠ X.env.locals ∧ (∀ x c, X.env.cells.lookup x = some c → c ≠ b) ∧ ∀ p ∈ X.pn ++ pins, p.1 ≠ b)
    (keep : ∀ b o, b ≠ X.env.locals → b ∉ X.fs → b ∉ ch → s.heap.get? b = some o → H b = none → h'.get? b = some o)
    (slot : ∀ b o, b ≠ X.env.locals → b ∈ X.fs → b ∉ ch → s.heap.get? b = some o → H b = none → ∃ sl, h'.get? b = some { o with slots := sl }) (free : ∀ b o, b ∉ ch → s.heap.get? b = some o → H b = none → H' b = none)
    (there : ∀ b o, b ∉ ch → s.heap.get? b = some o → ∃ o', h'.get? b = some o')
    (tups : ∀ b xs, H b = some (.tup xs) → H' b = some (.tup xs)) (frzs : ∀ b o u, H b = some (.frz o u) → H' b = some (.frz o u)) (tbls : ∀ b ps, H b = some (.tbl ps) → ∃ more, H' b = some (.tbl (ps ++ more)))
    (ns : ∀ m, s.heap.Ns X.env.locals m → h'.Ns X.env.locals m) (hok : HOk X.prog X.w H' h') (hg : AllBare g') :
    Inv X pins σ H' { s with heap := h', gens := g', drawn := d', toks := t' } := by
  have neL : ∀ b o, X.s₀.heap.get? b = some o → b ≠ X.env.locals := fun b o e => Nat.ne_of_lt (Nat.lt_of_lt_of_le (Heap.lt_size e) I.ok.above)
  have neC : ∀ b o, X.s₀.heap.get? b = some o → b ∉ X.ex → b ∉ ch := fun b o e hx hb => by
    rcases (hch b hb).1 with z | z
    · exact hx z
    · exact absurd (Nat.lt_of_lt_of_le (Heap.lt_size e) z) (Nat.lt_irrefl _)
  have cellK : ∀ x c, X.env.cells.lookup x = some c → ∀ v, s.heap.IsCell c v → h'.IsCell c v := fun x c e v ⟨o, ho, hd⟩ => by
    have nch : c ∉ ch := fun z => (hch c z).2.2.1 x c e rfl
    by_cases hc : c ∈ X.fs
    · obtain ⟨sl, q⟩ := slot c o (I.cne x c e) hc nch ho (I.freeC x c e)
      exact ⟨_, q, hd⟩
    · exact ⟨o, keep c o (I.cne x c e) hc nch ho (I.freeC x c e), hd⟩
  refine ⟨I.ok, I.os, hg, ⟨fun b o e n hb hx => ?_, fun b o e n hb hx => ?_, fun b o e n hx => ?_, fun b o e hx => ?_, fun b xs e => tups b xs (I.base.tups b xs e), fun b o xs e => frzs b o xs (I.base.frzs b o xs e), fun b ps e => ?_⟩, ?_, fun x c e => ?_, ?_, fun x c e => ?_, fun p hp => ?_, hok, I.len⟩
  · exact keep b o (neL b o e) hb (neC b o e hx) (I.base.keep b o e n hb hx) (I.base.free b o e n hx)
  · obtain ⟨sl, e1⟩ := I.base.slot b o e n hb hx
    obtain ⟨sl', e2⟩ := slot b _ (neL b o e) hb (neC b o e hx) e1 (I.base.free b o e n hx)
    exact ⟨sl', e2⟩
  · obtain ⟨o', e1⟩ := I.base.there b o e hx
    exact free b o' (neC b o e hx) e1 (I.base.free b o e n hx)
  · obtain ⟨o', e1⟩ := I.base.there b o e hx
    exact there b o' (neC b o e hx) e1
  · obtain ⟨m1, e1⟩ := I.base.tbls b ps e
    obtain ⟨m2, e2⟩ := tbls b _ e1
    exact ⟨m1 ++ m2, by rw [e2, Array.append_assoc]⟩
  · obtain ⟨m, hn, hl⟩ := I.loc
    refine ⟨m, ns m hn, fun i x v e1 e2 e3 => ?_⟩
    obtain ⟨u, r, l⟩ := hl i x v e1 e2 e3
    refine ⟨u, r, ?_⟩
    rcases l with l | ⟨k, c, e, z⟩
    · exact .inl l
    · exact .inr ⟨k, c, e, cellK x c e _ z⟩
  · obtain ⟨v, z⟩ := I.cell x c e
    exact ⟨v, cellK x c e v z⟩
  · obtain ⟨m, ⟨o, _, _, ho, _⟩, _⟩ := I.loc
    exact free _ o (fun z => (hch _ z).2.1 rfl) ho I.free
  · obtain ⟨v, o, ho, hd⟩ := I.cell x c e
    exact free c o (fun z => (hch c z).2.2.1 x c e rfl) ho (I.freeC x c e)
  · obtain ⟨e, n, ne, nf, d⟩ := I.pin p hp
    have nch : p.1 ∉ ch := fun z => (hch p.1 z).2.2.2 p hp rfl
    exact ⟨keep p.1 p.2 ne nf nch e n, free p.1 p.2 nch e n, ne, nf, d⟩
theorem Inv.un {t' : Nat} (I : Inv X pins σ H s) (u : Un X.fs [] H H' s.heap h') (hok : HOk X.prog X.w H' h') : Inv X pins σ H' { s with heap := h', toks := t' } := by
  obtain ⟨m, ⟨o, es, ep, ho, r⟩, _⟩ := id I.loc
  obtain ⟨sl, hL⟩ := u.any ho I.free (by simp)
  exact I.step (g' := s.gens) (d' := s.drawn) (ch := []) (fun _ z => nomatch z) (fun b o _ hb _ e n => u.keep b o e n hb (by simp)) (fun b o _ hb _ e n => u.slot b o e n hb (by simp)) (fun b o _ e n => u.free b o e n (by simp)) (fun b o _ e => u.there b o e (by simp)) u.tups u.frzs u.tbls (fun m' hm => by
    obtain ⟨o', es', ep', ho', r'⟩ := hm
    rw [ho] at ho'; cases ho'
    exact ⟨_, es', ep', hL, r'⟩) hok I.bare
theorem Inv.call {g' : Array GenState} {t' : Nat} {d' : Drawn} {ch : List Addr} (I : Inv X pins σ H s) (u : Un (frs X.stack) ch H H' s.heap h') (hok : HOk X.prog X.w H' h') (hg : AllBare g')
    (hch : ∀ b ∈ ch, (b ∈ X.ex ∨ X.s₀.heap.objs.size ≤ b) ∧ b ≠ X.env.locals ∧ (∀ x c, X.env.cells.lookup x = some c → c ≠ b) ∧ ∀ p ∈ X.pn ++ pins, p.1 ≠ b) :
    Inv X pins σ H' { s with heap := h', gens := g', drawn := d', toks := t' } := by
  obtain ⟨m, ⟨o, es, ep, ho, r⟩, _⟩ := id I.loc
  obtain ⟨sl, hL⟩ := u.any ho I.free fun z => (hch _ z).2.1 rfl
  exact I.step (ch := ch) hch (fun b o hL hb hc e n => u.keep b o e n (fun z => (List.mem_cons.mp (I.stkSub b z)).elim hL hb) hc) (fun b o _ _ hc e n => u.any e n hc) (fun b o hc e n => u.free b o e n hc) (fun b o hc e => u.there b o e hc) u.tups u.frzs u.tbls (fun m' hm => by
    obtain ⟨o', es', ep', ho', r'⟩ := hm
    rw [ho] at ho'; cases ho'
    exact ⟨_, es', ep', hL, r'⟩) hok hg
theorem Inv.turned {t' : Nat} {it : Addr} (I : Inv X pins σ H s) (k : ∀ b o, b ≠ it → s.heap.get? b = some o → h'.get? b = some o) (hn : H it = none) (hL : it ≠ X.env.locals)
    (h1 : it ∈ X.ex ∨ X.s₀.heap.objs.size ≤ it) (h2 : ∀ x c, X.env.cells.lookup x = some c → c ≠ it) (h3 : ∀ p ∈ X.pn ++ pins, p.1 ≠ it) : Inv X pins σ H { s with heap := h', toks := t' } := by
  have nit : ∀ b u, H b = some u → b ≠ it := fun b u e z => by rw [z, hn] at e; cases e
  refine I.step (g' := s.gens) (d' := s.drawn) (ch := [it]) (fun b hb => ?_) (fun b o _ _ hc e _ => k b o (fun z => hc (by simp [z])) e) (fun b o _ _ hc e _ => ⟨o.slots, k b o (fun z => hc (by simp [z])) e⟩) (fun _ _ _ _ n => n)
    (fun b o hc e => ⟨o, k b o (fun z => hc (by simp [z])) e⟩) (fun _ _ e => e) (fun _ _ _ e => e) (fun b ps e => ⟨#[], by rw [e]; simp⟩) (fun m hm => ?_) (fun b u e => ?_) I.bare
  · have e : b = it := by simpa using hb
    subst e
    exact ⟨h1, hL, h2, h3⟩
  · obtain ⟨o, es, ep, ho, r⟩ := hm
    exact ⟨o, es, ep, k _ o (Ne.symm hL) ho, r⟩
  · refine (I.hok b u e).stay (fun c v hc q => k c v ?_ q) (fun _ q => q) fun _ _ q => q
    rcases hc with z | z
    · rw [z]; exact nit b u e
    · exact nit c _ z
theorem Inv.tok (I : Inv X pins σ H s) (t : Nat) : Inv X pins σ H { s with toks := t } := I.un (h' := s.heap) (t' := t) Un.refl I.hok
theorem Inv.kept {t' : Nat} (I : Inv X pins σ H s) (k : ∀ b u, s.heap.get? b = some u → h'.get? b = some u) : Inv X pins σ H { s with heap := h', toks := t' } := I.un (Un.kept k) (I.hok.kept k)
theorem Inv.laid {a : Addr} {o : HO} {t' : Nat} (I : Inv X pins σ H s) (k : ∀ b u, s.heap.get? b = some u → h'.get? b = some u) (hp : s.heap.objs.size ≤ a) (new : ObjOk X.prog X.w (upd H a o) h' a o) :
    Inv X pins σ (upd H a o) { s with heap := h', toks := t' } := I.un (Un.laid k hp (I.hok.fresh hp)) (I.hok.laid k hp new)
theorem Inv.write {x e : Addr} {o : HO} {t' : Nat} (I : Inv X pins σ H s) (mu : Mut (H x)) (he : e = x ∨ H e = some (.own x)) (k : ∀ b u, b ≠ e → s.heap.get? b = some u → h'.get? b = some u) (heo : ∃ u, h'.get? e = some u)
    (new : ObjOk X.prog X.w (upd H x o) h' x o) : Inv X pins σ (upd H x o) { s with heap := h', toks := t' } := I.un (Un.write mu he k heo) (I.hok.write mu he k heo new)
theorem Inv.weak {σ' : List (Option V)} (I : Inv X pins σ H s) (hl : σ'.length = σ.length) (w : ∀ (i : Nat) v, σ'[i]? = some (some v) → σ[i]? = some (some v)) : Inv X pins σ' H s :=
  ⟨I.ok, I.os, I.bare, I.base, let ⟨m, hn, hl'⟩ := I.loc; ⟨m, hn, fun i x v e1 e2 e3 => hl' i x v e1 (w i v e2) e3⟩, I.cell, I.free, I.freeC, I.pin, I.hok, hl.trans I.len⟩
theorem Inv.pins_of {pins' : List (Addr × Obj)} (I : Inv X pins σ H s) (h : ∀ p ∈ pins', s.heap.get? p.1 = some p.2 ∧ H p.1 = none ∧ p.1 ≠ X.env.locals ∧ p.1 ∉ X.fs ∧ ∀ v, p.2.data ≠ .cell v) : Inv X pins' σ H s :=
  ⟨I.ok, I.os, I.bare, I.base, I.loc, I.cell, I.free, I.freeC, fun p hp => (List.mem_append.mp hp).elim (fun z => I.pin p (List.mem_append_left _ z)) (h p), I.hok, I.len⟩

theorem nodup_ix {N : List Str} (hN : N.Nodup) {i j : Nat} {x : Str} (a : N[i]? = some x) (b : N[j]? = some x) : i = j := by
  obtain ⟨h1, e1⟩ := List.getElem?_eq_some_iff.mp a
  obtain ⟨h2, e2⟩ := List.getElem?_eq_some_iff.mp b
  exact (List.getElem_inj hN).mp (e1.trans e2.symm)

theorem store_ok2 {M : Model} {A : Around} {E : Value → Shared → Prop} {i : Nat} {x : Str} {v : V} {u : Value} {Q : Unit → Shared → Prop} (I : Inv X pins σ H s) (hN : X.N.Nodup) (hi : X.N[i]? = some x) (hx : Loc X.env.scope x) (r : RelV v u)
    (h : ∀ s', Inv X pins (σ.set i (some v)) H s' → (∃ a, Heap.SameBut a s.heap s'.heap ∧ (a = X.env.locals ∨ X.env.cells.lookup x = some a)) → Q () s') (hf : X.fn x = true ∨ X.env.scope.names.lookup x = some .local := by first | exact .inl rfl | exact .inr rfl | assumption) : wpAny M A (storeName X.env x u) Q E s := by
  obtain ⟨m, hn, hl⟩ := id I.loc
  have hcls : (X.env.scope.kind == .class || (X.env.scope.kind == .module && X.env.locals != X.env.globals)) = false := by rw [I.ok.kind]; rfl
  have hiσ : i < σ.length := by rw [I.len]; exact (List.getElem?_eq_some_iff.mp hi).1
  have cne := I.cne
  have tracked : ∀ {a : Addr} {h' : Heap}, (∃ o, s.heap.get? a = some o ∧ H a = none) → Heap.SameBut a s.heap h' → HOk X.prog X.w H h' := fun {a h'} ha hs b ob e => by
    obtain ⟨_, _, hfree⟩ := ha
    refine (I.hok b ob e).stay (fun c w' hc q => (hs.2 c ?_).trans q) (fun _ q => q) fun _ _ q => q
    rintro rfl
    rcases hc with rfl | hc
    · rw [hfree] at e; cases e
    · rw [hfree] at hc; cases hc
  rcases hx with hk | hk
  · refine wpAny_storeName_local hk hn (fun h' hn' hs => ?_) hcls
    obtain ⟨oL, _, _, hoL, _⟩ := id hn
    refine h _ ⟨I.ok, I.os, I.bare, ⟨fun b o e n hb hx => ?_, fun b o e n hb hx => ?_, I.base.free, fun b o e hx => ?_, I.base.tups, I.base.frzs, I.base.tbls⟩, ⟨_, hn', fun j y v' e1 e2 e3 => ?_⟩, fun y c e => ?_, I.free, I.freeC, fun p hp => ?_, tracked ⟨oL, hoL, I.free⟩ hs, by simpa using I.len⟩ ⟨_, hs, .inl rfl⟩
    · exact (hs.2 b (Nat.ne_of_lt (Nat.lt_of_lt_of_le (Heap.lt_size e) I.ok.above))).trans (I.base.keep b o e n hb hx)
    · obtain ⟨sl, e1⟩ := I.base.slot b o e n hb hx
      exact ⟨sl, (hs.2 b (Nat.ne_of_lt (Nat.lt_of_lt_of_le (Heap.lt_size e) I.ok.above))).trans e1⟩
    · obtain ⟨o', e1⟩ := I.base.there b o e hx
      exact ⟨o', (hs.2 b (Nat.ne_of_lt (Nat.lt_of_lt_of_le (Heap.lt_size e) I.ok.above))).trans e1⟩
    · by_cases hj : j = i
      · subst hj
        rw [hi] at e1; cases e1
        rw [List.getElem?_set_self hiσ] at e2
        cases e2
        exact ⟨u, r, .inl ⟨hk, by simp⟩⟩
      · rw [List.getElem?_set_ne (Ne.symm hj)] at e2
        obtain ⟨u', r', q⟩ := hl j y v' e1 e2 e3
        refine ⟨u', r', ?_⟩
        rcases q with ⟨k, e⟩ | ⟨k, c, e, z⟩
        · refine .inl ⟨k, ?_⟩
          have : y ≠ x := fun e => hj (nodup_ix hN e1 (e ▸ hi))
          simp [this, e]
        · exact .inr ⟨k, c, e, z.sameBut hs (cne y c e)⟩
    · obtain ⟨w', z⟩ := I.cell y c e
      exact ⟨w', z.sameBut hs (cne y c e)⟩
    · obtain ⟨e, n, ne, nf, d⟩ := I.pin p hp
      exact ⟨(hs.2 p.1 ne).trans e, n, ne, nf, d⟩
  · have hfn : X.fn x = true := by
      rcases hf with z | z
      · exact z
      · rw [z] at hk; cases hk
    obtain ⟨c, hc⟩ := I.ok.has x (.inl hk)
    obtain ⟨w', z⟩ := I.cell x c hc
    refine wpAny_storeName_cell I.ok.kind hk hc z (fun h' hc' hs => ?_)
    obtain ⟨oc, hoc, hocd⟩ := id z
    refine h { s with heap := h' } ⟨I.ok, I.os, I.bare, ⟨fun b o e n hb hx => ?_, fun b o e n hb hx => ?_, I.base.free, fun b o e hx => ?_, I.base.tups, I.base.frzs, I.base.tbls⟩, ⟨m, hn.sameBut hs (Ne.symm (cne x c hc)), fun j y v' e1 e2 e3 => ?_⟩, fun y c' e => ?_, I.free, I.freeC, fun p hp => ?_, tracked ⟨oc, hoc, I.freeC x c hc⟩ hs, by simpa using I.len⟩ ⟨c, hs, .inr hc⟩
    · exact (hs.2 b (Nat.ne_of_lt (Nat.lt_of_lt_of_le (Heap.lt_size e) (I.ok.cab x c hfn hc)))).trans (I.base.keep b o e n hb hx)
    · obtain ⟨sl, e1⟩ := I.base.slot b o e n hb hx
      exact ⟨sl, (hs.2 b (Nat.ne_of_lt (Nat.lt_of_lt_of_le (Heap.lt_size e) (I.ok.cab x c hfn hc)))).trans e1⟩
    · obtain ⟨o', e1⟩ := I.base.there b o e hx
      exact ⟨o', (hs.2 b (Nat.ne_of_lt (Nat.lt_of_lt_of_le (Heap.lt_size e) (I.ok.cab x c hfn hc)))).trans e1⟩
    · by_cases hj : j = i
      · subst hj
        rw [hi] at e1; cases e1
        rw [List.getElem?_set_self hiσ] at e2
        cases e2
        exact ⟨u, r, .inr ⟨.inl hk, c, hc, hc'⟩⟩
      · rw [List.getElem?_set_ne (Ne.symm hj)] at e2
        obtain ⟨u', r', q⟩ := hl j y v' e1 e2 e3
        refine ⟨u', r', ?_⟩
        rcases q with q | ⟨k, c', e, z'⟩
        · exact .inl q
        · refine .inr ⟨k, c', e, z'.sameBut hs ?_⟩
          rintro rfl
          exact hj (nodup_ix hN e1 (I.ok.inj _ _ _ e hc ▸ hi))
    · by_cases hcc : c' = c
      · subst hcc; exact ⟨_, hc'⟩
      · obtain ⟨w2, z2⟩ := I.cell y c' e
        exact ⟨w2, z2.sameBut hs hcc⟩
    · obtain ⟨e, n, ne, nf, d⟩ := I.pin p hp
      refine ⟨(hs.2 p.1 ?_).trans e, n, ne, nf, d⟩
      intro q
      rw [q, hoc] at e
      have q' : oc = p.2 := Option.some.inj e
      exact d w' (by rw [← q']; exact hocd)
theorem store_ok {M : Model} {A : Around} {E : Value → Shared → Prop} {i : Nat} {x : Str} {v : V} {u : Value} {Q : Unit → Shared → Prop} (I : Inv X pins σ H s) (hN : X.N.Nodup) (hi : X.N[i]? = some x) (hx : Loc X.env.scope x) (r : RelV v u)
    (h : ∀ s', Inv X pins (σ.set i (some v)) H s' → Q () s') (hf : X.fn x = true ∨ X.env.scope.names.lookup x = some .local := by first | exact .inl rfl | exact .inr rfl | assumption) : wpAny M A (storeName X.env x u) Q E s :=
  store_ok2 I hN hi hx r (fun s' I' _ => h s' I') hf
theorem Inv.call' {s' : Shared} {ch : List Addr} (I : Inv X pins σ H s) (ho : s'.os = s.os) (u : Un (frs X.stack) ch H H' s.heap s'.heap) (hok : HOk X.prog X.w H' s'.heap) (hg : AllBare s'.gens)
    (hch : ∀ b ∈ ch, (b ∈ X.ex ∨ X.s₀.heap.objs.size ≤ b) ∧ b ≠ X.env.locals ∧ (∀ x c, X.env.cells.lookup x = some c → c ≠ b) ∧ ∀ p ∈ X.pn ++ pins, p.1 ≠ b) : Inv X pins σ H' s' := by
  obtain ⟨h', g', d', t', o'⟩ := s'
  have e : o' = s.os := ho
  subst e
  exact I.call (g' := g') (t' := t') (d' := d') u hok hg hch
end

/-! ### the judgements -/
noncomputable abbrev XK := Value → Option Addr → Hp → Prop
noncomputable abbrev St := List (Option V)
noncomputable abbrev VK := V → Hp → Prop
noncomputable abbrev TE := St → Hp → VK → Prop
noncomputable abbrev TT := St → Hp → (Bool → Hp → Prop) → Prop
noncomputable abbrev TA := St → Hp → (List V → Hp → Prop) → Prop
structure Ends where
  nx : St → Hp → Prop
  rt : VK
  bk : St → Hp → Prop := fun _ _ => False
  ct : St → Hp → Prop := fun _ _ => False
noncomputable abbrev TS := Ends → St → Hp → Prop

noncomputable def EP (X : Cx) (pins : List (Addr × Obj)) (σ : St) (Q : VK) (u : Value) (s' : Shared) : Prop := ∃ v H', Inv X pins σ H' s' ∧ RelV v u ∧ Q v H'
noncomputable def TP (X : Cx) (pins : List (Addr × Obj)) (σ : St) (Q : Bool → Hp → Prop) (b : Bool) (s' : Shared) : Prop := ∃ H', Inv X pins σ H' s' ∧ Q b H'
noncomputable def AP (X : Cx) (pins : List (Addr × Obj)) (σ : St) (Q : List V → Hp → Prop) (us : List Value) (s' : Shared) : Prop := ∃ vs H', Inv X pins σ H' s' ∧ Vals vs us ∧ Q vs H'
noncomputable def SP (X : Cx) (pins : List (Addr × Obj)) (D : Ends) (f : Flow) (s' : Shared) : Prop :=
  match f with
  | .next => ∃ σ' H', Inv X pins σ' H' s' ∧ D.nx σ' H'
  | .brk => ∃ σ' H', Inv X pins σ' H' s' ∧ D.bk σ' H'
  | .cont => ∃ σ' H', Inv X pins σ' H' s' ∧ D.ct σ' H'
  | .ret u => ∃ v σ' H', Inv X pins σ' H' s' ∧ RelV v u ∧ D.rt v H'

noncomputable def PE (X : Cx) (e : Expr) (t : TE) : Prop :=
  ∀ (pins : List (Addr × Obj)) (s : Shared) (σ : St) (H : Hp) (Q : VK), Inv X pins σ H s → t σ H Q → wpAny (model X.prog X.w) X.A (eval e X.env) (EP X pins σ Q) X.xe s
noncomputable def PT (X : Cx) (e : Expr) (t : TT) : Prop :=
  ∀ (pins : List (Addr × Obj)) (s : Shared) (σ : St) (H : Hp) (Q : Bool → Hp → Prop), Inv X pins σ H s → t σ H Q → wpAny (model X.prog X.w) X.A (isTrue e X.env (eval e X.env)) (TP X pins σ Q) X.xe s
noncomputable def PW (X : Cx) (e : Expr) (t : TT) : Prop :=
  ∀ (whole : Sem Value) (pins : List (Addr × Obj)) (s : Shared) (σ : St) (H : Hp) (Q : Bool → Hp → Prop), Inv X pins σ H s → t σ H Q → wpAny (model X.prog X.w) X.A (isTrue e X.env whole) (TP X pins σ Q) X.xe s
theorem PW.pt {X : Cx} {e : Expr} {t : TT} (h : PW X e t) : PT X e t := h _
noncomputable def PA (X : Cx) (es : List Expr) (t : TA) : Prop :=
  ∀ (pos : Pos) (pins : List (Addr × Obj)) (s : Shared) (σ : St) (H : Hp) (Q : List V → Hp → Prop), Inv X pins σ H s → t σ H Q → wpAny (model X.prog X.w) X.A (spliced (backTo pos (starEach es X.env))) (AP X pins σ Q) X.xe s
noncomputable def PS (X : Cx) (st : Stmt) (t : TS) : Prop :=
  ∀ (pins : List (Addr × Obj)) (s : Shared) (σ : St) (H : Hp) (D : Ends), Inv X pins σ H s → t D σ H → wpAny (model X.prog X.w) X.A (exec st X.env) (SP X pins D) X.xe s
noncomputable def PSs (X : Cx) (st : List Stmt) (t : TS) : Prop :=
  ∀ (pins : List (Addr × Obj)) (s : Shared) (σ : St) (H : Hp) (D : Ends), Inv X pins σ H s → t D σ H → wpAny (model X.prog X.w) X.A (execs st X.env) (SP X pins D) X.xe s
theorem thn {α : Type} {t : Sem α} {Q Q' : α → Shared → Prop} {M : Model} {A : Around} {E : Value → Shared → Prop} {s : Shared} (h : wpAny M A t Q E s) (hQ : ∀ a s, Q a s → Q' a s) : wpAny M A t Q' E s := wpAny_mono h hQ fun _ _ x => x
end L2

namespace L2
open PySem PySem.Spec PyProof.Rows
section
variable {X : Cx}

/-! ### names and constants -/
noncomputable def tVar (i : Nat) : TE := fun σ H Q => ∃ v, σ[i]? = some (some v) ∧ Q v H
noncomputable def tC (v : V) : TE := fun _ H Q => Q v H
theorem pe_var {i : Nat} {x : Str} {pos : Pos} (hN : X.N[i]? = some x) (hv : Vis X.env.scope x) (hd : (x == ("__debug__" : Str)) = false := by decide) (hcd : (x == ("__classdict__" : Str)) = false := by decide) : PE X (.Name x pos) (tVar i) := by
  intro pins s σ H Q I h
  obtain ⟨v, e, h⟩ := h
  obtain ⟨m, hn, hl⟩ := I.loc
  obtain ⟨u, r, l⟩ := hl i x v hN e hv
  have fin : EP X pins σ Q u s := ⟨v, H, I, r, h⟩
  rcases l with ⟨hk, hm⟩ | ⟨hk, c, hc, hcell⟩
  · exact wpAny_Name (wpAny_loadName_local I.ok.kind hk hn hm fin) hd
  · rcases hk with hk | hk
    · exact wpAny_Name (wpAny_loadName_cell I.ok.kind hk hc hcell fin) hd
    · exact wpAny_Name (wpAny_loadName_free I.ok.kind hk hc hcell fin hcd) hd
theorem pe_int {i j pos} : PE X (.Constant (.int i) j pos) (tC (.int i)) := fun _ _ _ H _ I h => wpAny_Constant_int ⟨.int i, H, I.tok _, ⟨_, rfl⟩, h⟩
theorem pe_bl {b j pos} : PE X (.Constant (.bool b) j pos) (tC (.bl b)) := fun _ _ _ H _ I h => Constant_bool ⟨.bl b, H, I, rfl, h⟩
noncomputable def Gl (X : Cx) (x : Str) : Prop := X.env.kindOf x = some .globalImplicit
theorem ld_glob {E : Value → Shared → Prop} {pins : List (Addr × Obj)} {s : Shared} {σ : St} {H : Hp} {x : Str} {u : Value} {pos : Pos} {Q : Value → Shared → Prop} (I : Inv X pins σ H s) (hg : Gl X x) (hm : X.mg x = some u) (h : Q u s)
    (hd : (x == ("__debug__" : Str)) = false := by decide) : wpAny (model X.prog X.w) X.A (eval (.Name x pos) X.env) Q E s :=
  Calls.Name_function_global I.ok.kind hg (Calls.loadGlobal_global (by rw [I.ok.glob]; exact I.mod.glob.keeps I.bk) hm h) hd
theorem ld_blt {E : Value → Shared → Prop} {pins : List (Addr × Obj)} {s : Shared} {σ : St} {H : Hp} {x : Str} {u : Value} {pos : Pos} {Q : Value → Shared → Prop} (I : Inv X pins σ H s) (hg : Gl X x) (hm : X.mg x = none) (hv : bootBuiltins x = some u) (h : Q u s)
    (hn : x ≠ "__name__" := by decide) (hd : (x == ("__debug__" : Str)) = false := by decide) : wpAny (model X.prog X.w) X.A (eval (.Name x pos) X.env) Q E s := by
  obtain ⟨mb, h1, h2⟩ := I.mod.blt
  exact Calls.Name_function_global I.ok.kind hg (Calls.loadGlobal_builtin (by rw [I.ok.glob]; exact I.mod.glob.keeps I.bk) hm (by rw [I.ok.blt]; exact h1.keeps I.bk) ((h2 x hn).trans hv) h) hd
theorem pe_glob {x : Str} {v : V} {u : Value} {pos : Pos} (hg : Gl X x) (hm : X.mg x = some u) (r : RelV v u) (hd : (x == ("__debug__" : Str)) = false := by decide) : PE X (.Name x pos) (tC v) :=
  fun _ _ _ H _ I h => ld_glob I hg hm ⟨v, H, I, r, h⟩ hd
theorem pe_bltn {x : Str} {v : V} {u : Value} {pos : Pos} (hg : Gl X x) (hm : X.mg x = none) (hv : bootBuiltins x = some u) (r : RelV v u) (hn : x ≠ "__name__" := by decide) (hd : (x == ("__debug__" : Str)) = false := by decide) : PE X (.Name x pos) (tC v) :=
  fun _ _ _ H _ I h => ld_blt I hg hm hv ⟨v, H, I, r, h⟩ hn hd

/-! ### arithmetic -/
variable {a b : Expr} {ta tb : TE} {pos : Pos}
/-! ### comparisons -/
noncomputable def tB (t : TE) : TT := fun σ H Q => t σ H fun x H1 => ∃ c, x = .bl c ∧ Q c H1
theorem pt_val {e : Expr} {t : TE} (h : PE X e t) (he : ∀ whole, isTrue e X.env whole = (do let v ← whole; standAt e.pos; holding [v] (truthy v)) := by intro _; rfl) : PT X e (tB t) := by
  intro pins s σ H Q I hw
  refine isTrue_plain (thn (h pins s σ H _ I hw) fun v s1 ⟨x, H1, I1, r1, q1⟩ => ?_) (he _)
  obtain ⟨d, rfl, q⟩ := q1
  cases r1
  exact wpAny_truthy_bool ⟨H1, I1, q⟩

/-! ### and, or, not -/
variable {tA tB' : TT} {rest : List Expr}
noncomputable def tAnd (t u : TT) : TT := fun σ H Q => t σ H fun c H1 => if c = true then u σ H1 Q else Q false H1
noncomputable def tOr (t u : TT) : TT := fun σ H Q => t σ H fun c H1 => if c = true then Q true H1 else u σ H1 Q
noncomputable def tNot (t : TT) : TT := fun σ H Q => t σ H fun c H1 => Q (!c) H1
theorem pw_or1 (ha : PT X a tA) : PW X (.BoolOp .Or [a] pos) tA := by
  intro wh pins s σ H Q I h
  refine isTrue_or (thn (ha pins s σ H Q I h) fun c s1 e => ?_)
  cases c with
  | false => exact isTrue_or_nil e
  | true => exact e
theorem pw_or (ha : PT X a tA) (hb : PW X (.BoolOp .Or (b :: rest) pos) tB') : PW X (.BoolOp .Or (a :: b :: rest) pos) (tOr tA tB') := by
  intro wh pins s σ H Q I h
  refine isTrue_or (thn (ha pins s σ H _ I h) fun c s1 ⟨H1, I1, q1⟩ => ?_)
  cases c with
  | true => exact ⟨H1, I1, q1⟩
  | false => exact hb wh pins s1 σ H1 Q I1 q1
theorem pt_not (ha : PT X a tA) : PT X (.UnaryOp .Not a pos) (tNot tA) := by
  intro pins s σ H Q I h
  exact isTrue_not (ha pins s σ H (fun c H1 => Q (!c) H1) I h)
noncomputable def tAndV (ta tb : TE) : TE := fun σ H Q => ta σ H fun x H1 => ∃ c, x = .bl c ∧ if c = true then tb σ H1 Q else Q (.bl false) H1
noncomputable def tOrV (ta tb : TE) : TE := fun σ H Q => ta σ H fun x H1 => ∃ c, x = .bl c ∧ if c = true then Q (.bl true) H1 else tb σ H1 Q
noncomputable def tNotV (ta : TE) : TE := fun σ H Q => ta σ H fun x H1 => ∃ c, x = .bl c ∧ Q (.bl (!c)) H1
theorem pe_one {op} {t : TE} (h : PE X a t) : PE X (.BoolOp op [a] pos) t := fun pins s σ H Q I hw => BoolOp_one (h pins s σ H Q I hw)
theorem pe_and (ha : PE X a ta) (hb : PE X (.BoolOp .And (b :: rest) pos) tb) : PE X (.BoolOp .And (a :: b :: rest) pos) (tAndV ta tb) := by
  intro pins s σ H Q I h
  refine BoolOp_and (thn (ha pins s σ H _ I h) fun v s1 ⟨x, H1, I1, r1, q1⟩ => ?_)
  obtain ⟨c, rfl, q1⟩ := q1
  cases r1
  refine wpAny_truthy_bool ?_
  cases c with
  | true => exact hb pins s1 σ H1 Q I1 q1
  | false => exact ⟨.bl false, H1, I1, rfl, q1⟩
theorem pe_not (ha : PE X a ta) : PE X (.UnaryOp .Not a pos) (tNotV ta) := by
  intro pins s σ H Q I h
  refine UnaryOp_ (thn (ha pins s σ H _ I h) fun v s1 ⟨x, H1, I1, r1, q1⟩ => ?_)
  obtain ⟨c, rfl, q1⟩ := q1
  cases r1
  exact not_of (wpAny_truthy_bool ⟨.bl (!c), H1, I1, rfl, q1⟩)
noncomputable def tIf (t : TT) (ta tb : TE) : TE := fun σ H Q => t σ H fun c H1 => if c = true then ta σ H1 Q else tb σ H1 Q
end
end L2

namespace L2
open PySem PySem.Spec PyProof.Rows

/-! ### a list, a tuple that is read: tracked, frozen, or an object of the module -/
noncomputable def SqL (K : PySem.W.Frag) (H : Hp) (a : Addr) (xs : List V) : Prop :=
  Rd H a (.lst xs) ∨
    ∃ (o : Obj) (its : Array Value) (n : Nat), K.lookup a = some o ∧ o.cls = .type "list" ∧ o.dict = none ∧ o.data = .seq its n ∧ its.size ≤ sizeLine ∧ Vals xs its.toList
noncomputable def SqT (K : PySem.W.Frag) (H : Hp) (a : Addr) (xs : List V) : Prop :=
  Rd H a (.tup xs) ∨
    ∃ (o : Obj) (its : Array Value) (n : Nat), K.lookup a = some o ∧ o.cls = .type "tuple" ∧ o.data = .seq its n ∧ its.size ≤ sizeLine ∧ Vals xs its.toList
noncomputable def absV : Value → Option V
  | .none => some .non
  | .bool b => some (.bl b)
  | .int i _ => some (.int i)
  | .str x _ => some (.str x)
  | .bytes b _ => some (.byt b)
  | .float b _ => some (.flt b)
  | .ref a => some (.ref a)
  | .type n => some (.ty n)
  | _ => none
theorem RelV.abs {x : V} {u : Value} (r : RelV x u) : absV u = some x := by
  cases x with
  | non => cases r; rfl
  | bl _ => cases r; rfl
  | int _ => obtain ⟨t, rfl⟩ := r; rfl
  | str _ => obtain ⟨t, rfl⟩ := r; rfl
  | byt _ => obtain ⟨t, rfl⟩ := r; rfl
  | flt _ => obtain ⟨t, rfl⟩ := r; rfl
  | ref _ => cases r; rfl
  | ty _ => cases r; rfl
theorem RelV.inj {x y : V} {u : Value} (r : RelV x u) (q : RelV y u) : x = y := Option.some.inj (r.abs.symm.trans q.abs)
theorem Vals.inj {xs ys : List V} {us : List Value} (h : Vals xs us) : Vals ys us → xs = ys := by
  induction h generalizing ys with
  | nil => intro h; cases h; rfl
  | cons r t ih => intro h; cases h with
    | cons r' t' => rw [r.inj r', ih t']
section
variable {X : Cx} {pins : List (Addr × Obj)} {σ : St} {H : Hp} {s : Shared} {a : Addr} {xs ys : List V}
theorem SqL.of {K : PySem.W.Frag} (h : H a = some (.lst xs)) : SqL K H a xs := .inl (.inl h)
theorem SqT.of {K : PySem.W.Frag} (h : H a = some (.tup xs)) : SqT K H a xs := .inl (.inl h)
theorem Inv.list (I : Inv X pins σ H s) (h : SqL X.K H a xs) : ∃ its : List Value, Vals xs its ∧ PlainL s.heap a its.toArray ∧ xs.length ≤ sizeLine := by
  rcases h with h | ⟨o, its, n, hk, hc, hd, hs, hz, r⟩
  · obtain ⟨z, its, n, r, e⟩ := h.ok I.hok
    exact ⟨its, r, ⟨_, n, e, rfl, rfl, rfl⟩, z⟩
  · refine ⟨its.toList, r, ⟨o, n, I.kIn a o hk, hc, hd, by simpa using hs⟩, ?_⟩
    have e := r.length
    simp only [Array.length_toList] at e
    omega
theorem Inv.tuple (I : Inv X pins σ H s) (h : SqT X.K H a xs) : ∃ its : List Value, Vals xs its ∧ IsTup s.heap a its.toArray ∧ xs.length ≤ sizeLine := by
  rcases h with h | ⟨o, its, n, hk, hc, hs, hz, r⟩
  · obtain ⟨z, its, r, p⟩ := h.ok I.hok
    exact ⟨its, r, p.tup, z⟩
  · refine ⟨its.toList, r, ⟨o, I.kIn a o hk, hc, n, by simpa using hs⟩, ?_⟩
    have e := r.length
    simp only [Array.length_toList] at e
    omega
theorem Inv.list_inj (I : Inv X pins σ H s) (h : SqL X.K H a xs) (h' : SqL X.K H a ys) : xs = ys := by
  obtain ⟨its, r, ⟨o, n, e, _, _, d⟩, _⟩ := I.list h
  obtain ⟨its', r', ⟨o', n', e', _, _, d'⟩, _⟩ := I.list h'
  rw [e] at e'; cases e'
  rw [d] at d'
  injection d' with d1 _
  have : its = its' := by simpa using congrArg Array.toList d1
  subst this
  exact r.inj r'
theorem Inv.tuple_inj (I : Inv X pins σ H s) (h : SqT X.K H a xs) (h' : SqT X.K H a ys) : xs = ys := by
  obtain ⟨its, r, ⟨o, e, _, n, d⟩, _⟩ := I.tuple h
  obtain ⟨its', r', ⟨o', e', _, n', d'⟩, _⟩ := I.tuple h'
  rw [e] at e'; cases e'
  rw [d] at d'
  injection d' with d1 _
  have : its = its' := by simpa using congrArg Array.toList d1
  subst this
  exact r.inj r'
end

/-! ### another wish about exceptions -/
noncomputable abbrev Cx.wish (X : Cx) (E : Value → Shared → Prop) : Cx := { X with xe := E }
noncomputable abbrev Cx.nox (X : Cx) : Cx := X.wish fun _ _ => False
theorem Cx.Ok.wish {X : Cx} (ok : X.Ok) (E : Value → Shared → Prop) : (X.wish E).Ok :=
  ⟨ok.mod, ok.kind, ok.glob, ok.blt, ok.above, ok.inj, ok.has, ok.cab, ok.hd, ok.frames, ok.stk, ok.exf, ok.bs, ok.bsz, ok.noex, ok.exfs, ok.funs, ok.frf⟩
theorem Cx.Ok.unwish {X : Cx} {E : Value → Shared → Prop} (ok : (X.wish E).Ok) : X.Ok :=
  ⟨ok.mod, ok.kind, ok.glob, ok.blt, ok.above, ok.inj, ok.has, ok.cab, ok.hd, ok.frames, ok.stk, ok.exf, ok.bs, ok.bsz, ok.noex, ok.exfs, ok.funs, ok.frf⟩
section
variable {X : Cx} {pins : List (Addr × Obj)} {σ : St} {H : Hp} {s : Shared} {E : Value → Shared → Prop}
theorem Inv.wish (I : Inv X pins σ H s) (E : Value → Shared → Prop) : Inv (X.wish E) pins σ H s := ⟨I.ok.wish E, I.os, I.bare, I.base, I.loc, I.cell, I.free, I.freeC, I.pin, I.hok, I.len⟩
theorem Inv.unwish (I : Inv (X.wish E) pins σ H s) : Inv X pins σ H s := ⟨I.ok.unwish, I.os, I.bare, I.base, I.loc, I.cell, I.free, I.freeC, I.pin, I.hok, I.len⟩
theorem SP.unwish {D : Ends} {f : Flow} {s' : Shared} (h : SP (X.wish E) pins D f s') : SP X pins D f s' := by
  cases f with
  | next => obtain ⟨σ', H', I, q⟩ := h; exact ⟨σ', H', I.unwish, q⟩
  | brk => obtain ⟨σ', H', I, q⟩ := h; exact ⟨σ', H', I.unwish, q⟩
  | cont => obtain ⟨σ', H', I, q⟩ := h; exact ⟨σ', H', I.unwish, q⟩
  | ret u => obtain ⟨v, σ', H', I, r, q⟩ := h; exact ⟨v, σ', H', I.unwish, r, q⟩
theorem PE.nox {e : Expr} {t : TE} (h : PE X.nox e t) : PE X e t := fun pins s σ H Q I hw =>
  wpAny_mono (h pins s σ H Q (I.wish _) hw) (fun _ _ ⟨v, H', I', r, q⟩ => ⟨v, H', I'.unwish, r, q⟩) fun _ _ z => False.elim z
theorem PT.nox {e : Expr} {t : TT} (h : PT X.nox e t) : PT X e t := fun pins s σ H Q I hw =>
  wpAny_mono (h pins s σ H Q (I.wish _) hw) (fun _ _ ⟨H', I', q⟩ => ⟨H', I'.unwish, q⟩) fun _ _ z => False.elim z
theorem PSs.nox {st : List Stmt} {t : TS} (h : PSs X.nox st t) : PSs X st t := fun pins s σ H D I hw =>
  wpAny_mono (h pins s σ H D (I.wish _) hw) (fun _ _ q => q.unwish) fun _ _ z => False.elim z
end

/-! ### blocks and small statements -/
section
variable {X : Cx} {st : Stmt} {rest : List Stmt} {t u : TS} {e : Expr} {te : TE} {pos : Pos}
noncomputable def tNext : TS := fun D σ H => D.nx σ H
noncomputable def tSeq (t u : TS) : TS := fun D σ H => t { D with nx := u D } σ H
theorem pss_nil : PSs X [] tNext := fun _ _ σ H _ I h => wpAny_execs_nil ⟨σ, H, I, h⟩
theorem pss_cons (h1 : PS X st t) (h2 : PSs X rest u) : PSs X (st :: rest) (tSeq t u) := by
  intro pins s σ H D I h
  refine wpAny_execs_cons (thn (h1 pins s σ H { D with nx := u D } I h) fun f s1 q => ?_)
  cases f with
  | next =>
    obtain ⟨σ', H', I', q⟩ := q
    exact h2 pins s1 σ' H' D I' q
  | ret v => exact q
  | brk => exact q
  | cont => exact q
theorem pss_one (h1 : PS X st t) : PSs X [st] t := by
  intro pins s σ H D I h
  refine wpAny_execs_cons (thn (h1 pins s σ H D I h) fun f s1 q => ?_)
  cases f with
  | next => exact wpAny_execs_nil q
  | ret v => exact q
  | brk => exact q
  | cont => exact q
noncomputable def tBreak : TS := fun D σ H => D.bk σ H
noncomputable def tCont : TS := fun D σ H => D.ct σ H
theorem Inv.quiet {pins : List (Addr × Obj)} {σ : St} {H : Hp} {s : Shared} (I : Inv X pins σ H s) : interactive X.env = false := by simp [interactive, I.ok.kind]
noncomputable def tDrop (te : TE) : TS := fun D σ H => te σ H fun _ H1 => D.nx σ H1
theorem ps_expr (he : PE X e te) (hs : swapsWith e none pos.line X.env = pure false := by rfl) : PS X (.Expr e pos) (tDrop te) := by
  intro pins s σ H D I h
  exact wpAny_Expr_any (thn (he pins s σ H _ I h) fun v s1 ⟨x, H1, I1, r1, q1⟩ => ⟨σ, H1, I1, q1⟩) I.quiet hs
noncomputable def tRet (te : TE) : TS := fun D σ H => te σ H D.rt
theorem ps_ret (he : PE X e te) : PS X (.Return (some e) pos) (tRet te) := by
  intro pins s σ H D I h
  exact wpAny_Return_some (thn (he pins s σ H _ I h) fun v s1 ⟨x, H1, I1, r1, q1⟩ => ⟨x, σ, H1, I1, r1, q1⟩)
noncomputable def tRetN : TS := fun D _ H => D.rt .non H
noncomputable def tIfS (c : TT) (t u : TS) : TS := fun D σ H => c σ H fun b H1 => if b = true then t D σ H1 else u D σ H1
theorem ps_if {c : Expr} {a b : List Stmt} {tc : TT} (hc : PT X c tc) (ha : PSs X a t) (hb : PSs X b u) : PS X (.If c a b pos) (tIfS tc t u) := by
  intro pins s σ H D I h
  refine wpAny_If (thn (hc pins s σ H _ I h) fun d s1 ⟨H1, I1, q1⟩ => ?_)
  cases d with
  | true => exact ha pins s1 σ H1 D I1 q1
  | false => exact hb pins s1 σ H1 D I1 q1
noncomputable def tNever : TS := fun _ _ _ => False
theorem ps_never : PS X st tNever := fun _ _ _ _ _ _ h => h.elim
end

/-! ### targets -/
noncomputable abbrev TG := V → St → Hp → (St → Hp → Prop) → Prop
noncomputable abbrev TGs := List V → St → Hp → (St → Hp → Prop) → Prop
noncomputable def PG (X : Cx) (target : Expr) (t : TG) : Prop :=
  ∀ (pins : List (Addr × Obj)) (s : Shared) (σ : St) (H : Hp) (v : V) (u : Value) (Q : St → Hp → Prop), Inv X pins σ H s → RelV v u → t v σ H Q →
    wpAny (model X.prog X.w) X.A (assign target X.env u) (fun _ s' => ∃ σ' H', Inv X pins σ' H' s' ∧ Q σ' H') X.xe s
noncomputable def PGs (X : Cx) (ts : List Expr) (t : TGs) : Prop :=
  ∀ (pins : List (Addr × Obj)) (s : Shared) (σ : St) (H : Hp) (vs : List V) (us : List Value) (Q : St → Hp → Prop), Inv X pins σ H s → Vals vs us → t vs σ H Q →
    wpAny (model X.prog X.w) X.A (assignInOrder ((assignEach ts X.env).map (·.2)) us) (fun _ s' => ∃ σ' H', Inv X pins σ' H' s' ∧ Q σ' H') X.xe s
noncomputable abbrev TSet := V → V → V → Hp → (Hp → Prop) → Prop
noncomputable def PSet (X : Cx) (t : TSet) : Prop :=
  ∀ (pins : List (Addr × Obj)) (s : Shared) (σ : St) (H : Hp) (o i v : V) (ov iv u : Value) (Q : Hp → Prop), Inv X pins σ H s → RelV o ov → RelV i iv → RelV v u → t o i v H Q →
    wpAny (model X.prog X.w) X.A (setItem ov iv u) (fun _ s' => ∃ H', Inv X pins σ H' s' ∧ Q H') X.xe s
section
variable {X : Cx} {pos : Pos}
noncomputable def gName (i : Nat) : TG := fun v σ H Q => Q (σ.set i (some v)) H
theorem pg_name {i : Nat} {x : Str} (hN : X.N.Nodup) (hi : X.N[i]? = some x) (hx : Loc X.env.scope x) (hf : X.fn x = true ∨ X.env.scope.names.lookup x = some .local := by first | exact .inl rfl | exact .inr rfl | assumption) : PG X (.Name x pos) (gName i) := by
  intro pins s σ H v u Q I r h
  exact wpAny_assign_Name (store_ok I hN hi hx r (fun s' I' => ⟨_, H, I', h⟩) hf)
noncomputable def gNil : TGs := fun vs σ H Q => vs = [] ∧ Q σ H
noncomputable def gCons (t : TG) (u : TGs) : TGs := fun vs σ H Q => ∃ v r, vs = v :: r ∧ t v σ H fun σ' H' => u r σ' H' Q
theorem pgs_nil : PGs X [] gNil := by
  intro pins s σ H vs us Q I r h
  obtain ⟨e, h⟩ := h
  subst e
  cases r
  exact assignInOrder_nil ⟨σ, H, I, h⟩
theorem pgs_cons {e : Expr} {es : List Expr} {t : TG} {u : TGs} (h1 : PG X e t) (h2 : PGs X es u)
    (hs : (assignEach (e :: es) X.env).map (·.2) = assign e X.env :: (assignEach es X.env).map (·.2) := by rfl) : PGs X (e :: es) (gCons t u) := by
  intro pins s σ H vs us Q I r h
  obtain ⟨v, vr, e1, h⟩ := h
  subst e1
  cases r with
  | cons r rr =>
    rw [hs]
    refine assignInOrder_cons (thn (h1 pins s σ H _ _ _ I r h) fun _ s1 ⟨σ1, H1, I1, q1⟩ => ?_)
    exact h2 pins s1 σ1 H1 _ _ Q I1 rr q1
noncomputable def gTup (K : PySem.W.Frag) (n : Nat) (t : TGs) : TG := fun v σ H Q => ∃ a xs, v = .ref a ∧ SqT K H a xs ∧ xs.length = n ∧ t xs σ H Q
theorem pg_tup {es : List Expr} {k : Nat} {t : TGs} {n : Nat} (hc : X.calm = true) (h : PGs X es t)
    (hn : (assignEach es X.env).length = n := by rfl) (hst : (assignEach es X.env).findIdx? (·.1) = none := by rfl) : PG X (.Tuple es k pos) (gTup X.K n t) := by
  intro pins s σ H v u Q I r hw
  obtain ⟨a, xs, e1, hq, hl, hw⟩ := hw
  subst e1
  cases r
  obtain ⟨its, rv, ht, hz⟩ := I.tuple hq
  refine assign_Tuple_tuple (I.ok.hd hc) ht (by simp [hn, ← hl, rv.length]) hst fun h' hx => ?_
  have I1 : Inv X pins σ H { s with heap := h' } := I.kept (t' := s.toks) fun b o e => hx b o (Nat.ne_of_lt (Heap.lt_size e)) e
  exact h pins _ σ H xs _ Q I1 (by simpa using rv) hw
noncomputable def gSub (to ti : TE) (t : TSet) : TG := fun v σ H Q => to σ H fun o H1 => ti σ H1 fun i H2 => t o i v H2 fun H3 => Q σ H3
theorem pg_sub {o i : Expr} {to ti : TE} {t : TSet} (ho : PE X o to) (hi : PE X i ti) (hs : PSet X t)
    (ha : ∀ v, assign (.Subscript o i pos) X.env v = (do
      let ov ← holding [v] (eval o X.env)
      let iv ← holding [v, ov] (eval i X.env)
      standAt pos
      holding [v, ov, iv] (setItem ov iv v)
      release [v, ov, iv] []) := by intro _; rfl) : PG X (.Subscript o i pos) (gSub to ti t) := by
  intro pins s σ H v u Q I r h
  rw [ha]
  refine wpAny_bind (wpAny_holding (thn (ho pins s σ H _ I h) fun ov s1 ⟨x, H1, I1, r1, q1⟩ => ?_))
  refine wpAny_bind (wpAny_holding (thn (hi pins s1 σ H1 _ I1 q1) fun iv s2 ⟨y, H2, I2, r2, q2⟩ => ?_))
  refine wpAny_bind (wpAny_standAt (wpAny_bind (wpAny_holding (thn (hs pins s2 σ H2 x y v ov iv u _ I2 r1 r2 r q2) fun _ s3 ⟨H3, I3, q3⟩ => ?_))))
  exact wpAny_release ⟨σ, H3, I3, q3⟩
noncomputable def tAsg (te : TE) (g : TG) : TS := fun D σ H => te σ H fun x H1 => g x σ H1 D.nx
theorem ps_asg {tg e : Expr} {te : TE} {g : TG} (he : PE X e te) (hg : PG X tg g) (hs : swapsWithSole [tg] e pos.line X.env = pure false := by rfl) (hw : swappedStores [tg] e X.env = pure none := by rfl)
    (h1 : (assignEach [tg] X.env).map (·.2) = [assign tg X.env] := by rfl) : PS X (.Assign [tg] e pos) (tAsg te g) := by
  intro pins s σ H D I h
  refine wpAny_Assign_stores (thn (he pins s σ H _ I h) fun v s1 ⟨x, H1, I1, r1, q1⟩ => ?_) hs hw
  rw [h1]
  exact thn (hg pins s1 σ H1 x v _ I1 r1 q1) fun _ s2 q => q
theorem ps_set {i : Nat} {x : Str} {e : Expr} {te : TE} {pos' : Pos} (hN : X.N.Nodup) (hi : X.N[i]? = some x) (hx : Loc X.env.scope x) (he : PE X e te) (hs : swapsWith e (some (.Name x pos')) pos.line X.env = pure false := by rfl) (hf : X.fn x = true ∨ X.env.scope.names.lookup x = some .local := by first | exact .inl rfl | exact .inr rfl | assumption) :
    PS X (.Assign [.Name x pos'] e pos) (tAsg te (gName i)) := by
  intro pins s σ H D I h
  refine wpAny_Assign_Name (thn (he pins s σ H _ I h) fun v s1 ⟨y, H1, I1, r1, q1⟩ => ?_) hs
  exact store_ok I1 hN hi hx r1 (fun s2 I2 => ⟨_, H1, I2, q1⟩) hf
end

/-! ### while -/
section
variable {X : Cx} {pos : Pos}
end

/-! ### what a loop or a comprehension walks -/
structure It where
  go : Nat → Hp → Prop
  yld : Nat → Hp → V → Hp → Prop
  stop : Nat → Hp → Prop
noncomputable def FpOk (X : Cx) (pins : List (Addr × Obj)) (H : Hp) (b : Addr) : Prop :=
  H b = none ∧ b ≠ X.env.locals ∧ b ∉ X.fs ∧ (b ∈ X.ex ∨ X.s₀.heap.objs.size ≤ b) ∧ (∀ x c, X.env.cells.lookup x = some c → c ≠ b) ∧ ∀ p ∈ X.pn ++ pins, p.1 ≠ b
theorem Inv.fpOk {X : Cx} {pins : List (Addr × Obj)} {σ : St} {H H' : Hp} {s : Shared} {b : Addr} (I : Inv X pins σ H s) (hb : s.heap.objs.size ≤ b) (hn : H' b = none) : FpOk X pins H' b := by
  refine ⟨hn, Nat.ne_of_gt (Nat.lt_of_lt_of_le I.lt hb), I.nofs hb, .inr (Nat.le_trans I.sz hb), fun x c e z => ?_, fun p hp z => ?_⟩
  · obtain ⟨v, q⟩ := I.cell x c e
    exact absurd (Nat.lt_of_lt_of_le q.lt (by rw [z]; exact hb)) (Nat.lt_irrefl _)
  · exact absurd (Nat.lt_of_lt_of_le (Heap.lt_size (I.pin p hp).1) (by rw [z]; exact hb)) (Nat.lt_irrefl _)
structure Turn (P : Program) (w : World) (K : PySem.W.Frag) (tg : Expr) (J : It) (fp : List Addr) (it : Addr) (tn : Nat → Heap → Prop) : Prop where
  mem : it ∈ fp
  obj : ∀ i h, tn i h → ∀ b ∈ fp, ∃ o, h.get? b = some o ∧ ∀ v, o.data ≠ .cell v
  keep : ∀ i h h', tn i h → (∀ b ∈ fp, ∀ o, h.get? b = some o → h'.get? b = some o) → tn i h'
  item : ∀ (X : Cx), X.prog = P → X.w = w → X.K = K → X.calm = true → ∀ (i : Nat) (pins : List (Addr × Obj)) (s : Shared) (σ : St) (H : Hp) (E : Value → Shared → Prop), Inv X pins σ H s → (∀ b ∈ fp, FpOk X pins H b) → tn i s.heap → J.go i H →
    wpAny (model P w) X.A (pyNext (.ref it)) (fun r s1 => ∃ u, r = some u ∧
      wpAny (model P w) X.A (letOwnedTupleGo tg (.ref it) u) (fun _ s2 => ∃ x H', Inv X pins σ H' s2 ∧ RelV x u ∧ J.yld i H x H' ∧ tn (i + 1) s2.heap ∧ ∀ b ∈ fp, H' b = none) E s1) E s
  done : ∀ (X : Cx), X.prog = P → X.w = w → X.K = K → X.calm = true → ∀ (i : Nat) (pins : List (Addr × Obj)) (s : Shared) (σ : St) (H : Hp) (E : Value → Shared → Prop), Inv X pins σ H s → (∀ b ∈ fp, FpOk X pins H b) → tn i s.heap → J.stop i H →
    wpAny (model P w) X.A (pyNext (.ref it)) (fun r s1 => r = none ∧ Inv X pins σ H s1) E s
  self : ∀ (A : Around) (i : Nat) (s : Shared) (Q : Value → Shared → Prop) (E : Value → Shared → Prop), tn i s.heap → Q (.ref it) s → wpAny (model P w) A (pyIter (.ref it)) Q E s
noncomputable abbrev TI := St → Hp → (It → Hp → Prop) → Prop
noncomputable def PIE (X : Cx) (pins : List (Addr × Obj)) (σ : St) (tg : Expr) (R : It → Hp → Prop) (itv : Value) (s2 : Shared) : Prop :=
  ∃ (it : Addr) (fp : List Addr) (tn : Nat → Heap → Prop) (J : It) (H' : Hp), itv = .ref it ∧ Inv X pins σ H' s2 ∧ Turn X.prog X.w X.K tg J fp it tn ∧ tn 0 s2.heap ∧ (∀ b ∈ fp, FpOk X pins H' b) ∧ R J H'
noncomputable def PI (X : Cx) (tg iter : Expr) (wi : TI) : Prop :=
  ∀ (pins : List (Addr × Obj)) (s : Shared) (σ : St) (H : Hp) (R : It → Hp → Prop), Inv X pins σ H s → wi σ H R →
    wpAny (model X.prog X.w) X.A (eval iter X.env) (fun v s1 => wpAny (model X.prog X.w) X.A (pyIter v) (PIE X pins σ tg R) X.xe s1) X.xe s

theorem go_of {M : Model} {A : Around} {E : Value → Shared → Prop} {s : Shared} {tg : Expr} {it : Addr} {u : Value} {o : Obj} {n : String} {vs : Array Value} {Q : Unit → Shared → Prop} (ho : s.heap.get? it = some o) (hc : o.cls = .type n) (hd : o.data = .fields vs)
    (hn : ["enumerate", "zip", "dict_itemiterator", "dict_reverseitemiterator", "odict_iterator", "itertools.zip_longest", "itertools.pairwise"].contains n = false) (hQ : Q () s) : wpAny M A (letOwnedTupleGo tg (.ref it) u) Q E s := by
  unfold letOwnedTupleGo
  cases tg <;> first
    | exact wpAny_pure hQ
    | (cases u <;> first
        | exact wpAny_pure hQ
        | (refine wpAny_bind (wpAny_load ho ?_)
           rw [hc, hd]
           show wpAny M A (if (["enumerate", "zip", "dict_itemiterator", "dict_reverseitemiterator", "odict_iterator", "itertools.zip_longest", "itertools.pairwise"].contains n && vs[0]? == some (rawInt _)) = true then _ else _) Q E s
           rw [if_neg (by intro h; rw [hn, Bool.false_and] at h; cases h)]
           exact wpAny_pure hQ))

noncomputable def Itl (K : PySem.W.Frag) (a : Addr) : It :=
  ⟨fun i H => ∃ xs x, SqL K H a xs ∧ xs[i]? = some x, fun i H x H' => H' = H ∧ ∀ xs, SqL K H a xs → xs[i]? = some x, fun i H => ∃ xs, SqL K H a xs ∧ xs.length ≤ i⟩
noncomputable def Itt (K : PySem.W.Frag) (a : Addr) : It :=
  ⟨fun i H => ∃ xs x, SqT K H a xs ∧ xs[i]? = some x, fun i H x H' => H' = H ∧ ∀ xs, SqT K H a xs → xs[i]? = some x, fun i H => ∃ xs, SqT K H a xs ∧ xs.length ≤ i⟩
noncomputable def Itr (lo : Int) (n : Nat) : It := ⟨fun i _ => i < n, fun i H x H' => H' = H ∧ x = .int (lo + i), fun i _ => n ≤ i⟩
theorem turn_list {P : Program} {w : World} {K : PySem.W.Frag} {tg : Expr} (a it : Addr) : Turn P w K tg (Itl K a) [it] it (fun i h => h.IsListIter it a i) where
  mem := by simp
  obj := fun i h st b hb => by
    have e : b = it := by simpa using hb
    subst e
    obtain ⟨o, e, c, d⟩ := st
    exact ⟨o, e, fun v z => by rw [d] at z; cases z⟩
  keep := fun i h h' st k => st.at fun o e => k it (by simp) o e
  item := by
    intro X hP hw hK hc i pins s σ H E I hf st hg
    subst hP hw hK
    obtain ⟨xs, x, hq, hx⟩ := hg
    obtain ⟨its, rv, p, hz⟩ := I.list hq
    obtain ⟨u, hu, ru⟩ := rv.get hx
    obtain ⟨f0, f1, f2, f3, f4, f5⟩ := hf it (by simp)
    refine wpAny_pyNext_list_item st p.isList (x := u) (by simpa using hu) fun h' st' sb => ?_
    have I1 : Inv X pins σ H { s with heap := h' } := I.turned (t' := s.toks) (fun b o hb e => (sb.2 b hb).trans e) f0 f1 f3 f4 f5
    obtain ⟨o, e, c, d⟩ := id st'
    exact ⟨u, rfl, go_of (s := { s with heap := h' }) e c d (by decide) ⟨x, H, I1, ru, ⟨rfl, fun ys hy => by rw [I.list_inj hy hq]; exact hx⟩, st', fun b hb => (hf b hb).1⟩⟩
  done := by
    intro X hP hw hK hc i pins s σ H E I hf st hg
    subst hP hw hK
    obtain ⟨xs, hq, hx⟩ := hg
    obtain ⟨its, rv, p, hz⟩ := I.list hq
    obtain ⟨f0, f1, f2, f3, f4, f5⟩ := hf it (by simp)
    have hl := rv.length
    exact wpAny_pyNext_list_end (I.ok.hd hc) st p.isList (by simp; omega) fun h' eb => ⟨rfl, I.turned (t' := s.toks) (fun b o hb e => eb b o hb e) f0 f1 f3 f4 f5⟩
  self := fun _ _ _ _ _ st h => wpAny_pyIter_listiter st h
theorem turn_tuple {P : Program} {w : World} {K : PySem.W.Frag} {tg : Expr} (a it : Addr) : Turn P w K tg (Itt K a) [it] it (fun i h => h.IsTupleIter it a i) where
  mem := by simp
  obj := fun i h st b hb => by
    have e : b = it := by simpa using hb
    subst e
    obtain ⟨o, e, c, d⟩ := st
    exact ⟨o, e, fun v z => by rw [d] at z; cases z⟩
  keep := fun i h h' st k => st.at fun o e => k it (by simp) o e
  item := by
    intro X hP hw hK hc i pins s σ H E I hf st hg
    subst hP hw hK
    obtain ⟨xs, x, hq, hx⟩ := hg
    obtain ⟨its, rv, p, hz⟩ := I.tuple hq
    obtain ⟨u, hu, ru⟩ := rv.get hx
    obtain ⟨f0, f1, f2, f3, f4, f5⟩ := hf it (by simp)
    refine wpAny_pyNext_tuple_item st (show s.heap.IsTuple a its.toArray from p) (x := u) (by simpa using hu) fun h' st' sb => ?_
    have I1 : Inv X pins σ H { s with heap := h' } := I.turned (t' := s.toks) (fun b o hb e => (sb.2 b hb).trans e) f0 f1 f3 f4 f5
    obtain ⟨o, e, c, d⟩ := id st'
    exact ⟨u, rfl, go_of (s := { s with heap := h' }) e c d (by decide) ⟨x, H, I1, ru, ⟨rfl, fun ys hy => by rw [I.tuple_inj hy hq]; exact hx⟩, st', fun b hb => (hf b hb).1⟩⟩
  done := by
    intro X hP hw hK hc i pins s σ H E I hf st hg
    subst hP hw hK
    obtain ⟨xs, hq, hx⟩ := hg
    obtain ⟨its, rv, p, hz⟩ := I.tuple hq
    obtain ⟨f0, f1, f2, f3, f4, f5⟩ := hf it (by simp)
    have hl := rv.length
    exact wpAny_pyNext_tuple_end (I.ok.hd hc) st (show s.heap.IsTuple a its.toArray from p) (by simp; omega) fun h' eb => ⟨rfl, I.turned (t' := s.toks) (fun b o hb e => eb b o hb e) f0 f1 f3 f4 f5⟩
  self := fun _ _ _ _ _ st h => wpAny_pyIter_tupleiter st h
theorem turn_range {P : Program} {w : World} {K : PySem.W.Frag} {tg : Expr} (it : Addr) (lo : Int) (n : Nat) : Turn P w K tg (Itr lo n) [it] it (fun i h => IsRangeIter h it (lo + (i : Nat) * 1) ((n : Int) - (i : Nat)) 1) where
  mem := by simp
  obj := fun i h st b hb => by
    have e : b = it := by simpa using hb
    subst e
    exact ⟨_, st, fun v z => by
      have z' : Data.fields _ = Data.cell v := z
      cases z'⟩
  keep := fun i h h' st k => k it (by simp) _ st
  item := by
    intro X hP hw hK hc i pins s σ H E I hf st hg
    subst hP hw hK
    obtain ⟨f0, f1, f2, f3, f4, f5⟩ := hf it (by simp)
    have W := Walks.range (prog := X.prog) (w := X.w) (I.ok.hd hc) it lo 1 n
    refine W.item i s _ _ hg st fun v h' tk hv st' kk => ?_
    obtain ⟨t, rfl⟩ := hv
    have I1 : Inv X pins σ H { s with heap := h', toks := tk } := I.turned (fun b o hb e => kk b o (by simpa using hb) e) f0 f1 f3 f4 f5
    refine ⟨_, rfl, go_of (s := { s with heap := h', toks := tk }) (n := "range_iterator") st' rfl rfl (by decide) ⟨.int (lo + i), H, I1, ⟨t, ?_⟩, ⟨rfl, rfl⟩, st', fun b hb => (hf b hb).1⟩⟩
    rw [Int.mul_one]
  done := by
    intro X hP hw hK hc i pins s σ H E I hf st hg
    subst hP hw hK
    obtain ⟨f0, f1, f2, f3, f4, f5⟩ := hf it (by simp)
    exact wpAny_pyNext_range_end (I.ok.hd hc) st (by have : n ≤ i := hg; omega) fun h' eb => ⟨rfl, I.turned (t' := s.toks) (fun b o hb e => eb b o hb e) f0 f1 f3 f4 f5⟩
  self := fun _ _ _ _ _ st h => wpAny_pyIter_rangeiter st h
end L2

namespace L2
open PySem PySem.Spec PyProof.Rows
section
variable {X : Cx} {tg : Expr}
noncomputable def iList (K : PySem.W.Frag) (tl : TE) : TI := fun σ H R => tl σ H fun x H1 => ∃ a, x = .ref a ∧ (∃ xs, SqL K H1 a xs) ∧ R (Itl K a) H1
noncomputable def iTup (K : PySem.W.Frag) (tl : TE) : TI := fun σ H R => tl σ H fun x H1 => ∃ a, x = .ref a ∧ (∃ xs, SqT K H1 a xs) ∧ R (Itt K a) H1
theorem pi_list {l : Expr} {tl : TE} (hl : PE X l tl) : PI X tg l (iList X.K tl) := by
  intro pins s σ H R I h
  refine thn (hl pins s σ H _ I h) fun v s1 ⟨x, H1, I1, r1, q1⟩ => ?_
  obtain ⟨a, e, ⟨xs, hq⟩, q⟩ := q1
  subst e
  cases r1
  obtain ⟨its, rv, p, hz⟩ := I1.list hq
  refine wpAny_pyIter_list p.isList ?_
  refine ⟨s1.heap.objs.size, [s1.heap.objs.size], _, _, H1, rfl, I1.kept (t' := s1.toks) fun b o e => Heap.get?_push_of_some _ e, turn_list a _, ⟨_, Heap.get?_push_size _ rfl, rfl, rfl⟩, fun b hb => ?_, q⟩
  have e : b = s1.heap.objs.size := by simpa using hb
  subst e
  exact I1.fpOk (Nat.le_refl _) (I1.hok.fresh (Nat.le_refl _))
theorem pi_tup {l : Expr} {tl : TE} (hl : PE X l tl) : PI X tg l (iTup X.K tl) := by
  intro pins s σ H R I h
  refine thn (hl pins s σ H _ I h) fun v s1 ⟨x, H1, I1, r1, q1⟩ => ?_
  obtain ⟨a, e, ⟨xs, hq⟩, q⟩ := q1
  subst e
  cases r1
  obtain ⟨its, rv, p, hz⟩ := I1.tuple hq
  refine wpAny_pyIter_tuple (show s1.heap.IsTuple a its.toArray from p) ?_
  refine ⟨s1.heap.objs.size, [s1.heap.objs.size], _, _, H1, rfl, I1.kept (t' := s1.toks) fun b o e => Heap.get?_push_of_some _ e, turn_tuple a _, ⟨_, Heap.get?_push_size _ rfl, rfl, rfl⟩, fun b hb => ?_, q⟩
  have e : b = s1.heap.objs.size := by simpa using hb
  subst e
  exact I1.fpOk (Nat.le_refl _) (I1.hok.fresh (Nat.le_refl _))
theorem range_it {pins : List (Addr × Obj)} {σ : St} {H : Hp} {s : Shared} {R : It → Hp → Prop} {E : Value → Shared → Prop} {lo hi : Int} {t u v : Tok} {tk : Nat} (I : Inv X pins σ H s) (h1 : -(2 ^ 62) ≤ lo) (h2 : lo < 2 ^ 62) (h3 : -(2 ^ 62) ≤ hi) (h4 : hi < 2 ^ 62)
    (q : R (Itr lo (hi - lo).toNat) H) : wpAny (model X.prog X.w) X.A (pyIter (.ref s.heap.objs.size)) (PIE X pins σ tg R) E { s with heap := s.heap.push { cls := .type "range", data := .fields #[.int lo t, .int hi u, .int 1 v] }, toks := tk } := by
  refine wpAny_pyIter_range (IsRange.new ..) (small_one h1 h2 h3 h4) ?_
  have I1 : Inv X pins σ H { s with heap := s.heap.push { cls := .type "range", data := .fields #[.int lo t, .int hi u, .int 1 v] }, toks := tk } := I.kept fun b o e => Heap.get?_push_of_some _ e
  refine ⟨(s.heap.push { cls := .type "range", data := .fields #[.int lo t, .int hi u, .int 1 v] }).objs.size, [(s.heap.push { cls := .type "range", data := .fields #[.int lo t, .int hi u, .int 1 v] }).objs.size], _, _, H, rfl,
    I1.kept (t' := tk) fun b o e => Heap.get?_push_of_some _ e, turn_range _ lo (hi - lo).toNat, ?_, fun b hb => ?_, q⟩
  · have e1 : lo + ((0 : Nat) : Int) * 1 = lo := by simp
    have e2 : (((hi - lo).toNat : Nat) : Int) - ((0 : Nat) : Int) = Builtin.Range.rangeSize lo hi 1 := by rw [rangeSize_one]; split <;> omega
    show IsRangeIter _ _ (lo + ((0 : Nat) : Int) * 1) ((((hi - lo).toNat : Nat) : Int) - ((0 : Nat) : Int)) 1
    rw [e1, e2]
    exact Heap.get?_push_size _ rfl
  · have e : b = (s.heap.push { cls := .type "range", data := .fields #[.int lo t, .int hi u, .int 1 v] }).objs.size := by simpa using hb
    subst e
    exact I1.fpOk (Nat.le_refl _) (I1.hok.fresh (Nat.le_refl _))
noncomputable def iRng1 (ta : TA) : TI := fun σ H R => ta σ H fun vs H1 => ∃ j : Int, vs = [.int j] ∧ -(2 ^ 62) ≤ j ∧ j < 2 ^ 62 ∧ R (Itr 0 j.toNat) H1
noncomputable def iRng2 (ta : TA) : TI := fun σ H R => ta σ H fun vs H1 => ∃ i j : Int, vs = [.int i, .int j] ∧ (-(2 ^ 62) ≤ i ∧ i < 2 ^ 62 ∧ -(2 ^ 62) ≤ j ∧ j < 2 ^ 62) ∧ R (Itr i (j - i).toNat) H1
theorem pi_range1 {a : Expr} {ta : TA} {p pos : Pos} (hg : Gl X "range") (hm : X.mg "range" = none) (ha : PA X [a] ta) (hs : starEach [a] X.env = [(false, eval a X.env)] := by rfl) : PI X tg (.Call (.Name "range" p) [a] [] pos) (iRng1 ta) := by
  intro pins s σ H R I h
  refine Call_ (ld_blt I hg hm boot_range (PyProof.Rows.callWith_type1 (thn (ha pos pins s σ H _ I h) fun us s1 ⟨vs, H1, I1, r1, q1⟩ => ?_) hs rfl))
  obtain ⟨j, e, q1, q2, q⟩ := q1
  subst e
  cases r1 with
  | cons r rr =>
    cases rr
    obtain ⟨t, rfl⟩ := r
    exact call_range_1 (range_it I1 (by omega) (by omega) q1 q2 (by simpa using q))
/-! ### for -/
noncomputable def tFor (wi : TI) (g : TG) (tb : TS) : TS := fun D σ H => wi σ H fun J H1 => ∃ W : Nat → Nat → St → Hp → Prop, (∃ m, W 0 m σ H1) ∧ ∀ i m σ H, W i m σ H →
  (J.stop i H ∧ D.nx σ H) ∨ (J.go i H ∧ ∃ N : St → Hp → Prop, (∀ σ' H', N σ' H' → ∃ m', m' < m ∧ W (i + 1) m' σ' H') ∧ ∀ x H', J.yld i H x H' → g x σ H' fun σ2 H2 => tb { D with nx := N, ct := N, bk := D.nx } σ2 H2)
noncomputable def pinsAt (fp : List Addr) (h : Heap) : List (Addr × Obj) := fp.filterMap fun b => (h.get? b).map fun o => (b, o)
theorem mem_pinsAt {fp : List Addr} {h : Heap} {b : Addr} {o : Obj} (hb : b ∈ fp) (e : h.get? b = some o) : (b, o) ∈ pinsAt fp h := List.mem_filterMap.mpr ⟨b, hb, by rw [e]; rfl⟩
theorem of_pinsAt {fp : List Addr} {h : Heap} {p : Addr × Obj} (hp : p ∈ pinsAt fp h) : p.1 ∈ fp ∧ h.get? p.1 = some p.2 := by
  obtain ⟨b, hb, e⟩ := List.mem_filterMap.mp hp
  cases q : h.get? b with
  | none => rw [q] at e; cases e
  | some o =>
    rw [q] at e
    have e' : (b, o) = p := Option.some.inj e
    subst e'
    exact ⟨hb, q⟩
theorem Inv.pinned {pins : List (Addr × Obj)} {σ : St} {H : Hp} {s : Shared} {fp : List Addr} (I : Inv X pins σ H s) (hf : ∀ b ∈ fp, FpOk X pins H b) (ho : ∀ b ∈ fp, ∃ o, s.heap.get? b = some o ∧ ∀ v, o.data ≠ .cell v) : Inv X (pins ++ pinsAt fp s.heap) σ H s :=
  I.pins_of fun p hp => (List.mem_append.mp hp).elim (fun z => I.pin p (List.mem_append_right _ z)) fun z => by
    obtain ⟨hb, e⟩ := of_pinsAt z
    obtain ⟨f0, f1, f2, _⟩ := hf p.1 hb
    obtain ⟨o, e', d⟩ := ho p.1 hb
    rw [e] at e'; cases e'
    exact ⟨e, f0, f1, f2, d⟩
theorem Inv.unpinned {pins pl : List (Addr × Obj)} {σ : St} {H : Hp} {s : Shared} (I : Inv X (pins ++ pl) σ H s) : Inv X pins σ H s := I.pins_of fun p hp => I.pin p (List.mem_append_right _ (List.mem_append_left _ hp))
theorem ps_for {iter : Expr} {body : List Stmt} {wi : TI} {g : TG} {tb : TS} {pos : Pos} (hp : PassesOwn (model X.prog X.w) X.A X.env X.xe) (hc : X.calm = true) (hi : PI X tg iter wi) (hg : PG X tg g) (hb : PSs X body tb)
    (hs : ∀ x, foldedSetIterable iter X.env x = pure x := by intro _; rfl) : PS X (.For tg iter body [] pos) (tFor wi g tb) := by
  intro pins s σ H D I h
  refine wpAny_For (thn (hi pins s σ H _ I h) fun v s1 h1 => thn h1 fun itv s2 h2 => ?_) hs
  obtain ⟨it, fp, tn, J, H2, e, I2, T, st2, f2, W, ⟨m0, w0⟩, turn⟩ := h2
  subst e
  -- what stays true of the iterator's objects through the loop
  have stat : ∀ {H' : Hp}, (∀ b ∈ fp, H' b = none) → ∀ b ∈ fp, FpOk X pins H' b := fun hn b hb => ⟨hn b hb, (f2 b hb).2⟩
  refine codeAny_forLoop_any (fun n s' => ∃ i σ' H', Inv X pins σ' H' s' ∧ tn i s'.heap ∧ (∀ b ∈ fp, H' b = none) ∧ W i n σ' H') ?_ m0 ⟨0, σ, H2, I2, st2, fun b hb => (f2 b hb).1, w0⟩
  rintro n s3 ⟨i, σ3, H3, I3, st3, fr3, w3⟩
  rcases turn i n σ3 H3 w3 with ⟨stop, qn⟩ | ⟨go, N, hN, step⟩
  · refine wpAny_passesOwn hp (thn (T.done X rfl rfl rfl hc i pins s3 σ3 H3 X.xe I3 (stat fr3) st3 stop) fun r s4 ⟨hr, I4⟩ => ?_)
    subst hr
    exact wpAny_execs_nil ⟨σ3, H3, I4, qn⟩
  · refine wpAny_passesOwn hp (thn (T.item X rfl rfl rfl hc i pins s3 σ3 H3 X.xe I3 (stat fr3) st3 go) fun r s4 ⟨u, hr, h4⟩ => ?_)
    subst hr
    refine wpAny_passesOwn hp (thn h4 fun _ s5 ⟨x, H5, I5, r5, y5, st5, fr5⟩ => ?_)
    have I5' := I5.pinned (stat fr5) (T.obj _ _ st5)
    refine wpAny_passesOwn hp (thn (hg _ s5 σ3 H5 x u _ I5' r5 (step x H5 y5)) fun _ s6 ⟨σ6, H6, I6, q6⟩ => ?_)
    refine wpAny_passesOwn hp (thn (hb _ s6 σ6 H6 _ I6 q6) fun f s7 q7 => ?_)
    have again : ∀ {σ7 : St} {H7 : Hp}, Inv X (pins ++ pinsAt fp s5.heap) σ7 H7 s7 → N σ7 H7 → ∃ m, m < n ∧ ∃ i σ' H', Inv X pins σ' H' s7 ∧ tn i s7.heap ∧ (∀ b ∈ fp, H' b = none) ∧ W i m σ' H' := fun {σ7 H7} I7 n7 => by
      obtain ⟨m', hm, w7⟩ := hN σ7 H7 n7
      refine ⟨m', hm, i + 1, σ7, H7, I7.unpinned, T.keep _ _ _ st5 fun b hb o e => (I7.pin (b, o) (List.mem_append_right _ (List.mem_append_right _ (mem_pinsAt hb e)))).1, fun b hb => ?_, w7⟩
      obtain ⟨o, e, d⟩ := T.obj _ _ st5 b hb
      exact (I7.pin (b, o) (List.mem_append_right _ (List.mem_append_right _ (mem_pinsAt hb e)))).2.1
    cases f with
    | next => obtain ⟨σ7, H7, I7, n7⟩ := q7; exact again I7 n7
    | cont => obtain ⟨σ7, H7, I7, n7⟩ := q7; exact again I7 n7
    | brk => obtain ⟨σ7, H7, I7, q7⟩ := q7; exact ⟨σ7, H7, I7.unpinned, q7⟩
    | ret v => obtain ⟨x7, σ7, H7, I7, r7, q7⟩ := q7; exact ⟨x7, σ7, H7, I7.unpinned, r7, q7⟩
end

/-! ### the forms one uses -/
theorem for_list {K : PySem.W.Frag} {a : Addr} {xs : List V} {g : TG} {tb : TS} {D : Ends} {σ : St} {H : Hp} (Pv : Nat → St → Hp → Prop) (h0 : Pv 0 σ H) (hl : ∀ i σ H, i ≤ xs.length → Pv i σ H → SqL K H a xs)
    (hs : ∀ i x σ H, xs[i]? = some x → Pv i σ H → g x σ H fun σ2 H2 => tb { D with nx := Pv (i + 1), ct := Pv (i + 1), bk := D.nx } σ2 H2) (hd : ∀ σ H, Pv xs.length σ H → D.nx σ H) :
    ∃ W : Nat → Nat → St → Hp → Prop, (∃ m, W 0 m σ H) ∧ ∀ i m σ H, W i m σ H →
      ((Itl K a).stop i H ∧ D.nx σ H) ∨ ((Itl K a).go i H ∧ ∃ N : St → Hp → Prop, (∀ σ' H', N σ' H' → ∃ m', m' < m ∧ W (i + 1) m' σ' H') ∧ ∀ x H', (Itl K a).yld i H x H' → g x σ H' fun σ2 H2 => tb { D with nx := N, ct := N, bk := D.nx } σ2 H2) := by
  refine ⟨fun i m σ H => m = xs.length - i ∧ i ≤ xs.length ∧ Pv i σ H, ⟨xs.length, by simp, Nat.zero_le _, h0⟩, ?_⟩
  rintro i m σ H ⟨rfl, hi, p⟩
  have q := hl i σ H hi p
  by_cases hlt : i < xs.length
  · refine .inr ⟨⟨xs, xs[i], q, by simp [hlt]⟩, Pv (i + 1), fun σ' H' p' => ⟨xs.length - (i + 1), by omega, rfl, hlt, p'⟩, fun x H' y => ?_⟩
    obtain ⟨e, y⟩ := y
    subst e
    exact hs i x σ _ (y xs q) p
  · have e : i = xs.length := by omega
    subst e
    exact .inl ⟨⟨xs, q, Nat.le_refl _⟩, hd σ H p⟩
theorem for_range {lo : Int} {n : Nat} {g : TG} {tb : TS} {D : Ends} {σ : St} {H : Hp} (Pv : Nat → St → Hp → Prop) (h0 : Pv 0 σ H)
    (hs : ∀ i σ H, i < n → Pv i σ H → g (.int (lo + i)) σ H fun σ2 H2 => tb { D with nx := Pv (i + 1), ct := Pv (i + 1), bk := D.nx } σ2 H2) (hd : ∀ σ H, Pv n σ H → D.nx σ H) :
    ∃ W : Nat → Nat → St → Hp → Prop, (∃ m, W 0 m σ H) ∧ ∀ i m σ H, W i m σ H →
      ((Itr lo n).stop i H ∧ D.nx σ H) ∨ ((Itr lo n).go i H ∧ ∃ N : St → Hp → Prop, (∀ σ' H', N σ' H' → ∃ m', m' < m ∧ W (i + 1) m' σ' H') ∧ ∀ x H', (Itr lo n).yld i H x H' → g x σ H' fun σ2 H2 => tb { D with nx := N, ct := N, bk := D.nx } σ2 H2) := by
  refine ⟨fun i m σ H => m = n - i ∧ i ≤ n ∧ Pv i σ H, ⟨n, by simp, Nat.zero_le _, h0⟩, ?_⟩
  rintro i m σ H ⟨rfl, hi, p⟩
  by_cases hlt : i < n
  · refine .inr ⟨hlt, Pv (i + 1), fun σ' H' p' => ⟨n - (i + 1), by omega, rfl, hlt, p'⟩, fun x H' y => ?_⟩
    obtain ⟨e, y⟩ := y
    subst e y
    exact hs i σ _ hlt p
  · have e : i = n := by omega
    subst e
    exact .inl ⟨Nat.le_refl _, hd σ H p⟩
end L2

namespace L2
open PySem PySem.Spec PyProof.Rows

noncomputable abbrev R2 := V → V → Hp → VK → Prop
noncomputable def OpR (X : Cx) (f : Value → Value → Sem Value) (r : R2) : Prop :=
  ∀ (pins : List (Addr × Obj)) (s : Shared) (σ : St) (H : Hp) (x y : V) (v u : Value) (Q : VK), Inv X pins σ H s → RelV x v → RelV y u → r x y H Q →
    wpAny (model X.prog X.w) X.A (f v u) (EP X pins σ Q) X.xe s
noncomputable def UnR (X : Cx) (f : Value → Sem Value) (r : V → Hp → VK → Prop) : Prop :=
  ∀ (pins : List (Addr × Obj)) (s : Shared) (σ : St) (H : Hp) (x : V) (v : Value) (Q : VK), Inv X pins σ H s → RelV x v → r x H Q →
    wpAny (model X.prog X.w) X.A (f v) (EP X pins σ Q) X.xe s
noncomputable def CallR (X : Cx) (f : Value) (r : List V → Hp → VK → Prop) : Prop :=
  ∀ (pins : List (Addr × Obj)) (s : Shared) (σ : St) (H : Hp) (xs : List V) (us : List Value) (Q : VK), Inv X pins σ H s → Vals xs us → r xs H Q →
    wpAny (model X.prog X.w) X.A (call f us) (EP X pins σ Q) X.xe s
noncomputable def tOp (r : R2) (ta tb : TE) : TE := fun σ H Q => ta σ H fun x H1 => tb σ H1 fun y H2 => r x y H2 Q
noncomputable def tUn (r : V → Hp → VK → Prop) (ta : TE) : TE := fun σ H Q => ta σ H fun x H1 => r x H1 Q
noncomputable def rI (C : Int → Int → Prop) (g : Int → Int → V) : R2 := fun x y H Q => ∃ i j, x = .int i ∧ y = .int j ∧ C i j ∧ Q (g i j) H
noncomputable def rI0 (g : Int → Int → V) : R2 := fun x y H Q => ∃ i j, x = .int i ∧ y = .int j ∧ Q (g i j) H
noncomputable def rU (g : Int → V) : V → Hp → VK → Prop := fun x H Q => ∃ i, x = .int i ∧ Q (g i) H

section
variable {X : Cx} {a b c : Expr} {ta tb tc : TE} {pos : Pos}

theorem binT (ha : PE X a ta) (hb : PE X b tb) {pins : List (Addr × Obj)} {s : Shared} {σ : St} {H : Hp} {R : V → V → Hp → Prop} (I : Inv X pins σ H s)
    (h : ta σ H fun x H1 => tb σ H1 fun y H2 => R x y H2) {Q : Value → Shared → Prop} {f : Value → Value → Sem Value}
    (hf : ∀ v u s2 x y H2, Inv X pins σ H2 s2 → RelV x v → RelV y u → R x y H2 → wpAny (model X.prog X.w) X.A (f v u) Q X.xe s2) :
    wpAny (model X.prog X.w) X.A (eval a X.env) (fun v s₁ => wpAny (model X.prog X.w) X.A (eval b X.env) (fun u s₂ => wpAny (model X.prog X.w) X.A (f v u) Q X.xe s₂) X.xe s₁) X.xe s := by
  refine thn (ha pins s σ H _ I h) fun v s1 ⟨x, H1, I1, r1, q1⟩ => ?_
  refine thn (hb pins s1 σ H1 _ I1 q1) fun u s2 ⟨y, H2, I2, r2, q2⟩ => ?_
  exact hf v u s2 x y H2 I2 r1 r2 q2

theorem pe_op {op : Operator} {r : R2} (ho : OpR X (binaryOp op) r) (ha : PE X a ta) (hb : PE X b tb) : PE X (.BinOp a op b pos) (tOp r ta tb) := by
  intro pins s σ H Q I h
  exact wpAny_BinOp (binT ha hb I h fun v u s2 x y H2 I2 rx ry q => ho pins s2 σ H2 x y v u Q I2 rx ry q)
theorem pe_un {op : UnaryOp} {r : V → Hp → VK → Prop} (ho : UnR X (unaryOp op) r) (ha : PE X a ta) : PE X (.UnaryOp op a pos) (tUn r ta) := by
  intro pins s σ H Q I h
  exact UnaryOp_ (thn (ha pins s σ H _ I h) fun v s1 ⟨x, H1, I1, r1, q1⟩ => ho pins s1 σ H1 x v Q I1 r1 q1)
/-! ### ints -/
theorem opI {f : Value → Value → Sem Value} {C : Int → Int → Prop} {g : Int → Int → Int}
    (rule : ∀ (i j : Int) (t u : Tok) (s : Shared) (Q : Value → Shared → Prop) (E : Value → Shared → Prop), C i j → Q (.int (g i j) s.toks) { s with toks := s.toks + 1 } → wpAny (model X.prog X.w) X.A (f (.int i t) (.int j u)) Q E s) :
    OpR X f (rI C fun i j => .int (g i j)) := by
  intro pins s σ H x y v u Q I rx ry h
  obtain ⟨i, j, rfl, rfl, hc, q⟩ := h
  obtain ⟨t, rfl⟩ := rx
  obtain ⟨t', rfl⟩ := ry
  exact rule i j t t' s _ _ hc ⟨.int (g i j), H, I.tok _, ⟨_, rfl⟩, q⟩
theorem opI0 {f : Value → Value → Sem Value} {g : Int → Int → Int}
    (rule : ∀ (i j : Int) (t u : Tok) (s : Shared) (Q : Value → Shared → Prop) (E : Value → Shared → Prop), Q (.int (g i j) s.toks) { s with toks := s.toks + 1 } → wpAny (model X.prog X.w) X.A (f (.int i t) (.int j u)) Q E s) :
    OpR X f (rI0 fun i j => .int (g i j)) := by
  intro pins s σ H x y v u Q I rx ry h
  obtain ⟨i, j, rfl, rfl, q⟩ := h
  obtain ⟨t, rfl⟩ := rx
  obtain ⟨t', rfl⟩ := ry
  exact rule i j t t' s _ _ ⟨.int (g i j), H, I.tok _, ⟨_, rfl⟩, q⟩
theorem opB0 {f : Value → Value → Sem Value} {g : Int → Int → Bool}
    (rule : ∀ (i j : Int) (t u : Tok) (s : Shared) (Q : Value → Shared → Prop) (E : Value → Shared → Prop), Q (.bool (g i j)) s → wpAny (model X.prog X.w) X.A (f (.int i t) (.int j u)) Q E s) :
    OpR X f (rI0 fun i j => .bl (g i j)) := by
  intro pins s σ H x y v u Q I rx ry h
  obtain ⟨i, j, rfl, rfl, q⟩ := h
  obtain ⟨t, rfl⟩ := rx
  obtain ⟨t', rfl⟩ := ry
  exact rule i j t t' s _ _ ⟨.bl (g i j), H, I, rfl, q⟩

noncomputable def CDiv (i j : Int) : Prop := 0 < j ∧ j < 1073741824
noncomputable def CPow (i j : Int) : Prop := 0 ≤ j ∧ j ≤ 1000000 ∧ i.natAbs < 2 ^ 64
noncomputable def CMul (i j : Int) : Prop := (-(2 ^ 64) < i ∧ i < 2 ^ 64) ∨ (-(2 ^ 64) < j ∧ j < 2 ^ 64)
theorem CMul.ok {i j : Int} (h : CMul i j) : IntMulOk i j := by
  rcases h with ⟨h1, h2⟩ | ⟨h1, h2⟩
  · exact .of_left (intBits_le_64 h1 h2)
  · exact .of_right (intBits_le_64 h1 h2)
theorem two_pow_nn (k : Nat) : (0 : Int) ≤ 2 ^ k := by
  rw [two_pow_cast]
  exact Int.natCast_nonneg _

theorem op_add : OpR X (binaryOp .Add) (rI0 fun i j => .int (i + j)) := opI0 fun _ _ _ _ _ _ _ q => add_int q
theorem op_sub : OpR X (binaryOp .Sub) (rI0 fun i j => .int (i - j)) := opI0 fun _ _ _ _ _ _ _ q => sub_int q
theorem op_fdiv : OpR X (binaryOp .FloorDiv) (rI CDiv fun i j => .int (i / j)) := opI fun i j _ _ _ _ _ hc q => by
  have h1 : (0 : Int) < j := hc.1
  have h2 : j < 1073741824 := hc.2
  exact floordiv_int (by omega) (by rw [Int.fdiv_eq_ediv_of_nonneg i (by omega)]; exact q) (.inl (PyProof.noPylong_small (by omega)))
theorem op_mod : OpR X (binaryOp .Mod) (rI (fun _ j => 0 < j) fun i j => .int (i % j)) := opI fun i j _ _ _ _ _ hc q => by
  have h1 : (0 : Int) < j := hc
  exact mod_int' (by omega) (by rw [Int.fmod_eq_emod_of_nonneg i (by omega)]; exact q)
theorem op_pow : OpR X (binaryOp .Pow) (rI CPow fun i j => .int (i ^ j.toNat)) := opI fun _ _ _ _ _ _ _ hc q => pow_int_small hc.1 hc.2.1 hc.2.2 q
theorem op_shl : OpR X (binaryOp .LShift) (rI CPow fun i j => .int (i * 2 ^ j.toNat)) := opI fun _ _ _ _ _ _ _ hc q => lshift_int_small hc.1 hc.2.1 hc.2.2 q
theorem op_shr : OpR X (binaryOp .RShift) (rI (fun _ j => 0 ≤ j) fun i j => .int (i / 2 ^ j.toNat)) := opI fun i j _ _ _ _ _ hc q =>
  rshift_int hc (by rw [Int.fdiv_eq_ediv_of_nonneg i (two_pow_nn _)]; exact q)
theorem op_and : OpR X (binaryOp .BitAnd) (rI0 fun i j => .int (Builtin.bitAnd i j)) := opI0 fun _ _ _ _ _ _ _ q => and_int q
theorem unI {f : Value → Sem Value} {g : Int → Int}
    (rule : ∀ (i : Int) (t : Tok) (s : Shared) (Q : Value → Shared → Prop) (E : Value → Shared → Prop), Q (.int (g i) s.toks) { s with toks := s.toks + 1 } → wpAny (model X.prog X.w) X.A (f (.int i t)) Q E s) :
    UnR X f (rU fun i => .int (g i)) := by
  intro pins s σ H x v Q I rx h
  obtain ⟨i, rfl, q⟩ := h
  obtain ⟨t, rfl⟩ := rx
  exact rule i t s _ _ ⟨.int (g i), H, I.tok _, ⟨_, rfl⟩, q⟩
theorem un_neg : UnR X (unaryOp .USub) (rU fun i => .int (-i)) := unI fun _ _ _ _ _ q => neg_int q
/-! ### bools among ints: n += (a < b) -/
end

/-! ### comparisons -/
noncomputable def scal : V → V → Bool
  | .non, .non => true | .non, .int _ => true | .int _, .non => true | .non, .bl _ => true | .bl _, .non => true | .non, .str _ => true | .str _, .non => true
  | .int _, .int _ => true | .bl _, .bl _ => true | .str _, .str _ => true | .byt _, .byt _ => true
  | .int _, .str _ => true | .str _, .int _ => true | .bl _, .str _ => true | .str _, .bl _ => true
  | _, _ => false
noncomputable def rEq : R2 := fun x y H Q => scal x y = true ∧ Q (.bl (decide (x = y))) H
noncomputable def rNe : R2 := fun x y H Q => scal x y = true ∧ Q (.bl (!decide (x = y))) H

theorem dec_int {i j : Int} : decide (V.int i = V.int j) = (i == j) := by
  rw [Bool.eq_iff_iff]
  simp
theorem dec_bl {i j : Bool} : decide (V.bl i = V.bl j) = (i == j) := by
  rw [Bool.eq_iff_iff]
  simp
theorem dec_str {i j : Str} : decide (V.str i = V.str j) = (i == j) := by
  rw [Bool.eq_iff_iff]
  simp
theorem dec_byt {i j : Array UInt8} : decide (V.byt i = V.byt j) = (i.toList == j.toList) := by
  rw [Bool.eq_iff_iff]
  cases i
  cases j
  simp

section
variable {X : Cx} {a b c : Expr} {ta tb tc : TE} {pos : Pos}
theorem fin_bl {pins : List (Addr × Obj)} {σ : St} {H : Hp} {s : Shared} {Q : VK} {k k' : Bool} (I : Inv X pins σ H s) (q : Q (.bl k) H) (e : k = k') : EP X pins σ Q (.bool k') s := by
  subst e
  exact ⟨.bl k, H, I, rfl, q⟩
theorem op_eq : OpR X (compareOp .Eq) rEq := by
  intro pins s σ H x y v u Q I rx ry h
  obtain ⟨hs, q⟩ := h
  cases x with
  | non =>
    cases rx
    cases y with
    | non => cases ry; exact PySem.EqNone.eq_none_none (fin_bl I q (by simp))
    | bl j => cases ry; exact PySem.EqNone.eq_none_bool (fin_bl I q (by simp))
    | int j => obtain ⟨t', rfl⟩ := ry; exact PySem.EqNone.eq_none_int (fin_bl I q (by simp))
    | str j => obtain ⟨t', rfl⟩ := ry; exact PySem.EqNone.eq_none_str (fin_bl I q (by simp))
    | _ => exact absurd (show false = true from hs) Bool.false_ne_true
  | bl i =>
    cases rx
    cases y with
    | non => cases ry; exact PySem.EqNone.eq_bool_none (fin_bl I q (by simp))
    | bl j => cases ry; exact eq_bool (fin_bl I q dec_bl)
    | str j => obtain ⟨t', rfl⟩ := ry; exact PySem.EqMixed.eq_bool_str (fin_bl I q (by simp))
    | _ => exact absurd (show false = true from hs) Bool.false_ne_true
  | int i =>
    obtain ⟨t, rfl⟩ := rx
    cases y with
    | non => cases ry; exact PySem.EqNone.eq_int_none (fin_bl I q (by simp))
    | int j => obtain ⟨t', rfl⟩ := ry; exact eq_int (fin_bl I q dec_int)
    | str j => obtain ⟨t', rfl⟩ := ry; exact PySem.EqMixed.eq_int_str (fin_bl I q (by simp))
    | _ => exact absurd (show false = true from hs) Bool.false_ne_true
  | str i =>
    obtain ⟨t, rfl⟩ := rx
    cases y with
    | non => cases ry; exact PySem.EqNone.eq_str_none (fin_bl I q (by simp))
    | bl j => cases ry; exact PySem.EqMixed.eq_str_bool (fin_bl I q (by simp))
    | int j => obtain ⟨t', rfl⟩ := ry; exact PySem.EqMixed.eq_str_int (fin_bl I q (by simp))
    | str j => obtain ⟨t', rfl⟩ := ry; exact eq_str (fin_bl I q dec_str)
    | _ => exact absurd (show false = true from hs) Bool.false_ne_true
  | byt i =>
    obtain ⟨t, rfl⟩ := rx
    cases y with
    | byt j => obtain ⟨t', rfl⟩ := ry; exact PySem.W.eq_bytes (fin_bl I q dec_byt)
    | _ => exact absurd (show false = true from hs) Bool.false_ne_true
  | _ => cases y <;> exact absurd (show false = true from hs) Bool.false_ne_true
theorem op_lt : OpR X (compareOp .Lt) (rI0 fun i j => .bl (decide (i < j))) := opB0 fun _ _ _ _ _ _ _ q => lt_int q
theorem op_le : OpR X (compareOp .LtE) (rI0 fun i j => .bl (decide (i ≤ j))) := opB0 fun _ _ _ _ _ _ _ q => le_int q
theorem op_gt : OpR X (compareOp .Gt) (rI0 fun i j => .bl (decide (j < i))) := opB0 fun _ _ _ _ _ _ _ q => gt_int q
theorem OpR.or {f : Value → Value → Sem Value} {r r' : R2} (h : OpR X f r) (h' : OpR X f r') : OpR X f (fun x y H Q => r x y H Q ∨ r' x y H Q) := by
  intro pins s σ H x y v u Q I rx ry q
  rcases q with q | q
  · exact h pins s σ H x y v u Q I rx ry q
  · exact h' pins s σ H x y v u Q I rx ry q

theorem nomark (b : Expr) {op : CmpOp} (h : op ≠ .In := by decide) (h2 : op ≠ .NotIn := by decide) : behindInMarks op b = false := by
  have e1 : (op == CmpOp.In) = false := by cases op <;> first | rfl | exact absurd rfl h
  have e2 : (op == CmpOp.NotIn) = false := by cases op <;> first | rfl | exact absurd rfl h2
  cases b <;> simp [behindInMarks, e1, e2]
theorem pe_cmpR {op : CmpOp} {r : R2} (ho : OpR X (compareOp op) r) (ha : PE X a ta) (hb : PE X b tb) (hm : behindInMarks op b = false) : PE X (.Compare a [op] [b] pos) (tOp r ta tb) := by
  intro pins s σ H Q I h
  exact wpAny_Compare1 (binT ha hb I h fun v u s2 x y H2 I2 rx ry q => ho pins s2 σ H2 x y v u Q I2 rx ry q) hm
noncomputable def tTest (t : TE) : TT := fun σ H Q => t σ H fun x H' => ∃ k, x = .bl k ∧ Q k H'
theorem pt_cmpR {op : CmpOp} {r : R2} (ho : OpR X (compareOp op) r) (ha : PE X a ta) (hb : PE X b tb) (hm : behindInMarks op b = false) : PT X (.Compare a [op] [b] pos) (tTest (tOp r ta tb)) := by
  intro pins s σ H Q I h
  refine wpAny_isTrue_Compare1 (thn (ha pins s σ H _ I h) fun v s1 ⟨x, H1, I1, r1, q1⟩ => thn (hb pins s1 σ H1 _ I1 q1) fun u s2 ⟨y, H2, I2, r2, q2⟩ =>
    thn (ho pins s2 σ H2 x y v u _ I2 r1 r2 q2) fun c s3 ⟨z, H3, I3, r3, k, e, q3⟩ => ?_) hm
  subst e
  cases r3
  exact wpAny_truthy_bool ⟨H3, I3, q3⟩
noncomputable def tChain (r r' : R2) (ta tb tc : TE) : TE := fun σ H Q => ta σ H fun x H1 => tb σ H1 fun y H2 => r x y H2 fun z H3 => ∃ k, z = .bl k ∧
  (if k = true then tc σ H3 fun w' H4 => r' y w' H4 Q else Q (.bl false) H3)
theorem pe_chain {op op' : CmpOp} {r r' : R2} (ho : OpR X (compareOp op) r) (ho' : OpR X (compareOp op') r') (ha : PE X a ta) (hb : PE X b tb) (hc : PE X c tc)
    (hm : lastMarks [op, op'] [b, c] = false := by with_unfolding_all rfl) : PE X (.Compare a [op, op'] [b, c] pos) (tChain r r' ta tb tc) := by
  intro pins s σ H Q I h
  refine Compare_chain (thn (ha pins s σ H _ I h) fun v s1 ⟨x, H1, I1, r1, q1⟩ => chain_link (thn (hb pins s1 σ H1 _ I1 q1) fun u s2 ⟨y, H2, I2, r2, q2⟩ =>
    thn (ho pins s2 σ H2 x y v u _ I2 r1 r2 q2) fun d s3 ⟨z, H3, I3, r3, k, e, q3⟩ => ?_)) hm
  subst e
  cases r3
  refine wpAny_truthy_bool ?_
  cases k with
  | false => exact ite_ff ⟨.bl false, H3, I3, rfl, q3⟩
  | true => exact ite_tt (chain_last (thn (hc pins s3 σ H3 _ I3 q3) fun w' s4 ⟨z', H4, I4, r4, q4⟩ => ho' pins s4 σ H4 y z' u w' Q I4 r2 r4 q4))
/-! ### truth -/
theorem line63 : (sizeLine : Nat) < 2 ^ 63 := by rw [sizeLine_eq]; decide
/-! ### strs and bytes -/
/-! ### scalar builtins, by CallR -/
theorem vals1 {x : V} {us : List Value} (r : Vals [x] us) : ∃ u, us = [u] ∧ RelV x u := by
  cases r with
  | cons r1 r2 => cases r2; exact ⟨_, rfl, r1⟩
theorem call_int1 : CallR X (.type "int") (fun xs H Q => (∃ i, xs = [.int i] ∧ Q (.int i) H) ∨ ∃ k, xs = [.bl k] ∧ Q (.int (if k then 1 else 0)) H) := by
  intro pins s σ H xs us Q I r h
  rcases h with ⟨i, rfl, q⟩ | ⟨k, rfl, q⟩
  · obtain ⟨u, rfl, t, rfl⟩ := vals1 r
    exact call_int_int ⟨.int i, H, I, ⟨_, rfl⟩, q⟩
  · obtain ⟨u, rfl, r1⟩ := vals1 r
    cases r1
    exact call_int_bool ⟨.int (if k then 1 else 0), H, I.tok _, ⟨_, rfl⟩, q⟩
end
end L2

namespace L2
open PySem PySem.Spec PyProof.Rows

/-! ### an instance, its attributes a map -/
structure ObjM (h : Heap) (x dx C : Addr) (mA : Str → Option Value) : Prop where
  obj : h.get? x = some (PySem.W.instObj C dx)
  ns : h.Ns1 dx mA
  ne : dx ≠ x

theorem lookIn_ns {h : Heap} {dx : Addr} {mA : Str → Option Value} (n : h.Ns1 dx mA) : ∃ od, h.get? dx = some od ∧ ∀ name, PySem.W.lookIn name od = some (mA name) := by
  obtain ⟨o, es, ep, ho, hd, hk, _, hm⟩ := n
  refine ⟨o, ho, fun name => ?_⟩
  have e := hm name
  unfold nsFind findBy at e
  rw [← Array.find?_toList] at e
  unfold PySem.W.lookIn
  rw [hd]
  dsimp only
  split
  · rename_i y q
    rw [q] at e
    exact congrArg some e
  · rename_i q
    rw [q] at e
    have a : es.toList.any (·.refKey) = false := by
      rw [List.any_eq_false]
      intro y hy
      obtain ⟨z, t, hkey⟩ := hk y (Array.mem_toList_iff.mp hy)
      simp [DictEntry.refKey, hkey]
    have a' : ¬ es.toList.any (·.refKey) = true := by rw [a]; exact Bool.false_ne_true
    rw [if_neg a']
    exact congrArg some e

theorem ObjM.look {h : Heap} {x dx C : Addr} {mA : Str → Option Value} (I : ObjM h x dx C mA) : ∃ od, PySem.W.InstAt h x (PySem.W.instObj C dx) C (some od) ∧ ∀ name, PySem.W.lookIn name od = some (mA name) :=
  let ⟨od, ho, hl⟩ := lookIn_ns I.ns
  ⟨od, ⟨I.obj, rfl, rfl, ho⟩, hl⟩

section
variable {prog : Program} {w : World} {A : Around} {E : Value → Shared → Prop} {s : Shared} {K : PySem.W.Frag} {x dx C f : Addr} {mA : Str → Option Value} {name : Str} {v : Value}

end

/-! ### the attributes as a list of pairs -/
section
variable {P : Program} {w : World} {H H' : Hp} {h h' : Heap} {a C dx : Addr} {fs fs' : List (Str × V)}
theorem ins_get (hok : HOk P w H h) (e : H a = some (.ins C dx fs)) : ∃ mA, ObjM h a dx C mA ∧ (∀ f, RelO (fs.lookup f) (mA f)) ∧ PySem.Within mA (fs.map (·.1)) ∧ fs.length ≤ 1000 ∧ H dx = some (.own a) := by
  obtain ⟨d, z, ne, ob, mA, n, r, q⟩ := (show ObjOk P w H h a (.ins C dx fs) from hok a _ e)
  exact ⟨mA, ⟨ob, n, ne⟩, r, q, z, d⟩
end

/-! ### what of the text a class must have -/
structure Cls (K : PySem.W.Frag) (C : Addr) : Prop where
  pg : PySem.W.plainGet K C Str.empty = true
  hd : PySem.W.hasDictIn K C = true
  po : PySem.W.plainOver K C = true
  sa : PySem.W.findIn K (.ref C) "__setattr__" = some (some (.builtin "object.__setattr__"))
theorem Cls.get {K : PySem.W.Frag} {C : Addr} (c : Cls K C) (f : Str) : PySem.W.plainGet K C f = true := c.pg
structure Con (K : PySem.W.Frag) (C : Addr) (f : Str) (v : V) (u : Value) : Prop where
  at_ : PySem.W.findIn K (.ref C) f = some (some u)
  rel : RelV v u
  get : PySem.W.specialIn K u "__get__" = some none
  cp : PySem.W.copiedNames.contains f = false
structure Meth (K : PySem.W.Frag) (C : Addr) (m : Str) (f : Addr) : Prop where
  at_ : PySem.W.findIn K (.ref C) m = some (some (.ref f))
  fn : PySem.W.isFn K (.ref f) = true
  kp : PySem.W.keepIn K (.ref f) = true

section
variable {X : Cx} {pins : List (Addr × Obj)} {σ : St} {H : Hp} {s : Shared} {a C dx : Addr} {fs : List (Str × V)} {f : Str} {v : V} {A : Around} {E : Value → Shared → Prop}

end

/-! ### readings and rules -/
section
variable {X : Cx} {o e value : Expr} {f : Str} {pos pos' tpos : Pos} {ta tv : TE}
end

/-! ### isinstance -/
section
variable {X : Cx} {pins : List (Addr × Obj)} {σ : St} {H : Hp} {s : Shared} {A : Around} {E : Value → Shared → Prop} {Q : Value → Shared → Prop} {c : Value} {b : Bool}
inductive TyOf (K : PySem.W.Frag) (H : Hp) : V → Value → Prop where
  | non : TyOf K H .non (.type "NoneType")
  | bl (x : Bool) : TyOf K H (.bl x) (.type "bool")
  | int (i : Int) : TyOf K H (.int i) (.type "int")
  | str (x : Str) : TyOf K H (.str x) (.type "str")
  | flt (x : UInt64) : TyOf K H (.flt x) (.type "float")
  | lst {a : Addr} {xs : List V} (e : H a = some (.lst xs)) : TyOf K H (.ref a) (.type "list")
  | frz {a : Addr} {o : Obj} {xs : List V} (e : H a = some (.frz o (.lst xs))) : TyOf K H (.ref a) (.type "list")
  | tup {a : Addr} {xs : List V} (e : H a = some (.tup xs)) : TyOf K H (.ref a) (.type "tuple")
  | dK {a : Addr} {kvs : List (Key × V)} (e : H a = some (.dK kvs)) : TyOf K H (.ref a) (.type "dict")
  | dT {a : Addr} {kvs : List (List Key × V)} (e : H a = some (.dT kvs)) : TyOf K H (.ref a) (.type "dict")
  | ins {a C dx : Addr} {fs : List (Str × V)} (e : H a = some (.ins C dx fs)) (cl : Cls K C) (ha : PySem.W.findIn K (.ref C) "__class__" = some (some (.builtin "object.__class__")))
      (hn : PySem.W.specialIn K (.builtin "object.__class__") "__get__" = some (some (.builtin "getset_descriptor.__get__"))) (htk : PySem.W.takesIn K (.builtin "object.__class__") = some true)
      (hm : PySem.W.mroIn K C (.type "object") = some true) : TyOf K H (.ref a) (.ref C)
theorem isinst_ok {x : V} {u t : Value} (I : Inv X pins σ H s) (rx : RelV x u) (ty : TyOf X.K H x t) (e : PySem.W.kitOne X.K t c = some b) (h : ∀ tk, Q (.bool b) { s with toks := tk }) :
    wpAny (model X.prog X.w) A (call (.builtin "isinstance") [u, c]) Q E s := by
  cases ty with
  | non => cases (show u = Value.none from rx); exact PySem.W.kia_one PySem.W.kitx_none I.kIn True.intro e (fun z => nomatch z) h
  | bl y => cases (show u = Value.bool y from rx); exact PySem.W.kia_one PySem.W.kitx_bool I.kIn True.intro e (fun z => nomatch z) h
  | int i => obtain ⟨t, q⟩ := (show ∃ t, u = Value.int i t from rx); cases q; exact PySem.W.kia_one PySem.W.kitx_int I.kIn True.intro e (fun z => nomatch z) h
  | str y => obtain ⟨t, q⟩ := (show ∃ t, u = Value.str y t from rx); cases q; exact PySem.W.kia_one PySem.W.kitx_str I.kIn True.intro e (fun z => nomatch z) h
  | flt y => obtain ⟨t, q⟩ := (show ∃ t, u = Value.float y t from rx); cases q; exact PySem.W.kia_one PySem.W.kitx_float I.kIn True.intro e (fun z => nomatch z) h
  | @lst a xs ea =>
    cases (show u = Value.ref a from rx)
    obtain ⟨_, _, n, _, h1⟩ := (show ObjOk X.prog X.w H s.heap a (.lst xs) from I.hok a _ ea)
    exact PySem.W.kia_one PySem.W.kitx_list I.kIn ⟨_, h1, rfl⟩ e (fun z => nomatch z) h
  | @frz a ob xs ea =>
    cases (show u = Value.ref a from rx)
    obtain ⟨_, _, _, n, _, h1⟩ := (show ObjOk X.prog X.w H s.heap a (.frz ob (.lst xs)) from I.hok a _ ea)
    exact PySem.W.kia_one PySem.W.kitx_list I.kIn ⟨_, h1, rfl⟩ e (fun z => nomatch z) h
  | @tup a xs ea =>
    cases (show u = Value.ref a from rx)
    obtain ⟨_, _, _, p⟩ := (show ObjOk X.prog X.w H s.heap a (.tup xs) from I.hok a _ ea)
    obtain ⟨o, h1, h2, _⟩ := p
    exact PySem.W.kia_one PySem.W.kitx_tuple I.kIn ⟨o, h1, h2⟩ e (fun z => nomatch z) h
  | @dK a kvs ea =>
    cases (show u = Value.ref a from rx)
    obtain ⟨_, _, vs, _, p⟩ := (show ObjOk X.prog X.w H s.heap a (.dK kvs) from I.hok a _ ea)
    obtain ⟨o, es, ep, h1, h2, _⟩ := p
    exact PySem.W.kia_one PySem.W.kitx_dict I.kIn ⟨o, h1, h2.1⟩ e (fun z => nomatch z) h
  | @dT a kvs ea =>
    cases (show u = Value.ref a from rx)
    obtain ⟨_, _, xs, _, o, es, ep, h1, h2, _⟩ := (show ObjOk X.prog X.w H s.heap a (.dT kvs) from I.hok a _ ea)
    exact PySem.W.kia_one PySem.W.kitx_dict I.kIn ⟨o, h1, h2.1⟩ e (fun z => nomatch z) h
  | @ins a C dx fs ea cl ha hn htk hm =>
    cases (show u = Value.ref a from rx)
    obtain ⟨mA, O, _⟩ := ins_get I.hok ea
    obtain ⟨od, J, _⟩ := O.look
    exact PySem.W.kia_one (PySem.W.kitx_own (cl.get _) cl.hd ha hn htk hm) I.kIn J e (fun z => nomatch z) h
end
end L2

namespace L2
open PySem PySem.Spec PyProof.Rows

/-! ### room -/
structure Room (k : Nat) (A : Around) : Prop where
  hd : A.handled = none
  dp : A.depth + 3 * k + 5 < recursionLimit
  un : A.units + 16 * k + 200 < cLine
theorem Room.mono {j k : Nat} {A : Around} (r : Room k A) (h : j ≤ k) : Room j A := ⟨r.hd, by have := r.dp; omega, by have := r.un; omega⟩
theorem Room.deeper {k : Nat} {A : Around} (r : Room (k + 1) A) (env : Env) : Room k (A.deeper env) :=
  ⟨r.hd, by have := r.dp; show A.depth + 1 + 3 * k + 5 < _; omega, by have := r.un; show A.units + 3 + 16 * k + 200 < _; omega⟩
theorem Room.in1 {k : Nat} {A : Around} (r : Room (k + 1) A) : Room k A.in1 :=
  ⟨r.hd, by have := r.dp; show A.depth + 3 * k + 5 < _; omega, by have := r.un; show A.units + 1 + 16 * k + 200 < _; omega⟩
theorem Room.depth {k : Nat} {A : Around} (r : Room k A) : A.depth < recursionLimit := by have := r.dp; omega
theorem Room.units {k : Nat} {A : Around} (r : Room k A) : A.units + 64 < cLine := by have := r.un; omega
theorem Room.units0 {k : Nat} {A : Around} (r : Room k A) : A.units < cLine := by have := r.un; omega

/-! ### argument lists and displays -/
noncomputable def tNil : TA := fun _ H Q => Q [] H
noncomputable def tCons (ta : TE) (tr : TA) : TA := fun σ H Q => ta σ H fun x H1 => tr σ H1 fun xs H2 => Q (x :: xs) H2
section
variable {X : Cx} {e : Expr} {es : List Expr} {te : TE} {t : TA} {pos : Pos}
theorem pa_nil : PA X [] tNil := fun _ _ _ _ H Q I h => Calls.spliced_nil ⟨[], H, I, .nil, h⟩
theorem pa_cons (ha : PE X e te) (hr : PA X es t) (hs : starEach (e :: es) X.env = (false, eval e X.env) :: starEach es X.env := by rfl) : PA X (e :: es) (tCons te t) := by
  intro pos pins s σ H Q I h
  rw [hs]
  show wpAny _ _ (spliced ((false, eval e X.env) :: backTo pos (starEach es X.env))) _ _ s
  refine Calls.spliced_cons (thn (ha pins s σ H _ I h) fun u s1 ⟨x, H1, I1, r1, q1⟩ => ?_)
  exact thn (hr pos pins s1 σ H1 _ I1 q1) fun us s2 ⟨xs, H2, I2, r2, q2⟩ => ⟨x :: xs, H2, I2, .cons r1 r2, q2⟩

noncomputable def tTup (t : TA) : TE := fun σ H Q => t σ H fun xs H1 => xs.length ≤ sizeLine ∧ ∀ p, H1 p = none → Q (.ref p) (upd H1 p (.tup xs))
noncomputable def tLst (t : TA) : TE := fun σ H Q => t σ H fun xs H1 => xs.length ≤ sizeLine ∧ ∀ p, H1 p = none → Q (.ref p) (upd H1 p (.lst xs))
theorem pe_tup {x1} (h : PA X es t) : PE X (.Tuple es x1 pos) (tTup t) := by
  intro pins s σ H Q I hq
  refine wpAny_Tuple_spliced (thn (h pos pins s σ H _ I hq) fun us s1 ⟨xs, H1, I1, r, z, q⟩ => ⟨by rw [← r.length]; exact z, ?_⟩)
  have hf : H1 s1.heap.objs.size = none := I1.hok.fresh (Nat.le_refl _)
  refine ⟨.ref s1.heap.objs.size, upd H1 s1.heap.objs.size (.tup xs), I1.laid (t' := s1.toks) (fun b u e => Heap.get?_push_of_some _ e) (Nat.le_refl _) ?_, rfl, q _ hf⟩
  exact ⟨z, us, r, IsTupD.new _ _⟩
theorem pe_lst (h : PA X es t) : PE X (.List es pos) (tLst t) := by
  intro pins s σ H Q I hq
  refine wpAny_List_spliced (thn (h pos pins s σ H _ I hq) fun us s1 ⟨xs, H1, I1, r, z, q⟩ => ⟨by rw [← r.length]; exact z, ?_⟩)
  have hf : H1 s1.heap.objs.size = none := I1.hok.fresh (Nat.le_refl _)
  refine ⟨.ref s1.heap.objs.size, upd H1 s1.heap.objs.size (.lst xs), I1.laid (t' := s1.toks) (fun b u e => Heap.get?_push_of_some _ e) (Nat.le_refl _) ?_, rfl, q _ hf⟩
  exact ⟨z, us, 0, r, Heap.get?_push_size _ rfl⟩
end

/-! ### what a def promises -/
noncomputable abbrev Sp := List V → Hp → VK → XK → Prop
noncomputable abbrev CXT := List Env → Hp → Shared → XK → Value → Shared → Prop

structure Env0 (P : Program) (w : World) (K : PySem.W.Frag) (mg : Str → Option Value) (base : Heap) (A : Around) (outer : List Env) (s : Shared) (H : Hp) : Prop where
  frames : A.frames = some outer
  mod : Mod K mg base
  bs : ∀ b o, base.get? b = some o → s.heap.get? b = some o ∧ H b = none
  bsz : base.objs.size ≤ s.heap.objs.size
  funs : s.heap.FunFrames base outer
  frf : ∀ b ∈ frs outer, H b = none
  hok : HOk P w H s.heap
  bare : AllBare s.gens
noncomputable def CE (outer : List Env) (P : Program) (w : World) (H : Hp) (s : Shared) (Q : VK) (u : Value) (s' : Shared) : Prop :=
  ∃ v H', s'.os = s.os ∧ AllBare s'.gens ∧ Un (frs outer) [] H H' s.heap s'.heap ∧ HOk P w H' s'.heap ∧ RelV v u ∧ Q v H'
noncomputable def CR (CX : CXT) (outer : List Env) (P : Program) (w : World) (H : Hp) (s : Shared) (Q : VK) (E : XK) (r : Result) (s' : Shared) : Prop :=
  match r with
  | .ok (.ret u) => CE outer P w H s Q u s'
  | .ok _ => False
  | .error e => CX outer H s E e s'
structure FnOk (P : Program) (w : World) (K : PySem.W.Frag) (mg : Str → Option Value) (base : Heap) (CX : CXT) (k : Nat) (f : Addr) (fd : FuncData) (ps : List Str) (sp : Sp) : Prop where
  len : ∀ vs H Q E, sp vs H Q E → vs.length = ps.length
  run : ∀ (A : Around) (outer : List Env) (s : Shared) (H : Hp) (args : Args) (us : List Value) (vs : List V) (Q : VK) (E : XK), Room k A → Env0 P w K mg base A outer s H → BindsTo s fd args (ps.zip us) → Vals vs us → sp vs H Q E →
    codeAny (model P w) A (.call (.ref f) args) (CR CX outer P w H s Q E) s
theorem FnOk.mono {P : Program} {w : World} {K : PySem.W.Frag} {mg : Str → Option Value} {base : Heap} {CX : CXT} {j k : Nat} {f : Addr} {fd : FuncData} {ps : List Str} {sp : Sp} (F : FnOk P w K mg base CX j f fd ps sp) (h : j ≤ k) :
    FnOk P w K mg base CX k f fd ps sp := ⟨F.len, fun A outer s H args us vs Q E hr => F.run A outer s H args us vs Q E (hr.mono h)⟩
theorem FnOk.imp {P : Program} {w : World} {K : PySem.W.Frag} {mg : Str → Option Value} {base : Heap} {CX : CXT} {k : Nat} {f : Addr} {fd : FuncData} {ps : List Str} {sp sp' : Sp} (F : FnOk P w K mg base CX k f fd ps sp)
    (h : ∀ vs H Q E, sp' vs H Q E → sp vs H Q E) : FnOk P w K mg base CX k f fd ps sp' :=
  ⟨fun vs H Q E q => F.len vs H Q E (h _ _ _ _ q), fun A outer s H args us vs Q E hr he hb hv hs => F.run A outer s H args us vs Q E hr he hb hv (h _ _ _ _ hs)⟩

theorem Env0.in1 {P : Program} {w : World} {K : PySem.W.Frag} {mg : Str → Option Value} {base : Heap} {A : Around} {outer : List Env} {s : Shared} {H : Hp} (e : Env0 P w K mg base A outer s H) :
    Env0 P w K mg base A.in1 outer s H := ⟨e.frames, e.mod, e.bs, e.bsz, e.funs, e.frf, e.hok, e.bare⟩

section
variable {X : Cx} {pins : List (Addr × Obj)} {σ : St} {H : Hp} {s s' : Shared}
theorem Inv.env0 (I : Inv X pins σ H s) : Env0 X.prog X.w X.K X.mg X.base X.A X.stack s H :=
  ⟨I.ok.frames, I.ok.mod, I.bs, Nat.le_trans I.ok.bsz I.sz, I.stack, I.stkFree, I.hok, I.bare⟩
theorem Inv.after {Q : VK} {u : Value} (I : Inv X pins σ H s) (h : CE X.stack X.prog X.w H s Q u s') : EP X pins σ Q u s' := by
  obtain ⟨v, H', os, bare, un, hok, r, q⟩ := h
  obtain ⟨hh, g, d, t, os'⟩ := s'
  obtain rfl : os' = s.os := os
  exact ⟨v, H', I.call (h' := hh) (g' := g) (d' := d) (t' := t) (ch := []) un hok bare (fun b z => absurd z (by simp)), r, q⟩
end

/-! ### calls -/
noncomputable def tCall (sp : Sp) (dvs : List V) (E : XK) (t : TA) : TE := fun σ H Q => t σ H fun vs H1 => sp (vs ++ dvs) H1 Q E
noncomputable def Binds (K : PySem.W.Frag) (fd : FuncData) (ps : List Str) (ds : List Value) : Prop :=
  ∀ (s : Shared) (us : List Value), K.In s.heap → (us ++ ds).length = ps.length → BindsTo s fd ⟨us, []⟩ (ps.zip (us ++ ds))
theorem Binds.all {K : PySem.W.Frag} {fd : FuncData} {ps : List Str} (h : ∀ us : List Value, us.length = ps.length → bindArgs fd ⟨us, []⟩ = pure (ps.zip us)) : Binds K fd ps [] := fun s us _ hl => by
  rw [List.append_nil] at hl ⊢
  exact .of_eq (h us hl)

noncomputable def Passes (CX : CXT) (X : Cx) (E : XK) : Prop := ∀ (pins : List (Addr × Obj)) (σ : St) (H : Hp) (s : Shared) (e : Value) (s' : Shared), Inv X pins σ H s → CX X.stack H s E e s' → X.xe e s'

section
variable {X : Cx} {CX : CXT} {k : Nat} {f C : Addr} {fd : FuncData} {ps : List Str} {sp : Sp} {dvs : List V} {ds : List Value} {E : XK} {x m : Str} {p pos apos : Pos} {e o : Expr} {es : List Expr} {ta : TE} {t : TA}

theorem run_fn {pins : List (Addr × Obj)} {σ : St} {H : Hp} {s : Shared} {Q : VK} {us : List Value} {vs : List V} (F : FnOk X.prog X.w X.K X.mg X.base CX k f fd ps sp) (hr : Room k X.A) (hb : Binds X.K fd ps ds) (hd : Vals dvs ds) (hx : Passes CX X E)
    (I : Inv X pins σ H s) (r : Vals vs us) (h : sp (vs ++ dvs) H Q E) : wpAny (model X.prog X.w) X.A (call (.ref f) us) (EP X pins σ Q) X.xe s := by
  have r2 : Vals (vs ++ dvs) (us ++ ds) := r.append hd
  have hl : (us ++ ds).length = ps.length := by rw [← r2.length]; exact F.len _ _ _ _ h
  refine wpAny_call (codeAny_mono (F.run X.A X.stack s H ⟨us, []⟩ (us ++ ds) (vs ++ dvs) Q E hr I.env0 (hb s us I.kIn hl) r2 h) fun r s' hq => ?_)
  cases r with
  | error e => exact hx pins σ H s e s' I hq
  | ok fl =>
    cases fl with
    | ret u => exact I.after hq
    | next => exact False.elim hq
    | brk => exact False.elim hq
    | cont => exact False.elim hq

theorem pe_call (F : FnOk X.prog X.w X.K X.mg X.base CX k f fd ps sp) (hr : Room k X.A) (hg : Gl X x) (hm : X.mg x = some (.ref f)) (hk : PySem.W.keepIn X.K (.ref f) = true) (hb : Binds X.K fd ps ds) (hd : Vals dvs ds) (hx : Passes CX X E)
    (ha : PA X (e :: es) t) (hdb : (x == ("__debug__" : Str)) = false := by decide) (he : starEach (e :: es) X.env = (false, eval e X.env) :: starEach es X.env := by rfl) (hpl : (backTo pos (starEach es X.env)).any (·.1) = false := by rfl) :
    PE X (.Call (.Name x p) (e :: es) [] pos) (tCall sp dvs E t) := by
  intro pins s σ H Q I h
  refine wpAny_Call_Name_kw (ld_glob I hg hm ?_ hdb)
  refine PySem.W.callWith_K (h₀ := X.base) I.ok.mod.kin hk (thn (ha pos pins s σ H _ I h) fun us s1 ⟨vs, H1, I1, r, q⟩ => ⟨I1.kIn, ?_⟩) he hpl
  exact run_fn F hr hb hd hx I1 r q
structure Mk (K : PySem.W.Frag) (C f : Addr) : Prop where
  makes : PySem.W.makesIn K C = true
  init : PySem.W.findIn K (.ref C) "__init__" = some (some (.ref f))
  fn : PySem.W.isFn K (.ref f) = true
  kp : PySem.W.keepIn K (.ref C) = true

end

/-! ### keywords -/
section
variable {X : Cx} {CX : CXT} {k : Nat} {f C : Addr} {fd : FuncData} {ps ks : List Str} {sp : Sp} {E : XK} {x m : Str} {p pos apos kpos : Pos} {e o : Expr} {es : List Expr} {kws : List Keyword} {te ta : TE} {t tk : TA} {nm : Option Str}
structure KBinds (K : PySem.W.Frag) (fd : FuncData) (ps ks : List Str) (g : List Value → List Value → List Value) (gV : List V → List V → List V) : Prop where
  to : ∀ (s : Shared) (us ws : List Value), K.In s.heap → (g us ws).length = ps.length → BindsTo s fd ⟨us, ks.zip ws⟩ (ps.zip (g us ws))
  rel : ∀ {vs : List V} {us : List Value} {zs : List V} {ws : List Value}, Vals vs us → Vals zs ws → Vals (gV vs zs) (g us ws)
variable {g : List Value → List Value → List Value} {gV : List V → List V → List V}
end

/-! ### a def's body keeps its promise -/
structure FnScope (N P : List Str) (sc : Scope) : Prop where
  kind : sc.kind = .function
  co : sc.isCoroutine = false
  gen : sc.isGenerator = false
  nd : N.Nodup
  pre : N.take P.length = P
  par : ∀ x ∈ P, sc.names.lookup x = some .local ∨ sc.names.lookup x = some .cell
  nofree : ∀ y ∈ sc.names, y.2 ≠ .free

theorem bindL_out {kindOf : Str → Option NameKind} {x : Str} : ∀ {binds : List (Str × Value)} {m : Str → Option Value}, (∀ v, (x, v) ∉ binds) → bindL kindOf binds m x = m x
  | [], _, _ => rfl
  | (n, v) :: r, m, h => by
    unfold bindL
    rw [bindL_out fun w hw => h w (List.mem_cons_of_mem _ hw)]
    split
    · have : x ≠ n := by rintro rfl; exact h v List.mem_cons_self
      simp [this]
    · rfl
theorem bindC_out {kindOf : Str → Option NameKind} {x : Str} : ∀ {binds : List (Str × Value)} {m : Str → Option Value}, (∀ v, (x, v) ∉ binds) → bindC kindOf binds m x = m x
  | [], _, _ => rfl
  | (n, v) :: r, m, h => by
    unfold bindC
    rw [bindC_out fun w hw => h w (List.mem_cons_of_mem _ hw)]
    split
    · rfl
    · have : x ≠ n := by rintro rfl; exact h v List.mem_cons_self
      simp [this]
theorem bindL_get {kindOf : Str → Option NameKind} {x : Str} {v : Value} : ∀ {P : List Str} {vs : List Value} {i : Nat} {m : Str → Option Value}, P.Nodup → P[i]? = some x → vs[i]? = some v → kindOf x = some .local →
    bindL kindOf (P.zip vs) m x = some v
  | [], _, _, _, _, h, _, _ => by simp at h
  | _ :: _, [], _, _, _, _, h, _ => by simp at h
  | p :: P, w :: vs, 0, m, nd, h1, h2, hk => by
    simp at h1 h2; subst h1; subst h2
    show bindL kindOf ((p, w) :: P.zip vs) m p = _
    unfold bindL
    rw [bindL_out fun v hv => (List.nodup_cons.mp nd).1 (List.of_mem_zip hv).1, if_pos hk]
    simp
  | p :: P, w :: vs, i + 1, m, nd, h1, h2, hk => by
    show bindL kindOf ((p, w) :: P.zip vs) m x = _
    unfold bindL
    exact bindL_get (i := i) (List.nodup_cons.mp nd).2 (by simpa using h1) (by simpa using h2) hk
theorem bindC_get {kindOf : Str → Option NameKind} {x : Str} {v : Value} : ∀ {P : List Str} {vs : List Value} {i : Nat} {m : Str → Option Value}, P.Nodup → P[i]? = some x → vs[i]? = some v → kindOf x ≠ some .local →
    bindC kindOf (P.zip vs) m x = some v
  | [], _, _, _, _, h, _, _ => by simp at h
  | _ :: _, [], _, _, _, _, h, _ => by simp at h
  | p :: P, w :: vs, 0, m, nd, h1, h2, hk => by
    simp at h1 h2; subst h1; subst h2
    show bindC kindOf ((p, w) :: P.zip vs) m p = _
    unfold bindC
    rw [bindC_out fun v hv => (List.nodup_cons.mp nd).1 (List.of_mem_zip hv).1, if_neg hk]
    simp
  | p :: P, w :: vs, i + 1, m, nd, h1, h2, hk => by
    show bindC kindOf ((p, w) :: P.zip vs) m x = _
    unfold bindC
    exact bindC_get (i := i) (List.nodup_cons.mp nd).2 (by simpa using h1) (by simpa using h2) hk

noncomputable def start (N : List Str) (vs : List V) : St := vs.map some ++ List.replicate (N.length - vs.length) none

noncomputable def cxOf (CX : CXT) (P : Program) (w : World) (K : PySem.W.Frag) (mg : Str → Option Value) (base : Heap) (N : List Str) (qual : Str) (scope : Scope) (f : Addr) (cd : Value) (A : Around) (outer : List Env) (s : Shared) (H : Hp) (E : XK) : Cx where
  prog := P
  w := w
  K := K
  mg := mg
  base := base
  A := A.deeper (envOfC qual scope s.heap.objs.size f cd)
  N := N
  s₀ := s
  H₀ := H
  env := envOfC qual scope s.heap.objs.size f cd
  outer := outer
  stack := envOfC qual scope s.heap.objs.size f cd :: outer
  ex := []
  calm := true
  fn := fun _ => true
  pn := []
  xe := fun e s' => wpAny (model P w) (A.deeper (envOfC qual scope s.heap.objs.size f cd)) («leaving» (envOfC qual scope s.heap.objs.size f cd) e) (fun _ s'' => CX outer H s E e s'') (fun e' s'' => CX outer H s E e' s'') s'

theorem cell_has {sc : Scope} {n : Nat} {x : Str} (h : sc.names.lookup x = some .cell) : ∃ c, (cellsFrom n sc.names []).lookup x = some c := by
  have q := PySem.W.cellsFrom_some sc.names n [] (.inl h)
  exact Option.isSome_iff_exists.mp q

theorem inv_start {CX : CXT} {P : Program} {w : World} {K : PySem.W.Frag} {mg : Str → Option Value} {base : Heap} {N ps : List Str} {qual : Str} {scope : Scope} {f : Addr} {cd : Value} {A : Around} {outer : List Env} {s s1 : Shared} {H : Hp} {E : XK} {us : List Value} {vs : List V}
    (S : FnScope N ps scope) (hd : A.handled = none) (e0 : Env0 P w K mg base A outer s H) (hl : vs.length = ps.length) (r : Vals vs us)
    (x : InCallC s s.heap.objs.size (bindL (envOfC qual scope s.heap.objs.size f cd).kindOf (ps.zip us) fun _ => none) (cellsFrom (s.heap.objs.size + 1) scope.names []) (bindC (envOfC qual scope s.heap.objs.size f cd).kindOf (ps.zip us) fun _ => none) s1) :
    Inv (cxOf CX P w K mg base N qual scope f cd A outer s H E) [] (start N vs) H s1 := by
  have hpl : ps.length ≤ N.length := by have := congrArg List.length S.pre; rw [List.length_take] at this; omega
  obtain ⟨h1, tk, rfl, hk⟩ := x.done
  have noA : ∀ b : Addr, b ∉ (cxOf CX P w K mg base N qual scope f cd A outer s H E).ex := fun b z => absurd (show b ∈ ([] : List Addr) from z) (by simp)
  refine ⟨⟨e0.mod, S.kind, rfl, rfl, Nat.le_refl _, fun y z c h1 h2 => ?_, fun y hy => ?_, fun y c _ h => ?_, fun _ => hd, Around.frames_deeper e0.frames, .inr ⟨rfl, rfl⟩, fun b z => absurd z (noA b), e0.bs, e0.bsz, fun b _ _ => noA b, fun b z => absurd z (noA b), e0.funs, e0.frf⟩,
    rfl, e0.bare, Un.kept hk, ⟨_, x.toInCall.ns, fun i y v h1 h2 h3 => ?_⟩, fun y c h => ⟨_, x.cell y c h⟩, e0.hok.fresh (Nat.le_refl _), fun y c h => ?_, fun p hp => absurd (show p ∈ ([] : List (Addr × Obj)) from hp) (by simp), e0.hok.kept hk, ?_⟩
  · exact name_of_addr x.apart (PySem.mem_of_lookup h1) (PySem.mem_of_lookup h2)
  · have hy : scope.names.lookup y = some .cell ∨ scope.names.lookup y = some .free := hy
    rcases hy with hy | hy
    · exact cell_has hy
    · exact absurd rfl (S.nofree _ (PySem.mem_of_lookup hy))
  · exact Nat.le_of_lt (x.above y c (PySem.mem_of_lookup h))
  · have hi : i < vs.length := by
      unfold start at h2
      by_cases hi : i < vs.length
      · exact hi
      · rw [List.getElem?_append_right (by simpa using hi)] at h2
        rw [List.getElem?_replicate] at h2
        split at h2 <;> cases h2
    have ha : vs[i]? = some v := by
      unfold start at h2
      rw [List.getElem?_append_left (by simpa using hi), List.getElem?_map] at h2
      cases e : vs[i]? with
      | none => rw [e] at h2; cases h2
      | some a => rw [e] at h2; cases h2; rfl
    obtain ⟨u, hu, rv⟩ := r.get ha
    have hp : ps[i]? = some y := by
      rw [← S.pre, List.getElem?_take_of_lt (by omega)]; exact h1
    have ndP : ps.Nodup := by rw [← S.pre]; exact S.nd.sublist (List.take_sublist _ _)
    refine ⟨u, rv, ?_⟩
    rcases S.par y (List.mem_of_getElem? hp) with k | k
    · exact .inl ⟨k, bindL_get ndP hp hu k⟩
    · obtain ⟨c, e⟩ := cell_has (n := s.heap.objs.size + 1) k
      refine .inr ⟨.inl k, c, e, ?_⟩
      have q := x.cell y c e
      rw [bindC_get ndP hp hu (by show scope.names.lookup y ≠ _; rw [k]; decide)] at q
      exact q
  · exact e0.hok.fresh (Nat.le_of_lt (x.above y c (PySem.mem_of_lookup h)))
  · unfold start
    show _ = N.length
    rw [List.length_append, List.length_map, List.length_replicate]
    omega

theorem fn_of {CX : CXT} {P : Program} {w : World} {K : PySem.W.Frag} {mg : Str → Option Value} {base : Heap} {k : Nat} {f : Addr} {name qual : Str} {params : Arguments} {body : List Stmt} {scope : Scope} {dV kV doc pm cdv ct oc : Value} {an od : Option Addr}
    {osl : Array (Option Value)} {N ps : List Str} {sp : Sp} (lk : K.lookup f = some ⟨oc, od, .func (PySem.W.fnOf name qual params body scope dV kV doc pm an cdv ct), osl⟩) (hcd : PySem.W.codeIn K cdv qual = true) (S : FnScope N ps scope)
    (len : ∀ vs H Q E, sp vs H Q E → vs.length = ps.length)
    (hbody : ∀ (A : Around) (outer : List Env) (s : Shared) (H : Hp) (vs : List V) (Q : VK) (E : XK), Room k (A.deeper (envOfC qual scope s.heap.objs.size f cdv)) → sp vs H Q E →
      ∃ t, PSs (cxOf CX P w K mg base N qual scope f cdv A outer s H E) body t ∧ t { nx := fun _ H' => Q .non H', rt := Q } (start N vs) H) :
    FnOk P w K mg base CX (k + 1) f (PySem.W.fnOf name qual params body scope dV kV doc pm an cdv ct) ps sp := by
  refine ⟨len, fun A outer s H args us vs Q E hr e0 hb r hsp => ?_⟩
  have hl := len _ _ _ _ hsp
  have KX : K.In s.heap := e0.mod.kin.keeps fun b o e => (e0.bs b o e).1
  have lim : s.heap.NoLimit := e0.mod.nolimit.keeps fun b o e => (e0.bs b o e).1
  have hkind : ∀ y ∈ ps.zip us, scope.names.lookup y.1 = some .local ∨ (scope.names.lookup y.1 = some .cell ∧ ((cellsFrom (s.heap.objs.size + 1) scope.names []).lookup y.1).isSome = true) := fun ⟨n, v⟩ hy => by
    rcases S.par n (List.of_mem_zip hy).1 with q | q
    · exact .inl q
    · exact .inr ⟨q, PySem.W.cellsFrom_some _ _ _ (.inl q)⟩
  refine codeAny_call_function hr.depth (KX _ _ lk) rfl S.co S.gen rfl (PySem.W.codeRec_of KX hcd) (hb _ _ _ _ ?_)
  refine wpAny_newFunctionEnv_cells S.kind hkind fun env he s1 x => ?_
  subst he
  refine ⟨lim.keeps x.toInCall.keep, codeAny_func ?_⟩
  obtain ⟨t, ht, hq⟩ := hbody A outer s H vs Q E (hr.deeper _) hsp
  have I : Inv (cxOf CX P w K mg base N qual scope f cdv A outer s H E) [] (start N vs) H s1 := inv_start S hr.hd e0 hl r x
  refine wpAny_mono (ht [] s1 (start N vs) H _ I hq) (fun fl s' hs => ?_) fun e s' hs => hs
  have fin : ∀ {σ' : St} {H' : Hp} {v : V} {u : Value}, Inv (cxOf CX P w K mg base N qual scope f cdv A outer s H E) [] σ' H' s' → RelV v u → Q v H' → CE outer P w H s Q u s' :=
    fun {σ' H' v u} J rv q => ⟨v, H', J.os, J.bare, J.base, J.hok, rv, q⟩
  cases fl with
  | ret u =>
    obtain ⟨v, σ', H', J, rv, q⟩ := hs
    exact fin J rv q
  | next =>
    obtain ⟨σ', H', J, q⟩ := hs
    exact fin (v := V.non) (u := Value.none) J rfl q
  | brk =>
    obtain ⟨_, _, _, q⟩ := hs
    exact False.elim q
  | cont =>
    obtain ⟨_, _, _, q⟩ := hs
    exact False.elim q
end L2

namespace L2
open PySem PySem.Spec PyProof.Rows
section
variable {X : Cx} {x : Str} {p pos : Pos} {e : Expr} {es : List Expr} {t : TA} {id T : String} {r : List V → Hp → VK → Prop}

noncomputable def tCB (r : List V → Hp → VK → Prop) (t : TA) : TE := fun σ H Q => t σ H fun vs H1 => r vs H1 Q
theorem pe_callB (hc : CallR X (.builtin id) r) (hg : Gl X x) (hm : X.mg x = none) (hv : bootBuiltins x = some (.builtin id)) (ha : PA X (e :: es) t) (hn : x ≠ "__name__" := by decide) (hdb : (x == ("__debug__" : Str)) = false := by decide)
    (he : starEach (e :: es) X.env = (false, eval e X.env) :: starEach es X.env := by rfl) (hpl : (backTo pos (starEach es X.env)).any (·.1) = false := by rfl) : PE X (.Call (.Name x p) (e :: es) [] pos) (tCB r t) := by
  intro pins s σ H Q I h
  refine wpAny_Call_Name_kw (ld_blt I hg hm hv ?_ hn hdb)
  exact PyProof.Rows.callWith_builtin1 (thn (ha pos pins s σ H _ I h) fun us s1 ⟨vs, H1, I1, r1, q1⟩ => hc pins s1 σ H1 vs us Q I1 r1 q1) he hpl
theorem pe_callTy (hc : CallR X (.type T) r) (hg : Gl X x) (hm : X.mg x = none) (hv : bootBuiltins x = some (.type T)) (ha : PA X (e :: es) t) (hn : x ≠ "__name__" := by decide) (hdb : (x == ("__debug__" : Str)) = false := by decide)
    (he : starEach (e :: es) X.env = (false, eval e X.env) :: starEach es X.env := by rfl) (hpl : (backTo pos (starEach es X.env)).any (·.1) = false := by rfl) : PE X (.Call (.Name x p) (e :: es) [] pos) (tCB r t) := by
  intro pins s σ H Q I h
  refine wpAny_Call_Name_kw (ld_blt I hg hm hv ?_ hn hdb)
  exact PyProof.Rows.callWith_type1 (thn (ha pos pins s σ H _ I h) fun us s1 ⟨vs, H1, I1, r1, q1⟩ => hc pins s1 σ H1 vs us Q I1 r1 q1) he hpl
end
end L2

namespace HT
open PySem PyProof.Rows

noncomputable def lexLt : List Int → List Int → Bool
  | [], [] => false
  | [], _ :: _ => true
  | _ :: _, [] => false
  | x :: xs, y :: ys => if x = y then lexLt xs ys else decide (x < y)
theorem lexLt_cons (x y : Int) (xs ys : List Int) : lexLt (x :: xs) (y :: ys) = if x = y then lexLt xs ys else decide (x < y) := rfl
theorem lexLt_nil_nil : lexLt [] [] = false := rfl
theorem lexLt_nil_cons (y : Int) (ys : List Int) : lexLt [] (y :: ys) = true := rfl
theorem lexLt_cons_nil (x : Int) (xs : List Int) : lexLt (x :: xs) [] = false := rfl

theorem eqAt_int (A : Around) (s : Shared) (a : Int) (t : Tok) (c : Int) (u : Tok) : ∃ e, SeqAt.EqAt A s (.int a t) (.int c u) e ∧ (e = true ↔ a = c) :=
  ⟨(a == c), SeqAt.EqAt.int_int a t c u, by simp⟩
theorem rcLt_int (A : Around) (s : Shared) (a : Int) (t : Tok) (c : Int) (u : Tok) (prog : Program) (w : World) (E : Value → Shared → Prop) (Q : Value → Shared → Prop) (h : Q (.bool (decide (a < c))) s) :
    wpAny (model prog w) A (richCompare .Lt (.int a t) (.int c u)) Q E s :=
  (PyProof.Rows.lt_int h : wpAny (model prog w) A (compareOp .Lt (.int a t) (.int c u)) Q E s)

section
open PySem.SeqAt
open PySem.AutoSeq1 (wpAny_loadPart')
open PySem.MeetsSeq PySem.MeetsSeq2 PySem.MeetsSeq3

theorem tuple_lt_ints (l b : Addr) (items items2 : Array Value) (n n2 : Nat) (dd dd2 : Option Addr) (sl sl2 : Array (Option Value)) (ns ms : List Int) (hi : IntsAre items.toList ns) (hj : IntsAre items2.toList ms) :
    Meets (Builtin.«tuple.__lt__» ⟨[.ref l, .ref b], []⟩)
      (fun _ R s => s.heap.get? l = some { cls := .type "tuple", dict := dd, data := .seq items n, slots := sl } ∧ s.heap.get? b = some { cls := .type "tuple", dict := dd2, data := .seq items2 n2, slots := sl2 } ∧
        R (.ok (.ret (.bool (lexLt ns ms)))) s) :=
  .of_wp fun prog w A R s h => by
    obtain ⟨hp, g, d, tk, os⟩ := s; obtain ⟨hl, hb, h⟩ := h
    have f2 := AutoSeq1.sub_tuple_tuple
    have z1 : items.size = ns.length := by rw [← hi.length]; simp
    have z2 : items2.size = ms.length := by rw [← hj.length]; simp
    wp_walk using wpAny_loadPart' hl, wpAny_loadPart' hb, wpAny_forIn_list _ (fun rest b s' => b.1 = none ∧ s' = ⟨hp, g, d, tk, os⟩ ∧ ∃ (vs ws : List Value) (ns' ms' : List Int), rest = vs.zip ws ∧
      IntsAre vs ns' ∧ IntsAre ws ms' ∧ ns'.length + items2.size = ms'.length + items.size ∧ R (.ok (.ret (.bool (lexLt ns' ms')))) ⟨hp, g, d, tk, os⟩) _
    case turn =>
      rintro ⟨y, x⟩ rest b s' ⟨hb', rfl, vs, ws, ns', ms', hz, hvi, hwi, hlen, hR⟩
      cases hvi with
      | nil => rw [List.zip_nil_left] at hz; cases hz
      | cons a t hvi' =>
        cases hwi with
        | nil => rw [List.zip_nil_right] at hz; cases hz
        | cons c u hwi' =>
          rw [List.zip_cons_cons] at hz
          injection hz with hyx hrest
          injection hyx with hy hx
          subst hy hx
          rw [lexLt_cons] at hR
          simp only [List.length_cons] at hlen
          obtain ⟨e, he, hiff⟩ := eqAt_int A.in1 ⟨hp, g, d, tk, os⟩ a t c u
          refine wpAny_bind (he prog w _ _ ?_)
          cases e with
          | true =>
            rw [if_pos (hiff.mp rfl)] at hR
            wp_walk
            exact ⟨rfl, rfl, _, _, _, _, hrest, hvi', hwi', by omega, hR⟩
          | false =>
            rw [if_neg (fun q => absurd (hiff.mpr q) Bool.false_ne_true)] at hR
            have hri := rcLt_int A.in1 ⟨hp, g, d, tk, os⟩ a t c u prog w
            wp_walk using hri
            exact ⟨_, rfl, by simpa using hR⟩
    case fin =>
      rintro ⟨b1, b2⟩ s' ⟨hb', rfl, vs, ws, ns', ms', hz, hvi, hwi, hlen, hR⟩
      simp only at hb'
      subst hb'
      have hv : lexLt ns' ms' = decide (items.size < items2.size) := by
        cases hvi with
        | nil =>
          cases hwi with
          | nil =>
            simp only [List.length_nil] at hlen
            rw [lexLt_nil_nil]
            exact (decide_eq_false (by omega)).symm
          | cons c u hw =>
            simp only [List.length_nil, List.length_cons] at hlen
            rw [lexLt_nil_cons]
            exact (decide_eq_true (by omega)).symm
        | cons a t hv =>
          cases hwi with
          | nil =>
            simp only [List.length_nil, List.length_cons] at hlen
            rw [lexLt_cons_nil]
            exact (decide_eq_false (by omega)).symm
          | cons c u hw =>
            rw [List.zip_cons_cons] at hz
            cases hz
      rw [hv] at hR
      wp_walk
      exact ⟨_, rfl, by simpa [Builtin.Tuple.tupleCompareSizes] using hR⟩
    case h =>
      exact ⟨rfl, rfl, items.toList, items2.toList, ns, ms, rfl, hi, hj, by omega, h⟩
end

section
variable {prog : Program} {w : World} {A : Around} {E : Value → Shared → Prop} {s : Shared}

theorem lt_tupInts {l b : Addr} {items items2 : Array Value} {ns ms : List Int} {Q : Value → Shared → Prop} (hl : IsTup s.heap l items) (hb : IsTup s.heap b items2) (hi : IntsAre items.toList ns) (hj : IntsAre items2.toList ms)
    (hu : A.units < cLine) (h : Q (.bool (lexLt ns ms)) s) : wpAny (model prog w) A (compareOp .Lt (.ref l) (.ref b)) Q E s := by
  obtain ⟨⟨cls, dd, data, sl⟩, ho, hc, n, hd⟩ := id hl
  obtain ⟨⟨cls2, dd2, data2, sl2⟩, ho2, hc2, n2, hd2⟩ := id hb
  simp only at hc hd hc2 hd2
  subst hc hd hc2 hd2
  exact richCompare_meets_room (op := .Lt) ⟨_, ho, rfl⟩ ⟨_, ho2, rfl⟩ PySem.F.slot_tuple_lt PySem.F.entry_tuple_lt (PySem.F.args_tuple_lt_2 _ _) (tuple_lt_ints l b items items2 n n2 dd dd2 sl sl2 ns ms hi hj)
    ⟨ho, ho2, show Value.bool (lexLt ns ms) ≠ Value.notImplemented ∧ Q (.bool (lexLt ns ms)) s from ⟨(fun x => nomatch x), h⟩⟩ hu

theorem cat_tup {t b : Addr} {vs ws : List Value} {Q : Value → Shared → Prop} (ht : IsTup s.heap t vs.toArray) (hb : IsTup s.heap b ws.toArray) (hv : vs ≠ [])
    (h1 : ws = [] → Q (.ref t) s) (h2 : ws ≠ [] → Q (.ref s.heap.objs.size) { s with heap := s.heap.push { cls := .type "tuple", data := .seq (vs ++ ws).toArray } })
    (hsz : vs.length + ws.length ≤ sizeLine) : wpAny (model prog w) A (binaryOp .Add (.ref t) (.ref b)) Q E s := by
  obtain ⟨⟨cls, dd, data, sl⟩, ho, hc, n, hd⟩ := id ht
  obtain ⟨⟨cls2, dd2, data2, sl2⟩, ho2, hc2, n2, hd2⟩ := id hb
  simp only at hc hd hc2 hd2
  subst hc hd hc2 hd2
  have e : vs.toArray ++ ws.toArray = (vs ++ ws).toArray := by simp
  by_cases hw : ws = []
  · exact concat_meets ⟨_, ho, rfl⟩ ⟨_, ho2, rfl⟩ noFill_tuple_add seq_tuple_add PySem.F.slot_tuple_add PySem.F.entry_tuple_add (PySem.F.args_tuple_add_2 _ _)
      (tuple_addW1 t b vs.toArray ws.toArray n n2 dd dd2 sl sl2 (by simpa using hv) (by simp [hw])) ⟨ho, ho2, h1 hw⟩
  · refine concat_meets ⟨_, ho, rfl⟩ ⟨_, ho2, rfl⟩ noFill_tuple_add seq_tuple_add PySem.F.slot_tuple_add PySem.F.entry_tuple_add (PySem.F.args_tuple_add_2 _ _)
      (tuple_addW2 t b vs.toArray ws.toArray n n2 dd dd2 sl sl2 (by simpa using hv) (by simpa using hw) (by rw [List.size_toArray, List.size_toArray]; exact hsz)) ⟨ho, ho2, ?_⟩
    rw [e]
    exact h2 hw

/-! ### t[a:b], not the whole -/
noncomputable def sIx (n d : Nat) : Option Int → Nat
  | none => d
  | some v => if v < 0 then (v + (n : Int)).toNat else min v.toNat n
theorem sIx_le (n d : Nat) (hd : d ≤ n) (o : Option Int) : sIx n d o ≤ n := by
  cases o with
  | none => exact hd
  | some v =>
    show (if v < 0 then (v + (n : Int)).toNat else min v.toNat n) ≤ n
    by_cases hv : v < 0
    · rw [if_pos hv]; omega
    · rw [if_neg hv]; exact Nat.min_le_right _ _
theorem clip_eq (v : Int) (n d : Nat) : (if v < 0 then max (v + (n : Int)) 0 else min v (n : Int)) = ((sIx n d (some v) : Nat) : Int) := by
  show (if v < 0 then max (v + (n : Int)) 0 else min v (n : Int)) = (((if v < 0 then (v + (n : Int)).toNat else min v.toNat n) : Nat) : Int)
  by_cases hv : v < 0
  · simp only [if_pos hv]; omega
  · simp only [if_neg hv]; omega
theorem adjust_gen (lo hi : Option Int) (n : Nat) : Builtin.Slice.sliceAdjust lo hi 1 (n : Int) = (((sIx n 0 lo : Nat) : Int), ((sIx n n hi : Nat) : Int)) := by
  have h1 : ¬ ((1 : Int) < 0) := by omega
  unfold Builtin.Slice.sliceAdjust
  simp only [h1, if_false]
  refine Prod.ext ?_ ?_
  · cases lo with
    | none => rfl
    | some v => exact clip_eq v n 0
  · cases hi with
    | none => rfl
    | some v => exact clip_eq v n n
theorem places_gen (i j : Nat) : Builtin.Slice.slicePlaces (i : Int) (j : Int) 1 = j - i := by
  unfold Builtin.Slice.slicePlaces
  have h1 : (1 : Int) > 0 := by omega
  simp only [h1, if_true, Int.ediv_one]
  split <;> omega
theorem slicePart_ {v : Value} {o : Option Int} {Q : Option Int → Shared → Prop} (p : IsPart v o) (h : Q o s) : wpAny (model prog w) A (Builtin.Slice.slicePartIndex v) Q E s := by
  cases p with
  | none => exact slicePart_none h
  | int i t => exact slicePart_int h
theorem sliceApplied_gen {sl : Addr} {vl vu : Value} {lo hi : Option Int} {n : Nat} {Q : Int × Int × Nat → Shared → Prop} (hs : s.heap.IsSliceOf sl vl vu .none) (pl : IsPart vl lo) (pu : IsPart vu hi)
    (h : Q (((sIx n 0 lo : Nat) : Int), 1, sIx n n hi - sIx n 0 lo) s) : wpAny (model prog w) A (Builtin.Slice.sliceApplied (.ref sl) (pure (n : Int))) Q E s := by
  obtain ⟨os, hos, hcs, hds⟩ := id hs
  unfold Builtin.Slice.sliceApplied Builtin.Slice.sliceFields
  refine wpAny_bind (wpAny_bind (wpAny_field hos hds (x := vl) rfl (wpAny_bind (wpAny_field hos hds (x := vu) rfl (wpAny_bind (wpAny_field hos hds (x := .none) rfl (wpAny_pure ?_)))))))
  refine wpAny_bind (slicePart_none ?_)
  show wpAny _ _ (if ((1 : Int) == 0) = true then _ else _) _ _ s
  rw [if_neg (by decide)]
  refine wpAny_bind (slicePart_ pl (wpAny_bind (slicePart_ pu (wpAny_bind (wpAny_pure ?_)))))
  show wpAny _ _ (match Builtin.Slice.sliceAdjust lo hi 1 (n : Int) with | (lo, hi) => pure (lo, (1 : Int), Builtin.Slice.slicePlaces lo hi 1)) _ _ s
  rw [adjust_gen lo hi n]
  show wpAny _ _ (pure (((sIx n 0 lo : Nat) : Int), (1 : Int), Builtin.Slice.slicePlaces ((sIx n 0 lo : Nat) : Int) ((sIx n n hi : Nat) : Int) 1)) _ _ s
  rw [places_gen]
  exact wpAny_pure h
theorem pick_gen (xs : Array Value) (i k : Nat) : ((List.range k).filterMap fun (m : Nat) => xs[((i : Int) + (m : Int) * 1).toNat]?).toArray = ((xs.toList.drop i).take k).toArray := by
  have e : (fun (m : Nat) => xs[((i : Int) + (m : Int) * 1).toNat]?) = fun m => xs[i + m]? := by
    funext m
    have : ((i : Int) + (m : Int) * 1).toNat = i + m := by omega
    rw [this]
  rw [e]
  have := pick_run xs i k
  rw [List.filterMap_map] at this
  have e2 : ((fun x => xs[x]?) ∘ fun x => i + x) = fun m => xs[i + m]? := rfl
  rw [e2] at this
  rw [this]

theorem getItem_tuple_cut {t sl : Addr} {items : Array Value} {vl vu : Value} {lo hi : Option Int} {Q : Value → Shared → Prop} (ht : IsTup s.heap t items) (hs : s.heap.IsSliceOf sl vl vu .none) (pl : IsPart vl lo) (pu : IsPart vu hi)
    (hw : ¬ (sIx items.size 0 lo = 0 ∧ sIx items.size items.size hi = items.size))
    (h : Q (.ref s.heap.objs.size) { s with heap := s.heap.push { cls := .type "tuple", data := .seq ((items.toList.drop (sIx items.size 0 lo)).take (sIx items.size items.size hi - sIx items.size 0 lo)).toArray } })
    (hsz : items.size ≤ sizeLine) : wpAny (model prog w) A (getItem (.ref t) (.ref sl)) Q E s := by
  have htake : sizeOk (.seq ((items.toList.drop (sIx items.size 0 lo)).take (sIx items.size items.size hi - sIx items.size 0 lo)).toArray) := by
    show ((items.toList.drop (sIx items.size 0 lo)).take (sIx items.size items.size hi - sIx items.size 0 lo)).toArray.size ≤ sizeLine
    rw [List.size_toArray, List.length_take, List.length_drop, Array.length_toList]
    omega
  have hj : sIx items.size items.size hi ≤ items.size := sIx_le _ _ (Nat.le_refl _) hi
  obtain ⟨os, hos, hcs, hds⟩ := id hs
  have hTs : s.TypeIs (.ref sl) "slice" := ⟨os, hos, hcs⟩
  unfold getItem
  try with_reducible refine wpAny_holding ?_
  first | refine wpAny_bind (wpAny_pure ?_) | skip
  refine wpAny_bind (wpAny_sequenceKey ht.typeIs (by decide) ?_)
  refine wpAny_bind (wpAny_callSpecial?_slot (name := Str.ofString "__getitem__") ht.typeIs PyProof.Rows.slot_tuple_getitem
    (wpAny_call_entry PyProof.Rows.slot_tuple_getitem ht.typeIs entry_tuple_getitem ?_ (args_tuple_getitem _ _)))
  show wpAny _ _ (Builtin.Tuple.tupleItemsOf (.ref t) >>= _) _ _ s
  refine wpAny_bind (tupleItemsOf_ ht ?_)
  refine wpAny_bind (wpAny_typeOf hTs ?_)
  rw [if_pos (by decide)]
  refine wpAny_bind (sliceApplied_gen hs pl pu ?_)
  have hno : ¬ ((((sIx items.size 0 lo : Nat) : Int) == 0 && (1 : Int) == 1 && (sIx items.size items.size hi - sIx items.size 0 lo) == items.size) = true) := by
    intro q
    rw [Bool.and_eq_true, Bool.and_eq_true] at q
    have q1 : ((sIx items.size 0 lo : Nat) : Int) = 0 := eq_of_beq q.1.1
    have q2 : sIx items.size items.size hi - sIx items.size 0 lo = items.size := eq_of_beq q.2
    exact hw ⟨by omega, by omega⟩
  show wpAny _ _ (if (((sIx items.size 0 lo : Nat) : Int) == 0 && (1 : Int) == 1 && (sIx items.size items.size hi - sIx items.size 0 lo) == items.size) = true then _ else _) _ _ s
  rw [if_neg hno, pick_gen]
  first
    | exact wpAny_bind (m := Builtin.Tuple.tupleExact _) (wpAny_newObj_type (wpAny_pure ⟨_, rfl, wpAny_pure h⟩) htake)
    | exact wpAny_bind (m := Builtin.Tuple.tupleExact _) (wpAny_newObj_type (wpAny_bind (wpAny_pure (wpAny_pure ⟨_, rfl, wpAny_pure h⟩))) htake)
    | exact wpAny_bind (wpAny_bind (m := Builtin.Tuple.tupleExact _) (wpAny_newObj_type (wpAny_pure (wpAny_pure ⟨_, rfl, wpAny_pure h⟩)) htake))
    | exact wpAny_bind (wpAny_bind (m := Builtin.Tuple.tupleExact _) (wpAny_newObj_type (wpAny_pure ⟨_, rfl, wpAny_pure h⟩) htake))
end
end HT

namespace L2
open PySem PySem.Spec PyProof.Rows

/-! ### the parts of a slice -/
noncomputable abbrev TO := St → Hp → (Option Int → Hp → Prop) → Prop
noncomputable def PO (X : Cx) (e : Option Expr) (t : TO) : Prop :=
  ∀ (pins : List (Addr × Obj)) (s : Shared) (σ : St) (H : Hp) (Q : Option Int → Hp → Prop), Inv X pins σ H s → t σ H Q →
    wpAny (model X.prog X.w) X.A (evalPart e X.env) (fun u s' => ∃ o H', Inv X pins σ H' s' ∧ IsPart u o ∧ Q o H') X.xe s
noncomputable def tNoPart : TO := fun _ H Q => Q none H
noncomputable def tPart (t : TE) : TO := fun σ H Q => t σ H fun x H1 => ∃ i, x = .int i ∧ Q (some i) H1

theorem intsAre_of {ns : List Int} : ∀ {us : List Value}, Vals (ns.map V.int) us → IntsAre us ns := by
  induction ns with
  | nil => intro us r; rw [List.map_nil] at r; cases r; exact .nil
  | cons n ns ih =>
    intro us r
    rw [List.map_cons] at r
    cases r with
    | cons r1 r2 =>
      obtain ⟨t, e⟩ := r1
      subst e
      exact .cons n t (ih r2)

section
variable {X : Cx} {e : Expr} {te : TE} {lo hi : Option Expr} {tl th : TO} {pos p2 : Pos}

theorem po_none : PO X none tNoPart := by
  intro pins s σ H Q I h
  rw [evalPart_none]
  exact wpAny_pure ⟨none, H, I, .none, h⟩
theorem po_some (h : PE X e te) : PO X (some e) (tPart te) := by
  intro pins s σ H Q I hw
  rw [evalPart_some]
  refine thn (h pins s σ H _ I hw) fun u s1 ⟨x, H1, I1, r1, q1⟩ => ?_
  obtain ⟨i, rfl, q⟩ := q1
  obtain ⟨t, rfl⟩ := r1
  exact ⟨some i, H1, I1, .int i t, q⟩

noncomputable def SlR (X : Cx) (r : V → Option Int → Option Int → Hp → VK → Prop) : Prop :=
  ∀ (pins : List (Addr × Obj)) (s : Shared) (σ : St) (H : Hp) (x : V) (v vl vu : Value) (lo hi : Option Int) (sl : Addr) (Q : VK), Inv X pins σ H s → RelV x v → s.heap.IsSliceOf sl vl vu .none → IsPart vl lo → IsPart vu hi → r x lo hi H Q →
    ∃ T id, typeLookup (.type T) "__getitem__" = pure (some (.builtin id)) ∧ s.TypeIs v T ∧ wpAny (model X.prog X.w) X.A (getItem v (.ref sl)) (EP X pins σ Q) X.xe s
theorem SlR.or {r r' : V → Option Int → Option Int → Hp → VK → Prop} (h : SlR X r) (h' : SlR X r') : SlR X (fun x lo hi H Q => r x lo hi H Q ∨ r' x lo hi H Q) := by
  intro pins s σ H x v vl vu lo hi sl Q I rx hs pl pu q
  rcases q with q | q
  · exact h pins s σ H x v vl vu lo hi sl Q I rx hs pl pu q
  · exact h' pins s σ H x v vl vu lo hi sl Q I rx hs pl pu q
noncomputable def tSl (r : V → Option Int → Option Int → Hp → VK → Prop) (te : TE) (tl th : TO) : TE := fun σ H Q => te σ H fun x H1 => tl σ H1 fun l H2 => th σ H2 fun u H3 => r x l u H3 Q
theorem pe_slice {r : V → Option Int → Option Int → Hp → VK → Prop} (hr : SlR X r) (he : PE X e te) (hl : PO X lo tl) (hu : PO X hi th) : PE X (.Subscript e (.Slice lo hi none p2) pos) (tSl r te tl th) := by
  intro pins s σ H Q I h
  refine Subscript_ (thn (he pins s σ H _ I h) fun v s1 ⟨x, H1, I1, r1, q1⟩ => ?_)
  refine wpAny_Slice (thn (hl pins s1 σ H1 _ I1 q1) fun vl s2 ⟨l, H2, I2, pl, q2⟩ => thn (hu pins s2 σ H2 _ I2 q2) fun vu s3 ⟨u, H3, I3, pu, q3⟩ => ?_)
  rw [evalPart_none]
  refine wpAny_pure ?_
  have I4 : Inv X pins σ H3 { s3 with heap := s3.heap.push { cls := .type "slice", data := .fields #[vl, vu, .none] } } := I3.kept (t' := s3.toks) fun b ob q => Heap.get?_push_of_some _ q
  obtain ⟨T, id, hT, ht, hg⟩ := hr pins { s3 with heap := s3.heap.push { cls := .type "slice", data := .fields #[vl, vu, .none] } } σ H3 x v vl vu l u s3.heap.objs.size Q I4 r1 (Heap.IsSliceOf.new ..) pl pu q3
  show wpAny (model X.prog X.w) X.A (subscriptTail e (.Slice lo hi none p2) v (.ref s3.heap.objs.size)) (EP X pins σ Q) X.xe { s3 with heap := s3.heap.push { cls := .type "slice", data := .fields #[vl, vu, .none] } }
  exact tail_any (ops := [.ref s3.heap.objs.size, v]) ht hT hg (by with_unfolding_all rfl)

noncomputable def cutV (xs : List V) (lo hi : Option Int) : List V := (xs.drop (HT.sIx xs.length 0 lo)).take (HT.sIx xs.length xs.length hi - HT.sIx xs.length 0 lo)
theorem cutV_length (xs : List V) (lo hi : Option Int) : (cutV xs lo hi).length ≤ xs.length := by
  unfold cutV
  rw [List.length_take, List.length_drop]
  omega
noncomputable def rSlT (K : PySem.W.Frag) : V → Option Int → Option Int → Hp → VK → Prop := fun x lo hi H Q => ∃ a xs, x = .ref a ∧ SqT K H a xs ∧
  ¬ (HT.sIx xs.length 0 lo = 0 ∧ HT.sIx xs.length xs.length hi = xs.length) ∧ ∀ p, H p = none → Q (.ref p) (upd H p (.tup (cutV xs lo hi)))
theorem sl_tup : SlR X (rSlT X.K) := by
  intro pins s σ H x v vl vu lo hi sl Q I rx hs pl pu h
  obtain ⟨a, xs, rfl, hx, hw, q⟩ := h
  cases rx
  obtain ⟨its, r, ht, hz⟩ := I.tuple hx
  have hlen : its.toArray.size = xs.length := by rw [List.size_toArray]; exact r.length.symm
  refine ⟨"tuple", _, PyProof.Rows.slot_tuple_getitem.lookup, ht.typeIs, ?_⟩
  refine HT.getItem_tuple_cut ht hs pl pu (by rw [hlen]; exact hw) ?_ (by rw [hlen]; exact hz)
  rw [hlen]
  refine ⟨.ref s.heap.objs.size, _, I.laid (t' := s.toks) (o := .tup (cutV xs lo hi)) (fun b ob q => Heap.get?_push_of_some _ q) (Nat.le_refl _) ?_, rfl, q _ (I.hok.fresh (Nat.le_refl _))⟩
  exact ⟨Nat.le_trans (cutV_length xs lo hi) hz, _, (r.drop (HT.sIx xs.length 0 lo)).take (HT.sIx xs.length xs.length hi - HT.sIx xs.length 0 lo), IsTupD.new _ _⟩

/-! ### t < u, t + u -/
noncomputable def rCatT (K : PySem.W.Frag) : R2 := fun x y H Q => ∃ a b xs ys, x = .ref a ∧ y = .ref b ∧ SqT K H a xs ∧ SqT K H b ys ∧ xs ≠ [] ∧ xs.length + ys.length ≤ sizeLine ∧
  (ys = [] → Q (.ref a) H) ∧ (ys ≠ [] → ∀ p, H p = none → Q (.ref p) (upd H p (.tup (xs ++ ys))))
theorem Vals.nil_iff {xs : List V} {us : List Value} (r : Vals xs us) : us = [] ↔ xs = [] := by
  cases r with
  | nil => simp
  | cons _ _ => simp
theorem op_catT : OpR X (binaryOp .Add) (rCatT X.K) := by
  intro pins s σ H x y v u Q I rx ry h
  obtain ⟨a, b, xs, ys, rfl, rfl, ha, hb, hx, hz, q1, q2⟩ := h
  cases rx
  cases ry
  obtain ⟨its, r1, p1, _⟩ := I.tuple ha
  obtain ⟨its2, r2, p2, _⟩ := I.tuple hb
  refine HT.cat_tup p1 p2 (fun z => hx (r1.nil_iff.mp z)) (fun z => ⟨.ref a, H, I, rfl, q1 (r2.nil_iff.mp z)⟩) (fun z => ?_) (by rw [← r1.length, ← r2.length]; exact hz)
  refine ⟨.ref s.heap.objs.size, _, I.laid (t' := s.toks) (o := .tup (xs ++ ys)) (fun b ob q => Heap.get?_push_of_some _ q) (Nat.le_refl _) ?_, rfl, q2 (fun w => z (r2.nil_iff.mpr w)) _ (I.hok.fresh (Nat.le_refl _))⟩
  exact ⟨by rw [List.length_append]; exact hz, _, r1.append r2, IsTupD.new _ _⟩
end
end L2

namespace L2
open PySem PySem.Spec PyProof.Rows

/-! ### places -/
noncomputable def ixN (n : Nat) (i : Int) : Option Nat := if 0 ≤ i then (if i < n then some i.toNat else none) else if -(n : Int) ≤ i then some (i + n).toNat else none
noncomputable def atI {α : Type} (xs : List α) (i : Int) : Option α := (ixN xs.length i).bind fun j => xs[j]?
theorem ixN_seq {n : Nat} {i : Int} {j : Nat} (h : ixN n i = some j) : seqIndex? i n = some j ∧ j < n ∧ -(n : Int) ≤ i ∧ i < n := by
  unfold ixN at h
  by_cases h0 : 0 ≤ i
  · rw [if_pos h0] at h
    by_cases h1 : i < n
    · rw [if_pos h1] at h
      have e : i.toNat = j := Option.some.inj h
      exact ⟨by rw [seqIndex_of h0 h1, e], by omega, by omega, h1⟩
    · rw [if_neg h1] at h; cases h
  · rw [if_neg h0] at h
    by_cases h1 : -(n : Int) ≤ i
    · rw [if_pos h1] at h
      have e : (i + n).toNat = j := Option.some.inj h
      exact ⟨by rw [seqIndex_neg (by omega) h1, e], by omega, h1, by omega⟩
    · rw [if_neg h1] at h; cases h
theorem atI_get {α : Type} {xs : List α} {i : Int} {v : α} (h : atI xs i = some v) : ∃ j, seqIndex? i xs.length = some j ∧ xs[j]? = some v ∧ j < xs.length ∧ -(xs.length : Int) ≤ i ∧ i < xs.length := by
  unfold atI at h
  cases e : ixN xs.length i with
  | none => rw [e] at h; cases h
  | some j =>
    rw [e] at h
    obtain ⟨h1, h2, h3, h4⟩ := ixN_seq e
    exact ⟨j, h1, h, h2, h3, h4⟩
theorem atI_nat {α : Type} {xs : List α} {j : Nat} {v : α} (h : xs[j]? = some v) : atI xs (j : Int) = some v := by
  have hj : j < xs.length := (List.getElem?_eq_some_iff.mp h).1
  have e : ixN xs.length (j : Int) = some j := by
    unfold ixN
    rw [if_pos (by omega), if_pos (by omega)]; simp
  unfold atI; rw [e]; exact h
/-! ### what may be subscripted -/
noncomputable def PlainIx (b : Expr) : Prop := ∀ o i, subscripted b false o i = operate [o, i] (getItem o i)
noncomputable def IxR (X : Cx) (r : R2) : Prop :=
  ∀ (value slice : Expr) (pins : List (Addr × Obj)) (s : Shared) (σ : St) (H : Hp) (x y : V) (v u : Value) (Q : VK), Inv X pins σ H s → RelV x v → RelV y u → r x y H Q →
    subscripted slice false v u = operate [v, u] (getItem v u) → wpAny (model X.prog X.w) X.A (subscriptTail value slice v u) (EP X pins σ Q) X.xe s
noncomputable def MtR (X : Cx) (id : String) (r : V → List V → Hp → VK → Prop) : Prop :=
  ∀ (pins : List (Addr × Obj)) (s : Shared) (σ : St) (H : Hp) (x : V) (xs : List V) (v : Value) (us : List Value) (Q : VK), Inv X pins σ H s → RelV x v → Vals xs us → r x xs H Q →
    wpAny (model X.prog X.w) X.A (call (.builtin id) (v :: us)) (EP X pins σ Q) X.xe s
section
variable {X : Cx} {a b : Expr} {ta tb : TE} {pos : Pos}
theorem IxR.or {r r' : R2} (h : IxR X r) (h' : IxR X r') : IxR X (fun x y H Q => r x y H Q ∨ r' x y H Q) := by
  intro value slice pins s σ H x y v u Q I rx ry q hs
  rcases q with q | q
  · exact h value slice pins s σ H x y v u Q I rx ry q hs
  · exact h' value slice pins s σ H x y v u Q I rx ry q hs
theorem MtR.or {id : String} {r r' : V → List V → Hp → VK → Prop} (h : MtR X id r) (h' : MtR X id r') : MtR X id (fun x xs H Q => r x xs H Q ∨ r' x xs H Q) := by
  intro pins s σ H x xs v us Q I rx rs q
  rcases q with q | q
  · exact h pins s σ H x xs v us Q I rx rs q
  · exact h' pins s σ H x xs v us Q I rx rs q
theorem pe_ix {r : R2} (hr : IxR X r) (ha : PE X a ta) (hb : PE X b tb) (hs : PlainIx b) : PE X (.Subscript a b pos) (tOp r ta tb) := by
  intro pins s σ H Q I h
  exact Subscript_ (binT ha hb I h fun v u s2 x y H2 I2 rx ry q => hr a b pins s2 σ H2 x y v u Q I2 rx ry q (hs _ _))

noncomputable def rIxL (K : PySem.W.Frag) : R2 := fun x y H Q => ∃ p xs i v, x = .ref p ∧ y = .int i ∧ SqL K H p xs ∧ atI xs i = some v ∧ Q v H
theorem ix_list : IxR X (rIxL X.K) := by
  intro value slice pins s σ H x y v u Q I rx ry h hs
  obtain ⟨p, xs, i, z, rfl, rfl, hq, he, q⟩ := h
  cases rx
  obtain ⟨t, rfl⟩ := ry
  obtain ⟨its, r, pl, hz⟩ := I.list hq
  obtain ⟨j, h1, h2, h3, h4, h5⟩ := atI_get he
  obtain ⟨w, ew, rw'⟩ := r.get h2
  have hl := r.length
  have hn := line63
  have fin : EP X pins σ Q w s := ⟨z, H, I, rw', q⟩
  by_cases h0 : 0 ≤ i
  · have hj : i.toNat = j := by
      rw [seqIndex_of h0 h5] at h1
      exact Option.some.inj h1
    exact item_listR pl.isList h0 (by omega) (by rw [hj]; simpa using ew) fin hs
  · have hj : (i + (its.toArray.size : Int)).toNat = j := by
      rw [seqIndex_neg (by omega) h4] at h1
      rw [List.size_toArray, ← hl]
      exact Option.some.inj h1
    exact subscriptTail_builtinR (x := w) pl.isList.typeIs slot_list_getitem.lookup
      (wpAny_getItem_list_neg (Q := fun r s' => r = w ∧ EP X pins σ Q r s') pl.isList (by omega) (by rw [List.size_toArray] <;> omega) (by omega) (by rw [hj]; simpa using ew) ⟨rfl, fin⟩) hs
/-! ### xs[i] = v, any sign -/
theorem mapSeq_set (its : List Value) (n j : Nat) (u : Value) : Obj.mapSeq (·.setIfInBounds j u) { cls := .type "list", data := .seq its.toArray n } = { cls := .type "list", data := .seq (its.set j u).toArray n } := by
  simp [Obj.mapSeq]
theorem Inv.lst {pins : List (Addr × Obj)} {σ : St} {H : Hp} {s : Shared} {p : Addr} {xs : List V} (I : Inv X pins σ H s) (h : H p = some (.lst xs)) :
    ∃ (its : List Value) (n : Nat), Vals xs its ∧ s.heap.get? p = some { cls := .type "list", data := .seq its.toArray n } ∧ xs.length ≤ sizeLine := by
  obtain ⟨z, its, n, r, e⟩ := I.hok p _ h
  exact ⟨its, n, r, e, z⟩
theorem Inv.lstUpd {pins : List (Addr × Obj)} {σ : St} {H : Hp} {s : Shared} {p : Addr} {xs ys : List V} {its its' : List Value} {n n' : Nat} {f : Obj → Obj} (I : Inv X pins σ H s) (h : H p = some (.lst xs))
    (ho : s.heap.get? p = some { cls := .type "list", data := .seq its.toArray n }) (hf : f { cls := .type "list", data := .seq its.toArray n } = { cls := .type "list", data := .seq its'.toArray n' }) (r : Vals ys its') (hz : ys.length ≤ sizeLine) (t : Nat) :
    Inv X pins σ (upd H p (.lst ys)) { s with heap := s.heap.update p f, toks := t } := by
  have e : (s.heap.update p f).get? p = some { cls := .type "list", data := .seq its'.toArray n' } := by
    rw [Heap.get?_update_self f ho (by rw [hf] <;> rfl), hf]
  refine I.write (x := p) (e := p) (by rw [h]; trivial) (.inl rfl) (fun b u hb q => (Heap.get?_update_other _ _ (Ne.symm hb)).trans q) ⟨_, e⟩ ?_
  exact ⟨hz, its', n', r, e⟩
noncomputable def rSetL : V → V → V → Hp → (Hp → Prop) → Prop := fun o i v H Q => ∃ p xs k j, o = .ref p ∧ i = .int k ∧ H p = some (.lst xs) ∧ ixN xs.length k = some j ∧ Q (upd H p (.lst (xs.set j v)))
theorem set_list : PSet X rSetL := by
  intro pins s σ H o i v ov iv u Q I ro ri rv h
  obtain ⟨p, xs, k, j, rfl, rfl, hp, hj, q⟩ := h
  cases ro
  obtain ⟨t, rfl⟩ := ri
  obtain ⟨its, n, r, ho, hz⟩ := I.lst hp
  obtain ⟨h1, h2, h3, h4⟩ := ixN_seq hj
  have hl := r.length
  have hn := line63
  have I' : Inv X pins σ (upd H p (.lst (xs.set j v))) { s with heap := s.heap.update p (Obj.mapSeq (·.setIfInBounds j u)) } :=
    I.lstUpd hp ho (mapSeq_set its n j u) (r.set rv j) (by rw [List.length_set]; exact hz) s.toks
  by_cases h0 : 0 ≤ k
  · have hk : k.toNat = j := by
      rw [seqIndex_of h0 h4] at h1
      exact Option.some.inj h1
    exact PySem.W.ki_setAt ho h0 (by omega) (by rw [List.size_toArray, ← hl]; exact h4) (by rw [hk]; exact ⟨_, I', q⟩)
  · have hk : (k + (its.toArray.size : Int)).toNat = j := by
      rw [seqIndex_neg (by omega) h3] at h1
      rw [List.size_toArray, ← hl]
      exact Option.some.inj h1
    exact PySem.W.ki_setBack ho (by omega) (by rw [List.size_toArray, ← hl]; exact h3) (by omega) (by rw [hk]; exact ⟨_, I', q⟩)

/-! ### slices -/
theorem slice_bounds (lo hi : Option Int) (n : Nat) : (sliceBounds lo hi none n).1 = ((HT.sIx n 0 lo : Nat) : Int) ∧ (sliceBounds lo hi none n).2.1 = ((HT.sIx n n hi : Nat) : Int) ∧ (sliceBounds lo hi none n).2.2 = 1 := by
  refine ⟨?_, ?_, rfl⟩
  · cases lo with
    | none => simp [sliceBounds, HT.sIx]
    | some i =>
      simp only [sliceBounds, HT.sIx, Option.getD_none, show (1 : Int) > 0 by decide, if_true]
      by_cases h : i < 0
      · simp only [h, if_true] <;> omega
      · simp only [h, if_false] <;> omega
  · cases hi with
    | none => simp [sliceBounds, HT.sIx]
    | some i =>
      simp only [sliceBounds, HT.sIx, Option.getD_none, show (1 : Int) > 0 by decide, if_true]
      by_cases h : i < 0
      · simp only [h, if_true] <;> omega
      · simp only [h, if_false] <;> omega
theorem slicePick_cut (its : List Value) (lo hi : Option Int) : slicePick its.toArray lo hi none = ((its.drop (HT.sIx its.length 0 lo)).take (HT.sIx its.length its.length hi - HT.sIx its.length 0 lo)).toArray := by
  obtain ⟨h1, h2, h3⟩ := slice_bounds lo hi its.toArray.size
  unfold slicePick
  rw [h1, h2, h3]
  simp only [sliceRange_one, pick_run, List.size_toArray] <;> rfl
noncomputable def rSlL (K : PySem.W.Frag) : V → Option Int → Option Int → Hp → VK → Prop := fun x lo hi H Q => ∃ a xs, x = .ref a ∧ SqL K H a xs ∧ ∀ p, H p = none → Q (.ref p) (upd H p (.lst (cutV xs lo hi)))
theorem sl_list : SlR X (rSlL X.K) := by
  intro pins s σ H x v vl vu lo hi sl Q I rx hs pl pu h
  obtain ⟨a, xs, rfl, hx, q⟩ := h
  cases rx
  obtain ⟨its, r, ht, hz⟩ := I.list hx
  have hlen := r.length
  refine ⟨"list", _, slot_list_getitem.lookup, ht.isList.typeIs, ?_⟩
  refine wpAny_getItem_list_slice ht.isList hs pl pu .none (by simp) ?_ (by rw [List.size_toArray] <;> omega)
  rw [slicePick_cut, ← hlen]
  refine ⟨.ref s.heap.objs.size, _, I.laid (t' := s.toks) (o := .lst (cutV xs lo hi)) (fun b ob q => Heap.get?_push_of_some _ q) (Nat.le_refl _) ?_, rfl, q _ (I.hok.fresh (Nat.le_refl _))⟩
  exact ⟨Nat.le_trans (cutV_length xs lo hi) hz, _, 0, (r.drop (HT.sIx xs.length 0 lo)).take (HT.sIx xs.length xs.length hi - HT.sIx xs.length 0 lo), Heap.get?_push_size _ rfl⟩

/-! ### in, not in: flat items -/
noncomputable def flatV : V → Bool
  | .non => true
  | .bl _ => true
  | .int _ => true
  | .str _ => true
  | _ => false
noncomputable def eqV : V → V → Bool
  | .non, .non => true
  | .bl a, .bl b => a == b
  | .bl a, .int b => (if a then 1 else 0) == b
  | .int a, .bl b => a == (if b then 1 else 0)
  | .int a, .int b => a == b
  | .str a, .str b => a == b
  | _, _ => false
theorem eqAt_V {A : Around} {s : Shared} {y x : V} {u v : Value} (ry : RelV y u) (rx : RelV x v) (fy : flatV y = true) (fx : flatV x = true) : SeqAt.EqAt A s u v (eqV y x) := by
  cases y with
  | non =>
    cases ry
    cases x with
    | non => cases rx; exact SeqAt.EqAt.same _
    | bl b => cases rx; exact SeqAt.EqAt.none_bool b
    | int b => obtain ⟨t, rfl⟩ := rx; exact SeqAt.EqAt.none_int b t
    | str b => obtain ⟨t, rfl⟩ := rx; exact SeqAt.EqAt.none_str b t
    | _ => exact absurd (show false = true from fx) Bool.false_ne_true
  | bl a =>
    cases ry
    cases x with
    | non => cases rx; exact SeqAt.EqAt.bool_none a
    | bl b => cases rx; exact SeqAt.EqAt.bool_bool a b
    | int b => obtain ⟨t, rfl⟩ := rx; exact SeqAt.EqAt.bool_int a b t
    | str b => obtain ⟨t, rfl⟩ := rx; exact SeqAt.EqAt.bool_str a b t
    | _ => exact absurd (show false = true from fx) Bool.false_ne_true
  | int a =>
    obtain ⟨t', rfl⟩ := ry
    cases x with
    | non => cases rx; exact SeqAt.EqAt.int_none a t'
    | bl b => cases rx; exact SeqAt.EqAt.int_bool a t' b
    | int b => obtain ⟨t, rfl⟩ := rx; exact SeqAt.EqAt.int_int a t' b t
    | str b => obtain ⟨t, rfl⟩ := rx; exact SeqAt.EqAt.int_str a t' b t
    | _ => exact absurd (show false = true from fx) Bool.false_ne_true
  | str a =>
    obtain ⟨t', rfl⟩ := ry
    cases x with
    | non => cases rx; exact SeqAt.EqAt.str_none a t'
    | bl b => cases rx; exact SeqAt.EqAt.str_bool a t' b
    | int b => obtain ⟨t, rfl⟩ := rx; exact SeqAt.EqAt.str_int a t' b t
    | str b => obtain ⟨t, rfl⟩ := rx; exact SeqAt.EqAt.str_str a t' b t
    | _ => exact absurd (show false = true from fx) Bool.false_ne_true
  | _ => exact absurd (show false = true from fy) Bool.false_ne_true
noncomputable def eqU (x : V) (u : Value) : Bool := match u with
  | .none => eqV .non x
  | .bool b => eqV (.bl b) x
  | .int i _ => eqV (.int i) x
  | .str z _ => eqV (.str z) x
  | _ => false
theorem eqU_of {x y : V} {u : Value} (r : RelV y u) (f : flatV y = true) : eqU x u = eqV y x := by
  cases y with
  | non => cases r; rfl
  | bl b => cases r; rfl
  | int i => obtain ⟨t, rfl⟩ := r; rfl
  | str z => obtain ⟨t, rfl⟩ := r; rfl
  | _ => exact absurd (show false = true from f) Bool.false_ne_true
theorem mem_eqAt {A : Around} {s : Shared} {x : V} {v : Value} (rx : RelV x v) (fx : flatV x = true) : ∀ {xs : List V} {us : List Value}, Vals xs us → xs.all flatV = true → ∀ u ∈ us, SeqAt.EqAt A s u v (eqU x u)
  | _, _, .nil, _ => fun u hu => by cases hu
  | y :: xs, u :: us, .cons r t, f => fun u' hu => by
    rw [List.all_cons, Bool.and_eq_true] at f
    rcases List.mem_cons.mp hu with rfl | hu
    · rw [eqU_of r f.1]; exact eqAt_V r rx f.1 fx
    · exact mem_eqAt rx fx t f.2 u' hu
/-! ### len, list(x), tuple(x) of any list or tuple that is read -/
theorem call_len_seq : CallR X (.builtin "len") (fun xs H Q => ∃ p ys, xs = [.ref p] ∧ (SqL X.K H p ys ∨ SqT X.K H p ys) ∧ Q (.int ys.length) H) := by
  intro pins s σ H xs us Q I r h
  obtain ⟨p, ys, rfl, hq, q⟩ := h
  obtain ⟨u, rfl, rx⟩ := vals1 r
  cases rx
  have hn := line63
  rcases hq with hq | hq
  · obtain ⟨its, r', pl, hz⟩ := I.list hq
    have hlen := r'.length
    exact Calls.call_len_list pl.isList (by simp only [List.size_toArray] <;> omega) ⟨.int ys.length, H, I.tok _, ⟨s.toks + 1, by rw [List.size_toArray, hlen]⟩, q⟩
  · obtain ⟨its, r', pl, hz⟩ := I.tuple hq
    have hlen := r'.length
    exact len_tuple pl (by simp only [List.size_toArray] <;> omega) ⟨.int ys.length, H, I.tok _, ⟨s.toks + 1, by rw [List.size_toArray, hlen]⟩, q⟩
theorem CallR.or {f : Value} {r r' : List V → Hp → VK → Prop} (h : CallR X f r) (h' : CallR X f r') : CallR X f (fun xs H Q => r xs H Q ∨ r' xs H Q) := by
  intro pins s σ H xs us Q I rs q
  rcases q with q | q
  · exact h pins s σ H xs us Q I rs q
  · exact h' pins s σ H xs us Q I rs q
theorem call_list_of : CallR X (.type "list") (fun xs H Q => ∃ p ys, xs = [.ref p] ∧ (SqL X.K H p ys ∨ SqT X.K H p ys) ∧ ∀ l, H l = none → Q (.ref l) (upd H l (.lst ys))) := by
  intro pins s σ H xs us Q I r h
  obtain ⟨p, ys, rfl, hq, q⟩ := h
  obtain ⟨u, rfl, rx⟩ := vals1 r
  cases rx
  have fin : ∀ (its : List Value), Vals ys its → ys.length ≤ sizeLine → ∀ (h' : Heap) (c' : Nat), (∀ b o', s.heap.get? b = some o' → h'.get? b = some o') →
      h'.get? s.heap.objs.size = some { cls := .type "list", dict := none, data := .seq its.toArray c', slots := #[] } → EP X pins σ Q (.ref s.heap.objs.size) { s with heap := h' } := fun its r' hz h' c' kp e =>
    ⟨.ref s.heap.objs.size, _, I.laid (t' := s.toks) kp (Nat.le_refl _) (show ObjOk X.prog X.w _ h' _ (.lst ys) from ⟨hz, its, c', r', e⟩), rfl, q _ (I.hok.fresh (Nat.le_refl _))⟩
  rcases hq with hq | hq
  · obtain ⟨its, r', pl, hz⟩ := I.list hq
    have hlen := r'.length
    obtain ⟨o, ho, hc, n, hd⟩ := pl.isList
    exact call_list_seq p (.inl rfl) ho hc hd (fun h' c' kp e => fin its r' hz h' c' kp e) (by simp only [List.size_toArray] <;> omega)
  · obtain ⟨its, r', pl, hz⟩ := I.tuple hq
    have hlen := r'.length
    obtain ⟨o, ho, hc, n, hd⟩ := pl
    exact call_list_seq p (.inr rfl) ho hc hd (fun h' c' kp e => fin its r' hz h' c' kp e) (by simp only [List.size_toArray] <;> omega)
theorem call_tuple_of : CallR X (.type "tuple") (fun xs H Q => ∃ p ys, xs = [.ref p] ∧ ((SqL X.K H p ys ∧ ∀ l, H l = none → Q (.ref l) (upd H l (.tup ys))) ∨ (SqT X.K H p ys ∧ Q (.ref p) H))) := by
  intro pins s σ H xs us Q I r h
  obtain ⟨p, ys, rfl, h⟩ := h
  obtain ⟨u, rfl, rx⟩ := vals1 r
  cases rx
  rcases h with ⟨hq, q⟩ | ⟨hq, q⟩
  · obtain ⟨its, r', pl, hz⟩ := I.list hq
    have hlen := r'.length
    refine call_tuple_list pl.isList (fun h' kp => ?_) (by simp only [List.size_toArray] <;> omega)
    have I1 : Inv X pins σ H { s with heap := h' } := I.kept (t' := s.toks) kp
    have I2 : Inv X pins σ (upd H h'.objs.size (.tup ys)) { s with heap := h'.push { cls := .type "tuple", data := .seq its.toArray } } :=
      I1.laid (t' := s.toks) (fun b o e => Heap.get?_push_of_some _ e) (Nat.le_refl _) (show ObjOk X.prog X.w _ _ _ (.tup ys) from ⟨hz, its, r', IsTupD.new _ _⟩)
    exact ⟨.ref h'.objs.size, _, I2, rfl, q _ (I1.hok.fresh (Nat.le_refl _))⟩
  · obtain ⟨its, r', pl, hz⟩ := I.tuple hq
    exact call_tuple_same pl ⟨.ref p, H, I, rfl, q⟩

/-! ### the call of a builtin's method: o.m(..) -/
noncomputable def tyV (K : PySem.W.Frag) (T : String) (x : V) (H : Hp) : Prop := match x with
  | .str _ => T = "str"
  | .int _ => T = "int"
  | .ref p => (T = "list" ∧ ∃ xs, SqL K H p xs) ∨ (T = "tuple" ∧ ∃ o, K.lookup p = some o ∧ o.cls = .type "tuple" ∧ o.dict = none) ∨
      (T = "dict" ∧ ((∃ kvs, H p = some (.dK kvs)) ∨ ∃ kvs, H p = some (.dT kvs))) ∨ (T = "set" ∧ ∃ S n, H p = some (.set S n))
  | _ => False
theorem tyV_is {pins : List (Addr × Obj)} {σ : St} {H : Hp} {s : Shared} {T : String} {x : V} {v : Value} (I : Inv X pins σ H s) (r : RelV x v) (ty : tyV X.K T x H) :
    s.TypeIs v T ∧ ∀ a, v = .ref a → ∃ ob, s.heap.get? a = some ob ∧ ob.dict = none := by
  cases x with
  | str z =>
    obtain ⟨t, rfl⟩ := r
    cases (show T = "str" from ty)
    exact ⟨typeIs_str s z t, fun _ e => nomatch e⟩
  | int i =>
    obtain ⟨t, rfl⟩ := r
    cases (show T = "int" from ty)
    exact ⟨typeIs_int s i t, fun _ e => nomatch e⟩
  | ref p =>
    cases r
    rcases ty with ⟨rfl, xs, hq⟩ | ⟨rfl, o, hk, hc, hd⟩ | ⟨rfl, hk⟩ | ⟨rfl, S, n, hk⟩
    · obtain ⟨its, _, pl, _⟩ := I.list hq
      refine ⟨pl.isList.typeIs, fun a e => ?_⟩
      cases e
      obtain ⟨o, n, e, c, hd, _⟩ := pl
      exact ⟨o, e, hd⟩
    · refine ⟨⟨o, I.kIn p o hk, hc⟩, fun a e => ?_⟩
      cases e
      exact ⟨o, I.kIn _ o hk, hd⟩
    · have z : ∃ o, s.heap.get? p = some o ∧ o.ExactDict := by
        rcases hk with ⟨kvs, hk⟩ | ⟨kvs, hk⟩
        · obtain ⟨_, _, _, _, o, _, _, e, ex, _⟩ := I.hok p _ hk
          exact ⟨o, e, ex⟩
        · obtain ⟨_, _, _, _, o, _, _, e, ex, _⟩ := I.hok p _ hk
          exact ⟨o, e, ex⟩
      obtain ⟨o, e, ex⟩ := z
      refine ⟨⟨o, e, ex.1⟩, fun a e2 => ?_⟩
      cases e2
      exact ⟨o, e, ex.2.1⟩
    · obtain ⟨o, _, _, _, e, ex, _⟩ := I.hok p _ hk
      refine ⟨⟨o, e, ex.1⟩, fun a e2 => ?_⟩
      cases e2
      exact ⟨o, e, ex.2.1⟩
  | _ => exact False.elim ty
noncomputable def tBM0 (K : PySem.W.Frag) (T : String) (r : V → List V → Hp → VK → Prop) (to : TE) : TE := fun σ H Q => to σ H fun x H1 => tyV K T x H1 ∧ r x [] H1 Q
noncomputable def tBM (K : PySem.W.Frag) (T : String) (r : V → List V → Hp → VK → Prop) (to : TE) (t : TA) : TE := fun σ H Q => to σ H fun x H1 => tyV K T x H1 ∧ t σ H1 fun xs H2 => r x xs H2 Q
variable {o e : Expr} {es : List Expr} {to : TE} {t : TA} {name : Str} {apos cpos : Pos} {T id : String} {r : V → List V → Hp → VK → Prop}
theorem pe_bm0 (pa : PlainAttrs T) (slot : Slot T name id) (hty : typeOf (.builtin id) = pure (.type "method_descriptor")) (hm : MtR X id r) (ho : PE X o to)
    (hbase : attributeBase o name X.env (eval o X.env) = eval o X.env := by rfl) (hline : (apos.endLine == cpos.line) = true := by rfl) : PE X (.Call (.Attribute o name apos) [] [] cpos) (tBM0 X.K T r to) := by
  intro pins s σ H Q I h
  refine wpAny_Call_method0_late hbase hline (thn (ho pins s σ H _ I h) fun v s1 ⟨x, H1, I1, r1, ty, q1⟩ => ?_)
  obtain ⟨h1, h2⟩ := tyV_is I1 r1 ty
  exact ⟨T, id, pa, slot, hty, h1, h2, Calls.callWith_builtin rfl (PySem.evalArgs_none (hm pins s1 σ H1 x [] v [] Q I1 r1 .nil q1))⟩
theorem pe_bm (pa : PlainAttrs T) (slot : Slot T name id) (hty : typeOf (.builtin id) = pure (.type "method_descriptor")) (hm : MtR X id r) (ho : PE X o to) (ha : PA X (e :: es) t)
    (hbase : attributeBase o name X.env (eval o X.env) = eval o X.env := by rfl)
    (hfew : ((backTo cpos (starEach (e :: es) X.env)).all (fun x => !x.1) && (backToKw cpos (keywordEach [] X.env)).all (fun x => x.1.isSome)
      && decide ((e :: es).length + ([] : List Keyword).length + (if ([] : List Keyword).isEmpty then 0 else 1) < 30)) = true := by rfl)
    (hline : (apos.endLine == cpos.line) = true := by rfl) (hs : starEach (e :: es) X.env = (false, eval e X.env) :: starEach es X.env := by rfl) (hplain : (backTo cpos (starEach es X.env)).any (·.1) = false := by rfl) :
    PE X (.Call (.Attribute o name apos) (e :: es) [] cpos) (tBM X.K T r to t) := by
  intro pins s σ H Q I h
  refine wpAny_Call_method_late hbase hfew hline rfl (thn (ho pins s σ H _ I h) fun v s1 ⟨x, H1, I1, r1, ty, q1⟩ => ?_)
  obtain ⟨h1, h2⟩ := tyV_is I1 r1 ty
  refine ⟨T, id, pa, slot, hty, h1, h2, ?_⟩
  have hA := ha cpos pins s1 σ H1 _ I1 q1
  rw [hs] at hA ⊢
  refine Calls.callWith_builtin (by show (false || (backTo cpos (starEach es X.env)).any (·.1)) = false; rw [hplain] <;> rfl) (Calls.evalArgs_plain ?_)
  exact thn hA fun us s2 ⟨vs, H2, I2, r2, q2⟩ => hm pins s2 σ H2 x vs v us Q I2 r1 r2 q2
/- xs.append(e), list.index on a module's tuple .. are MtR facts of 06m -/
end
end L2

namespace L2
open PySem PySem.Spec PyProof.Rows

noncomputable def MtM (X : Cx) (id : String) (r : V → List V → Hp → VK → Prop) : Prop :=
  ∀ (pins : List (Addr × Obj)) (s : Shared) (σ : St) (H : Hp) (x : V) (xs : List V) (v : Value) (us : List Value) (Q : VK), Inv X pins σ H s → RelV x v → Vals xs us → r x xs H Q →
    wpAny (model X.prog X.w) X.A (call (.builtin id) (v :: us)) (EP X pins σ Q) X.xe s

/-! ### lists of values -/
theorem Vals.one {x : V} {us : List Value} (h : Vals [x] us) : ∃ u, us = [u] ∧ RelV x u := by
  cases h with
  | cons r t => cases t; exact ⟨_, rfl, r⟩
theorem Vals.two {x y : V} {us : List Value} (h : Vals [x, y] us) : ∃ u v, us = [u, v] ∧ RelV x u ∧ RelV y v := by
  cases h with
  | cons r t => cases t with
    | cons q z => cases z; exact ⟨_, _, rfl, r, q⟩
theorem Vals.zero : ∀ {us : List Value}, Vals [] us → us = []
  | _, .nil => rfl
theorem Vals.dropLast {xs : List V} {us : List Value} (h : Vals xs us) : Vals xs.dropLast us.dropLast := by
  induction h with
  | nil => exact .nil
  | cons r t ih =>
    cases t with
    | nil => exact .nil
    | cons q t' => exact .cons r ih
theorem Vals.eraseIdx : ∀ {xs : List V} {us : List Value} (i : Nat), Vals xs us → Vals (xs.eraseIdx i) (us.eraseIdx i)
  | _, _, _, .nil => .nil
  | _, _, 0, .cons _ t => t
  | _, _, i + 1, .cons r t => .cons r (Vals.eraseIdx i t)
theorem Vals.reverse {xs : List V} {us : List Value} (h : Vals xs us) : Vals xs.reverse us.reverse := by
  induction h with
  | nil => exact .nil
  | cons r t ih => rw [List.reverse_cons, List.reverse_cons]; exact Vals.append ih (.cons r .nil)
theorem erase_last {α : Type} (l : List α) : l.eraseIdx (l.length - 1) = l.dropLast := by
  induction l with
  | nil => rfl
  | cons a r ih =>
    cases r with
    | nil => rfl
    | cons b r =>
      have e : (a :: b :: r).length - 1 = ((b :: r).length - 1) + 1 := by
        have h1 : (a :: b :: r).length = r.length + 2 := rfl
        have h2 : (b :: r).length = r.length + 1 := rfl
        omega
      rw [e, List.eraseIdx_cons_succ, ih]
      all_goals rfl
theorem len_erase {α : Type} : ∀ (l : List α) (i : Nat), (l.eraseIdx i).length ≤ l.length
  | [], _ => Nat.le_refl _
  | _ :: _, 0 => Nat.le_succ _
  | _ :: r, i + 1 => Nat.succ_le_succ (len_erase r i)
section
variable {X : Cx} {pins : List (Addr × Obj)} {σ : St} {H : Hp} {s : Shared} {l b : Addr} {xs ys zs : List V}

/-! ### the two steps: a tracked list is rewritten, a new list is laid -/
theorem Inv.lset {its its' : List Value} {n : Nat} {f : Array Value → Array Value} {t' : Nat} (I : Inv X pins σ H s) (hH : H l = some (.lst xs))
    (e : s.heap.get? l = some { cls := .type "list", data := .seq its.toArray n }) (hf : f its.toArray = its'.toArray) (hv : Vals ys its') (hz : ys.length ≤ sizeLine) :
    Inv X pins σ (upd H l (.lst ys)) { s with heap := s.heap.update l (Obj.mapSeq f), toks := t' } := by
  have q := PySem.IsL.update e f
  rw [hf] at q
  refine I.write (x := l) (e := l) (by rw [hH]; exact trivial) (.inl rfl) (fun b' u hb hu => (Heap.get?_update_other s.heap (Obj.mapSeq f) (Ne.symm hb)).trans hu) ⟨_, q⟩ ?_
  exact ⟨hz, its', _, hv, q⟩
theorem Inv.lnew {its : List Value} {t' : Nat} (I : Inv X pins σ H s) (hv : Vals ys its) (hz : ys.length ≤ sizeLine) :
    Inv X pins σ (upd H s.heap.objs.size (.lst ys)) { s with heap := s.heap.push { cls := .type "list", data := .seq its.toArray }, toks := t' } :=
  I.laid (fun _ _ q => Heap.get?_push_of_some _ q) (Nat.le_refl _) ⟨hz, its, 0, hv, Heap.get?_push_size _ rfl⟩
theorem Inv.fresh (I : Inv X pins σ H s) : H s.heap.objs.size = none := I.hok.fresh (Nat.le_refl _)
theorem Inv.lstM (I : Inv X pins σ H s) (hH : H l = some (.lst xs)) : xs.length ≤ sizeLine ∧ ∃ (its : List Value) (n : Nat), Vals xs its ∧ xs.length = its.length ∧ s.heap.get? l = some { cls := .type "list", data := .seq its.toArray n } := by
  obtain ⟨z, its, n, r, e⟩ := I.hok l _ hH
  exact ⟨z, its, n, r, r.length, e⟩

theorem notLongL {n : Nat} (h : n ≤ sizeLine) : Builtin.List.listTooLong n = false := by
  unfold Builtin.List.listTooLong
  exact decide_eq_false (by omega)
end

section
variable {X : Cx}

/-! ### methods -/
noncomputable def rAppend : V → List V → Hp → VK → Prop := fun x vs H Q => ∃ l xs y, x = .ref l ∧ vs = [y] ∧ H l = some (.lst xs) ∧ xs.length < sizeLine ∧ Q .non (upd H l (.lst (xs ++ [y])))
theorem mt_append : MtM X "list.append" rAppend := by
  intro pins s σ H x vs v us Q I rx rv h
  obtain ⟨l, xs, y, rfl, rfl, hH, hz, q⟩ := h
  cases rx
  obtain ⟨u, rfl, ru⟩ := rv.one
  obtain ⟨z, its, n, r, hl, e⟩ := I.lstM hH
  refine call_meets F.slot_list_append ⟨_, e, rfl⟩ F.entry_list_append (F.args_list_append_2 _ _) (PySem.list_append l its.toArray n u (by rw [List.size_toArray]; omega)) ⟨e, ?_⟩
  refine ⟨.non, _, I.lset (its' := its ++ [u]) hH e (by simp) (r.append (.cons ru .nil)) ?_, rfl, q⟩
  rw [List.length_append, List.length_singleton]
  omega

noncomputable def rExtend : V → List V → Hp → VK → Prop := fun x vs H Q => ∃ l b xs zs, x = .ref l ∧ vs = [.ref b] ∧ H l = some (.lst xs) ∧ H b = some (.lst zs) ∧ xs.length + zs.length ≤ sizeLine ∧ Q .non (upd H l (.lst (xs ++ zs)))
theorem mt_extend : MtM X "list.extend" rExtend := by
  intro pins s σ H x vs v us Q I rx rv h
  obtain ⟨l, b, xs, zs, rfl, rfl, hH, hB, hz, q⟩ := h
  cases rx
  obtain ⟨u, rfl, ru⟩ := rv.one
  cases ru
  obtain ⟨z, its, n, r, hl, e⟩ := I.lstM hH
  obtain ⟨z2, its2, n2, r2, hl2, e2⟩ := I.lstM hB
  have hsz : its.toArray.size + its2.toArray.size ≤ sizeLine := by rw [List.size_toArray, List.size_toArray]; omega
  have hlong : ¬ (!its.toArray.isEmpty && Builtin.List.listTooLong (its.toArray.size + its2.toArray.size)) = true := by
    rw [notLongL hsz, Bool.and_false]
    exact Bool.false_ne_true
  refine call_meets F.slot_list_extend ⟨_, e, rfl⟩ F.entry_list_extend (F.args_list_extend_2 _ _)
    (AutoSeq1.list_extend_list_list_0 l its.toArray n b its2.toArray n2 hlong (by rw [List.size_toArray]; omega) (by omega)) ⟨e, e2, ?_⟩
  refine ⟨.non, _, I.lset (its' := its ++ its2) hH e (by simp) (r.append r2) ?_, rfl, q⟩
  rw [List.length_append]
  omega

noncomputable def rPop : V → List V → Hp → VK → Prop := fun x vs H Q => ∃ l xs y, x = .ref l ∧ vs = [] ∧ H l = some (.lst xs) ∧ xs[xs.length - 1]? = some y ∧ Q y (upd H l (.lst xs.dropLast))
theorem mt_pop : MtM X "list.pop" rPop := by
  intro pins s σ H x vs v us Q I rx rv h
  obtain ⟨l, xs, y, rfl, rfl, hH, hy, q⟩ := h
  cases rx
  have hus := rv.zero
  subst hus
  obtain ⟨z, its, n, r, hl, e⟩ := I.lstM hH
  obtain ⟨u, hu, ru⟩ := r.get hy
  have hy' : its.toArray[its.toArray.size - 1]? = some u := by
    show its.toArray[its.length - 1]? = some u
    rw [← Array.getElem?_toList, ← hl]
    exact hu
  refine call_meets F.slot_list_pop ⟨_, e, rfl⟩ F.entry_list_pop (F.args_list_pop_1 _) (MeetsSeq.list_pop_last l its.toArray n u hy' (by rw [List.size_toArray]; omega)) ⟨e, ?_⟩
  refine ⟨y, _, I.lset (its' := its.dropLast) hH e ?_ r.dropLast ?_, ru, q⟩
  · show its.toArray.eraseIdxIfInBounds (its.toArray.size - 1) = its.dropLast.toArray
    rw [List.size_toArray, List.eraseIdxIfInBounds_toArray, erase_last]
  · rw [List.length_dropLast]
    omega

noncomputable def rPopAt : V → List V → Hp → VK → Prop := fun x vs H Q => ∃ l xs i k y, x = .ref l ∧ vs = [.int i] ∧ H l = some (.lst xs) ∧ -(2 ^ 63) ≤ i ∧ i < 2 ^ 63 ∧ seqIndex? i xs.length = some k ∧ xs[k]? = some y ∧ Q y (upd H l (.lst (xs.eraseIdx k)))
theorem mt_popAt : MtM X "list.pop" rPopAt := by
  intro pins s σ H x vs v us Q I rx rv h
  obtain ⟨l, xs, i, k, y, rfl, rfl, hH, h1, h2, hk, hy, q⟩ := h
  cases rx
  obtain ⟨u, rfl, ru⟩ := rv.one
  obtain ⟨t, rfl⟩ := ru
  obtain ⟨z, its, n, r, hl, e⟩ := I.lstM hH
  obtain ⟨w, hw, rw'⟩ := r.get hy
  refine call_meets F.slot_list_pop ⟨_, e, rfl⟩ F.entry_list_pop (F.args_list_pop_2 _ _)
    (MeetsSeq.list_pop_at l its.toArray n i t k w (fitsIndex_both h1 h2) (by rw [List.size_toArray, ← hl]; exact hk) (by rw [← Array.getElem?_toList]; exact hw) (by rw [List.size_toArray]; omega)) ⟨e, ?_⟩
  refine ⟨y, _, I.lset (its' := its.eraseIdx k) hH e ?_ (r.eraseIdx k) ?_, rw', q⟩
  · show its.toArray.eraseIdxIfInBounds k = (its.eraseIdx k).toArray
    rw [List.eraseIdxIfInBounds_toArray]
  · have := len_erase xs k
    omega

/-! ### list + list, list += list, list * int -/
noncomputable def rCat : R2 := fun x y H Q => ∃ l b xs zs, x = .ref l ∧ y = .ref b ∧ H l = some (.lst xs) ∧ H b = some (.lst zs) ∧ xs.length + zs.length ≤ sizeLine ∧ ∀ p, H p = none → Q (.ref p) (upd H p (.lst (xs ++ zs)))
theorem op_cat : OpR X (binaryOp .Add) rCat := by
  intro pins s σ H x y v u Q I rx ry h
  obtain ⟨l, b, xs, zs, rfl, rfl, hH, hB, hz, q⟩ := h
  cases rx
  cases ry
  obtain ⟨z, its, n, r, hl, e⟩ := I.lstM hH
  obtain ⟨z2, its2, n2, r2, hl2, e2⟩ := I.lstM hB
  refine PySem.P.add_list e e2 ?_ (by rw [List.size_toArray, List.size_toArray]; omega)
  have ea : its.toArray ++ its2.toArray = (its ++ its2).toArray := by simp
  rw [ea]
  exact ⟨.ref _, _, I.lnew (t' := s.toks) (r.append r2) (by rw [List.length_append]; omega), rfl, q _ I.fresh⟩
/-! ### del xs[i] -/
end

/-! ### xs[a:b] = ys -/
section
variable {prog : Program} {w : World} {A : Around} {E : Value → Shared → Prop} {s : Shared}
end

section
variable {X : Cx}
end
end L2

namespace Att
open PySem PySem.W PySem.Calls PyProof.Rows

/-! ### the script -/
theorem ints_of_wellAll {P : Params} {h : Heap} : ∀ (ns : List Int) (vs : List Value), WellAll P h vs (ns.map WData.int) → IntsAre vs ns := by
  intro ns
  induction ns with
  | nil =>
    intro vs w
    rw [List.map_nil] at w
    cases w
    exact .nil
  | cons n ns ih =>
    intro vs w
    rw [List.map_cons] at w
    cases w with
    | cons a b =>
      cases a
      exact .cons _ _ (ih _ b)

theorem script_of {l : OpenLaw} {n : Nat} (hn : l.most = some n) {P : Params} {h : Heap} {args : List WData} {vals : List Value}
    (hpre : l.row.toRowW.claim.pre args = true) (hwl : WellAll P h vals args) :
    ∃ a vs ns, vals = [Value.ref a] ∧ args = [WData.list (ns.map WData.int)] ∧ h.get? a = some { cls := .type "list", data := .seq vs.toArray } ∧ IntsAre vs ns ∧ ns.length ≤ n := by
  have hsh : WShape.hasAll [] args [.list .int] = true := (pre_splitW hpre).1
  have hc : l.pre.holds [] { args := args } = true := (pre_splitW hpre).2
  obtain ⟨d, r, rfl, h1, h2⟩ := hasAllW_cons hsh
  obtain rfl := hasAllW_nil h2
  obtain ⟨xs, rfl, h3⟩ := hasW_list h1
  obtain ⟨ns, rfl⟩ := items_int h3
  have hlen : ns.length ≤ n := by
    unfold OpenLaw.pre at hc
    have h4 : (WTm.not (.lt (.lit (.int (n : Int))) (.len (.arg 0)))).holds [] { args := [.list (ns.map .int)] } = true := by
      have h4 := (holds_andW hc).1
      rw [hn] at h4
      exact h4
    have h5 := condW_of h4 (w_not (w_lt w_lit (w_len_list (w_arg rfl))))
    rw [List.length_map] at h5
    refine Nat.le_of_not_lt fun q => ?_
    have q' : (n : Int) < ((ns.length : Nat) : Int) := by omega
    first
      | (rw [decide_eq_true q'] at h5; exact absurd h5 (by decide))
      | (simp at h5; omega)
  cases hwl with
  | cons w1 w2 =>
    cases w2
    cases w1 with
    | list ho hall => exact ⟨_, _, ns, rfl, rfl, ho, ints_of_wellAll ns _ hall, hlen⟩

theorem post_true (l : OpenLaw) (args : List WData) : l.row.toRowW.claim.post args (.bool true) args = true :=
  postW_of (r := l.row.toRowW) (X := (true == true))
    (show WShape.has [] (.bool true) .bool = true by first | rfl | decide | simp [WShape.has, WShape.arms, WShape.armsAll])
    (show (WTm.eq .res (.lit (.bool true))).value [] { args := args, res := some (.bool true), after := args } = some (.bool (true == true)) from w_eq_bool (w_res rfl) w_lit) rfl

/-! ### the attachment: holds_open's last premise (the goal 'hc' behind k_head) from a wpAny of the law's body -/
theorem attach_call {l : OpenLaw} {n : Nat} {q : Program} {loose : List Str} {XP : (Str → Option Value) → Heap → Prop} {YP : World → Heap → Prop} {d : DefRec}
    (hn : l.most = some n) (hdf : d.params.defaults = [])
    (call : ∀ (w : World) (s₀ s₁ : Shared) (mg mb : Str → Option Value) (fa : Addr) (o : Obj) (pm cd doc : Value) (a : Addr) (vs : List Value) (ns : List Int),
      Ground q loose [] XP w s₀ mg mb s₁.heap → YP w s₁.heap →
      s₁.heap.get? fa = some o → o.data = .func (docDef d.name d.params d.body d.scope pm cd doc) → s₁.heap.CodeRec cd d.name → mg d.name = some (.ref fa) →
      s₁.heap.get? a = some { cls := .type "list", data := .seq vs.toArray } → IntsAre vs ns → ns.length ≤ n → s₁.gens = #[] →
      codeAny (model l.prog w) callerA (.call (.ref fa) ⟨[.ref a], []⟩) (fun r s' => r = .ok (.ret (.bool true)) ∧ OldK s₁.heap s'.heap ∧ s'.os = s₁.os ∧ AllBare s'.gens) s₁) :
    WalkO q loose XP YP l.row.toRowW d [] (fun f vs => PySem.call f vs) := by
  intro w s₀ s₁ mg mb G Y fa o pm cd doc dV kV ho hd hcd hD hmg hg args vals as hpre hlay hrd hwl hlo
  obtain rfl : dV = .none := Dflts.none hD hdf
  obtain rfl : kV = .none := Dflts.noKw hD
  obtain ⟨a, vs, ns, rfl, rfl, hobj, hints, hlen⟩ := script_of hn hpre hwl
  refine enter_call (codeAny_mono (call w s₀ s₁ mg mb fa o pm cd doc a vs ns G Y ho (fd_plain hd) hcd hmg hobj hints hlen hg) fun r s' hq => ?_)
  obtain ⟨rfl, h2, h3, h4⟩ := hq
  exact ⟨.inl ⟨.bool true, .bool true, [], rfl, fun _ => rfl, .bool true, post_true l _, fun _ => ⟨List.Pairwise.nil, fun _ hm => (nomatch hm)⟩⟩, h2, h3, h4⟩

/-! ### rules over ANY heap (no ledger) from facts about the written part K: the library's own take a ledger (News) for what they write -/
section
variable {prog : Program} {w : World} {A : Around} {E : Value → Shared → Prop} {s : Shared} {K : Frag}

/-! the whole heap as the ledger: makes every rule that writes through a ledger a rule over any heap -/
noncomputable def ledger (h : Heap) (L d : Addr) : List (Addr × Obj) := (List.range h.objs.size).filterMap fun a => if a = L ∨ a = d then none else (h.get? a).map fun o => (a, o)
end
end Att

namespace L2
open PySem PySem.Spec PyProof.Rows

theorem vals_ints : ∀ {vs : List Value} {ns : List Int}, IntsAre vs ns → Vals (ns.map V.int) vs
  | _, _, .nil => .nil
  | _, _, .cons n t h => .cons ⟨t, rfl⟩ (vals_ints h)

noncomputable def Only (H : Hp) : Prop := ∀ b, H b = none ∨ ∃ o xs, H b = some (.frz o (.lst xs))

theorem law_call {P : Program} {w : World} {K : PySem.W.Frag} {mg mb : Str → Option Value} {CX : CXT} {k : Nat} {fa a : Addr} {fd : FuncData} {x : Str} {sp : Sp} {s₁ : Shared} {vs : List Value} {ns : List Int}
    (KX : K.In s₁.heap) (hns : s₁.heap.Ns mainGlobals mg) (hb : s₁.heap.Ns builtinsNs mb) (hbb : ∀ x : Str, x ≠ "__name__" → mb x = bootBuiltins x) (hlim : s₁.heap.NoLimit) (hg : s₁.gens = #[])
    (ha : s₁.heap.get? a = some { cls := .type "list", data := .seq vs.toArray }) (hi : IntsAre vs ns) (hl : ns.length ≤ sizeLine) (hr : Room k callerA)
    (F : ∀ base : Heap, K.In base → base.Ns mainGlobals mg → FnOk P w K mg base CX k fa fd [x] sp) (hbind : ∀ (s : Shared) (u : Value), BindsTo s fd ⟨[u], []⟩ [(x, u)])
    (hsp : ∀ H : Hp, Only H → SqL K H a (ns.map V.int) → sp [.ref a] H (fun v _ => v = .bl true) fun _ _ _ => False)
    (hCX : ∀ H e s', CX [] H s₁ (fun _ _ _ => False) e s' → False) :
    codeAny (model P w) callerA (.call (.ref fa) ⟨[.ref a], []⟩) (fun r s' => r = .ok (.ret (.bool true)) ∧ OldK s₁.heap s'.heap ∧ s'.os = s₁.os ∧ AllBare s'.gens) s₁ := by
  have rv := vals_ints hi
  have lenV := hi.length
  -- from an abstract heap in which nothing but the script may be tracked
  have core : ∀ H : Hp, Only H → SqL K H a (ns.map V.int) → HOk P w H s₁.heap → (∀ b, H b ≠ none → b = a) → (H a ≠ none → K.lookup a = none) →
      codeAny (model P w) callerA (.call (.ref fa) ⟨[.ref a], []⟩) (fun r s' => r = .ok (.ret (.bool true)) ∧ OldK s₁.heap s'.heap ∧ s'.os = s₁.os ∧ AllBare s'.gens) s₁ := by
    intro H hO hS hok hA hK
    have base_of : ∀ {b : Addr} {o : Obj}, s₁.heap.get? b = some o → H b = none → (hidT s₁.heap H).get? b = some o := fun e n => hidT_get e n
    have noA : ∀ {b : Addr} {o : Obj} {es : Array DictEntry} {ep : Nat}, s₁.heap.get? b = some o → o.data = .dict es ep → H b = none := fun {b o es ep} e d => by
      cases q : H b with
      | none => rfl
      | some u =>
        have e' : b = a := hA b (by rw [q]; simp)
        subst e'
        rw [ha] at e; cases e
        have d' : Data.seq vs.toArray _ = Data.dict es ep := d
        cases d'
    have nsK : ∀ {b : Addr} {m : Str → Option Value}, s₁.heap.Ns b m → (hidT s₁.heap H).Ns b m := fun {b m} ⟨o, es, ep, e, d, r⟩ => ⟨o, es, ep, base_of e (noA e d), d, r⟩
    have hKb : K.In (hidT s₁.heap H) := fun b o e => base_of (KX b o e) (by
      cases q : H b with
      | none => rfl
      | some u =>
        have e' : b = a := hA b (by rw [q]; simp)
        subst e'
        rw [hK (by rw [q]; simp)] at e; cases e)
    have hM : Mod K mg (hidT s₁.heap H) := ⟨hKb, nsK hns, ⟨mb, nsK hb, hbb⟩, let ⟨mc, h1, h2⟩ := hlim; ⟨mc, nsK h1, h2⟩⟩
    have e0 : Env0 P w K mg (hidT s₁.heap H) callerA [] s₁ H := ⟨rfl, hM, fun b o e => of_hidT e, Nat.le_of_eq (hidT_size _ _), trivial, fun b hb => absurd (show b ∈ ([] : List Addr) from hb) (by simp), hok, .of_eq hg⟩
    refine codeAny_mono ((F _ hKb (nsK hns)).run callerA [] s₁ H ⟨[.ref a], []⟩ [.ref a] [.ref a] _ _ hr e0 (hbind s₁ (.ref a)) (.cons rfl .nil) (hsp H hO hS)) fun r s' h => ?_
    cases r with
    | error e => exact (hCX H e s' h).elim
    | ok fl =>
      cases fl with
      | next => exact False.elim h
      | brk => exact False.elim h
      | cont => exact False.elim h
      | ret u =>
        obtain ⟨v, H', os, bare, un, hok', r', q⟩ := h
        have q' : v = .bl true := q
        subst q'
        obtain rfl : u = Value.bool true := r'
        refine ⟨rfl, OldK.of_keep fun b o e => ?_, os, bare⟩
        cases q : H b with
        | none => exact un.keep b o e q (by intro z; exact absurd (show b ∈ ([] : List Addr) from z) (by simp)) (by simp)
        | some u =>
          rcases hO b with z | ⟨ob, xs, z⟩
          · rw [q] at z; cases z
          · have z2 := un.frzs b ob _ z
            obtain ⟨e1, _⟩ := hok b _ z
            obtain ⟨e2, _⟩ := hok' b _ z2
            rw [e] at e1; cases e1
            exact e2
  cases hk : K.lookup a with
  | some o =>
    -- the script is one of the module's own objects
    have e := KX a o hk
    rw [ha] at e
    cases e
    refine core (fun _ => none) (fun _ => .inl rfl) (.inr ⟨_, vs.toArray, _, hk, rfl, rfl, rfl, by rw [List.size_toArray, lenV]; exact hl, by simpa using rv⟩) (fun b u z => by have z' : (none : Option HO) = some u := z; cases z') (fun b z => absurd rfl z) fun z => absurd rfl z
  | none =>
    refine core (fun b => if b = a then some (.frz { cls := .type "list", data := .seq vs.toArray } (.lst (ns.map V.int))) else none) (fun b => ?_) (.inl (.inr ⟨{ cls := .type "list", data := .seq vs.toArray }, if_pos rfl⟩)) (fun b u z => ?_) (fun b z => ?_) fun _ => hk
    · by_cases hb : b = a
      · exact .inr ⟨_, _, if_pos hb⟩
      · exact .inl (if_neg hb)
    · by_cases hb : b = a
      · have z' := (if_pos hb).symm.trans z
        cases z'
        subst hb
        exact ⟨ha, by rw [List.length_map]; exact hl, vs, _, rv, ha⟩
      · have z' := (if_neg hb).symm.trans z
        cases z'
    · by_cases hb : b = a
      · exact hb
      · exact absurd (if_neg hb) z
end L2

namespace L2
open PySem PySem.Spec PyProof.Rows

noncomputable abbrev KOf {K : PySem.W.Frag} {h : Heap} (_ : K.In h) : PySem.W.Frag := K

theorem walk_of {l : PySem.W.OpenLaw} {n k : Nat} {q : Program} {loose : List Str} {XP : (Str → Option Value) → Heap → Prop} {YP : World → Heap → Prop} {d : DefRec} {K : Params → PySem.W.Frag} {CX : World → CXT} {sp : World → Sp} {x : Str}
    (hn : l.most = some n) (hn2 : n ≤ sizeLine) (hdf : d.params.defaults = []) (hr : Room k callerA)
    (hY : ∀ (w : World) (h : Heap), YP w h → (K w.params).In h)
    (F : ∀ (w : World) (mg : Str → Option Value) (fa : Addr) (h : Heap), (K w.params).In h → h.Ns mainGlobals mg → mg d.name = some (.ref fa) →
      ∃ fd : FuncData, (∀ (s : Shared) (u : Value), BindsTo s fd ⟨[u], []⟩ [(x, u)]) ∧
        ∀ base : Heap, (K w.params).In base → base.Ns mainGlobals mg → FnOk l.prog w (K w.params) mg base (CX w) k fa fd [x] (sp w))
    (hsp : ∀ (w : World) (H : Hp) (a : Addr) (ns : List Int), ns.length ≤ n → Only H → SqL (K w.params) H a (ns.map V.int) → sp w [.ref a] H (fun v _ => v = .bl true) fun _ _ _ => False)
    (hCX : ∀ (w : World) (H : Hp) (s : Shared) (e : Value) (s' : Shared), CX w [] H s (fun _ _ _ => False) e s' → False) :
    PySem.W.WalkO q loose XP YP l.row.toRowW d [] (fun f vs => PySem.call f vs) := by
  refine Att.attach_call hn hdf fun w s₀ s₁ mg mb fa o pm cd doc a vs ns G Y ho hd hcd hmg hobj hints hlen hg => ?_
  have KX := hY w _ Y
  obtain ⟨fd, hb, hF⟩ := F w mg fa _ KX G.T.g hmg
  exact law_call KX G.T.g G.T.b G.T.builtins G.T.nolimit hg hobj hints (Nat.le_trans hlen hn2) hr hF hb (fun H hO hS => hsp w H a ns hlen hO hS) fun H e s' => hCX w H s₁ e s'
end L2

/- THE LAST THEOREM (shape; LID, My.* are yours):
   My.Adr: a structure of the addresses that your layer names (classes, functions); My.Txt K t: a structure (Prop) of the equations over K;
   My.txt_mk : {K} {implicit addresses ..} (e1 : nsIn K mainGlobals "law" = some (some (.ref f))) (e2 : K.lookup f = some ⟨oc, od, .func (fnOf "law" "law" params body scope dV kV doc pm an cdv ct), sl⟩) (e3 : codeIn K cdv "law" = true) .. : ∃ t, My.Txt K t

set_option maxRecDepth 100000 in
set_option maxHeartbeats 0 in
theorem PySem.Challenge.cw_LID_holds : PySem.Challenge.rw_LID.Holds := by
  w_on; o_law; k_head; (case hw => w_witness2)
  k_fill
  refine L2.walk_of (l := PySem.Challenge.rw_LID) (n := 63) (k := 40) (x := "script") (CX := fun w => ..) (sp := fun _ => My.sp_law) rfl (by decide) rfl ⟨rfl, by decide, by decide⟩ (fun w h Y => PySem.W.kIn_of Y) ?F ?S ?C
  case F =>
    intro w mg fa h KX G hmg
    have T : ∃ t, My.Txt (L2.KOf KX) t := by
      dsimp only [L2.KOf]                          -- K must stand as «<heap const> w.params» for k_is
      refine' My.txt_mk ?e1 ?e2 ?e3 ..
      (case e1 => PySem.W.k_is)                    -- in the order: a name -> its address -> its object -> its parts
      (case e2 => PySem.W.k_is)
      ..
    obtain ⟨t, T⟩ := T
    have e0 := hmg.symm.trans (PySem.W.mg_of KX G T.law)
    cases e0                                       -- fa is the law's own address
    exact ⟨_, fun s u => .of_eq rfl, fun base kb nb => My.law_fn T kb nb⟩     -- if «.of_eq rfl» comes too early: refine' ⟨_, ?b, fun base kb nb => My.law_fn T kb nb⟩; exact fun s u => .of_eq rfl
  case S => exact fun w H a ns hl hO hS => ..
  case C => exact ..
(the tactic k_is has no namespace: write k_is) -/

/-! SHORT WORDS over the layer: a def of the text, its body, what a loop and a test want. -/
namespace L2
open PySem PySem.Spec PyProof.Rows

/-! ### the text by places -/
noncomputable def defArgs (s : Stmt) : Arguments := match s with
  | .FunctionDef _ a _ _ _ _ _ _ _ _ => a
  | _ => { posonlyargs := [], args := [], vararg := none, kwonlyargs := [], kw_defaults := [], kwarg := none, defaults := [] }
noncomputable def defBody (s : Stmt) : List Stmt := match s with
  | .FunctionDef _ _ b _ _ _ _ _ _ _ => b
  | _ => []
noncomputable def defScope (s : Stmt) : Scope := match s with
  | .FunctionDef _ _ _ _ _ _ sc _ _ _ => sc
  | _ => { kind := .function, names := [], isGenerator := false, isCoroutine := false }

/-! ### no exception leaves a def -/
noncomputable abbrev CX0 : CXT := fun _ _ _ _ _ _ => False
noncomputable abbrev E0 : XK := fun _ _ _ => False
theorem pass0 {X : Cx} : Passes CX0 X E0 := fun _ _ _ _ _ _ _ h => h.elim

/-! ### a def (or method) of the text as it stands behind the top -/
structure Fun (K : PySem.W.Frag) (x qual : Str) (st : Stmt) (f : Addr) (fd : FuncData) : Prop where
  ex : ∃ (oc : Value) (od : Option Addr) (kV doc pm : Value) (an : Option Addr) (cdv ct : Value) (osl : Array (Option Value)),
    fd = PySem.W.fnOf x qual (defArgs st) (defBody st) (defScope st) .none kV doc pm an cdv ct ∧ K.lookup f = some ⟨oc, od, .func fd, osl⟩ ∧ PySem.W.codeIn K cdv qual = true
  kp : PySem.W.keepIn K (.ref f) = true
section
variable {P : Program} {w : World} {K : PySem.W.Frag} {mg : Str → Option Value} {base : Heap}
theorem Fun.ok {x qual : Str} {st : Stmt} {f : Addr} {fd : FuncData} {N ps : List Str} {k : Nat} {sp : Sp} (F : Fun K x qual st f fd) (S : FnScope N ps (defScope st)) (len : ∀ vs H Q E, sp vs H Q E → vs.length = ps.length)
    (hbody : ∀ (cdv : Value) (A : Around) (outer : List Env) (s : Shared) (H : Hp) (vs : List V) (Q : VK) (E : XK), Room k (A.deeper (envOfC qual (defScope st) s.heap.objs.size f cdv)) → sp vs H Q E →
      ∃ t, PSs (cxOf CX0 P w K mg base N qual (defScope st) f cdv A outer s H E).nox (defBody st) t ∧ t { nx := fun _ H' => Q .non H', rt := Q } (start N vs) H) : FnOk P w K mg base CX0 (k + 1) f fd ps sp := by
  obtain ⟨oc, od, kV, doc, pm, an, cdv, ct, osl, rfl, lk, hcd⟩ := F.ex
  refine fn_of lk hcd S len fun A outer s H vs Q E hr hsp => ?_
  obtain ⟨t, h, q⟩ := hbody cdv A outer s H vs Q E hr hsp
  exact ⟨t, h.nox, q⟩
theorem Fun.binds {x qual : Str} {st : Stmt} {f : Addr} {fd : FuncData} {ps : List Str} (F : Fun K x qual st f fd)
    (h : ∀ (kV doc pm : Value) (an : Option Addr) (cdv ct : Value) (us : List Value), us.length = ps.length → bindArgs (PySem.W.fnOf x qual (defArgs st) (defBody st) (defScope st) .none kV doc pm an cdv ct) ⟨us, []⟩ = pure (ps.zip us)) : Binds K fd ps [] := by
  obtain ⟨oc, od, kV, doc, pm, an, cdv, ct, osl, rfl, lk, hcd⟩ := F.ex
  exact .all (h kV doc pm an cdv ct)
theorem fun_mk {x qual : Str} {st : Stmt} {f : Addr} {oc : Value} {od an : Option Addr} {osl : Array (Option Value)} {kV doc pm cdv ct : Value} (l : K.lookup f = some ⟨oc, od, .func (PySem.W.fnOf x qual (defArgs st) (defBody st) (defScope st) .none kV doc pm an cdv ct), osl⟩)
    (c : PySem.W.codeIn K cdv qual = true) (k : PySem.W.keepIn K (.ref f) = true) : Fun K x qual st f (PySem.W.fnOf x qual (defArgs st) (defBody st) (defScope st) .none kV doc pm an cdv ct) := ⟨⟨oc, od, kV, doc, pm, an, cdv, ct, osl, rfl, l, c⟩, k⟩
end
theorem small1000 {n : Nat} (h : n ≤ 1000) : n < sizeLine := Nat.lt_of_le_of_lt h (by decide)

/-! ### expressions in short: the name that stands in the i-th slot -/
section
variable {X : Cx}
theorem pv (i : Nat) {x : Str} {pos : Pos} (hN : X.N[i]? = some x := by rfl) (hv : Vis X.env.scope x := by first | exact Or.inl rfl | exact Or.inr (Or.inl rfl) | exact Or.inr (Or.inr rfl)) (hd : (x == ("__debug__" : Str)) = false := by decide)
    (hcd : (x == ("__classdict__" : Str)) = false := by decide) : PE X (.Name x pos) (tVar i) := pe_var hN hv hd hcd
end

/-! ### tests -/
theorem iteF {A B : Prop} (h : B) : if false = true then A else B := by
  rw [if_neg Bool.false_ne_true]
  exact h
theorem iteT {A B : Prop} (h : A) : if true = true then A else B := by
  rw [if_pos rfl]
  exact h
/-! ### heaps -/
noncomputable def Same (H H' : Hp) : Prop := ∀ b o, H b = some o → H' b = some o
theorem Same.refl (H : Hp) : Same H H := fun _ _ h => h
theorem Same.trans {H H1 H2 : Hp} (a : Same H H1) (b : Same H1 H2) : Same H H2 := fun c o h => b c o (a c o h)
theorem Same.free {H H' : Hp} (e : Same H H') {l : Addr} (h : H' l = Option.none) : H l = Option.none := by
  cases q : H l with
  | none => rfl
  | some o =>
    rw [e l o q] at h
    cases h
theorem Same.seq {K : PySem.W.Frag} {H H' : Hp} {a : Addr} {xs : List V} (e : Same H H') (h : SqL K H a xs) : SqL K H' a xs := by
  rcases h with (h | ⟨o, h⟩) | h
  · exact .inl (.inl (e _ _ h))
  · exact .inl (.inr ⟨o, e _ _ h⟩)
  · exact .inr h

end L2

end

section
-- KcComp
set_option Elab.async false
set_option linter.all false
set_option maxRecDepth 100000
set_option maxHeartbeats 4000000
namespace L2
open PySem PySem.Spec PyProof.Rows

/-! ### addresses -/
theorem ltNe {a b : Addr} {n : Nat} (h : a < n) (h' : n ≤ b) : a ≠ b := Nat.ne_of_lt (Nat.lt_of_lt_of_le h h')
theorem neLt {a b : Addr} {n : Nat} (h : n ≤ a) (h' : b < n) : a ≠ b := Nat.ne_of_gt (Nat.lt_of_lt_of_le h' h)
/-! ### a list comprehension's block: its own context over the enclosing one -/
noncomputable def clOf (env : Env) : List (Str × NameKind) → List (Str × Addr) → List (Str × Addr)
  | [], acc => acc
  | (n, k) :: r, acc => if k = .free then (match env.cells.lookup n with | some c => clOf env r ((n, c) :: acc) | none => clOf env r acc) else clOf env r acc
theorem clOf_sound {env : Env} : ∀ (ns : List (Str × NameKind)) (acc : List (Str × Addr)), (∀ p ∈ acc, env.cells.lookup p.1 = some p.2) → ∀ p ∈ clOf env ns acc, env.cells.lookup p.1 = some p.2
  | [], acc, h => by intro p hp; exact h p hp
  | (n, k) :: r, acc, h => by
    intro p hp
    rw [clOf] at hp
    split at hp
    · split at hp
      · rename_i c hc
        refine clOf_sound r _ (fun q hq => ?_) p hp
        rcases List.mem_cons.mp hq with rfl | hq
        · exact hc
        · exact h q hq
      · exact clOf_sound r acc h p hp
    · exact clOf_sound r acc h p hp
theorem clOf_acc {env : Env} : ∀ (ns : List (Str × NameKind)) (acc : List (Str × Addr)), ∀ p ∈ acc, p ∈ clOf env ns acc
  | [], acc => fun p hp => hp
  | (n, k) :: r, acc => fun p hp => by
    rw [clOf]
    split
    · split
      · exact clOf_acc r _ p (List.mem_cons_of_mem _ hp)
      · exact clOf_acc r acc p hp
    · exact clOf_acc r acc p hp
theorem clOf_has {env : Env} : ∀ (ns : List (Str × NameKind)) (acc : List (Str × Addr)) (x : Str) (c : Addr), (x, NameKind.free) ∈ ns → env.cells.lookup x = some c → (x, c) ∈ clOf env ns acc
  | [], acc, x, c => fun h _ => (nomatch h)
  | (n, k) :: r, acc, x, c => fun h hc => by
    rw [clOf]
    rcases List.mem_cons.mp h with e | h
    · cases e
      rw [if_pos rfl, hc]
      exact clOf_acc r _ _ List.mem_cons_self
    · split
      · split
        · exact clOf_has r _ x c h hc
        · exact clOf_has r acc x c h hc
      · exact clOf_has r acc x c h hc
theorem lookup_of_mem {α : Type} {x : Str} {c : α} : ∀ {l : List (Str × α)}, (x, c) ∈ l → ∃ d, l.lookup x = some d
  | (y, d) :: r, h => by
    rw [List.lookup_cons]
    cases e : x == y with
    | true => exact ⟨d, rfl⟩
    | false =>
      rcases List.mem_cons.mp h with q | q
      · cases q
        rw [beq_self_eq_true] at e
        cases e
      · exact lookup_of_mem q
theorem clOf_lookup {env : Env} {ns : List (Str × NameKind)} {x : Str} {c : Addr} (h : (clOf env ns []).lookup x = some c) : env.cells.lookup x = some c :=
  clOf_sound ns [] (fun _ hp => (nomatch hp)) (x, c) (PySem.mem_of_lookup h)
theorem clOf_some {env : Env} {ns : List (Str × NameKind)} {x : Str} {c : Addr} (hm : (x, NameKind.free) ∈ ns) (hc : env.cells.lookup x = some c) : (clOf env ns []).lookup x = some c := by
  obtain ⟨d, hd⟩ := lookup_of_mem (clOf_has ns [] x c hm hc)
  have e := clOf_lookup hd
  rw [hc] at e
  cases e
  exact hd
theorem closure_of {scope : Scope} {env : Env} (h : ∀ y ∈ scope.names, y.2 = .free → ∃ c, env.cells.lookup y.1 = some c) : closureFor scope env = pure (clOf env scope.names []) := by
  have go : ∀ (ns : List (Str × NameKind)) (acc : List (Str × Addr)), (∀ y ∈ ns, y.2 = .free → ∃ c, env.cells.lookup y.1 = some c) →
      (forIn ns acc fun (x : Str × NameKind) (cs : List (Str × Addr)) => (match x with
        | (name, kind) => if (kind == NameKind.free) = true then (do let c ← cellOf env name; pure (ForInStep.yield ((name, c) :: cs))) else pure (ForInStep.yield cs) : Sem (ForInStep (List (Str × Addr))))) = (pure (clOf env ns acc) : Sem (List (Str × Addr))) := by
    intro ns
    induction ns with
    | nil => intro acc _; rfl
    | cons y r ih =>
      intro acc hy
      obtain ⟨n, k⟩ := y
      have ih' := fun acc => ih acc fun z hz => hy z (List.mem_cons_of_mem _ hz)
      rw [List.forIn_cons, clOf]
      by_cases hk : k = .free
      · subst hk
        obtain ⟨c, hc⟩ := hy (n, .free) List.mem_cons_self rfl
        have hc' : env.cells.lookup n = some c := hc
        simp only [beq_self_eq_true, if_true, cellOf, hc', pure_bind]
        exact ih' _
      · have hb : (k == NameKind.free) = false := by simpa using hk
        simp only [hb, Bool.false_eq_true, if_false, pure_bind, if_neg hk]
        exact ih' _
  unfold closureFor
  have g := go scope.names [] h
  simp only [bind_pure]
  exact g

structure CompScope (sc scope : Scope) (NX N : List Str) (ix : List (Option Nat)) : Prop where
  kind : scope.kind = .function
  nocell : ∀ y ∈ scope.names, y.2 ≠ .cell
  names : ∀ y ∈ scope.names, y.2 = .local → scope.names.lookup y.1 = some .local
  free : ∀ y ∈ scope.names, y.2 = .free → sc.names.lookup y.1 = some .cell ∨ sc.names.lookup y.1 = some .free
  nd : N.Nodup
  len : ix.length = N.length
  at_ : ∀ p ∈ N.zip ix, ∀ i ∈ p.2, NX[i]? = some p.1 ∧ scope.names.lookup p.1 = some .free
noncomputable def sub (ix : List (Option Nat)) (σ : St) : St := ix.map fun o => match o with | some i => (match σ[i]? with | some v => v | none => none) | none => none

noncomputable def cxComp (X : Cx) (N : List Str) (scope : Scope) (C : Addr) (s : Shared) (H : Hp) (fp : List Addr) : Cx where
  prog := X.prog
  w := X.w
  K := X.K
  mg := X.mg
  base := X.base
  A := X.A
  N := N
  s₀ := s
  H₀ := H
  env := compEnvC scope (clOf X.env scope.names []) C X.env
  outer := X.stack
  stack := X.stack
  ex := fp
  fn := fun _ => false
  calm := X.calm
  pn := []
  xe := fun _ _ => False

theorem relabel_look {scope : Scope} {env : Env} {x : Str} {k : NameKind} (h : (relabel scope env).names.lookup x = some k) : scope.names.lookup x = some k ∨ (k = .cell ∧ scope.names.lookup x = some .free) := by
  have go : ∀ ns : List (Str × NameKind), (ns.map fun (n, k) => if (k == NameKind.free && env.scope.kind == .function && env.kindOf n == some .cell) then (n, NameKind.cell) else (n, k)).lookup x = some k →
      ns.lookup x = some k ∨ (k = .cell ∧ ns.lookup x = some .free) := by
    intro ns
    induction ns with
    | nil => intro q; simp at q
    | cons y r ih =>
      obtain ⟨n, k'⟩ := y
      intro q
      rw [List.map_cons] at q
      by_cases hc : (k' == NameKind.free && env.scope.kind == .function && env.kindOf n == some .cell) = true
      · simp only [hc, if_true] at q
        have hk' : k' = .free := by
          have := (Bool.and_eq_true _ _ ▸ hc)
          have h1 := (Bool.and_eq_true _ _ ▸ this.1)
          exact eq_of_beq h1.1
        subst hk'
        rw [List.lookup_cons] at q ⊢
        cases e : x == n with
        | true =>
          rw [e] at q
          cases q
          exact .inr ⟨rfl, rfl⟩
        | false =>
          rw [e] at q
          exact ih q
      · simp only [hc] at q
        rw [if_neg (by simp)] at q
        rw [List.lookup_cons] at q ⊢
        cases e : x == n with
        | true => rw [e] at q; exact .inl q
        | false => rw [e] at q; exact ih q
  exact go scope.names h
theorem relabel_free {scope : Scope} {env : Env} {x : Str} (h : scope.names.lookup x = some .free) : (relabel scope env).names.lookup x = some .cell ∨ (relabel scope env).names.lookup x = some .free := by
  have go : ∀ ns : List (Str × NameKind), ns.lookup x = some .free →
      (ns.map fun (n, k) => if (k == NameKind.free && env.scope.kind == .function && env.kindOf n == some .cell) then (n, NameKind.cell) else (n, k)).lookup x = some .cell ∨
      (ns.map fun (n, k) => if (k == NameKind.free && env.scope.kind == .function && env.kindOf n == some .cell) then (n, NameKind.cell) else (n, k)).lookup x = some .free := by
    intro ns
    induction ns with
    | nil => intro q; simp at q
    | cons y r ih =>
      obtain ⟨n, k'⟩ := y
      intro q
      rw [List.map_cons]
      rw [List.lookup_cons] at q
      cases e : x == n with
      | true =>
        rw [e] at q
        cases q
        by_cases hc : (NameKind.free == NameKind.free && env.scope.kind == .function && env.kindOf n == some .cell) = true
        · simp only [hc, if_true]
          rw [List.lookup_cons, e]
          exact .inl rfl
        · simp only [hc]
          rw [if_neg (by simp), List.lookup_cons, e]
          exact .inr rfl
      | false =>
        rw [e] at q
        have z := ih q
        by_cases hc : (k' == NameKind.free && env.scope.kind == .function && env.kindOf n == some .cell) = true
        · simp only [hc, if_true]
          rw [List.lookup_cons, e]
          exact z
        · simp only [hc]
          rw [if_neg (by simp), List.lookup_cons, e]
          exact z
  exact go scope.names h

theorem Inv.gone {X : Cx} {pins : List (Addr × Obj)} {σ σ₂ : St} {H H₂ : Hp} {s s₂ : Shared} {C : Addr} {h'' : Heap} (I : Inv X pins σ H s) (I2 : Inv X pins σ₂ H₂ s₂) (hC : s₂.heap.objs.size ≤ C) (hn : H C = none) (hs : Heap.SameBut C s.heap h'') : Inv X pins σ H { s with heap := h'' } :=
  I.turned (t' := s.toks) (it := C) (fun b o hb e => hs.extBut b o hb e) hn (Nat.ne_of_gt (Nat.lt_of_lt_of_le I2.lt hC)) (.inr (Nat.le_trans I2.sz hC))
    (fun x c e => by
      obtain ⟨v, o, ho, _⟩ := I2.cell x c e
      exact ltNe (Heap.lt_size ho) hC) fun q hq => ltNe (Heap.lt_size (I2.pin q hq).1) hC
/-! ### the tests of a clause -/
noncomputable def PTL (X : Cx) (ifs : List Expr) (t : TT) : Prop :=
  ∀ (pins : List (Addr × Obj)) (s : Shared) (σ : St) (H : Hp) (Q : Bool → Hp → Prop), Inv X pins σ H s → t σ H Q →
    wpAny (model X.prog X.w) X.A (forIn ifs true fun c r => if r = true then do let ok ← isTrue c X.env (eval c X.env); pure (ForInStep.yield ok) else pure (ForInStep.yield r)) (TP X pins σ Q) X.xe s
noncomputable def tAlways : TT := fun _ H Q => Q true H
theorem ptl_nil {X : Cx} : PTL X [] tAlways := fun _ _ _ H _ I h => wpAny_tests_nil ⟨H, I, h⟩
theorem ptl_one {X : Cx} {c : Expr} {t : TT} (h : PT X c t) : PTL X [c] t := fun pins s σ H Q I q => wpAny_tests_one (h pins s σ H Q I q)

/-! ### the rule -/
noncomputable def CompBody (J : It) (g : TG) (tt : TT) (te : TE) (σ₀ : St) (p : Addr) (Q : VK) (W : Nat → Nat → List V → Hp → Prop) : Prop :=
  ∀ i m acc H, W i m acc H → H p = some (.lst acc) ∧
    ((J.stop i H ∧ Q (.ref p) H) ∨ (J.go i H ∧ acc.length < sizeLine ∧ ∃ N : List V → Hp → Prop, (∀ acc' H', N acc' H' → ∃ m', m' < m ∧ W (i + 1) m' acc' H') ∧
      ∀ x H1, J.yld i H x H1 → g x σ₀ H1 fun σ2 H2 => tt σ2 H2 fun b H3 => if b = true then te σ2 H3 fun y H4 => H4 p = some (.lst acc) ∧ N (acc ++ [y]) (upd H4 p (.lst (acc ++ [y]))) else N acc H3))
noncomputable abbrev CF (α : Type) := Addr → Shared → Hp → List Addr → α
noncomputable def tComp (wi : TI) (g : CF TG) (tt : CF TT) (te : CF TE) (ix : List (Option Nat)) : TE := fun σ H Q => wi σ H fun J H1 => ∀ p, H1 p = none →
  ∃ W : Nat → Nat → List V → Hp → Prop, (∃ m, W 0 m [] (upd H1 p (.lst []))) ∧ ∀ C s' H' fp, CompBody J (g C s' H' fp) (tt C s' H' fp) (te C s' H' fp) (sub ix σ) p Q W
section
variable {X : Cx} {elt tg iter : Expr} {ifs : List Expr} {scope sc : Scope} {pos : Pos} {NX N : List Str} {ix : List (Option Nat)} {wi : TI} {g : CF TG} {tt : CF TT} {te : CF TE}

theorem comp_loop {prog : Program} {w : World} {A : Around} {R : Result → Shared → Prop} {s : Shared} {it acc : Value} {env : Env} (I : Nat → Shared → Prop)
    (turn : ∀ n s, I n s → wpAny (model prog w) A (pyNext it) (fun r s₁ => match r with
      | none => R (.ok .next) s₁
      | some v => wpAny (model prog w) A (letOwnedTupleGo tg it v) (fun _ s₁' => wpAny (model prog w) A (assign tg env v) (fun _ s₂ =>
          wpAny (model prog w) A (forIn ifs true fun c r => if r = true then do let ok ← isTrue c env (eval c env); pure (ForInStep.yield ok) else pure (ForInStep.yield r)) (fun ok s₃ =>
            if ok = true then wpAny (model prog w) A (eval elt env) (fun x s₄ =>
              wpAny (model prog w) A (call (.builtin "list.append") [acc, x]) (fun _ s₅ => ∃ m, m < n ∧ I m s₅) (fun _ _ => False) s₄) (fun _ _ => False) s₃
            else ∃ m, m < n ∧ I m s₃) (fun _ _ => False) s₂) (fun _ _ => False) s₁') (fun _ _ => False) s₁) (fun _ _ => False) s)
    (n : Nat) (h : I n s) : codeAny (model prog w) A (.compLoop (.ListComp elt [⟨tg, iter, ifs, 0⟩] scope pos) 0 it acc env) R s := by
  refine codeAny_loop rfl I (fun n s hI => ?_) n h
  show wpAny _ A ((compTurn (.ListComp elt [⟨tg, iter, ifs, 0⟩] scope pos) 0 it acc env).onRaise (fun x => do noteFrame x env; theTreesLotGoes x)) _ _ s
  refine wpAny_noted ?_
  rw [compTurn_list]
  refine wpAny_bind (wpAny_standAt (wpAny_bind (wpAny_mono (turn n s hI) (fun r s₁ h₁ => ?_) fun _ _ z => z.elim)))
  cases r with
  | none => exact wpAny_pure h₁
  | some v =>
    refine wpAny_bind (wpAny_mono h₁ (fun _ s₁' h₁' => ?_) fun _ _ z => z.elim)
    refine wpAny_bind (wpAny_mono h₁' (fun _ s₂ h₂ => wpAny_bind (wpAny_mono h₂ (fun ok s₃ h₃ => ?_) fun _ _ z => z.elim)) fun _ _ z => z.elim)
    cases ok with
    | false => exact wpAny_pure ⟨rfl, h₃⟩
    | true => exact wpAny_bind (wpAny_bind (wpAny_mono h₃ (fun x s₄ h₄ => wpAny_bind (wpAny_mono h₄ (fun _ s₅ h₅ => wpAny_pure (wpAny_pure ⟨rfl, h₅⟩)) fun _ _ z => z.elim)) fun _ _ z => z.elim))

theorem comp_block {pins : List (Addr × Obj)} {σ : St} {H : Hp} {s : Shared} {fp : List Addr} {it : Addr} {J : It} {tn : Nat → Heap → Prop} {Q : VK} {E : Value → Shared → Prop} {RR : Value → Addr → Result → Shared → Prop}
    (hc : X.calm = true) (hsc : X.env.scope = sc) (hNX : X.N = NX) (S : CompScope sc scope NX N ix)
    (hg : ∀ C s H fp, PG (cxComp X N scope C s H fp) tg (g C s H fp)) (ht : ∀ C s H fp, PTL (cxComp X N scope C s H fp) ifs (tt C s H fp)) (he : ∀ C s H fp, PE (cxComp X N scope C s H fp) elt (te C s H fp))
    (I : Inv X pins σ H s) (T : Turn X.prog X.w X.K tg J fp it tn) (st : tn 0 s.heap) (hf : ∀ b ∈ fp, FpOk X pins H b)
    (hq : ∀ p, H p = none → ∃ W : Nat → Nat → List V → Hp → Prop, (∃ m, W 0 m [] (upd H p (.lst []))) ∧ ∀ C s' H' fp, CompBody J (g C s' H' fp) (tt C s' H' fp) (te C s' H' fp) (sub ix σ) p Q W)
    (hR : ∀ p C s' H' m, s.heap.objs.size ≤ p → s.heap.objs.size ≤ C → s'.heap.Ns C m → H' C = none → Q (.ref p) H' → Inv X pins σ H' s' → RR (.ref p) C (.ok .next) s') :
    wpAny (model X.prog X.w) X.A (newList []) (fun acc s₃ => wpAny (model X.prog X.w) X.A (newFunctionEnv scope X.env.globals (clOf X.env scope.names []) [] X.env.qual none .none (some X.env)) (fun cenv s₄ =>
      codeAny (model X.prog X.w) X.A (.compStart (.ListComp elt [⟨tg, iter, ifs, 0⟩] scope pos) 0 (.ref it) acc { cenv with scope := relabel scope X.env }) (RR acc cenv.locals) s₄) E s₃) E s := by
  refine wpAny_newObj_type (wpAny_newFunctionEnv S.nocell (by intro y hy; simp at hy) (fun h₁ hns₁ hsb₁ => ?_) S.kind)
  dsimp only at hns₁ hsb₁ ⊢
  have hsz : (s.heap.push { cls := .type "list", dict := none, data := .seq ([] : List Value).toArray }).objs.size = s.heap.objs.size + 1 := Heap.size_push ..
  generalize hC : (s.heap.push { cls := .type "list", dict := none, data := .seq ([] : List Value).toArray }).objs.size = C at hns₁ hsb₁ ⊢
  rw [hsz] at hC
  generalize hp : s.heap.objs.size = p at hC
  have pC : p ≠ C := by omega
  have old : ∀ b o, s.heap.get? b = some o → h₁.get? b = some o := fun b o e => hsb₁.extBut b o (ltNe (Heap.lt_size e) (by omega)) (Heap.get?_push_of_some _ (Heap.get?_push_of_some _ e))
  have hnew : h₁.get? p = some { cls := .type "list", data := .seq ([] : List Value).toArray } := hsb₁.extBut _ _ pC (Heap.get?_push_of_some _ (by rw [← hp]; exact Heap.get?_push_size _ rfl))
  have hfp : H p = none := I.hok.fresh (by omega)
  have hfC : H C = none := I.hok.fresh (by omega)
  have lt : ∀ b ∈ fp, b < p := fun b hb => by
    obtain ⟨o, e, _⟩ := T.obj 0 _ st b hb
    rw [← hp]
    exact Heap.lt_size e
  -- the free names' cells
  have hcells : ∀ y ∈ scope.names, y.2 = .free → ∃ c, X.env.cells.lookup y.1 = some c := fun y hy hk => by
    refine I.ok.has y.1 ?_
    show X.env.scope.names.lookup y.1 = some .cell ∨ X.env.scope.names.lookup y.1 = some .free
    rw [hsc]
    exact S.free y hy hk
  have noown : ∀ x, scope.names.lookup x ≠ some .cell := fun x e => S.nocell _ (PySem.mem_of_lookup e) rfl
  have hok : (cxComp X N scope C s H fp).Ok := by
    refine ⟨I.ok.mod, S.kind, I.ok.glob, I.ok.blt, by show s.heap.objs.size ≤ C; omega, fun x y c h1 h2 => I.ok.inj x y c (clOf_lookup h1) (clOf_lookup h2), fun x hx => ?_, fun x c z => (by cases z), I.ok.hd, I.ok.frames, .inl rfl, fun b hb => ?_, I.bs, Nat.le_trans I.ok.bsz I.sz, fun b o e hb => ?_, fun b hb z => ?_, I.stack, I.stkFree⟩
    · have hx' : scope.names.lookup x = some .free := by
        rcases hx with hx | hx
        · rcases relabel_look hx with q | q
          · exact absurd q (noown x)
          · exact q.2
        · rcases relabel_look hx with q | q
          · exact q
          · exact q.2
      obtain ⟨c, hc'⟩ := hcells _ (PySem.mem_of_lookup hx') rfl
      exact ⟨c, clOf_some (PySem.mem_of_lookup hx') hc'⟩
    · refine ⟨?_, fun x c e => (hf b hb).2.2.2.2.1 x c (clOf_lookup e)⟩
      show b ≠ C
      exact ltNe (lt b hb) (by omega)
    · rcases (hf b hb).2.2.2.1 with z | z
      · exact I.ok.noex b o e z
      · exact absurd (Nat.lt_of_lt_of_le (Heap.lt_size e) (Nat.le_trans I.ok.bsz z)) (Nat.lt_irrefl _)
    · rcases List.mem_cons.mp (I.stkSub b z) with q | q
      · exact (hf b hb).2.1 q
      · exact (hf b hb).2.2.1 q
  -- the free names' values lie in cells that stay
  have locs : ∀ h' : Heap, (∀ x c o, X.env.cells.lookup x = some c → s.heap.get? c = some o → ∃ sl, h'.get? c = some { o with slots := sl }) →
      ∀ (i : Nat) (x : Str) (v : V), N[i]? = some x → (sub ix σ)[i]? = some (some v) → ∃ u, RelV v u ∧ ∀ m, Look (compEnvC scope (clOf X.env scope.names []) C X.env) h' m x u := by
    intro h' hk i x v h1 h2
    obtain ⟨k, hk', hv⟩ : ∃ k, ix[i]? = some (some k) ∧ σ[k]? = some (some v) := by
      unfold sub at h2
      rw [List.getElem?_map] at h2
      cases e : ix[i]? with
      | none => rw [e] at h2; cases h2
      | some o =>
        rw [e] at h2
        cases o with
        | none => cases h2
        | some k =>
          refine ⟨k, rfl, ?_⟩
          have h2' : (match σ[k]? with | some v => v | none => none) = some v := Option.some.inj h2
          cases e2 : σ[k]? with
          | none => rw [e2] at h2'; cases h2'
          | some z =>
            rw [e2] at h2'
            rw [show z = some v from h2']
    have hm : (x, some k) ∈ N.zip ix := by
      refine List.mem_of_getElem? (i := i) ?_
      rw [List.getElem?_zip_eq_some]
      exact ⟨h1, hk'⟩
    obtain ⟨a1, a2⟩ := S.at_ _ hm k (by simp)
    have hX := S.free _ (PySem.mem_of_lookup a2) rfl
    have hvis : Vis X.env.scope x := by
      show _ ∨ _ ∨ _
      rw [hsc]
      exact .inr hX
    obtain ⟨m, hn, hl⟩ := I.loc
    obtain ⟨u, r, l⟩ := hl k x v (by rw [hNX]; exact a1) hv hvis
    refine ⟨u, r, fun m' => .inr ⟨relabel_free a2, ?_⟩⟩
    rcases l with ⟨l, _⟩ | ⟨_, c, e, z⟩
    · have l' : X.env.scope.names.lookup x = some .local := l
      rw [hsc] at l'
      rcases hX with q | q <;> (rw [q] at l'; cases l')
    · obtain ⟨o, ho, hd⟩ := z
      obtain ⟨sl, e'⟩ := hk x c o e ho
      exact ⟨c, clOf_some (PySem.mem_of_lookup a2) e, _, e', hd⟩
  have hlen : (sub ix σ).length = N.length := by
    unfold sub
    rw [List.length_map]
    exact S.len
  have I1 : Inv (cxComp X N scope C s H fp) [] (sub ix σ) (upd H p (.lst [])) { s with heap := h₁, toks := s.toks + ([] : List (Str × Value)).length } := by
    refine ⟨hok, rfl, I.bare, Un.laid old (Nat.le_of_eq hp) hfp, ⟨_, hns₁, fun i x v h1 h2 h3 => ?_⟩, fun x c e => ?_, ?_, fun x c e => ?_, fun q hq => (nomatch hq), I.hok.laid old (Nat.le_of_eq hp) ⟨Nat.zero_le _, [], 0, .nil, hnew⟩, hlen⟩
    · obtain ⟨u, r, l⟩ := locs h₁ (fun y c o _ ho => ⟨o.slots, old c o ho⟩) i x v h1 h2
      exact ⟨u, r, l _⟩
    · obtain ⟨v, o, ho, hd⟩ := I.cell x c (clOf_lookup e)
      exact ⟨v, o, old c o ho, hd⟩
    · show upd H p _ C = none
      rw [upd_ne (Ne.symm pC)]
      exact hfC
    · have e' := clOf_lookup e
      obtain ⟨v, o, ho, hd⟩ := I.cell x c e'
      rw [upd_ne (ltNe (Heap.lt_size ho) (Nat.le_of_eq hp))]
      exact I.freeC x c e'
  -- back to the block's first names
  have back : ∀ {pl : List (Addr × Obj)} {σ' : St} {H' : Hp} {s' : Shared}, Inv (cxComp X N scope C s H fp) pl σ' H' s' → Inv (cxComp X N scope C s H fp) pl (sub ix σ) H' s' := fun {pl σ' H' s'} J => by
    obtain ⟨m, hn, _⟩ := J.loc
    refine ⟨J.ok, J.os, J.bare, J.base, ⟨m, hn, fun i x v h1 h2 h3 => ?_⟩, J.cell, J.free, J.freeC, J.pin, J.hok, hlen⟩
    obtain ⟨u, r, l⟩ := locs s'.heap (fun y c o hc' ho => J.base.any ho (I.freeC y c hc') fun hb => (hf c hb).2.2.2.2.1 y c hc' rfl) i x v h1 h2
    exact ⟨u, r, l _⟩
  obtain ⟨W, ⟨m0, w0⟩, turn⟩ := hq p hfp
  have st1 : tn 0 h₁ := T.keep 0 _ _ st fun b _ o e => old b o e
  have fp1 : ∀ {H' : Hp}, (∀ b ∈ fp, H' b = none) → ∀ b ∈ fp, FpOk (cxComp X N scope C s H fp) [] H' b := fun {H'} hn b hb =>
    ⟨hn b hb, (hok.exf b hb).1, hok.exfs b hb, .inl hb, (hok.exf b hb).2, fun q hq => (nomatch hq)⟩
  have loop : codeAny (model X.prog X.w) X.A (.compLoop (.ListComp elt [⟨tg, iter, ifs, 0⟩] scope pos) 0 (.ref it) (.ref p) (compEnvC scope (clOf X.env scope.names []) C X.env)) (RR (.ref p) C) { s with heap := h₁, toks := s.toks + ([] : List (Str × Value)).length } := by
    refine comp_loop (fun n s' => ∃ i acc H', Inv (cxComp X N scope C s H fp) [] (sub ix σ) H' s' ∧ tn i s'.heap ∧ (∀ b ∈ fp, H' b = none) ∧ W i n acc H') ?_ m0
      ⟨0, [], _, I1, st1, fun b hb => by rw [upd_ne (ltNe (lt b hb) (Nat.le_refl _))]; exact (hf b hb).1, w0⟩
    rintro n s3 ⟨i, acc, H3, I3, st3, fr3, w3⟩
    obtain ⟨hacc, w4⟩ := turn C s H fp i n acc H3 w3
    rcases w4 with ⟨stop, qn⟩ | ⟨go, hln, N', hN', step⟩
    · refine thn (T.done (cxComp X N scope C s H fp) rfl rfl rfl hc i [] s3 _ H3 (fun _ _ => False) I3 (fp1 fr3) st3 stop) fun r s4 ⟨hr, I4⟩ => ?_
      subst hr
      obtain ⟨m, hn, _⟩ := I4.loc
      refine hR p C s4 H3 m (by omega) (by omega) hn I4.free qn ?_
      exact I.call' I4.os I4.base I4.hok I4.bare fun b hb => ⟨(hf b hb).2.2.2.1, (hf b hb).2.1, (hf b hb).2.2.2.2.1, (hf b hb).2.2.2.2.2⟩
    · refine thn (T.item (cxComp X N scope C s H fp) rfl rfl rfl hc i [] s3 _ H3 (fun _ _ => False) I3 (fp1 fr3) st3 go) fun r s4 ⟨u, hr, h4⟩ => ?_
      subst hr
      refine thn h4 fun _ s5 ⟨x, H5, I5, r5, y5, st5, fr5⟩ => ?_
      have I5' := I5.pinned (fp1 fr5) (T.obj _ _ st5)
      refine thn (hg C s H fp _ s5 _ H5 x u _ I5' r5 (step x H5 y5)) fun _ s6 ⟨σ6, H6, I6, q6⟩ => ?_
      have later : ∀ {s7 : Shared} {H7 : Hp} {acc' : List V} {σ7 : St}, Inv (cxComp X N scope C s H fp) ([] ++ pinsAt fp s5.heap) σ7 H7 s7 → (∃ m', m' < n ∧ W (i + 1) m' acc' H7) →
          ∃ m, m < n ∧ ∃ i acc H', Inv (cxComp X N scope C s H fp) [] (sub ix σ) H' s7 ∧ tn i s7.heap ∧ (∀ b ∈ fp, H' b = none) ∧ W i m acc H' := fun {s7 H7 acc' σ7} I7 ⟨m', hm, w7⟩ => by
        refine ⟨m', hm, i + 1, acc', H7, back (I7.unpinned (pins := [])), T.keep _ _ _ st5 fun b hb o e => (I7.pin (b, o) (List.mem_append_right _ (List.mem_append_right _ (mem_pinsAt hb e)))).1, fun b hb => ?_, w7⟩
        obtain ⟨o, e, d⟩ := T.obj _ _ st5 b hb
        exact (I7.pin (b, o) (List.mem_append_right _ (List.mem_append_right _ (mem_pinsAt hb e)))).2.1
      refine thn (ht C s H fp _ s6 σ6 H6 _ I6 q6) fun ok s7 ⟨H7, I7, q7⟩ => ?_
      cases ok with
      | false => exact later I7 (hN' _ _ q7)
      | true =>
        refine thn (he C s H fp _ s7 σ6 H7 _ I7 q7) fun y s8 ⟨v8, H8, I8, r8, hacc8, w8⟩ => ?_
        refine thn (mt_append (X := cxComp X N scope C s H fp) _ s8 σ6 H8 (.ref p) [v8] (.ref p) [y] (fun _ H9 => H9 = upd H8 p (.lst (acc ++ [v8]))) I8 rfl (.cons r8 .nil) ⟨p, acc, v8, rfl, rfl, hacc8, hln, rfl⟩) fun _ s9 ⟨_, H9, I9, _, e9⟩ => ?_
        subst e9
        exact later I9 (hN' _ _ w8)
  exact codeAny_compStart_list loop (T.self _ 0 _ _ _ st1 loop)

theorem pe_comp (hc : X.calm = true) (S : CompScope sc scope NX N ix) (hi : PI X tg iter wi)
    (hg : ∀ C s H fp, PG (cxComp X N scope C s H fp) tg (g C s H fp)) (ht : ∀ C s H fp, PTL (cxComp X N scope C s H fp) ifs (tt C s H fp)) (he : ∀ C s H fp, PE (cxComp X N scope C s H fp) elt (te C s H fp))
    (hsc : X.env.scope = sc := by rfl) (hNX : X.N = NX := by rfl) (hs : ∀ x, foldedSetIterable iter X.env x = pure x := by intro _; rfl) :
    PE X (.ListComp elt [⟨tg, iter, ifs, 0⟩] scope pos) (tComp wi g tt te ix) := by
  intro pins s σ H Q I h
  rw [eval_ListComp]
  have hcells : closureFor scope X.env = pure (clOf X.env scope.names []) := closure_of fun y hy hk => by
    refine I.ok.has y.1 ?_
    show X.env.scope.names.lookup y.1 = some .cell ∨ X.env.scope.names.lookup y.1 = some .free
    rw [hsc]
    exact S.free y hy hk
  refine wpAny_comprehension_free (use := none) rfl hs hcells S.kind S.names (thn (hi pins s σ H _ I h) fun v s1 h1 => thn h1 fun itv s2 h2 => ?_)
  obtain ⟨it, fp, tn, J, H2, e, I2, T, st2, f2, hq⟩ := h2
  subst e
  refine comp_block (Q := Q) (RR := fun acc C => compPost (model X.prog X.w) X.A X.xe none (EP X pins σ Q) acc C) hc hsc hNX S hg ht he I2 T st2 f2 hq ?_
  intro p C s' H' m hp hC hn hfree q I'
  exact ⟨m, hn, fun h'' hs'' => ⟨.ref p, H', I'.gone I2 hC hfree hs'', rfl, q⟩⟩
theorem ps_setComp {i : Nat} {y : Str} {py spos : Pos} (hN : X.N.Nodup) (hy : X.N[i]? = some y) (hl : X.env.scope.names.lookup y = some .local) (hc : X.calm = true) (S : CompScope sc scope NX N ix) (hi : PI X tg iter wi)
    (hg : ∀ C s H fp, PG (cxComp X N scope C s H fp) tg (g C s H fp)) (ht : ∀ C s H fp, PTL (cxComp X N scope C s H fp) ifs (tt C s H fp)) (he : ∀ C s H fp, PE (cxComp X N scope C s H fp) elt (te C s H fp))
    (hsw : swapsWith (.ListComp elt [⟨tg, iter, ifs, 0⟩] scope pos) (some (.Name y py)) spos.line X.env = pure true := by rfl)
    (hsc : X.env.scope = sc := by rfl) (hNX : X.N = NX := by rfl) (hs : ∀ x, foldedSetIterable iter X.env x = pure x := by intro _; rfl) :
    PS X (.Assign [.Name y py] (.ListComp elt [⟨tg, iter, ifs, 0⟩] scope pos) spos) (tAsg (tComp wi g tt te ix) (gName i)) := by
  intro pins s σ H D I h
  rw [exec_Assign_Name_used _ _ _ _ hsw]
  have hcells : closureFor scope X.env = pure (clOf X.env scope.names []) := closure_of fun z hz hk => by
    refine I.ok.has z.1 ?_
    show X.env.scope.names.lookup z.1 = some .cell ∨ X.env.scope.names.lookup z.1 = some .free
    rw [hsc]
    exact S.free z hz hk
  refine wpAny_bind (wpAny_standAt (wpAny_bind ?_))
  show wpAny _ X.A (do let _ ← comprehension (.ListComp elt [⟨tg, iter, ifs, 0⟩] scope pos) scope X.env _ (newList []) false (eval iter X.env) (some (assign (.Name y py) X.env))) _ _ s
  refine wpAny_bind (thn (wpAny_comprehension_free (use := some (assign (.Name y py) X.env)) (Q := fun _ s' => SP X pins D .next s') rfl hs hcells S.kind S.names (thn (hi pins s σ H _ I h) fun v s1 h1 => thn h1 fun itv s2 h2 => ?_)) fun _ s' q => wpAny_pure (wpAny_pure q))
  obtain ⟨it, fp, tn, J, H2, e, I2, T, st2, f2, hq⟩ := h2
  subst e
  refine comp_block (Q := fun x H1 => gName i x σ H1 D.nx) (RR := fun acc C => compPost (model X.prog X.w) X.A X.xe (some (assign (.Name y py) X.env)) (fun _ s' => SP X pins D .next s') acc C) hc hsc hNX S hg ht he I2 T st2 f2 hq ?_
  intro p C s' H' m hp hC hn hfree q I'
  refine wpAny_assign_Name (store_ok2 (v := .ref p) I' hN hy (.inl hl) rfl (fun s'' I'' ⟨a, hsb, ha⟩ => ?_) (.inr hl))
  have ne : C ≠ a := by
    rcases ha with rfl | ha
    · exact Nat.ne_of_gt (Nat.lt_of_lt_of_le I2.lt hC)
    · obtain ⟨v, o, ho, _⟩ := I2.cell y a ha
      exact Nat.ne_of_gt (Nat.lt_of_lt_of_le (Heap.lt_size ho) hC)
  exact ⟨m, hn.sameBut hsb ne, fun h'' hs'' => ⟨_, H', I''.gone I2 hC hfree hs'', q⟩⟩
end

/-! ### the forms one uses: W from a word over the turn, the new list, the heap -/
section
variable {g : CF TG} {tt : CF TT} {te : CF TE} {σ₀ : St} {p : Addr} {Q : VK} {H : Hp}
theorem comp_of {J : It} {n : Nat} {Y : Nat → Hp → V → Hp → Prop} (Pv : Nat → List V → Hp → Prop) (h0 : Pv 0 [] (upd H p (.lst []))) (hp : ∀ i acc H, i ≤ n → Pv i acc H → H p = some (.lst acc) ∧ acc.length ≤ i) (hz : n ≤ sizeLine)
    (hgo : ∀ i acc H, i < n → Pv i acc H → J.go i H) (hst : ∀ acc H, Pv n acc H → J.stop n H) (hy : ∀ i acc H x H1, i < n → Pv i acc H → J.yld i H x H1 → Y i H x H1)
    (hs : ∀ C s' H' fp, ∀ i x acc H H1, i < n → Pv i acc H → Y i H x H1 → g C s' H' fp x σ₀ H1 fun σ2 H2 => tt C s' H' fp σ2 H2 fun b H3 => if b = true then te C s' H' fp σ2 H3 fun y H4 => H4 p = some (.lst acc) ∧ Pv (i + 1) (acc ++ [y]) (upd H4 p (.lst (acc ++ [y]))) else Pv (i + 1) acc H3)
    (hd : ∀ acc H, Pv n acc H → Q (.ref p) H) :
    ∃ W : Nat → Nat → List V → Hp → Prop, (∃ m, W 0 m [] (upd H p (.lst []))) ∧ ∀ C s' H' fp, CompBody J (g C s' H' fp) (tt C s' H' fp) (te C s' H' fp) σ₀ p Q W := by
  refine ⟨fun i m acc H => m = n - i ∧ i ≤ n ∧ Pv i acc H, ⟨n, by simp, Nat.zero_le _, h0⟩, ?_⟩
  rintro C s' H' fp i m acc H ⟨rfl, hi, w⟩
  obtain ⟨h1, h2⟩ := hp i acc H hi w
  refine ⟨h1, ?_⟩
  by_cases hlt : i < n
  · exact .inr ⟨hgo i acc H hlt w, by omega, Pv (i + 1), fun acc' H' q => ⟨n - (i + 1), by omega, rfl, hlt, q⟩, fun x H1 y => hs C s' H' fp i x acc H H1 hlt w (hy i acc H x H1 hlt w y)⟩
  · have e : i = n := by omega
    subst e
    exact .inl ⟨hst acc H w, hd acc H w⟩
theorem comp_list {K : PySem.W.Frag} {a : Addr} {xs : List V} (Pv : Nat → List V → Hp → Prop) (h0 : Pv 0 [] (upd H p (.lst []))) (hp : ∀ i acc H, i ≤ xs.length → Pv i acc H → H p = some (.lst acc) ∧ acc.length ≤ i) (hl : ∀ i acc H, i ≤ xs.length → Pv i acc H → SqL K H a xs) (hz : xs.length ≤ sizeLine)
    (hs : ∀ C s' H' fp, ∀ i x acc H, xs[i]? = some x → Pv i acc H → g C s' H' fp x σ₀ H fun σ2 H2 => tt C s' H' fp σ2 H2 fun b H3 => if b = true then te C s' H' fp σ2 H3 fun y H4 => H4 p = some (.lst acc) ∧ Pv (i + 1) (acc ++ [y]) (upd H4 p (.lst (acc ++ [y]))) else Pv (i + 1) acc H3)
    (hd : ∀ acc H, Pv xs.length acc H → Q (.ref p) H) :
    ∃ W : Nat → Nat → List V → Hp → Prop, (∃ m, W 0 m [] (upd H p (.lst []))) ∧ ∀ C s' H' fp, CompBody (Itl K a) (g C s' H' fp) (tt C s' H' fp) (te C s' H' fp) σ₀ p Q W :=
  comp_of (Y := fun i H x H1 => H1 = H ∧ xs[i]? = some x) Pv h0 hp hz (fun i acc H hi w => ⟨xs, xs[i], hl i acc H (Nat.le_of_lt hi) w, by simp [hi]⟩) (fun acc H w => ⟨xs, hl _ acc H (Nat.le_refl _) w, Nat.le_refl _⟩)
    (fun i acc H x H1 hi w y => ⟨y.1, y.2 xs (hl i acc H (Nat.le_of_lt hi) w)⟩) (fun C s' H' fp i x acc H H1 hi w y => by
      obtain ⟨e, y⟩ := y
      subst e
      exact hs C s' H' fp i x acc _ y w) hd
theorem comp_tup {K : PySem.W.Frag} {a : Addr} {xs : List V} (Pv : Nat → List V → Hp → Prop) (h0 : Pv 0 [] (upd H p (.lst []))) (hp : ∀ i acc H, i ≤ xs.length → Pv i acc H → H p = some (.lst acc) ∧ acc.length ≤ i) (hl : ∀ i acc H, i ≤ xs.length → Pv i acc H → SqT K H a xs) (hz : xs.length ≤ sizeLine)
    (hs : ∀ C s' H' fp, ∀ i x acc H, xs[i]? = some x → Pv i acc H → g C s' H' fp x σ₀ H fun σ2 H2 => tt C s' H' fp σ2 H2 fun b H3 => if b = true then te C s' H' fp σ2 H3 fun y H4 => H4 p = some (.lst acc) ∧ Pv (i + 1) (acc ++ [y]) (upd H4 p (.lst (acc ++ [y]))) else Pv (i + 1) acc H3)
    (hd : ∀ acc H, Pv xs.length acc H → Q (.ref p) H) :
    ∃ W : Nat → Nat → List V → Hp → Prop, (∃ m, W 0 m [] (upd H p (.lst []))) ∧ ∀ C s' H' fp, CompBody (Itt K a) (g C s' H' fp) (tt C s' H' fp) (te C s' H' fp) σ₀ p Q W :=
  comp_of (Y := fun i H x H1 => H1 = H ∧ xs[i]? = some x) Pv h0 hp hz (fun i acc H hi w => ⟨xs, xs[i], hl i acc H (Nat.le_of_lt hi) w, by simp [hi]⟩) (fun acc H w => ⟨xs, hl _ acc H (Nat.le_refl _) w, Nat.le_refl _⟩)
    (fun i acc H x H1 hi w y => ⟨y.1, y.2 xs (hl i acc H (Nat.le_of_lt hi) w)⟩) (fun C s' H' fp i x acc H H1 hi w y => by
      obtain ⟨e, y⟩ := y
      subst e
      exact hs C s' H' fp i x acc _ y w) hd
theorem comp_range {lo : Int} {n : Nat} (Pv : Nat → List V → Hp → Prop) (h0 : Pv 0 [] (upd H p (.lst []))) (hp : ∀ i acc H, i ≤ n → Pv i acc H → H p = some (.lst acc) ∧ acc.length ≤ i) (hz : n ≤ sizeLine)
    (hs : ∀ C s' H' fp, ∀ i acc H, i < n → Pv i acc H → g C s' H' fp (.int (lo + i)) σ₀ H fun σ2 H2 => tt C s' H' fp σ2 H2 fun b H3 => if b = true then te C s' H' fp σ2 H3 fun y H4 => H4 p = some (.lst acc) ∧ Pv (i + 1) (acc ++ [y]) (upd H4 p (.lst (acc ++ [y]))) else Pv (i + 1) acc H3)
    (hd : ∀ acc H, Pv n acc H → Q (.ref p) H) :
    ∃ W : Nat → Nat → List V → Hp → Prop, (∃ m, W 0 m [] (upd H p (.lst []))) ∧ ∀ C s' H' fp, CompBody (Itr lo n) (g C s' H' fp) (tt C s' H' fp) (te C s' H' fp) σ₀ p Q W :=
  comp_of (Y := fun i H x H1 => H1 = H ∧ x = .int (lo + i)) Pv h0 hp hz (fun i acc H hi w => hi) (fun acc H w => Nat.le_refl _) (fun i acc H x H1 hi w y => y) (fun C s' H' fp i x acc H H1 hi w y => by
      obtain ⟨e, e2⟩ := y
      subst e e2
      exact hs C s' H' fp i acc _ hi w) hd
end
end L2

end

section
-- KcIter
set_option Elab.async false
set_option linter.all false
set_option maxRecDepth 100000
set_option maxHeartbeats 4000000
namespace L2
open PySem PySem.Spec PyProof.Rows

/-! ### drawing from a tuple's iterator inside enumerate and zip -/
section
variable {prog : Program} {w : World} {A : Around} {E : Value → Shared → Prop} {s : Shared}
theorem draw_tuple_item {jt t : Addr} {i : Nat} {its : Array Value} {y : Value} {Q : Value → Shared → Prop} (h1 : s.heap.IsTupleIter jt t i) (h2 : s.heap.IsTuple t its) (hy : its[i]? = some y)
    (k : ∀ h', h'.IsTupleIter jt t (i + 1) → Heap.SameBut jt s.heap h' → Q y { s with heap := h' }) : wpAny (model prog w) A (Builtin.SmallTypes.nextOf (.ref jt)) Q E s := by
  obtain ⟨o, ho, hc, hd⟩ := id h1
  obtain ⟨ot, hot, _, nt, hdt⟩ := h2
  unfold Builtin.SmallTypes.nextOf
  refine wpAny_bind (wpAny_callSpecial?_slot (name := Str.ofString "__next__") h1.typeIs F.slot_tuple_iterator_next (wpAny_call_entry F.slot_tuple_iterator_next h1.typeIs F.entry_tuple_iterator_next ?_ (F.args_tuple_iterator_next_1 _)))
  show wpAny _ _ (field (.ref jt) 0 >>= _) _ _ s
  refine wpAny_bind (wpAny_field ho hd (x := .ref t) rfl ?_)
  show wpAny _ _ (if (Value.ref t == Value.none) = true then _ else _) _ _ s
  rw [if_neg (show ¬ ((Value.ref t == Value.none) = true) from Bool.false_ne_true)]
  show wpAny _ _ (field (.ref jt) 1 >>= _) _ _ s
  refine wpAny_bind (wpAny_field ho hd (x := .int i 0) rfl ?_)
  show wpAny _ _ (seqItems? (.ref t) >>= _) _ _ s
  refine wpAny_bind (wpAny_seqItems hot hdt ?_)
  simp only [Int.toNat_natCast, hy]
  refine wpAny_bind (wpAny_setField ho hd (by simp) (wpAny_pure ⟨y, rfl, wpAny_pure (k _ ?_ (Heap.SameBut.update ..))⟩))
  exact ⟨_, Heap.get?_update_self _ ho (Obj.isFreed_of_fields (Obj.data_mapFields hd _)), (Obj.cls_mapFields ..).trans hc, by rw [Obj.data_mapFields hd]; simp [rawInt]⟩
theorem draw_tuple_end {jt t : Addr} {i : Nat} {its : Array Value} {Q : Value → Shared → Prop} (hh : A.handled = none) (h1 : s.heap.IsTupleIter jt t i) (h2 : s.heap.IsTuple t its) (hy : its[i]? = none)
    (k : ∀ h' e, Heap.ExtBut jt s.heap h' → (∃ o, h'.get? e = some o ∧ o.cls = .type "StopIteration") → E (.ref e) { s with heap := h' }) : wpAny (model prog w) A (Builtin.SmallTypes.nextOf (.ref jt)) Q E s := by
  obtain ⟨o, ho, hc, hd⟩ := id h1
  obtain ⟨ot, hot, _, nt, hdt⟩ := h2
  unfold Builtin.SmallTypes.nextOf
  refine wpAny_bind (wpAny_callSpecial?_slot (name := Str.ofString "__next__") h1.typeIs F.slot_tuple_iterator_next (wpAny_call_entry F.slot_tuple_iterator_next h1.typeIs F.entry_tuple_iterator_next ?_ (F.args_tuple_iterator_next_1 _)))
  show wpAny _ _ (field (.ref jt) 0 >>= _) _ _ s
  refine wpAny_bind (wpAny_field ho hd (x := .ref t) rfl ?_)
  show wpAny _ _ (if (Value.ref t == Value.none) = true then _ else _) _ _ s
  rw [if_neg (show ¬ ((Value.ref t == Value.none) = true) from Bool.false_ne_true)]
  show wpAny _ _ (field (.ref jt) 1 >>= _) _ _ s
  refine wpAny_bind (wpAny_field ho hd (x := .int i 0) rfl ?_)
  show wpAny _ _ (seqItems? (.ref t) >>= _) _ _ s
  refine wpAny_bind (wpAny_seqItems hot hdt ?_)
  simp only [Int.toNat_natCast, hy]
  refine wpAny_bind (wpAny_rule (wpAny_bind (wpAny_setField ho hd (by simp) ?_)))
  show wpAny _ _ (newExc (.type "StopIteration") [] >>= _) _ _ _
  refine wpAny_bind ?_
  simp only [newExc, newTuple]
  refine wpAny_bind (wpAny_newObj_type ?_ (by size_fits))
  refine wpAny_bind (m := firstArgMember _ _) (wpAny_of_eq (a := Value.none) (by first | rfl | (simp only [firstArgMember]; rfl)) ?_)
  refine wpAny_newObj_type ?_ (by size_fits)
  simp only [raiseNew]
  refine wpAny_bind (wpAny_handled ?_)
  first | rw [show A.in1.handled = none from hh] | rw [hh]
  refine wpAny_bind (wpAny_pure (wpAny_throw ?_))
  exact k _ _ (((Heap.SameBut.update ..).extBut.push _).push _) ⟨_, Heap.get?_push_size _ rfl, rfl⟩
end
theorem draws_tuple {prog : Program} {w : World} {A : Around} (hh : A.handled = none) (jt t : Addr) (hne : t ≠ jt) (its : Array Value) :
    Draws prog w A jt [jt, t] its.size (fun i v => its[i]? = some v) (fun i h => h.IsTupleIter jt t i ∧ h.IsTuple t its) where
  live := fun _ _ st => let ⟨o, ho, _⟩ := st.1; ⟨o, ho⟩
  frame := fun _ _ _ st hk => ⟨st.1.at fun o e => hk jt (by simp) o e, let ⟨o, ho, r⟩ := st.2; ⟨o, hk t (by simp) o ho, r⟩⟩
  item := fun i s Q E hi st hQ => draw_tuple_item st.1 st.2 (y := its[i]) (by simp [hi]) fun h' a b => hQ _ h' s.toks (by simp [hi]) ⟨a, st.2.extBut b.extBut hne⟩ b
  done := fun s Q E st hE => draw_tuple_end hh st.1 st.2 (by simp) hE

theorem Inv.offBase {X : Cx} {pins : List (Addr × Obj)} {σ : St} {H : Hp} {s : Shared} {c : Addr} {o : Obj} (I : Inv X pins σ H s) (f : FpOk X pins H c) (e : X.base.get? c = some o) : False := by
  rcases f.2.2.2.1 with z | z
  · exact I.ok.noex c o e z
  · exact absurd (Nat.lt_of_lt_of_le (Heap.lt_size e) (Nat.le_trans I.ok.bsz z)) (Nat.lt_irrefl _)
/-! ### the sources: lists and tuples in one -/
structure Src where
  Sq : PySem.W.Frag → Hp → Addr → List V → Prop
  Is : Heap → Addr → Array Value → Prop
  It : Heap → Addr → Addr → Nat → Prop
  icls : String
  get : ∀ {X : Cx} {pins : List (Addr × Obj)} {σ : St} {H : Hp} {s : Shared} {a : Addr} {xs : List V}, Inv X pins σ H s → Sq X.K H a xs → ∃ its : List Value, Vals xs its ∧ Is s.heap a its.toArray ∧ xs.length ≤ sizeLine
  inj : ∀ {X : Cx} {pins : List (Addr × Obj)} {σ : St} {H : Hp} {s : Shared} {a : Addr} {xs ys : List V}, Inv X pins σ H s → Sq X.K H a xs → Sq X.K H a ys → xs = ys
  off : ∀ {X : Cx} {pins : List (Addr × Obj)} {σ : St} {H : Hp} {s : Shared} {a c : Addr} {xs : List V}, Inv X pins σ H s → Sq X.K H a xs → FpOk X pins H c → c ≠ a
  isSeq : ∀ {h : Heap} {a : Addr} {its : Array Value}, Is h a its → ∃ o n, h.get? a = some o ∧ o.data = .seq its n
  isIt : ∀ {h : Heap} {jt a : Addr} {i : Nat}, It h jt a i → ∃ o, h.get? jt = some o ∧ o.cls = .type icls ∧ o.data = .fields #[.ref a, .int i 0]
  mkI : ∀ {h : Heap} {jt a : Addr} {i : Nat} {o : Obj}, h.get? jt = some o → o.cls = .type icls → o.data = .fields #[.ref a, .int i 0] → It h jt a i
  itKeep : ∀ {h h' : Heap} {jt a : Addr} {i : Nat}, It h jt a i → (∀ o, h.get? jt = some o → h'.get? jt = some o) → It h' jt a i
  isKeep : ∀ {h h' : Heap} {a : Addr} {its : Array Value}, Is h a its → (∀ o, h.get? a = some o → h'.get? a = some o) → Is h' a its
  draws : ∀ {prog : Program} {w : World} {A : Around}, A.handled = none → ∀ (jt a : Addr), a ≠ jt → ∀ its : Array Value, Draws prog w A jt [jt, a] its.size (fun i v => its[i]? = some v) (fun i h => It h jt a i ∧ Is h a its)
  iter : ∀ {prog : Program} {w : World} {A : Around} {E : Value → Shared → Prop} {s : Shared} {a : Addr} {its : Array Value} {Q : Value → Shared → Prop}, Is s.heap a its →
    Q (.ref s.heap.objs.size) { s with heap := s.heap.push { cls := .type icls, data := .fields #[.ref a, .int 0 0] } } → wpAny (model prog w) A (pyIter (.ref a)) Q E s
noncomputable def srcL : Src where
  Sq := SqL
  Is := fun h a its => h.IsList a its
  It := fun h jt a i => h.IsListIter jt a i
  icls := "list_iterator"
  get := fun I h => let ⟨its, r, p, z⟩ := I.list h; ⟨its, r, p.isList, z⟩
  inj := fun I h h' => I.list_inj h h'
  off := fun {X pins σ H s a c xs} I h f e => by
    subst e
    rcases h with (h | ⟨o, h⟩) | ⟨o, its, n, hk, _⟩
    · rw [f.1] at h; cases h
    · rw [f.1] at h; cases h
    · exact I.offBase f (I.ok.mod.kin _ _ hk)
  isSeq := fun h => let ⟨o, ho, _, n, hd⟩ := h; ⟨o, n, ho, hd⟩
  isIt := fun h => h
  mkI := fun h1 h2 h3 => ⟨_, h1, h2, h3⟩
  itKeep := fun h k => h.at k
  isKeep := fun h k => h.at k
  draws := fun hh jt a hne its => Draws.list hh jt a hne its
  iter := fun h q => wpAny_pyIter_list h q
noncomputable def srcT : Src where
  Sq := SqT
  Is := fun h a its => h.IsTuple a its
  It := fun h jt a i => h.IsTupleIter jt a i
  icls := "tuple_iterator"
  get := fun I h => let ⟨its, r, p, z⟩ := I.tuple h; ⟨its, r, p, z⟩
  inj := fun I h h' => I.tuple_inj h h'
  off := fun {X pins σ H s a c xs} I h f e => by
    subst e
    rcases h with (h | ⟨o, h⟩) | ⟨o, its, n, hk, _⟩
    · rw [f.1] at h; cases h
    · rw [f.1] at h; cases h
    · exact I.offBase f (I.ok.mod.kin _ _ hk)
  isSeq := fun h => let ⟨o, ho, _, n, hd⟩ := h; ⟨o, n, ho, hd⟩
  isIt := fun h => h
  mkI := fun h1 h2 h3 => ⟨_, h1, h2, h3⟩
  itKeep := fun h k => h.at k
  isKeep := fun h k => let ⟨o, ho, r⟩ := h; ⟨o, k o ho, r⟩
  draws := fun hh jt a hne its => draws_tuple hh jt a hne its
  iter := fun h q => wpAny_pyIter_tuple h q

/-! ### untracked records turn, a new object is laid -/
theorem Inv.turns {X : Cx} {pins : List (Addr × Obj)} {σ : St} {H : Hp} {s : Shared} {h' : Heap} {t' : Nat} {ch : List Addr} {T : Addr} {o : HO} (I : Inv X pins σ H s) (hf : ∀ b ∈ ch, FpOk X pins H b)
    (k : ∀ b ob, b ∉ ch → s.heap.get? b = some ob → h'.get? b = some ob) (hT : s.heap.objs.size ≤ T) (new : ObjOk X.prog X.w (upd H T o) h' T o) : Inv X pins σ (upd H T o) { s with heap := h', toks := t' } := by
  have hn : H T = none := I.hok.fresh hT
  have nc : ∀ b u, H b = some u → b ∉ ch := fun b u e z => by
    have := (hf b z).1
    rw [e] at this
    cases this
  refine I.step (g' := s.gens) (d' := s.drawn) (ch := ch) (fun b hb => ⟨(hf b hb).2.2.2.1, (hf b hb).2.1, (hf b hb).2.2.2.2.1, (hf b hb).2.2.2.2.2⟩) (fun b ob _ _ hc e _ => k b ob hc e) (fun b ob _ _ hc e _ => ⟨ob.slots, k b ob hc e⟩)
    (fun b ob _ e n => ?_) (fun b ob hc e => ⟨ob, k b ob hc e⟩) (fun b xs e => ?_) (fun b ob xs e => ?_) (fun b ps e => ⟨#[], ?_⟩) (fun m hm => ?_) (fun b u e => ?_) I.bare
  · rw [upd_ne (ltNe (Heap.lt_size e) hT)]
    exact n
  · rw [upd_ne (ne_of_none e hn)]
    exact e
  · rw [upd_ne (ne_of_none e hn)]
    exact e
  · rw [upd_ne (ne_of_none e hn), e]
    simp
  · obtain ⟨ob, es, ep, ho, r⟩ := hm
    exact ⟨ob, es, ep, k _ ob (fun z => (hf _ z).2.1 rfl) ho, r⟩
  · by_cases hb : b = T
    · subst hb
      rw [upd_same] at e
      cases e
      exact new
    · rw [upd_ne hb] at e
      refine (I.hok b u e).stay (fun c v hc q => k c v ?_ q) (fun c q => by rw [upd_ne (ne_of_none q hn)]; exact q) fun c xs q => by rw [upd_ne (ne_of_none q hn)]; exact q
      rcases hc with z | z
      · rw [z]; exact nc b u e
      · exact nc c _ z
theorem Inv.turnsN {X : Cx} {pins : List (Addr × Obj)} {σ : St} {H : Hp} {s : Shared} {h' : Heap} {t' : Nat} {ch : List Addr} (I : Inv X pins σ H s) (hf : ∀ b ∈ ch, FpOk X pins H b)
    (k : ∀ b ob, b ∉ ch → s.heap.get? b = some ob → h'.get? b = some ob) : Inv X pins σ H { s with heap := h', toks := t' } := by
  have nc : ∀ b u, H b = some u → b ∉ ch := fun b u e z => by
    have := (hf b z).1
    rw [e] at this
    cases this
  refine I.step (g' := s.gens) (d' := s.drawn) (ch := ch) (fun b hb => ⟨(hf b hb).2.2.2.1, (hf b hb).2.1, (hf b hb).2.2.2.2.1, (hf b hb).2.2.2.2.2⟩) (fun b ob _ _ hc e _ => k b ob hc e) (fun b ob _ _ hc e _ => ⟨ob.slots, k b ob hc e⟩)
    (fun b ob _ e n => n) (fun b ob hc e => ⟨ob, k b ob hc e⟩) (fun b xs e => e) (fun b ob xs e => e) (fun b ps e => ⟨#[], by rw [e]; simp⟩) (fun m hm => ?_) (fun b u e => ?_) I.bare
  · obtain ⟨ob, es, ep, ho, r⟩ := hm
    exact ⟨ob, es, ep, k _ ob (fun z => (hf _ z).2.1 rfl) ho, r⟩
  · refine (I.hok b u e).stay (fun c v hc q => k c v ?_ q) (fun c q => q) fun c xs q => q
    rcases hc with z | z
    · rw [z]; exact nc b u e
    · exact nc c _ z

/-! ### enumerate, its tuples unpacked -/
noncomputable def Ite (S : Src) (K : PySem.W.Frag) (a : Addr) : It :=
  ⟨fun i H => ∃ xs x, S.Sq K H a xs ∧ xs[i]? = some x, fun i H x H' => ∃ T v, H T = none ∧ x = .ref T ∧ H' = upd H T (.tup [.int i, v]) ∧ ∀ xs, S.Sq K H a xs → xs[i]? = some v, fun i H => ∃ xs, S.Sq K H a xs ∧ xs.length = i⟩
theorem turn_enum {P : Program} {w : World} {K : PySem.W.Frag} {elts : List Expr} {k0 : Nat} {pos : Pos} (S : Src) (a e it : Addr) (hl : S.icls ≠ "enumerate") :
    Turn P w K (.Tuple elts k0 pos) (Ite S K a) [e, it] e (fun i h => (∃ old, IsEnum h e it i old) ∧ S.It h it a i) where
  mem := by simp
  obj := fun i h st b hb => by
    obtain ⟨⟨old, he⟩, hi⟩ := st
    rcases List.mem_cons.mp hb with rfl | hb
    · exact ⟨_, he, fun v z => nomatch z⟩
    · obtain rfl := List.mem_singleton.mp hb
      obtain ⟨o, ho, _, hd⟩ := S.isIt hi
      exact ⟨o, ho, fun v z => by rw [hd] at z; cases z⟩
  keep := fun i h h' st k => by
    obtain ⟨⟨old, he⟩, hi⟩ := st
    exact ⟨⟨old, k e (by simp) _ he⟩, S.itKeep hi fun o q => k it (by simp) o q⟩
  item := by
    intro X hP hw hK hc i pins s σ H E I hf st hg
    subst hP hw hK
    obtain ⟨xs, x, hq, hx⟩ := hg
    obtain ⟨its, rv, p, hz⟩ := S.get I hq
    obtain ⟨⟨old, he⟩, hi⟩ := st
    obtain ⟨u, hu, ru⟩ := rv.get hx
    obtain ⟨oa, na, hoa, hda⟩ := S.isSeq p
    obtain ⟨oi, hoi, hci, hdi⟩ := S.isIt hi
    have nei : e ≠ it := fun z => by
      have he' : s.heap.get? e = some _ := he
      rw [z, hoi] at he'
      cases he'
      exact hl (by simpa using hci.symm)
    have nae : e ≠ a := S.off I hq (hf e (by simp))
    have nai : a ≠ it := fun z => by
      rw [z, hoi] at hoa
      cases hoa
      rw [hdi] at hda
      cases hda
    have hlt : i < its.toArray.size := by
      have := (List.getElem?_eq_some_iff.mp hu).1
      simpa using this
    refine wpAny_pyNext_enum_itemD (S.draws (A := X.A.in1) (show X.A.in1.handled = none from I.ok.hd hc) it a nai its.toArray) he ⟨hi, p⟩ hlt nei (by simp [nei, nae]) fun y h1 tk hP ho hs1 hT hsz hk => ⟨_, rfl, ?_⟩
    have hy : y = u := by
      have : its.toArray[i]? = some u := by simpa using hu
      rw [this] at hP
      exact (Option.some.inj hP).symm
    subst hy
    refine wpAny_letOwnedTupleGo_enum ho fun h2 he2 hs2 => ?_
    have elt : e < s.heap.objs.size := Heap.lt_size he
    have hT2 : h2.get? s.heap.objs.size = some { cls := .type "tuple", data := .seq #[.int i tk, y] } := hs2.extBut _ _ (neLt (Nat.le_refl _) elt) hT
    have kept : ∀ b ob, b ∉ [e, it] → s.heap.get? b = some ob → h2.get? b = some ob := fun b ob hb q => by
      have h1' : b ≠ e := fun z => hb (by simp [z])
      exact hs2.extBut _ _ h1' (hk b ob h1' (fun z => hb (by simp [z])) q)
    refine ⟨.ref s.heap.objs.size, upd H s.heap.objs.size (.tup [.int i, x]), ?_, rfl, ⟨_, x, I.fresh, rfl, rfl, fun ys hy => by rw [S.inj I hy hq]; exact hx⟩, ⟨⟨_, he2⟩, S.itKeep hs1.1 fun o q => hs2.extBut _ _ (Ne.symm nei) q⟩, fun b hb => ?_⟩
    · refine I.turns (t' := tk + 1) hf kept (Nat.le_refl _) ⟨(by show 2 ≤ sizeLine; decide), [.int i tk, y], .cons ⟨tk, rfl⟩ (.cons ru .nil), _, hT2, rfl, ⟨0, rfl⟩, rfl⟩
    · have lt : b < s.heap.objs.size := by
        rcases List.mem_cons.mp hb with rfl | hb
        · exact elt
        · obtain rfl := List.mem_singleton.mp hb
          exact Heap.lt_size hoi
      rw [upd_ne (ltNe lt (Nat.le_refl _))]
      exact (hf b hb).1
  done := by
    intro X hP hw hK hc i pins s σ H E I hf st hg
    subst hP hw hK
    obtain ⟨xs, hq, hx⟩ := hg
    obtain ⟨its, rv, p, hz⟩ := S.get I hq
    obtain ⟨⟨old, he⟩, hi⟩ := st
    obtain ⟨oa, na, hoa, hda⟩ := S.isSeq p
    obtain ⟨oi, hoi, hci, hdi⟩ := S.isIt hi
    have nai : a ≠ it := fun z => by
      rw [z, hoi] at hoa
      cases hoa
      rw [hdi] at hda
      cases hda
    have hsz : i = its.toArray.size := by
      have := rv.length
      simp only [List.size_toArray]
      omega
    subst hsz
    exact wpAny_pyNext_enum_endD (S.draws (A := X.A.in1) (show X.A.in1.handled = none from I.ok.hd hc) it a nai its.toArray) he ⟨hi, p⟩ fun h' hx' => ⟨rfl, I.turnsN (t' := s.toks) hf fun b ob hb q => hx' b ob (fun z => hb (by simp [z])) q⟩
  self := fun _ _ _ _ _ st h => by
    obtain ⟨⟨old, he⟩, _⟩ := st
    exact wpAny_pyIter_enum he h
section
variable {X : Cx} {elts : List Expr} {k0 : Nat} {tpos : Pos}
theorem new_enum (S : Src) (l : Addr) (its : Array Value) :
    Meets (Builtin.«enumerate.__new__» ⟨[.type "enumerate", .ref l], []⟩) (fun _ R s => S.Is s.heap l its ∧
      R (.ok (.ret (.ref (s.heap.push { cls := .type S.icls, data := .fields #[.ref l, .int 0 0] }).objs.size)))
        { s with heap := (s.heap.push { cls := .type S.icls, data := .fields #[.ref l, .int 0 0] }).push { cls := .type "enumerate", data := .fields #[.none, .bool false, .ref s.heap.objs.size, rawInt 0, .none, .none] } }) :=
  .of_wp fun prog w A R s h => by
    obtain ⟨hp, g, d, tk, os⟩ := s
    obtain ⟨hl, h⟩ := h
    have hsub := sub_enumerate
    have hL : S.Is (Shared.heap ⟨hp, g, d, tk, os⟩) l its := hl
    wp_walk
    refine wpAny_stack_any fun st => wpAny_pure ?_
    split
    · rename_i c _ _ _ _ _
      cases (c == Value.type "enumerate")
      · wp_walk using S.iter hL
        exact ⟨_, rfl, h⟩
      · wp_walk using S.iter hL
        exact ⟨_, rfl, h⟩
    · wp_walk using S.iter hL
      exact ⟨_, rfl, h⟩
theorem call_enum (S : Src) {prog : Program} {w : World} {A : Around} {E : Value → Shared → Prop} {s : Shared} {l : Addr} {its : Array Value} {Q : Value → Shared → Prop} (hL : S.Is s.heap l its)
    (h : ∀ h', IsEnum h' (s.heap.objs.size + 1) s.heap.objs.size 0 .none → S.It h' s.heap.objs.size l 0 → (∀ b o, s.heap.get? b = some o → h'.get? b = some o) → Q (.ref (s.heap.objs.size + 1)) { s with heap := h' }) :
    wpAny (model prog w) A (call (.type "enumerate") [.ref l]) Q E s := by
  refine callType_new F.called_enumerate (by decide) (F.typeCall_enumerate_1 _) (F.newCall_enumerate_1 _) (fun obj => F.args_object_init_2 obj _) F.entry_enumerate_new (new_enum S l its) ⟨hL, ?_⟩
  have hz : (s.heap.push { cls := .type S.icls, data := .fields #[.ref l, .int 0 0] }).objs.size = s.heap.objs.size + 1 := Heap.size_push ..
  show _ ∧ _
  rw [hz]
  have he := Heap.get?_push_size (s.heap.push { cls := .type S.icls, data := .fields #[.ref l, .int 0 0] }) (o := { cls := .type "enumerate", data := .fields #[.none, .bool false, .ref s.heap.objs.size, rawInt 0, .none, .none] }) rfl
  rw [hz] at he
  exact ⟨⟨_, he, rfl⟩, h _ he (S.mkI (Heap.get?_push_of_some _ (Heap.get?_push_size _ rfl)) rfl rfl) fun b o q => Heap.get?_push_of_some _ (Heap.get?_push_of_some _ q)⟩
noncomputable def iEnum (S : Src) (K : PySem.W.Frag) (ta : TA) : TI := fun σ H R => ta σ H fun vs H1 => ∃ a xs, vs = [.ref a] ∧ S.Sq K H1 a xs ∧ R (Ite S K a) H1
theorem pi_enum (S : Src) {a : Expr} {ta : TA} {p pos : Pos} (hg : Gl X "enumerate") (hm : X.mg "enumerate" = none) (hS : S.icls ≠ "enumerate") (ha : PA X [a] ta) (hs : starEach [a] X.env = [(false, eval a X.env)] := by rfl) :
    PI X (.Tuple elts k0 tpos) (.Call (.Name "enumerate" p) [a] [] pos) (iEnum S X.K ta) := by
  intro pins s σ H R I h
  refine Call_ (ld_blt I hg hm boot_enumerate (PyProof.Rows.callWith_type1 (thn (ha pos pins s σ H _ I h) fun us s1 ⟨vs, H1, I1, r1, q1⟩ => ?_) hs rfl))
  obtain ⟨l, xs, e, hq, q⟩ := q1
  subst e
  obtain ⟨u, rfl, ru⟩ := r1.one
  cases ru
  obtain ⟨its, rv, p', hz⟩ := S.get I1 hq
  refine call_enum S p' fun h' he hi kp => wpAny_pyIter_enum he ?_
  have I2 : Inv X pins σ H1 { s1 with heap := h' } := I1.kept (t' := s1.toks) kp
  refine ⟨s1.heap.objs.size + 1, [s1.heap.objs.size + 1, s1.heap.objs.size], _, _, H1, rfl, I2, turn_enum S l _ _ hS, ⟨⟨_, he⟩, hi⟩, fun b hb => ?_, q⟩
  have hb' : s1.heap.objs.size ≤ b := by
    rcases List.mem_cons.mp hb with rfl | hb
    · exact Nat.le_succ _
    · obtain rfl := List.mem_singleton.mp hb
      exact Nat.le_refl _
  exact I1.fpOk hb' (I1.hok.fresh hb')
end
end L2

end

section
-- KcOps
set_option Elab.async false
set_option linter.all false
set_option maxRecDepth 100000
set_option maxHeartbeats 4000000
namespace L2
open PySem PySem.Spec PyProof.Rows

section
variable {X : Cx}
/-! ### isinstance(x, T) for a built-in T -/
noncomputable def rIsi (K : PySem.W.Frag) : List V → Hp → VK → Prop := fun xs H Q => ∃ x T t b, xs = [x, .ty T] ∧ TyOf K H x t ∧ PySem.W.kitOne K t (.type T) = some b ∧ Q (.bl b) H
theorem call_isi : CallR X (.builtin "isinstance") (rIsi X.K) := by
  intro pins s σ H xs us Q I r h
  obtain ⟨x, T, t, b, rfl, ty, e, q⟩ := h
  obtain ⟨u, v, rfl, ru, rv⟩ := r.two
  cases (show v = Value.type T from rv)
  exact isinst_ok I ru ty e fun tk => ⟨.bl b, H, I.tok tk, rfl, q⟩
theorem kit_int_int (K : PySem.W.Frag) : PySem.W.kitOne K (.type "int") (.type "int") = some true := by unfold PySem.W.kitOne; rw [if_pos (beq_self_eq_true _)]
theorem kit_int_bool (K : PySem.W.Frag) : PySem.W.kitOne K (.type "int") (.type "bool") = some false := by show (if (Value.type "int" == Value.type "bool") = true then some true else if PySem.W.kitMeta "bool" = true then (fastBuiltinMro "int").map (·.contains (.type "bool")) else none) = some false; decide +kernel
theorem kit_bool_bool (K : PySem.W.Frag) : PySem.W.kitOne K (.type "bool") (.type "bool") = some true := by unfold PySem.W.kitOne; rw [if_pos (beq_self_eq_true _)]
theorem kit_tup_tup (K : PySem.W.Frag) : PySem.W.kitOne K (.type "tuple") (.type "tuple") = some true := by unfold PySem.W.kitOne; rw [if_pos (beq_self_eq_true _)]
theorem kit_lst_lst (K : PySem.W.Frag) : PySem.W.kitOne K (.type "list") (.type "list") = some true := by unfold PySem.W.kitOne; rw [if_pos (beq_self_eq_true _)]

/-! ### all of a list of truths, sum of a list of ints -/
theorem all_get : ∀ (bs : List Bool), (List.range bs.length).all (fun i => bs.getD i false) = bs.all id := by
  intro bs
  induction bs with
  | nil => rfl
  | cons b r ih =>
    rw [List.length_cons, List.range_succ_eq_map, List.all_cons, List.all_map, List.all_cons]
    show (b && _) = (b && _)
    rw [← ih]
    rfl
theorem vals_bl {bs : List Bool} {us : List Value} (r : Vals (bs.map V.bl) us) : us = bs.map Value.bool := by
  induction bs generalizing us with
  | nil => cases r; rfl
  | cons b t ih =>
    cases r with
    | cons q r' =>
      rw [List.map_cons, ← ih r', show _ = Value.bool b from q]
theorem Inv.walked {pins : List (Addr × Obj)} {σ : St} {H : Hp} {s : Shared} {h' : Heap} {tk : Nat} {o : Obj} (I : Inv X pins σ H s) (hk : ∀ b ob, b ∉ [s.heap.objs.size] → (s.heap.push o).get? b = some ob → h'.get? b = some ob) : Inv X pins σ H { s with heap := h', toks := tk } :=
  I.kept fun b ob e => hk b ob (fun z => absurd (List.mem_singleton.mp z) (Nat.ne_of_lt (Heap.lt_size e))) (Heap.get?_push_of_some _ e)
theorem call_allL (hc : X.calm = true) : CallR X (.builtin "all") (fun xs H Q => ∃ (p : Addr) (bs : List Bool), xs = [.ref p] ∧ SqL X.K H p (bs.map V.bl) ∧ Q (.bl (bs.all id)) H) := by
  intro pins s σ H xs us Q I r h
  obtain ⟨p, bs, rfl, hq, q⟩ := h
  obtain ⟨u, rfl, rx⟩ := r.one
  cases rx
  obtain ⟨its, rv, pl, hz⟩ := I.list hq
  have e := vals_bl rv
  subst e
  refine call_all_walk (wpAny_pyIter_list pl.isList ⟨s.heap.objs.size, _, _, _, _, _, fun i => bs.getD i false, rfl, Walks.list (show X.A.in1.handled = none from I.ok.hd hc) _ p (by obtain ⟨o, ho, _⟩ := pl.isList; exact Nat.ne_of_lt (Heap.lt_size ho)) (bs.map Value.bool).toArray,
    ⟨⟨_, Heap.get?_push_size _ rfl, rfl, rfl⟩, pl.isList.push _⟩, ?_, fun h' tk hk => ?_⟩)
  · intro i v s' Q' E' hP hQ
    have hP' : (bs.map Value.bool)[i]? = some v := by simpa using hP
    rw [List.getElem?_map] at hP'
    cases e : bs[i]? with
    | none => rw [e] at hP'; cases hP'
    | some b =>
      rw [e] at hP'
      cases hP'
      have : bs.getD i false = b := by rw [List.getD_eq_getElem?_getD, e]; rfl
      have hQ' : Q' (bs.getD i false) s' := hQ
      rw [this] at hQ'
      exact wpAny_truthy_bool hQ'
  · refine ⟨.bl (bs.all id), H, I.walked hk, ?_, q⟩
    show Value.bool _ = Value.bool _
    rw [← all_get]
    simp
theorem preSum_list (ns : List Int) : ∀ k, k ≤ ns.length → preSum (fun i => ns.getD i 0) k = (ns.take k).sum := by
  intro k
  induction k with
  | zero => intro _; simp [preSum]
  | succ k ih =>
    intro hk
    have hlt : k < ns.length := hk
    rw [preSum, ih (Nat.le_of_lt hlt), List.take_add_one, List.sum_append, List.getElem?_eq_getElem hlt, List.getD_eq_getElem?_getD, List.getElem?_eq_getElem hlt]
    simp
theorem call_sumL (hc : X.calm = true) : CallR X (.builtin "sum") (fun xs H Q => ∃ (p : Addr) (ns : List Int), xs = [.ref p] ∧ SqL X.K H p (ns.map V.int) ∧ Q (.int ns.sum) H) := by
  intro pins s σ H xs us Q I r h
  obtain ⟨p, ns, rfl, hq, q⟩ := h
  obtain ⟨u, rfl, rx⟩ := r.one
  cases rx
  obtain ⟨its, rv, pl, hz⟩ := I.list hq
  have hlen : ns.length = its.length := by have := rv.length; simpa using this
  have ia := intsAre_of rv
  refine call_sum_walkG (wpAny_pyIter_list pl.isList ⟨s.heap.objs.size, _, _, _, _, _, fun i => ns.getD i 0, rfl, Walks.list (show X.A.in1.handled = none from I.ok.hd hc) _ p (by obtain ⟨o, ho, _⟩ := pl.isList; exact Nat.ne_of_lt (Heap.lt_size ho)) its.toArray,
    ⟨⟨_, Heap.get?_push_size _ rfl, rfl, rfl⟩, pl.isList.push _⟩, fun b hb => ?_, ?_, fun h' tk t' hk => ?_⟩)
  · have hp : p < s.heap.objs.size := by
      obtain ⟨o, ho, _⟩ := pl.isList
      exact Heap.lt_size ho
    show b < (s.heap.push _).objs.size
    rw [Heap.size_push]
    rcases List.mem_cons.mp hb with rfl | hb
    · exact Nat.lt_succ_self _
    · obtain rfl := List.mem_singleton.mp hb
      exact Nat.lt_succ_of_lt hp
  · intro i v hP
    have hP' : its[i]? = some v := by simpa using hP
    have hlt : i < ns.length := by
      have := (List.getElem?_eq_some_iff.mp hP').1
      omega
    obtain ⟨u', hu', ru'⟩ := rv.get (x := .int ns[i]) (i := i) (by rw [List.getElem?_map, List.getElem?_eq_getElem hlt] <;> rfl)
    rw [hP'] at hu'
    cases hu'
    obtain ⟨t, e⟩ := (show ∃ t, v = Value.int ns[i] t from ru')
    refine ⟨t, ?_⟩
    show v = Value.int (ns.getD i 0) t
    rw [e, List.getD_eq_getElem?_getD, List.getElem?_eq_getElem hlt]
    rfl
  · refine ⟨.int ns.sum, H, I.walked hk, ⟨t', ?_⟩, q⟩
    rw [show its.toArray.size = ns.length by simp; omega, preSum_list ns _ (Nat.le_refl _), List.take_length]

/-! ### == and != of two lists, two tuples, item by item: flat items, or one and the same object -/
noncomputable def EqE (x y : V) (b : Bool) : Prop := (flatV x = true ∧ flatV y = true ∧ b = eqV x y) ∨ (∃ a, x = .ref a ∧ y = .ref a ∧ b = true)
theorem EqE.at {A : Around} {s : Shared} {x y : V} {b : Bool} {u v : Value} (h : EqE x y b) (ru : RelV x u) (rv : RelV y v) : SeqAt.EqAt A s u v b := by
  rcases h with ⟨f1, f2, rfl⟩ | ⟨a, rfl, rfl, rfl⟩
  · exact eqAt_V ru rv f1 f2
  · cases ru
    cases rv
    exact SeqAt.EqAt.same _
noncomputable def EqEs (xs ys : List V) (e : Nat → Bool) : Prop := ∀ j x y, xs[j]? = some x → ys[j]? = some y → EqE x y (e j)
theorem eqes_at {A : Around} {s : Shared} {xs ys : List V} {e : Nat → Bool} {us vs : List Value} (h : EqEs xs ys e) (ru : Vals xs us) (rv : Vals ys vs) :
    ∀ j (h1 : j < us.toArray.size) (h2 : j < vs.toArray.size), SeqAt.EqAt A s us.toArray[j] vs.toArray[j] (e j) := by
  intro j h1 h2
  have h1' : j < xs.length := by rw [ru.length]; simpa using h1
  have h2' : j < ys.length := by rw [rv.length]; simpa using h2
  obtain ⟨u, eu, r1⟩ := ru.get (List.getElem?_eq_getElem h1')
  obtain ⟨v, ev, r2⟩ := rv.get (List.getElem?_eq_getElem h2')
  have q := (h j _ _ (List.getElem?_eq_getElem h1') (List.getElem?_eq_getElem h2')).at (A := A) (s := s) r1 r2
  have e1 : us.toArray[j] = u := by
    have := (List.getElem?_eq_some_iff.mp eu).2
    simpa using this
  have e2 : vs.toArray[j] = v := by
    have := (List.getElem?_eq_some_iff.mp ev).2
    simpa using this
  rw [e1, e2]
  exact q
noncomputable def eqAns (xs ys : List V) (e : Nat → Bool) : Bool := (List.range (min xs.length ys.length)).all e && xs.length == ys.length
noncomputable def rEqS (Sq : Hp → Addr → List V → Prop) (neg : Bool) : R2 := fun x y H Q => ∃ a b xs ys e, x = .ref a ∧ y = .ref b ∧ Sq H a xs ∧ Sq H b ys ∧ EqEs xs ys e ∧ Q (.bl (if neg then !eqAns xs ys e else eqAns xs ys e)) H
theorem op_neL (hu : X.A.units < cLine) : OpR X (compareOp .NotEq) (rEqS (SqL X.K) true) := by
  intro pins s σ H x y v u Q I r1 r2 h
  obtain ⟨a, b, xs, ys, e, rfl, rfl, ha, hb, he, q⟩ := h
  cases r1
  cases r2
  obtain ⟨us, ru, pu, _⟩ := I.list ha
  obtain ⟨vs, rv, pv, _⟩ := I.list hb
  have h1 := ru.length
  have h2 := rv.length
  by_cases hl : xs.length = ys.length
  · refine SeqAt.RcNeAt.lists (e := e) pu.isList pv.isList (by simp only [List.size_toArray]; omega) hu (eqes_at he ru rv) _ _ _ _ ⟨.bl (!eqAns xs ys e), H, I, ?_, q⟩
    show Value.bool _ = Value.bool _
    unfold eqAns
    rw [List.size_toArray, ← h1, hl, Nat.min_self, beq_self_eq_true, Bool.and_true]
  · refine SeqAt.RcNeAt.lists_lengths pu.isList pv.isList (by simp only [List.size_toArray, bne_iff_ne]; omega) hu _ _ _ _ ⟨.bl (!eqAns xs ys e), H, I, ?_, q⟩
    show Value.bool _ = Value.bool _
    unfold eqAns
    rw [beq_eq_false_iff_ne.mpr hl, Bool.and_false]
    rfl
end
end L2

end

section
-- KcBase
set_option Elab.async false
set_option linter.all false
set_option maxRecDepth 100000
set_option maxHeartbeats 4000000
namespace L2
open PySem PySem.Spec PyProof.Rows

/-! ### an own def that is called, all that is asked of it in one -/
noncomputable def FnB (P : Program) (w : World) (K : PySem.W.Frag) (mg : Str → Option Value) (base : Heap) (k : Nat) (x : Str) (ps : List Str) (sp : Sp) : Prop :=
  ∃ f fd, FnOk P w K mg base CX0 k f fd ps sp ∧ mg x = some (.ref f) ∧ PySem.W.keepIn K (.ref f) = true ∧ Binds K fd ps []
theorem pe_callF {X : Cx} {k : Nat} {x : Str} {ps : List Str} {sp : Sp} {p pos : Pos} {e : Expr} {es : List Expr} {t : TA} (F : FnB X.prog X.w X.K X.mg X.base k x ps sp) (hr : Room k X.A) (ha : PA X (e :: es) t) (hg : Gl X x := by rfl)
    (hdb : (x == ("__debug__" : Str)) = false := by decide) (he : starEach (e :: es) X.env = (false, eval e X.env) :: starEach es X.env := by rfl) (hpl : (backTo pos (starEach es X.env)).any (·.1) = false := by rfl) :
    PE X (.Call (.Name x p) (e :: es) [] pos) (tCall sp [] E0 t) := by
  obtain ⟨f, fd, ok, m, kp, b⟩ := F
  exact pe_call ok hr hg m kp b .nil pass0 ha hdb he hpl
theorem FnB.mono {P : Program} {w : World} {K : PySem.W.Frag} {mg : Str → Option Value} {base : Heap} {j k : Nat} {x : Str} {ps : List Str} {sp : Sp} (F : FnB P w K mg base j x ps sp) (h : j ≤ k) : FnB P w K mg base k x ps sp := by
  obtain ⟨f, fd, ok, r⟩ := F
  exact ⟨f, fd, ok.mono h, r⟩
structure Def (K : PySem.W.Frag) (mg : Str → Option Value) (x : Str) (st : Stmt) (ps : List Str) (f : Addr) (fd : FuncData) : Prop where
  fn : Fun K x x st f fd
  m : mg x = some (.ref f)
  b : Binds K fd ps []
theorem Def.ok {P : Program} {w : World} {K : PySem.W.Frag} {mg : Str → Option Value} {base : Heap} {x : Str} {st : Stmt} {N ps : List Str} {f : Addr} {fd : FuncData} {k : Nat} {sp : Sp} (D : Def K mg x st ps f fd) (S : FnScope N ps (defScope st)) (len : ∀ vs H Q E, sp vs H Q E → vs.length = ps.length)
    (hbody : ∀ (cdv : Value) (A : Around) (outer : List Env) (s : Shared) (H : Hp) (vs : List V) (Q : VK) (E : XK), Room k (A.deeper (envOfC x (defScope st) s.heap.objs.size f cdv)) → sp vs H Q E →
      ∃ t, PSs (cxOf CX0 P w K mg base N x (defScope st) f cdv A outer s H E).nox (defBody st) t ∧ t { nx := fun _ H' => Q .non H', rt := Q } (start N vs) H) : FnB P w K mg base (k + 1) x ps sp :=
  ⟨f, fd, D.fn.ok S len hbody, D.m, D.fn.kp, D.b⟩

/-! ### products of ints of many figures -/
theorem op_mulB {X : Cx} : OpR X (binaryOp .Mult) (rI IntMulOk fun i j => .int (i * j)) := opI fun _ _ _ _ _ _ _ hc q => mul_int q hc

/-! ### the law's head, with the bits of the script's ints -/
theorem bits_items : ∀ (ns : List Int), ∀ n ∈ ns, Builtin.Int.intBits n ≤ PySem.W.WData.weightAll (ns.map PySem.W.WData.int)
  | [], n, h => (nomatch h)
  | m :: r, n, h => by
    rw [List.map_cons, PySem.W.WData.weightAll]
    have e : PySem.W.WData.weight (.int m) = Builtin.Int.intBits m := by
      rw [PySem.W.WData.weight]
      rfl
    rw [e]
    rcases List.mem_cons.mp h with rfl | h
    · omega
    · have := bits_items r n h
      omega
theorem bits_of_lay {ns : List Int} (h : PySem.W.WData.layableAll [PySem.W.WData.list (ns.map PySem.W.WData.int)] = true) : ∀ n ∈ ns, Builtin.Int.intBits n ≤ 1048576 := by
  intro n hn
  have h1 : PySem.W.WData.layable (PySem.W.WData.list (ns.map PySem.W.WData.int)) = true := by
    unfold PySem.W.WData.layableAll at h
    rw [List.all_cons, Bool.and_eq_true] at h
    exact h.1
  unfold PySem.W.WData.layable at h1
  rw [Bool.and_eq_true] at h1
  have h2 : PySem.W.WData.weight (PySem.W.WData.list (ns.map PySem.W.WData.int)) ≤ 2 ^ 20 := of_decide_eq_true h1.2
  rw [PySem.W.WData.weight] at h2
  have h3 := bits_items ns n hn
  have e : (2 : Nat) ^ 20 = 1048576 := by decide
  omega
noncomputable def ScriptOk (K : PySem.W.Frag) (H : Hp) (a : Addr) (ns : List Int) : Prop := SqL K H a (ns.map V.int) ∧ ns.length ≤ 63 ∧ ∀ n ∈ ns, Builtin.Int.intBits n ≤ 1048576
noncomputable def spLaw (K : PySem.W.Frag) : Sp := fun vs H Q _ => ∃ (a : Addr) (ns : List Int), vs = [.ref a] ∧ ScriptOk K H a ns ∧ ∀ H', Q (.bl true) H'
theorem walk_ofB {l : PySem.W.OpenLaw} {k : Nat} {q : Program} {loose : List Str} {XP : (Str → Option Value) → Heap → Prop} {YP : World → Heap → Prop} {d : DefRec} {K : Params → PySem.W.Frag} {x : Str}
    (hn : l.most = some 63) (hdf : d.params.defaults = []) (hr : Room k callerA) (hY : ∀ (w : World) (h : Heap), YP w h → (K w.params).In h)
    (F : ∀ (w : World) (mg : Str → Option Value) (fa : Addr) (h : Heap), (K w.params).In h → h.Ns mainGlobals mg → mg d.name = some (.ref fa) →
      ∃ fd : FuncData, (∀ (s : Shared) (u : Value), BindsTo s fd ⟨[u], []⟩ [(x, u)]) ∧
        ∀ base : Heap, (K w.params).In base → base.Ns mainGlobals mg → FnOk l.prog w (K w.params) mg base CX0 k fa fd [x] (spLaw (K w.params))) :
    PySem.W.WalkO q loose XP YP l.row.toRowW d [] (fun f vs => PySem.call f vs) := by
  intro w s₀ s₁ mg mb G Y fa o pm cd doc dV kV ho hd hcd hD hmg hg args vals as hpre hlay hrd hwl hlo
  obtain rfl : dV = .none := PySem.W.Dflts.none hD hdf
  obtain rfl : kV = .none := PySem.W.Dflts.noKw hD
  obtain ⟨a, vs, ns, rfl, rfl, hobj, hints, hlen⟩ := Att.script_of hn hpre hwl
  have hbits := bits_of_lay hlay
  have KX := hY w _ Y
  obtain ⟨fd, hb, hF⟩ := F w mg fa _ KX G.T.g hmg
  have c := law_call KX G.T.g G.T.b G.T.builtins G.T.nolimit hg hobj hints (Nat.le_trans hlen (by decide)) hr hF hb (fun H hO hS => ⟨a, ns, rfl, ⟨hS, hlen, hbits⟩, fun _ => rfl⟩) fun H e s' z => z
  refine PySem.W.enter_call (codeAny_mono c fun r s' hq => ?_)
  obtain ⟨rfl, h2, h3, h4⟩ := hq
  exact ⟨.inl ⟨.bool true, .bool true, [], rfl, fun _ => rfl, .bool true, Att.post_true l _, fun _ => ⟨List.Pairwise.nil, fun _ hm => (nomatch hm)⟩⟩, h2, h3, h4⟩

/-! ### loops over any source -/
theorem for_of {J : It} {n : Nat} {g : TG} {tb : TS} {D : Ends} {σ : St} {H : Hp} {Y : Nat → Hp → V → Hp → Prop} (Pv : Nat → St → Hp → Prop) (h0 : Pv 0 σ H) (hgo : ∀ i σ H, i < n → Pv i σ H → J.go i H) (hst : ∀ σ H, Pv n σ H → J.stop n H)
    (hy : ∀ i σ H x H1, i < n → Pv i σ H → J.yld i H x H1 → Y i H x H1) (hs : ∀ i x σ H H1, i < n → Pv i σ H → Y i H x H1 → g x σ H1 fun σ2 H2 => tb { D with nx := Pv (i + 1), ct := Pv (i + 1), bk := D.nx } σ2 H2) (hd : ∀ σ H, Pv n σ H → D.nx σ H) :
    ∃ W : Nat → Nat → St → Hp → Prop, (∃ m, W 0 m σ H) ∧ ∀ i m σ H, W i m σ H →
      (J.stop i H ∧ D.nx σ H) ∨ (J.go i H ∧ ∃ N : St → Hp → Prop, (∀ σ' H', N σ' H' → ∃ m', m' < m ∧ W (i + 1) m' σ' H') ∧ ∀ x H', J.yld i H x H' → g x σ H' fun σ2 H2 => tb { D with nx := N, ct := N, bk := D.nx } σ2 H2) := by
  refine ⟨fun i m σ H => m = n - i ∧ i ≤ n ∧ Pv i σ H, ⟨n, by simp, Nat.zero_le _, h0⟩, ?_⟩
  rintro i m σ H ⟨rfl, hi, p⟩
  by_cases hlt : i < n
  · exact .inr ⟨hgo i σ H hlt p, Pv (i + 1), fun σ' H' p' => ⟨n - (i + 1), by omega, rfl, hlt, p'⟩, fun x H' y => hs i x σ H H' hlt p (hy i σ H x H' hlt p y)⟩
  · have e : i = n := by omega
    subst e
    exact .inl ⟨hst σ H p, hd σ H p⟩
theorem for_enum {S : Src} {K : PySem.W.Frag} {a : Addr} {xs : List V} {g : TG} {tb : TS} {D : Ends} {σ : St} {H : Hp} (Pv : Nat → St → Hp → Prop) (h0 : Pv 0 σ H) (hl : ∀ i σ H, i ≤ xs.length → Pv i σ H → S.Sq K H a xs)
    (hs : ∀ i x T σ H, xs[i]? = some x → Pv i σ H → H T = none → g (.ref T) σ (upd H T (.tup [.int i, x])) fun σ2 H2 => tb { D with nx := Pv (i + 1), ct := Pv (i + 1), bk := D.nx } σ2 H2) (hd : ∀ σ H, Pv xs.length σ H → D.nx σ H) :
    ∃ W : Nat → Nat → St → Hp → Prop, (∃ m, W 0 m σ H) ∧ ∀ i m σ H, W i m σ H →
      ((Ite S K a).stop i H ∧ D.nx σ H) ∨ ((Ite S K a).go i H ∧ ∃ N : St → Hp → Prop, (∀ σ' H', N σ' H' → ∃ m', m' < m ∧ W (i + 1) m' σ' H') ∧ ∀ x H', (Ite S K a).yld i H x H' → g x σ H' fun σ2 H2 => tb { D with nx := N, ct := N, bk := D.nx } σ2 H2) :=
  for_of (J := Ite S K a) (n := xs.length) (Y := fun i H x H1 => ∃ T v, H T = none ∧ x = .ref T ∧ H1 = upd H T (.tup [.int i, v]) ∧ xs[i]? = some v) Pv h0 (fun i σ H hi w => ⟨xs, xs[i], hl i σ H (Nat.le_of_lt hi) w, by simp [hi]⟩) (fun σ H w => ⟨xs, hl _ σ H (Nat.le_refl _) w, rfl⟩)
    (fun i σ H x H1 hi w y => by
      obtain ⟨T, v, e1, e2, e3, e4⟩ := y
      exact ⟨T, v, e1, e2, e3, e4 xs (hl i σ H (Nat.le_of_lt hi) w)⟩) (fun i x σ H H1 hi w y => by
      obtain ⟨T, v, e1, rfl, rfl, e4⟩ := y
      exact hs i v T σ H e4 w e1) hd
theorem comp_enum {S : Src} {K : PySem.W.Frag} {a : Addr} {xs : List V} {g : CF TG} {tt : CF TT} {te : CF TE} {σ₀ : St} {p : Addr} {Q : VK} {H : Hp} (Pv : Nat → List V → Hp → Prop) (h0 : Pv 0 [] (upd H p (.lst []))) (hp : ∀ i acc H, i ≤ xs.length → Pv i acc H → H p = some (.lst acc) ∧ acc.length ≤ i) (hl : ∀ i acc H, i ≤ xs.length → Pv i acc H → S.Sq K H a xs) (hz : xs.length ≤ sizeLine)
    (hs : ∀ C s' H' fp, ∀ i x T acc H, xs[i]? = some x → Pv i acc H → H T = none → g C s' H' fp (.ref T) σ₀ (upd H T (.tup [.int i, x])) fun σ2 H2 => tt C s' H' fp σ2 H2 fun b H3 => if b = true then te C s' H' fp σ2 H3 fun y H4 => H4 p = some (.lst acc) ∧ Pv (i + 1) (acc ++ [y]) (upd H4 p (.lst (acc ++ [y]))) else Pv (i + 1) acc H3)
    (hd : ∀ acc H, Pv xs.length acc H → Q (.ref p) H) :
    ∃ W : Nat → Nat → List V → Hp → Prop, (∃ m, W 0 m [] (upd H p (.lst []))) ∧ ∀ C s' H' fp, CompBody (Ite S K a) (g C s' H' fp) (tt C s' H' fp) (te C s' H' fp) σ₀ p Q W :=
  comp_of (Y := fun i H x H1 => ∃ T v, H T = none ∧ x = .ref T ∧ H1 = upd H T (.tup [.int i, v]) ∧ xs[i]? = some v) Pv h0 hp hz (fun i acc H hi w => ⟨xs, xs[i], hl i acc H (Nat.le_of_lt hi) w, by simp [hi]⟩) (fun acc H w => ⟨xs, hl _ acc H (Nat.le_refl _) w, rfl⟩)
    (fun i acc H x H1 hi w y => by
      obtain ⟨T, v, e1, e2, e3, e4⟩ := y
      exact ⟨T, v, e1, e2, e3, e4 xs (hl i acc H (Nat.le_of_lt hi) w)⟩) (fun C s' H' fp i x acc H H1 hi w y => by
      obtain ⟨T, v, e1, rfl, rfl, e4⟩ := y
      exact hs C s' H' fp i v T acc H e4 w e1) hd

/-! ### two names at once -/
/-! ### heaps -/
theorem same_new {H : Hp} {p : Addr} (h : H p = none) (o : HO) : Same H (upd H p o) := fun b u q => by rw [upd_ne (ne_of_none q h)]; exact q
theorem Same.upd {H H' : Hp} {p : Addr} (s : Same H H') (h : H p = none) (o : HO) : Same H (upd H' p o) := fun b u q => by rw [upd_ne (ne_of_none q h)]; exact s b u q
theorem Same.tup {K : PySem.W.Frag} {H H' : Hp} {a : Addr} {xs : List V} (e : Same H H') (h : SqT K H a xs) : SqT K H' a xs := by
  rcases h with (h | ⟨o, h⟩) | h
  · exact .inl (.inl (e _ _ h))
  · exact .inl (.inr ⟨o, e _ _ h⟩)
  · exact .inr h
theorem small {n : Nat} (h : n ≤ 1000) : n ≤ sizeLine := Nat.le_of_lt (small1000 h)
theorem atI_ints {ns : List Int} {k : Int} (h0 : 0 ≤ k) (h1 : k < (ns.length : Int)) : atI (ns.map V.int) k = some (.int (ns.getD k.toNat 0)) := by
  have hk : k.toNat < ns.length := by omega
  have e : k = ((k.toNat : Nat) : Int) := by omega
  have q : atI (ns.map V.int) ((k.toNat : Nat) : Int) = some (.int (ns.getD k.toNat 0)) := atI_nat (by rw [List.getElem?_map, List.getElem?_eq_getElem hk, List.getD_eq_getElem?_getD, List.getElem?_eq_getElem hk] <;> rfl)
  rw [← e] at q
  exact q
theorem ite_of {c : Bool} {A B : Prop} (h1 : c = true → A) (h2 : c = false → B) : if c = true then A else B := by
  cases c with
  | true => rw [if_pos rfl]; exact h1 rfl
  | false => rw [if_neg Bool.false_ne_true]; exact h2 rfl

/-! ### the numbers out of a script: within it the cell, beyond it a draw -/
theorem ScriptOk.same {K : PySem.W.Frag} {H H' : Hp} {a : Addr} {ns : List Int} (h : ScriptOk K H a ns) (s : Same H H') : ScriptOk K H' a ns := ⟨s.seq h.1, h.2⟩
structure Blt (mg : Str → Option Value) : Prop where
  len : mg "len" = none
  range : mg "range" = none
  tuple : mg "tuple" = none
  list : mg "list" = none
  int : mg "int" = none
  bool : mg "bool" = none
  str : mg "str" = none
  dict : mg "dict" = none
  sum : mg "sum" = none
  all : mg "all" = none
  min : mg "min" = none
  max : mg "max" = none
  sorted : mg "sorted" = none
  enumerate : mg "enumerate" = none
  zip : mg "zip" = none
  isinstance : mg "isinstance" = none
end L2

end

section
-- KcZip
set_option Elab.async false
set_option linter.all false
set_option maxRecDepth 100000
set_option maxHeartbeats 4000000
namespace L2
open PySem PySem.Spec PyProof.Rows

/-! ### zip of two sources, its tuples unpacked -/
structure ZApart (z TI TO j1 j2 : Addr) (fp1 fp2 : List Addr) : Prop where
  a1 : TI ≠ z
  a2 : TO ≠ z
  a3 : j1 ≠ z
  a4 : j2 ≠ z
  a5 : TI ≠ TO
  a6 : TI ≠ j1
  a7 : TI ≠ j2
  a8 : TO ≠ j1
  a9 : TO ≠ j2
  b0 : j1 ≠ j2
  b1 : z ∉ fp1
  b2 : TO ∉ fp1
  b3 : j2 ∉ fp1
  b4 : z ∉ fp2
  b5 : TO ∉ fp2
  b6 : j1 ∉ fp2
section
variable {prog : Program} {w : World} {A : Around} {E : Value → Shared → Prop} {s : Shared}
theorem _root_.PySem.Draws.but {it : Addr} {fp : List Addr} {n i : Nat} {P : Nat → Value → Prop} {St : Nat → Heap → Prop} {h h' : Heap} {c : Addr} (D : Draws prog w A it fp n P St) (hst : St i h) (hs : Heap.SameBut c h h') (hc : c ∉ fp) : St i h' :=
  D.frame i _ _ hst fun b hb o e => hs.extBut b o (fun z => hc (by rw [← z]; exact hb)) e
end
noncomputable def Itz (S1 S2 : Src) (K : PySem.W.Frag) (a b : Addr) : It :=
  ⟨fun i H => ∃ xs ys x y, S1.Sq K H a xs ∧ S2.Sq K H b ys ∧ xs[i]? = some x ∧ ys[i]? = some y,
   fun i H x H' => ∃ T u v, H T = none ∧ x = .ref T ∧ H' = upd H T (.tup [u, v]) ∧ ∀ xs ys, S1.Sq K H a xs → S2.Sq K H b ys → xs[i]? = some u ∧ ys[i]? = some v,
   fun i H => ∃ xs ys, S1.Sq K H a xs ∧ S2.Sq K H b ys ∧ min xs.length ys.length = i⟩
section
variable {X : Cx} {elts : List Expr} {k0 : Nat} {tpos : Pos}
noncomputable def iZip (S1 S2 : Src) (K : PySem.W.Frag) (ta : TA) : TI := fun σ H R => ta σ H fun vs H1 => ∃ a b xs ys, vs = [.ref a, .ref b] ∧ S1.Sq K H1 a xs ∧ S2.Sq K H1 b ys ∧ R (Itz S1 S2 K a b) H1
end
end L2

end

section
-- KcMore
set_option Elab.async false
set_option linter.all false
set_option maxRecDepth 100000
set_option maxHeartbeats 4000000
namespace L2
open PySem PySem.Spec PyProof.Rows

section
variable {X : Cx}
/-! ### t + u, whatever is empty -/
noncomputable def rCatG (K : PySem.W.Frag) : R2 := fun x y H Q => ∃ a b xs ys, x = .ref a ∧ y = .ref b ∧ SqT K H a xs ∧ SqT K H b ys ∧ xs.length + ys.length ≤ sizeLine ∧
  (xs = [] → Q (.ref b) H) ∧ (xs ≠ [] → ys = [] → Q (.ref a) H) ∧ (xs ≠ [] → ys ≠ [] → ∀ p, H p = none → Q (.ref p) (upd H p (.tup (xs ++ ys))))
theorem op_catG : OpR X (binaryOp .Add) (rCatG X.K) := by
  intro pins s σ H x y v u Q I rx ry h
  obtain ⟨a, b, xs, ys, rfl, rfl, ha, hb, hz, q0, q1, q2⟩ := h
  by_cases hx : xs = []
  · cases rx
    cases ry
    obtain ⟨its, r1, p1, _⟩ := I.tuple ha
    obtain ⟨its2, r2, p2, _⟩ := I.tuple hb
    obtain ⟨⟨cls, dd, data, sl⟩, ho, hc, n, hd⟩ := id p1
    obtain ⟨⟨cls2, dd2, data2, sl2⟩, ho2, hc2, n2, hd2⟩ := id p2
    simp only at hc hd hc2 hd2
    subst hc hd hc2 hd2
    have e : its = [] := r1.nil_iff.mpr hx
    exact concat_meets ⟨_, ho, rfl⟩ ⟨_, ho2, rfl⟩ noFill_tuple_add seq_tuple_add PySem.F.slot_tuple_add PySem.F.entry_tuple_add (PySem.F.args_tuple_add_2 _ _)
      (tuple_addW0 a b its.toArray its2.toArray n n2 dd dd2 sl sl2 (by simp [e])) ⟨ho, ho2, ⟨.ref b, H, I, rfl, q0 hx⟩⟩
  · exact op_catT pins s σ H _ _ v u Q I rx ry ⟨a, b, xs, ys, rfl, rfl, ha, hb, hx, hz, q1 hx, q2 hx⟩

/-! ### t.count(x): flat items -/
theorem count_eqU {x : V} : ∀ {xs : List V} {us : List Value}, Vals xs us → xs.all flatV = true → us.countP (eqU x) = xs.countP fun y => eqV y x
  | _, _, .nil, _ => rfl
  | y :: xs, u :: us, .cons r t, f => by
    rw [List.all_cons, Bool.and_eq_true] at f
    rw [List.countP_cons, List.countP_cons, eqU_of r f.1, count_eqU t f.2]
noncomputable def tBT (r : V → List V → Hp → VK → Prop) (to : TE) (t : TA) : TE := fun σ H Q => to σ H fun x H1 => (∃ a xs, x = .ref a ∧ H1 a = some (.tup xs)) ∧ t σ H1 fun xs H2 => r x xs H2 Q
theorem pe_bt {o e : Expr} {es : List Expr} {to : TE} {t : TA} {name : Str} {apos cpos : Pos} {id : String} {r : V → List V → Hp → VK → Prop} (pa : PlainAttrs "tuple") (slot : Slot "tuple" name id) (hty : typeOf (.builtin id) = pure (.type "method_descriptor")) (hm : MtR X id r) (ho : PE X o to) (ha : PA X (e :: es) t)
    (hbase : attributeBase o name X.env (eval o X.env) = eval o X.env := by rfl)
    (hfew : ((backTo cpos (starEach (e :: es) X.env)).all (fun x => !x.1) && (backToKw cpos (keywordEach [] X.env)).all (fun x => x.1.isSome)
      && decide ((e :: es).length + ([] : List Keyword).length + (if ([] : List Keyword).isEmpty then 0 else 1) < 30)) = true := by rfl)
    (hline : (apos.endLine == cpos.line) = true := by rfl) (hs : starEach (e :: es) X.env = (false, eval e X.env) :: starEach es X.env := by rfl) (hplain : (backTo cpos (starEach es X.env)).any (·.1) = false := by rfl) :
    PE X (.Call (.Attribute o name apos) (e :: es) [] cpos) (tBT r to t) := by
  intro pins s σ H Q I h
  refine wpAny_Call_method_late hbase hfew hline rfl (thn (ho pins s σ H _ I h) fun v s1 ⟨x, H1, I1, r1, ty, q1⟩ => ?_)
  obtain ⟨a, xs, rfl, hx⟩ := ty
  cases r1
  obtain ⟨_, its, _, o', ho', hc', _, hd'⟩ := I1.hok a _ hx
  refine ⟨"tuple", id, pa, slot, hty, ⟨o', ho', hc'⟩, fun b e => ?_, ?_⟩
  · cases e
    exact ⟨o', ho', hd'⟩
  have hA := ha cpos pins s1 σ H1 _ I1 q1
  rw [hs] at hA ⊢
  refine Calls.callWith_builtin (by show (false || (backTo cpos (starEach es X.env)).any (·.1)) = false; rw [hplain] <;> rfl) (Calls.evalArgs_plain ?_)
  exact thn hA fun us s2 ⟨vs, H2, I2, r2, q2⟩ => hm pins s2 σ H2 (.ref a) vs (.ref a) us Q I2 rfl r2 q2
noncomputable def rCountT : V → List V → Hp → VK → Prop := fun x vs H Q => ∃ l xs y, x = .ref l ∧ vs = [y] ∧ H l = some (.tup xs) ∧ flatV y = true ∧ xs.all flatV = true ∧ Q (.int (xs.countP fun z => eqV z y : Nat)) H
theorem mt_countT : MtR X "tuple.count" rCountT := by
  intro pins s σ H x vs v us Q I rx rv h
  obtain ⟨l, xs, y, rfl, rfl, hH, fy, fx, q⟩ := h
  cases rx
  obtain ⟨u, rfl, ru⟩ := rv.one
  obtain ⟨_, its, r, ⟨cls, dd, data, sl⟩, ho, hc, ⟨n, hd⟩, hdd⟩ := I.hok l _ hH
  simp only at hc hd hdd
  subst hc hd hdd
  refine call_meets PySem.F.slot_tuple_count ⟨_, ho, rfl⟩ PySem.F.entry_tuple_count (PySem.F.args_tuple_count_2 _ _) (SeqAt.tuple_countAt l its.toArray n none sl u (eqU y)) ⟨ho, fun z hz => mem_eqAt ru fy r fx z (by simpa using hz), ?_⟩
  refine ⟨.int (xs.countP fun z => eqV z y : Nat), H, I.tok _, ⟨s.toks, ?_⟩, q⟩
  show Value.int ((its.toArray.toList.countP (eqU y) : Nat) : Int) s.toks = _
  rw [show its.toArray.toList = its from rfl, count_eqU r fx]

/-! ### max of a list of ints, xs.index(m) -/
end
end L2

end

section
-- KcRd
set_option Elab.async false
set_option linter.all false
set_option maxRecDepth 100000
set_option maxHeartbeats 4000000
namespace L2
open PySem
/-! ### the reading of a term, one step a row -/
section
variable {σ : St} {H : Hp} {Q : VK} {D : Ends} {K : PySem.W.Frag}
theorem r_seq {t u : TS} (h : t { nx := u D, rt := D.rt, bk := D.bk, ct := D.ct } σ H) : tSeq t u D σ H := h
theorem r_seq_n {t u : TS} (h : ∀ NX : St → Hp → Prop, (∀ σ H, u D σ H → NX σ H) → t { nx := NX, rt := D.rt, bk := D.bk, ct := D.ct } σ H) : tSeq t u D σ H := h _ fun _ _ h => h
theorem r_next (h : D.nx σ H) : tNext D σ H := h
theorem r_asg {te : TE} {g : TG} (h : te σ H fun x H1 => g x σ H1 D.nx) : tAsg te g D σ H := h
theorem r_ret {te : TE} (h : te σ H D.rt) : tRet te D σ H := h
theorem r_retN (h : D.rt .non H) : tRetN D σ H := h
theorem r_drop {te : TE} (h : te σ H fun _ H1 => D.nx σ H1) : tDrop te D σ H := h
theorem r_ifS {c : TT} {t u : TS} (h : c σ H fun b H1 => if b = true then t D σ H1 else u D σ H1) : tIfS c t u D σ H := h
theorem r_break (h : D.bk σ H) : tBreak D σ H := h
theorem r_cont (h : D.ct σ H) : tCont D σ H := h
theorem r_name {i : Nat} {v : V} {R : St → Hp → Prop} (h : R (σ.set i (some v)) H) : gName i v σ H R := h
theorem r_gsub {to ti : TE} {t : TSet} {v : V} {R : St → Hp → Prop} (h : to σ H fun o H1 => ti σ H1 fun i H2 => t o i v H2 fun H3 => R σ H3) : gSub to ti t v σ H R := h
theorem r_setL {p : Addr} {xs : List V} {k : Int} {v : V} {R : Hp → Prop} {j : Nat} (e : H p = some (.lst xs)) (hj : ixN xs.length k = some j) (h : R (upd H p (.lst (xs.set j v)))) : rSetL (.ref p) (.int k) v H R := ⟨p, xs, k, j, rfl, rfl, e, hj, h⟩
theorem r_var {i : Nat} {v : V} (e : σ[i]? = some (some v)) (h : Q v H) : tVar i σ H Q := ⟨v, e, h⟩
theorem r_c {v : V} (h : Q v H) : tC v σ H Q := h
theorem r_op {r : R2} {ta tb : TE} (h : ta σ H fun x H1 => tb σ H1 fun y H2 => r x y H2 Q) : tOp r ta tb σ H Q := h
theorem r_un {r : V → Hp → VK → Prop} {ta : TE} (h : ta σ H fun x H1 => r x H1 Q) : tUn r ta σ H Q := h
theorem r_I0 {g : Int → Int → V} {i j : Int} (h : Q (g i j) H) : rI0 g (.int i) (.int j) H Q := ⟨i, j, rfl, rfl, h⟩
theorem r_I {C : Int → Int → Prop} {g : Int → Int → V} {i j : Int} (c : C i j) (h : Q (g i j) H) : rI C g (.int i) (.int j) H Q := ⟨i, j, rfl, rfl, c, h⟩
theorem r_U {g : Int → V} {i : Int} (h : Q (g i) H) : rU g (.int i) H Q := ⟨i, rfl, h⟩
theorem r_eqI {i j : Int} (h : Q (.bl (decide (i = j))) H) : rEq (.int i) (.int j) H Q := ⟨rfl, by rw [show decide (V.int i = V.int j) = decide (i = j) from decide_eq_decide.mpr ⟨fun e => by injection e, fun e => by rw [e]⟩]; exact h⟩
theorem r_neI {i j : Int} (h : Q (.bl (!decide (i = j))) H) : rNe (.int i) (.int j) H Q := ⟨rfl, by rw [show decide (V.int i = V.int j) = decide (i = j) from decide_eq_decide.mpr ⟨fun e => by injection e, fun e => by rw [e]⟩]; exact h⟩
theorem r_eqB {i j : Bool} (h : Q (.bl (i == j)) H) : rEq (.bl i) (.bl j) H Q := ⟨rfl, by rw [show decide (V.bl i = V.bl j) = (i == j) by cases i <;> cases j <;> rfl]; exact h⟩
theorem r_neB {i j : Bool} (h : Q (.bl (!(i == j))) H) : rNe (.bl i) (.bl j) H Q := ⟨rfl, by rw [show decide (V.bl i = V.bl j) = (i == j) by cases i <;> cases j <;> rfl]; exact h⟩
theorem r_test {t : TE} {R : Bool → Hp → Prop} (h : t σ H fun x H' => ∃ k, x = .bl k ∧ R k H') : tTest t σ H R := h
theorem r_tb {t : TE} {R : Bool → Hp → Prop} (h : t σ H fun x H' => ∃ k, x = .bl k ∧ R k H') : tB t σ H R := h
theorem r_bl {b : Bool} {R : Bool → Prop} (h : R b) : ∃ k, V.bl b = .bl k ∧ R k := ⟨b, rfl, h⟩
theorem r_and {t u : TT} {R : Bool → Hp → Prop} (h : t σ H fun c H1 => if c = true then u σ H1 R else R false H1) : tAnd t u σ H R := h
theorem r_or {t u : TT} {R : Bool → Hp → Prop} (h : t σ H fun c H1 => if c = true then R true H1 else u σ H1 R) : tOr t u σ H R := h
theorem r_not {t : TT} {R : Bool → Hp → Prop} (h : t σ H fun c H1 => R (!c) H1) : tNot t σ H R := h
theorem r_andV {ta tb : TE} (h : ta σ H fun x H1 => ∃ c, x = .bl c ∧ if c = true then tb σ H1 Q else Q (.bl false) H1) : tAndV ta tb σ H Q := h
theorem r_orV {ta tb : TE} (h : ta σ H fun x H1 => ∃ c, x = .bl c ∧ if c = true then Q (.bl true) H1 else tb σ H1 Q) : tOrV ta tb σ H Q := h
theorem r_notV {ta : TE} (h : ta σ H fun x H1 => ∃ c, x = .bl c ∧ Q (.bl (!c)) H1) : tNotV ta σ H Q := h
theorem r_if {t : TT} {ta tb : TE} (h : t σ H fun c H1 => if c = true then ta σ H1 Q else tb σ H1 Q) : tIf t ta tb σ H Q := h
theorem r_chain {r r' : R2} {ta tb tc : TE} (h : ta σ H fun x H1 => tb σ H1 fun y H2 => r x y H2 fun z H3 => ∃ k, z = .bl k ∧ (if k = true then tc σ H3 fun w' H4 => r' y w' H4 Q else Q (.bl false) H3)) : tChain r r' ta tb tc σ H Q := h
theorem r_nil {R : List V → Hp → Prop} (h : R [] H) : tNil σ H R := h
theorem r_cons {ta : TE} {tr : TA} {R : List V → Hp → Prop} (h : ta σ H fun x H1 => tr σ H1 fun xs H2 => R (x :: xs) H2) : tCons ta tr σ H R := h
theorem r_call {sp : Sp} {E : XK} {t : TA} (h : t σ H fun vs H1 => sp vs H1 Q E) : tCall sp [] E t σ H Q := by
  show t σ H fun vs H1 => sp (vs ++ []) H1 Q E
  simpa only [List.append_nil] using h
theorem r_cb {r : List V → Hp → VK → Prop} {t : TA} (h : t σ H fun vs H1 => r vs H1 Q) : tCB r t σ H Q := h
theorem r_bm {T : String} {r : V → List V → Hp → VK → Prop} {to : TE} {t : TA} (h : to σ H fun x H1 => tyV K T x H1 ∧ t σ H1 fun xs H2 => r x xs H2 Q) : tBM K T r to t σ H Q := h
theorem r_bm0 {T : String} {r : V → List V → Hp → VK → Prop} {to : TE} (h : to σ H fun x H1 => tyV K T x H1 ∧ r x [] H1 Q) : tBM0 K T r to σ H Q := h
theorem r_bt {r : V → List V → Hp → VK → Prop} {to : TE} {t : TA} (h : to σ H fun x H1 => (∃ a xs, x = .ref a ∧ H1 a = some (.tup xs)) ∧ t σ H1 fun xs H2 => r x xs H2 Q) : tBT r to t σ H Q := h
theorem r_sl {r : V → Option Int → Option Int → Hp → VK → Prop} {te : TE} {tl th : TO} (h : te σ H fun x H1 => tl σ H1 fun l H2 => th σ H2 fun u H3 => r x l u H3 Q) : tSl r te tl th σ H Q := h
theorem r_nopart {R : Option Int → Hp → Prop} (h : R none H) : tNoPart σ H R := h
theorem r_part {t : TE} {R : Option Int → Hp → Prop} (h : t σ H fun x H1 => ∃ i, x = .int i ∧ R (some i) H1) : tPart t σ H R := h
theorem r_int {i : Int} {R : Int → Prop} (h : R i) : ∃ j, V.int i = .int j ∧ R j := ⟨i, rfl, h⟩
/-! loops: their sources -/
theorem r_for {wi : TI} {g : TG} {tb : TS} (h : wi σ H fun J H1 => ∃ W : Nat → Nat → St → Hp → Prop, (∃ m, W 0 m σ H1) ∧ ∀ i m σ H, W i m σ H →
    (J.stop i H ∧ D.nx σ H) ∨ (J.go i H ∧ ∃ N : St → Hp → Prop, (∀ σ' H', N σ' H' → ∃ m', m' < m ∧ W (i + 1) m' σ' H') ∧ ∀ x H', J.yld i H x H' → g x σ H' fun σ2 H2 => tb { D with nx := N, ct := N, bk := D.nx } σ2 H2)) : tFor wi g tb D σ H := h
theorem r_comp {wi : TI} {g : CF TG} {tt : CF TT} {te : CF TE} {ix : List (Option Nat)} (h : wi σ H fun J H1 => ∀ p, H1 p = none →
    ∃ W : Nat → Nat → List V → Hp → Prop, (∃ m, W 0 m [] (upd H1 p (.lst []))) ∧ ∀ C s' H' fp, CompBody J (g C s' H' fp) (tt C s' H' fp) (te C s' H' fp) (sub ix σ) p Q W) : tComp wi g tt te ix σ H Q := h
section
variable {R : It → Hp → Prop}
theorem r_iList {tl : TE} (h : tl σ H fun x H1 => ∃ a, x = .ref a ∧ (∃ xs, SqL K H1 a xs) ∧ R (Itl K a) H1) : iList K tl σ H R := h
theorem r_iTup {tl : TE} (h : tl σ H fun x H1 => ∃ a, x = .ref a ∧ (∃ xs, SqT K H1 a xs) ∧ R (Itt K a) H1) : iTup K tl σ H R := h
theorem r_iRng1 {ta : TA} (h : ta σ H fun vs H1 => ∃ j : Int, vs = [.int j] ∧ -(2 ^ 62) ≤ j ∧ j < 2 ^ 62 ∧ R (Itr 0 j.toNat) H1) : iRng1 ta σ H R := h
theorem r_iRng2 {ta : TA} (h : ta σ H fun vs H1 => ∃ i j : Int, vs = [.int i, .int j] ∧ (-(2 ^ 62) ≤ i ∧ i < 2 ^ 62 ∧ -(2 ^ 62) ≤ j ∧ j < 2 ^ 62) ∧ R (Itr i (j - i).toNat) H1) : iRng2 ta σ H R := h
theorem r_iEnum {S : Src} {ta : TA} (h : ta σ H fun vs H1 => ∃ a xs, vs = [.ref a] ∧ S.Sq K H1 a xs ∧ R (Ite S K a) H1) : iEnum S K ta σ H R := h
theorem r_iZip {S1 S2 : Src} {ta : TA} (h : ta σ H fun vs H1 => ∃ a b xs ys, vs = [.ref a, .ref b] ∧ S1.Sq K H1 a xs ∧ S2.Sq K H1 b ys ∧ R (Itz S1 S2 K a b) H1) : iZip S1 S2 K ta σ H R := h
end
/-! the heap -/
noncomputable def Off (l : Addr) (H H' : Hp) : Prop := ∀ b, b ≠ l → H' b = H b
theorem off_upd {l : Addr} {o : HO} : Off l H (upd H l o) := fun b hb => upd_ne hb
theorem Same.off {H0 H' : Hp} {l : Addr} (s : Same H0 H) (h : H0 l = none) (o : Off l H H') : Same H0 H' := fun b u q => by rw [o b (ne_of_none q h)]; exact s b u q
noncomputable def Keep (H H' : Hp) : Prop := ∀ b xs, H b = some (.tup xs) → H' b = some (.tup xs)
theorem Keep.refl (H : Hp) : Keep H H := fun _ _ h => h
theorem Same.keep {H' : Hp} (s : Same H H') : Keep H H' := fun b _ h => s b _ h
theorem Keep.trans {H1 H2 : Hp} (a : Keep H H1) (b : Keep H1 H2) : Keep H H2 := fun c o h => b c o (a c o h)
theorem Off.keep {H' : Hp} {l : Addr} {xs : List V} (o : Off l H H') (e : H l = some (.lst xs)) : Keep H H' := fun b ys q => by
  rw [o b (ne_of q e (by intro z; cases z))]
  exact q
theorem r_tup0 {t : TA} (h : t σ H fun xs H1 => xs.length ≤ sizeLine ∧ ∀ p, H1 p = none → Q (.ref p) (upd H1 p (.tup xs))) : tTup t σ H Q := h
theorem r_lst0 {t : TA} (h : t σ H fun xs H1 => xs.length ≤ sizeLine ∧ ∀ p, H1 p = none → Q (.ref p) (upd H1 p (.lst xs))) : tLst t σ H Q := h
theorem r_append {l : Addr} {xs : List V} {y : V} (e : H l = some (.lst xs)) (hz : xs.length < sizeLine) (h : ∀ H', Off l H H' → H' l = some (.lst (xs ++ [y])) → Q .non H') : rAppend (.ref l) [y] H Q := ⟨l, xs, y, rfl, rfl, e, hz, h _ off_upd upd_same⟩
theorem r_tyL {l : Addr} {xs : List V} (e : H l = some (.lst xs)) : tyV K "list" (.ref l) H := .inl ⟨rfl, xs, SqL.of e⟩
theorem r_ixL {l : Addr} {xs : List V} {i : Int} {v : V} (e : SqL K H l xs) (hv : atI xs i = some v) (h : Q v H) : rIxL K (.ref l) (.int i) H Q := ⟨l, xs, i, v, rfl, rfl, e, hv, h⟩
end
/-! ### tests -/
theorem ite_dec {p A B : Prop} [Decidable p] (h1 : p → A) (h2 : ¬ p → B) : if decide p = true then A else B := by
  by_cases h : p
  · rw [if_pos (decide_eq_true h)]; exact h1 h
  · rw [if_neg (by rw [decide_eq_false h]; exact Bool.false_ne_true)]; exact h2 h
theorem iteNT {A B : Prop} (h : B) : if (!true) = true then A else B := by exact iteF h
theorem iteNF {A B : Prop} (h : A) : if (!false) = true then A else B := by exact iteT h
theorem r_always {σ : St} {H : Hp} {R : Bool → Hp → Prop} (h : R true H) : tAlways σ H R := h
/-! ### the calls of built-ins, by their names -/
noncomputable def cLen (K : PySem.W.Frag) : List V → Hp → VK → Prop := fun xs H Q => ∃ p ys, xs = [.ref p] ∧ (SqL K H p ys ∨ SqT K H p ys) ∧ Q (.int ys.length) H
noncomputable def cSum (K : PySem.W.Frag) : List V → Hp → VK → Prop := fun xs H Q => ∃ (p : Addr) (ns : List Int), xs = [.ref p] ∧ SqL K H p (ns.map V.int) ∧ Q (.int ns.sum) H
noncomputable def cAll (K : PySem.W.Frag) : List V → Hp → VK → Prop := fun xs H Q => ∃ (p : Addr) (bs : List Bool), xs = [.ref p] ∧ SqL K H p (bs.map V.bl) ∧ Q (.bl (bs.all id)) H
noncomputable def cMin2 : List V → Hp → VK → Prop := fun xs H Q => ∃ i j, xs = [.int i, .int j] ∧ Q (.int (if j < i then j else i)) H
noncomputable def cMax2 : List V → Hp → VK → Prop := fun xs H Q => ∃ i j, xs = [.int i, .int j] ∧ Q (.int (if j > i then j else i)) H
noncomputable def cInt : List V → Hp → VK → Prop := fun xs H Q => (∃ i, xs = [.int i] ∧ Q (.int i) H) ∨ ∃ k, xs = [.bl k] ∧ Q (.int (if k then 1 else 0)) H
noncomputable def cTuple (K : PySem.W.Frag) : List V → Hp → VK → Prop := fun xs H Q => ∃ p ys, xs = [.ref p] ∧ ((SqL K H p ys ∧ ∀ l, H l = none → Q (.ref l) (upd H l (.tup ys))) ∨ (SqT K H p ys ∧ Q (.ref p) H))
section
variable {K : PySem.W.Frag} {H : Hp} {Q : VK}
theorem r_len {l : Addr} {ys : List V} (e : SqL K H l ys) (h : Q (.int ys.length) H) : cLen K [.ref l] H Q := ⟨l, ys, rfl, .inl e, h⟩
theorem r_lenTu {l : Addr} {ys : List V} (e : SqT K H l ys) (h : Q (.int ys.length) H) : cLen K [.ref l] H Q := ⟨l, ys, rfl, .inr e, h⟩
theorem r_min2 {i j : Int} (h : Q (.int (if j < i then j else i)) H) : cMin2 [.int i, .int j] H Q := ⟨i, j, rfl, h⟩
theorem r_max2 {i j : Int} (h : Q (.int (if j > i then j else i)) H) : cMax2 [.int i, .int j] H Q := ⟨i, j, rfl, h⟩
theorem r_intI {i : Int} (h : Q (.int i) H) : cInt [.int i] H Q := .inl ⟨i, rfl, h⟩
theorem r_intB {k : Bool} (h : Q (.int (if k then 1 else 0)) H) : cInt [.bl k] H Q := .inr ⟨k, rfl, h⟩
end
/-! ### new things: any heap that has one more -/
noncomputable def New (H : Hp) (o : HO) (Q : Addr → Hp → Prop) : Prop := ∀ p H', H p = none → Same H H' → H' p = some o → Q p H'
theorem New.upd {H : Hp} {o : HO} {Q : Addr → Hp → Prop} (h : New H o Q) : ∀ p, H p = none → Q p (upd H p o) := fun p hp => h p _ hp (same_new hp _) upd_same
noncomputable def mTup (t : TA) : TE := fun σ H Q => t σ H fun xs H1 => xs.length ≤ sizeLine ∧ New H1 (.tup xs) fun p H2 => Q (.ref p) H2
noncomputable def mLst (t : TA) : TE := fun σ H Q => t σ H fun xs H1 => xs.length ≤ sizeLine ∧ New H1 (.lst xs) fun p H2 => Q (.ref p) H2
noncomputable def mCat : R2 := fun x y H Q => ∃ l b xs zs, x = .ref l ∧ y = .ref b ∧ H l = some (.lst xs) ∧ H b = some (.lst zs) ∧ xs.length + zs.length ≤ sizeLine ∧ New H (.lst (xs ++ zs)) fun p H2 => Q (.ref p) H2
noncomputable def mCList (K : PySem.W.Frag) : List V → Hp → VK → Prop := fun xs H Q => ∃ p ys, xs = [.ref p] ∧ (SqL K H p ys ∨ SqT K H p ys) ∧ New H (.lst ys) fun l H2 => Q (.ref l) H2
noncomputable def mCTuple (K : PySem.W.Frag) : List V → Hp → VK → Prop := fun xs H Q => ∃ p ys, xs = [.ref p] ∧ SqL K H p ys ∧ New H (.tup ys) fun l H2 => Q (.ref l) H2
noncomputable def mSlL (K : PySem.W.Frag) : V → Option Int → Option Int → Hp → VK → Prop := fun x lo hi H Q => ∃ a xs, x = .ref a ∧ SqL K H a xs ∧ New H (.lst (cutV xs lo hi)) fun p H2 => Q (.ref p) H2
noncomputable def mCatT (K : PySem.W.Frag) : R2 := fun x y H Q => ∃ a b xs ys, x = .ref a ∧ y = .ref b ∧ H a = some (.tup xs) ∧ H b = some (.tup ys) ∧ xs.length + ys.length ≤ sizeLine ∧ ∀ p H', Same H H' → H' p = some (.tup (xs ++ ys)) → Q (.ref p) H'
theorem mCatT_G {K : PySem.W.Frag} {x y : V} {H : Hp} {Q : VK} (h : mCatT K x y H Q) : rCatG K x y H Q := by
  obtain ⟨a, b, xs, ys, rfl, rfl, ha, hb, hz, q⟩ := h
  refine ⟨a, b, xs, ys, rfl, rfl, SqT.of ha, SqT.of hb, hz, fun e => ?_, fun _ e => ?_, fun _ _ p hp => q p _ (same_new hp _) upd_same⟩
  · exact q b H (Same.refl H) (by rw [hb, e]; rfl)
  · exact q a H (Same.refl H) (by rw [ha, e, List.append_nil])
section
variable {σ : St} {H : Hp} {Q : VK} {K : PySem.W.Frag}
theorem m_tup {t : TA} (h : t σ H fun xs H1 => xs.length ≤ sizeLine ∧ New H1 (.tup xs) fun p H2 => Q (.ref p) H2) : mTup t σ H Q := h
theorem m_lst {t : TA} (h : t σ H fun xs H1 => xs.length ≤ sizeLine ∧ New H1 (.lst xs) fun p H2 => Q (.ref p) H2) : mLst t σ H Q := h
theorem m_cat {l b : Addr} {xs zs : List V} (h1 : H l = some (.lst xs)) (h2 : H b = some (.lst zs)) (hz : xs.length + zs.length ≤ sizeLine) (h : ∀ p H', H p = none → Same H H' → H' p = some (.lst (xs ++ zs)) → Q (.ref p) H') : mCat (.ref l) (.ref b) H Q := ⟨l, b, xs, zs, rfl, rfl, h1, h2, hz, h⟩
theorem m_list {p : Addr} {ys : List V} (e : SqL K H p ys) (h : ∀ l H', H l = none → Same H H' → H' l = some (.lst ys) → Q (.ref l) H') : mCList K [.ref p] H Q := ⟨p, ys, rfl, .inl e, h⟩
theorem m_tuple {p : Addr} {ys : List V} (e : SqL K H p ys) (h : ∀ l H', H l = none → Same H H' → H' l = some (.tup ys) → Q (.ref l) H') : mCTuple K [.ref p] H Q := ⟨p, ys, rfl, e, h⟩
theorem m_slL {a : Addr} {xs : List V} {lo hi : Option Int} (e : SqL K H a xs) (h : ∀ p H', H p = none → Same H H' → H' p = some (.lst (cutV xs lo hi)) → Q (.ref p) H') : mSlL K (.ref a) lo hi H Q := ⟨a, xs, rfl, e, h⟩
theorem m_catT {a b : Addr} {xs ys : List V} (h1 : H a = some (.tup xs)) (h2 : H b = some (.tup ys)) (hz : xs.length + ys.length ≤ sizeLine) (h : ∀ p H', Same H H' → H' p = some (.tup (xs ++ ys)) → Q (.ref p) H') : mCatT K (.ref a) (.ref b) H Q := ⟨a, b, xs, ys, rfl, rfl, h1, h2, hz, h⟩
end
/-! ### loops, as the reading leaves them -/
section
variable {g : TG} {tb : TS} {NX : St → Hp → Prop} {RT : VK} {σ : St} {H : Hp} {K : PySem.W.Frag}
theorem lp_range {j : Int} (n : Nat) (hn : j.toNat = n) (hj : j ≤ 1000000000) (hj0 : -1000000000 ≤ j) (Pv : Nat → St → Hp → Prop) (h0 : Pv 0 σ H) (hs : ∀ i σ H, i < n → Pv i σ H → g (.int i) σ H fun σ2 H2 => tb { nx := Pv (i + 1), rt := RT, bk := NX, ct := Pv (i + 1) } σ2 H2) (hd : ∀ σ H, Pv n σ H → NX σ H) :
    ∃ j' : Int, [V.int j] = [.int j'] ∧ -(2 ^ 62) ≤ j' ∧ j' < 2 ^ 62 ∧ ∃ W : Nat → Nat → St → Hp → Prop, (∃ m, W 0 m σ H) ∧ ∀ i m σ H, W i m σ H →
      ((Itr 0 j'.toNat).stop i H ∧ NX σ H) ∨ ((Itr 0 j'.toNat).go i H ∧ ∃ N : St → Hp → Prop, (∀ σ' H', N σ' H' → ∃ m', m' < m ∧ W (i + 1) m' σ' H') ∧ ∀ x H', (Itr 0 j'.toNat).yld i H x H' → g x σ H' fun σ2 H2 => tb { nx := N, rt := RT, bk := NX, ct := N } σ2 H2) := by
  refine ⟨j, rfl, by omega, by omega, ?_⟩
  subst hn
  exact for_range (lo := 0) (D := { nx := NX, rt := RT }) Pv h0 (fun i σ H hi p => by rw [Int.zero_add]; exact hs i σ H hi p) hd
theorem lp_list {a : Addr} (xs : List V) (hx : SqL K H a xs) (Pv : Nat → St → Hp → Prop) (h0 : Pv 0 σ H) (hl : ∀ i σ H, i ≤ xs.length → Pv i σ H → SqL K H a xs) (hs : ∀ i x σ H, xs[i]? = some x → Pv i σ H → g x σ H fun σ2 H2 => tb { nx := Pv (i + 1), rt := RT, bk := NX, ct := Pv (i + 1) } σ2 H2) (hd : ∀ σ H, Pv xs.length σ H → NX σ H) :
    ∃ a', V.ref a = .ref a' ∧ (∃ xs, SqL K H a' xs) ∧ ∃ W : Nat → Nat → St → Hp → Prop, (∃ m, W 0 m σ H) ∧ ∀ i m σ H, W i m σ H →
      ((Itl K a').stop i H ∧ NX σ H) ∨ ((Itl K a').go i H ∧ ∃ N : St → Hp → Prop, (∀ σ' H', N σ' H' → ∃ m', m' < m ∧ W (i + 1) m' σ' H') ∧ ∀ x H', (Itl K a').yld i H x H' → g x σ H' fun σ2 H2 => tb { nx := N, rt := RT, bk := NX, ct := N } σ2 H2) :=
  ⟨a, rfl, ⟨xs, hx⟩, for_list (D := { nx := NX, rt := RT }) Pv h0 hl hs hd⟩
end
/-! two names at once -/
theorem g_pair {K : PySem.W.Frag} {i j : Nat} {a : Addr} {x y : V} {σ : St} {H : Hp} {R : St → Hp → Prop} (e : SqT K H a [x, y]) (h : R ((σ.set i (some x)).set j (some y)) H) : gTup K 2 (gCons (gName i) (gCons (gName j) gNil)) (.ref a) σ H R :=
  ⟨a, [x, y], rfl, e, rfl, x, [y], rfl, y, [], rfl, rfl, h⟩
/-! ### comprehensions, as the reading leaves them -/
noncomputable def CInv (H : Hp) (p : Addr) (R : Nat → List V → Hp → Prop) (i : Nat) (acc : List V) (H2 : Hp) : Prop := Same H H2 ∧ H2 p = some (.lst acc) ∧ acc.length ≤ i ∧ R i acc H2
theorem CInv.put {H H4 : Hp} {p : Addr} {R : Nat → List V → Hp → Prop} {i : Nat} {acc : List V} {y : V} (hp : H p = none) (st : ∀ i acc H H', R i acc H → Keep H H' → R i acc H') (s : Same H H4) (e : H4 p = some (.lst acc)) (l : acc.length ≤ i) (r : R (i + 1) (acc ++ [y]) H4) :
    H4 p = some (.lst acc) ∧ CInv H p R (i + 1) (acc ++ [y]) (upd H4 p (.lst (acc ++ [y]))) :=
  ⟨e, s.upd hp _, upd_same, by rw [List.length_append]; exact Nat.add_le_add_right l 1, st _ _ _ _ r (off_upd.keep e)⟩
theorem CInv.skip {H H4 : Hp} {p : Addr} {R : Nat → List V → Hp → Prop} {i : Nat} {acc : List V} (s : Same H H4) (e : H4 p = some (.lst acc)) (l : acc.length ≤ i) (r : R (i + 1) acc H4) : CInv H p R (i + 1) acc H4 := ⟨s, e, by omega, r⟩
section
variable {g : CF TG} {tt : CF TT} {te : CF TE} {σ₀ : St} {Q : VK} {H : Hp} {K : PySem.W.Frag}
theorem lc_range {j : Int} (n : Nat) (hn : j.toNat = n) (hj : j ≤ 1000000) (hj0 : -1000000 ≤ j) (R : Nat → List V → Hp → Prop) (h0 : ∀ H', Same H H' → R 0 [] H')
    (hs : ∀ p, H p = none → ∀ C s' H' fp, ∀ i acc H2, i < n → CInv H p R i acc H2 → g C s' H' fp (.int i) σ₀ H2 fun σ2 H3 => tt C s' H' fp σ2 H3 fun b H4 => if b = true then te C s' H' fp σ2 H4 fun y H5 => H5 p = some (.lst acc) ∧ CInv H p R (i + 1) (acc ++ [y]) (upd H5 p (.lst (acc ++ [y]))) else CInv H p R (i + 1) acc H4)
    (hd : ∀ p acc H2, H p = none → Same H H2 → H2 p = some (.lst acc) → R n acc H2 → Q (.ref p) H2) :
    ∃ j' : Int, [V.int j] = [.int j'] ∧ -(2 ^ 62) ≤ j' ∧ j' < 2 ^ 62 ∧ ∀ p, H p = none → ∃ W : Nat → Nat → List V → Hp → Prop, (∃ m, W 0 m [] (upd H p (.lst []))) ∧ ∀ C s' H' fp, CompBody (Itr 0 j'.toNat) (g C s' H' fp) (tt C s' H' fp) (te C s' H' fp) σ₀ p Q W := by
  refine ⟨j, rfl, by omega, by omega, fun p hp => ?_⟩
  subst hn
  exact comp_range (lo := 0) (CInv H p R) ⟨same_new hp _, upd_same, Nat.le_refl _, h0 _ (same_new hp _)⟩ (fun i acc H2 _ c => ⟨c.2.1, c.2.2.1⟩) (by rw [sizeLine_eq]; omega) (fun C s' H' fp i acc H2 hi c => by rw [Int.zero_add]; exact hs p hp C s' H' fp i acc H2 hi c) fun acc H2 c => hd p acc H2 hp c.1 c.2.1 c.2.2.2
theorem lc_list {a : Addr} (xs : List V) (hx : SqL K H a xs) (hz : xs.length ≤ 1000000) (R : Nat → List V → Hp → Prop) (h0 : ∀ H', Same H H' → R 0 [] H')
    (hs : ∀ p, H p = none → ∀ C s' H' fp, ∀ i x acc H2, xs[i]? = some x → CInv H p R i acc H2 → g C s' H' fp x σ₀ H2 fun σ2 H3 => tt C s' H' fp σ2 H3 fun b H4 => if b = true then te C s' H' fp σ2 H4 fun y H5 => H5 p = some (.lst acc) ∧ CInv H p R (i + 1) (acc ++ [y]) (upd H5 p (.lst (acc ++ [y]))) else CInv H p R (i + 1) acc H4)
    (hd : ∀ p acc H2, H p = none → Same H H2 → H2 p = some (.lst acc) → R xs.length acc H2 → Q (.ref p) H2) :
    ∃ a', V.ref a = .ref a' ∧ (∃ xs, SqL K H a' xs) ∧ ∀ p, H p = none → ∃ W : Nat → Nat → List V → Hp → Prop, (∃ m, W 0 m [] (upd H p (.lst []))) ∧ ∀ C s' H' fp, CompBody (Itl K a') (g C s' H' fp) (tt C s' H' fp) (te C s' H' fp) σ₀ p Q W :=
  ⟨a, rfl, ⟨xs, hx⟩, fun p hp => comp_list (CInv H p R) ⟨same_new hp _, upd_same, Nat.le_refl _, h0 _ (same_new hp _)⟩ (fun i acc H2 _ c => ⟨c.2.1, c.2.2.1⟩) (fun i acc H2 _ c => c.1.seq hx) (by rw [sizeLine_eq]; omega) (fun C s' H' fp i x acc H2 hi c => hs p hp C s' H' fp i x acc H2 hi c) fun acc H2 c => hd p acc H2 hp c.1 c.2.1 c.2.2.2⟩
theorem lc_tup {a : Addr} (xs : List V) (hx : SqT K H a xs) (hz : xs.length ≤ 1000000) (R : Nat → List V → Hp → Prop) (h0 : ∀ H', Same H H' → R 0 [] H')
    (hs : ∀ p, H p = none → ∀ C s' H' fp, ∀ i x acc H2, xs[i]? = some x → CInv H p R i acc H2 → g C s' H' fp x σ₀ H2 fun σ2 H3 => tt C s' H' fp σ2 H3 fun b H4 => if b = true then te C s' H' fp σ2 H4 fun y H5 => H5 p = some (.lst acc) ∧ CInv H p R (i + 1) (acc ++ [y]) (upd H5 p (.lst (acc ++ [y]))) else CInv H p R (i + 1) acc H4)
    (hd : ∀ p acc H2, H p = none → Same H H2 → H2 p = some (.lst acc) → R xs.length acc H2 → Q (.ref p) H2) :
    ∃ a', V.ref a = .ref a' ∧ (∃ xs, SqT K H a' xs) ∧ ∀ p, H p = none → ∃ W : Nat → Nat → List V → Hp → Prop, (∃ m, W 0 m [] (upd H p (.lst []))) ∧ ∀ C s' H' fp, CompBody (Itt K a') (g C s' H' fp) (tt C s' H' fp) (te C s' H' fp) σ₀ p Q W :=
  ⟨a, rfl, ⟨xs, hx⟩, fun p hp => comp_tup (CInv H p R) ⟨same_new hp _, upd_same, Nat.le_refl _, h0 _ (same_new hp _)⟩ (fun i acc H2 _ c => ⟨c.2.1, c.2.2.1⟩) (fun i acc H2 _ c => c.1.tup hx) (by rw [sizeLine_eq]; omega) (fun C s' H' fp i x acc H2 hi c => hs p hp C s' H' fp i x acc H2 hi c) fun acc H2 c => hd p acc H2 hp c.1 c.2.1 c.2.2.2⟩
end
/-! ### zip -/
section
variable {g : TG} {tb : TS} {NX : St → Hp → Prop} {RT : VK} {σ : St} {H : Hp} {K : PySem.W.Frag}
end
/-! ### lists of ints compared -/
section
variable {K : PySem.W.Frag} {H : Hp} {Q : VK} {a b : Addr} {ns ms : List Int}
theorem r_isi {x : V} {T : String} {t : Value} {c : Bool} (ty : TyOf K H x t) (e : PySem.W.kitOne K t (.type T) = some c) (h : Q (.bl c) H) : rIsi K [x, .ty T] H Q := ⟨x, T, t, c, rfl, ty, e, h⟩
end
/-! ### comprehensions over pairs; slices of tuples; texts -/
section
variable {g : CF TG} {tt : CF TT} {te : CF TE} {σ₀ : St} {Q : VK} {H : Hp} {K : PySem.W.Frag}
noncomputable def mSlT (K : PySem.W.Frag) : V → Option Int → Option Int → Hp → VK → Prop := fun x lo hi H Q => ∃ a xs, x = .ref a ∧ SqT K H a xs ∧ ¬ (HT.sIx xs.length 0 lo = 0 ∧ HT.sIx xs.length xs.length hi = xs.length) ∧ New H (.tup (cutV xs lo hi)) fun p H2 => Q (.ref p) H2
theorem r_eqS {x y : Str} (h : Q (.bl (decide (x = y))) H) : rEq (.str x) (.str y) H Q := ⟨rfl, by rw [show decide (V.str x = V.str y) = decide (x = y) from decide_eq_decide.mpr ⟨fun e => by injection e, fun e => by rw [e]⟩]; exact h⟩
theorem r_neS {x y : Str} (h : Q (.bl (!decide (x = y))) H) : rNe (.str x) (.str y) H Q := ⟨rfl, by rw [show decide (V.str x = V.str y) = decide (x = y) from decide_eq_decide.mpr ⟨fun e => by injection e, fun e => by rw [e]⟩]; exact h⟩
end
/-! ### pop, extend; three names at once -/
section
variable {H : Hp} {Q : VK} {K : PySem.W.Frag}
theorem r_pop {l : Addr} {xs : List V} {y : V} (e : H l = some (.lst (xs ++ [y]))) (h : ∀ H', Off l H H' → H' l = some (.lst xs) → Q y H') : rPop (.ref l) [] H Q :=
  ⟨l, _, y, rfl, rfl, e, by simp, by rw [List.dropLast_concat]; exact h _ off_upd upd_same⟩
theorem r_extend {l b : Addr} {xs zs : List V} (e : H l = some (.lst xs)) (eb : H b = some (.lst zs)) (hz : xs.length + zs.length ≤ sizeLine) (h : ∀ H', Off l H H' → H' l = some (.lst (xs ++ zs)) → Q .non H') : rExtend (.ref l) [.ref b] H Q := ⟨l, b, xs, zs, rfl, rfl, e, eb, hz, h _ off_upd upd_same⟩
theorem at3 (x y z : V) (k : Int) : ∃ v, atI [x, y, z] (k % 3) = some v ∧ (v = x ∨ v = y ∨ v = z) := by
  have h : k % 3 = 0 ∨ k % 3 = 1 ∨ k % 3 = 2 := by omega
  rcases h with h | h | h <;> rw [h]
  · exact ⟨x, rfl, .inl rfl⟩
  · exact ⟨y, rfl, .inr (.inl rfl)⟩
  · exact ⟨z, rfl, .inr (.inr rfl)⟩
end
theorem at_mod (xs : List V) (z : Int) {m : Nat} (hl : xs.length = m) (hm : 0 < m) : ∃ x, atI xs (z % (m : Int)) = some x ∧ x ∈ xs := by
  have m1 := Int.emod_nonneg z (b := (m : Int)) (by omega)
  have m2 := Int.emod_lt_of_pos z (b := (m : Int)) (by omega)
  have hk : (z % (m : Int)).toNat < xs.length := by omega
  refine ⟨xs[(z % (m : Int)).toNat], ?_, List.getElem_mem hk⟩
  have e : z % (m : Int) = (((z % (m : Int)).toNat : Nat) : Int) := by omega
  have q : atI xs (((z % (m : Int)).toNat : Nat) : Int) = some xs[(z % (m : Int)).toNat] := atI_nat (List.getElem?_eq_getElem hk)
  rw [← e] at q
  exact q
/-! ### is not, of truths; != of one thing and itself -/
noncomputable def rIsnB : R2 := fun x y H Q => ∃ a b, x = .bl a ∧ y = .bl b ∧ Q (.bl (!(a == b))) H
theorem r_isnB {a b : Bool} {H : Hp} {Q : VK} (h : Q (.bl (!(a == b))) H) : rIsnB (.bl a) (.bl b) H Q := ⟨a, b, rfl, rfl, h⟩
end L2

end
local macro_rules | `(tactic| walk_at "rb1") => `(tactic| first
  | ((with_reducible refine' L2.r_var (v := ?v) ?e ?h); (case e => exact rfl))
  | (with_reducible first | refine L2.r_next ?_ | refine L2.r_asg ?_ | refine L2.r_ret ?_ | refine L2.r_retN ?_ | refine L2.r_drop ?_ | refine L2.r_break ?_ | refine L2.r_cont ?_ | refine L2.r_name ?_ | refine L2.r_gsub ?_ | refine L2.r_c ?_ | refine L2.r_op ?_ | refine L2.r_un ?_ | refine L2.r_I0 ?_ | refine L2.r_U ?_ | refine L2.r_eqI ?_ | refine L2.r_neI ?_ | refine L2.r_eqS ?_ | refine L2.r_neS ?_ | refine L2.r_eqB ?_ | refine L2.r_neB ?_ | refine L2.r_isnB ?_ | refine L2.r_test ?_ | refine L2.r_tb ?_ | refine L2.r_bl ?_ | refine L2.r_int ?_ | refine L2.r_and ?_ | refine L2.r_or ?_ | refine L2.r_not ?_ | refine L2.r_andV ?_ | refine L2.r_orV ?_ | refine L2.r_notV ?_ | refine L2.r_if ?_ | refine L2.r_chain ?_ | refine L2.r_nil ?_ | refine L2.r_cons ?_ | refine L2.r_call ?_ | refine L2.r_cb ?_ | refine L2.r_bm ?_ | refine L2.r_bm0 ?_ | refine L2.r_bt ?_ | refine L2.r_sl ?_ | refine L2.r_nopart ?_ | refine L2.r_part ?_ | refine L2.r_for ?_ | refine L2.r_comp ?_ | refine L2.r_iList ?_ | refine L2.r_iTup ?_ | refine L2.r_iRng1 ?_ | refine L2.r_iRng2 ?_ | refine L2.r_iEnum ?_ | refine L2.r_iZip ?_ | refine L2.r_tup0 ?_ | refine L2.r_lst0 ?_ | refine L2.m_tup ?_ | refine L2.m_lst ?_ | refine L2.r_min2 ?_ | refine L2.r_max2 ?_ | refine L2.r_intI ?_ | refine L2.r_intB ?_ | refine L2.iteT ?_ | refine L2.iteF ?_ | refine L2.iteNT ?_ | refine L2.iteNF ?_ | refine L2.r_always ?_)
  | ((with_reducible refine L2.r_I ?_ ?_); (first | (show (0 : Int) < _; omega) | (show (0 : Int) < _; decide) | exact ⟨by decide, by decide, by decide⟩ | exact And.intro (by omega) (by omega) | exact (PySem.IntMulOk.of_right (PySem.intBits_le_64 (by omega) (by omega))) | exact (PySem.IntMulOk.of_left (PySem.intBits_le_64 (by omega) (by omega)))))
  | ((with_reducible refine' L2.r_len (ys := ?y) ?e ?h); (case e => first | assumption | exact L2.SqL.of (by assumption)))
  | ((with_reducible refine' L2.r_lenTu (ys := ?y) ?e ?h); (case e => first | assumption | exact L2.SqT.of (by assumption)))
  | dsimp only [List.set_cons_zero, List.set_cons_succ, L2.sub, List.map_cons, List.map_nil, List.getElem?_cons_zero, List.getElem?_cons_succ])
local macro_rules | `(tactic| walk_at "rd") => `(tactic| repeat (first | (with_reducible first | refine L2.r_seq ?_ | refine L2.r_ifS ?_) | walk_at "rb1"))
local macro_rules | `(tactic| walk_at "rs") => `(tactic| repeat (first | (with_reducible refine L2.r_ifS ?_) | walk_at "rb1"))
local macro_rules | `(tactic| walk_at "ra") => `(tactic| repeat (walk_at "rb1"))

section
-- KcMath
set_option linter.all false
namespace KM
noncomputable def fact : Nat → Nat
  | 0 => 1
  | n + 1 => fact n * (n + 1)
noncomputable def choose : Nat → Nat → Nat
  | _, 0 => 1
  | 0, _ + 1 => 0
  | n + 1, k + 1 => choose n k + choose n (k + 1)
theorem fact_pos : ∀ n, 0 < fact n
  | 0 => by decide
  | n + 1 => Nat.mul_pos (fact_pos n) (Nat.succ_pos n)
theorem choose_zero (n : Nat) : choose n 0 = 1 := by cases n <;> rfl
theorem choose_gt : ∀ (n k : Nat), n < k → choose n k = 0
  | _, 0, h => absurd h (Nat.not_lt_zero _)
  | 0, _ + 1, _ => rfl
  | n + 1, k + 1, h => by rw [choose, choose_gt n k (by omega), choose_gt n (k + 1) (by omega)]
theorem choose_self : ∀ n, choose n n = 1
  | 0 => rfl
  | n + 1 => by rw [choose, choose_self n, choose_gt n (n + 1) (by omega)]
theorem choose_fact : ∀ (n k : Nat), k ≤ n → choose n k * (fact k * fact (n - k)) = fact n
  | n, 0, _ => by rw [choose_zero, fact, Nat.sub_zero, Nat.one_mul, Nat.one_mul]
  | 0, _ + 1, h => absurd h (by omega)
  | n + 1, k + 1, h => by
    rw [choose, Nat.add_mul]
    by_cases hk : k = n
    · subst hk
      rw [choose_self, choose_gt k (k + 1) (by omega), Nat.sub_self]
      simp [fact]
    · have hk' : k + 1 ≤ n := by omega
      have e1 := choose_fact n k (by omega)
      have e2 := choose_fact n (k + 1) hk'
      have s1 : n + 1 - (k + 1) = n - k := by omega
      have s2 : n - k = (n - (k + 1)) + 1 := by omega
      rw [s1]
      have a1 : choose n k * (fact (k + 1) * fact (n - k)) = (k + 1) * fact n := by
        rw [← e1, fact]
        simp only [Nat.mul_assoc, Nat.mul_comm, Nat.mul_left_comm]
      have a2 : choose n (k + 1) * (fact (k + 1) * fact (n - k)) = (n - k) * fact n := by
        have s3 : fact (n - k) = fact (n - (k + 1)) * (n - k) := by
          rw [s2, fact, ← s2]
        rw [← e2, s3]
        simp only [Nat.mul_assoc, Nat.mul_comm, Nat.mul_left_comm]
      rw [a1, a2, ← Nat.add_mul, fact, Nat.mul_comm]
      congr 1
      omega
theorem choose_step (n k : Nat) (h : k + 1 ≤ n) : choose n k * (n - k) / (k + 1) = choose n (k + 1) := by
  have e1 := choose_fact n k (by omega)
  have e2 := choose_fact n (k + 1) h
  have s2 : n - k = (n - (k + 1)) + 1 := by omega
  have p : 0 < fact k * fact (n - (k + 1)) := Nat.mul_pos (fact_pos _) (fact_pos _)
  have q : choose n k * (n - k) = choose n (k + 1) * (k + 1) := by
    have : choose n k * (n - k) * (fact k * fact (n - (k + 1))) = choose n (k + 1) * (k + 1) * (fact k * fact (n - (k + 1))) := by
      have l : choose n k * (n - k) * (fact k * fact (n - (k + 1))) = fact n := by
        rw [← e1, show fact (n - k) = fact (n - (k + 1)) * (n - k) by rw [s2, fact, ← s2]]
        simp only [Nat.mul_assoc, Nat.mul_comm, Nat.mul_left_comm]
      have r : choose n (k + 1) * (k + 1) * (fact k * fact (n - (k + 1))) = fact n := by
        rw [← e2, fact]
        simp only [Nat.mul_assoc, Nat.mul_comm, Nat.mul_left_comm]
      rw [l, r]
    exact Nat.eq_of_mul_eq_mul_right p this
  rw [q, Nat.mul_div_cancel _ (Nat.succ_pos k)]
noncomputable def multi : Nat → List Nat → Nat
  | _, [] => 1
  | n, s :: r => choose n s * multi (n - s) r
theorem multi_fact : ∀ (ss : List Nat) (n : Nat), ss.sum ≤ n → multi n ss * ((ss.map fact).foldr (· * ·) 1 * fact (n - ss.sum)) = fact n
  | [], n, _ => by simp [multi]
  | s :: r, n, h => by
    rw [List.sum_cons] at h
    have ih := multi_fact r (n - s) (by omega)
    have c := choose_fact n s (by omega)
    rw [multi, List.map_cons, List.foldr_cons, List.sum_cons, ← c, ← ih, Nat.sub_sub]
    simp only [Nat.mul_assoc, Nat.mul_comm, Nat.mul_left_comm]
end KM

end

section
-- KcDeal
set_option linter.all false
namespace KM
/-! ### deals, built card by card -/
noncomputable def nexts (room : List Nat) (w : List Nat) : List Nat := (List.range room.length).filter fun j => decide (w.count j < room.getD j 0)
noncomputable def grow (room : List Nat) (ws : List (List Nat)) : List (List Nat) := ws.flatMap fun w => (nexts room w).map fun j => w ++ [j]
noncomputable def level (room : List Nat) : Nat → List (List Nat)
  | 0 => [[]]
  | i + 1 => grow room (level room i)
noncomputable def words : Nat → List Nat → Nat
  | 0, _ => 1
  | n + 1, r => (((List.range r.length).filter fun j => decide (0 < r.getD j 0)).map fun j => words n (r.set j (r.getD j 0 - 1))).sum
noncomputable def left (room w : List Nat) : List Nat := (List.range room.length).map fun j => room.getD j 0 - w.count j
theorem left_len (room w : List Nat) : (left room w).length = room.length := by unfold left; rw [List.length_map, List.length_range]
theorem left_get (room w : List Nat) (j : Nat) (h : j < room.length) : (left room w).getD j 0 = room.getD j 0 - w.count j := by
  unfold left
  rw [List.getD_eq_getElem?_getD, List.getElem?_map, List.getElem?_range h]
  rfl
theorem left_snoc (room w : List Nat) (j : Nat) (h : j < room.length) : left room (w ++ [j]) = (left room w).set j ((left room w).getD j 0 - 1) := by
  apply List.ext_getElem?
  intro k
  by_cases hk : k < room.length
  · have e1 : (left room (w ++ [j]))[k]? = some (room.getD k 0 - (w ++ [j]).count k) := by
      unfold left
      rw [List.getElem?_map, List.getElem?_range hk]
      rfl
    rw [e1, List.getElem?_set, left_get room w j h, left_len]
    by_cases hjk : j = k
    · subst hjk
      rw [if_pos rfl, if_pos h, List.count_append]
      simp
      omega
    · rw [if_neg hjk]
      unfold left
      rw [List.getElem?_map, List.getElem?_range hk, List.count_append]
      simp [List.count_cons, hjk]
  · rw [List.getElem?_eq_none (by rw [left_len]; omega), List.getElem?_eq_none (by rw [List.length_set, left_len]; omega)]
theorem nexts_left (room w : List Nat) : nexts room w = (List.range (left room w).length).filter fun j => decide (0 < (left room w).getD j 0) := by
  unfold nexts
  rw [left_len]
  apply List.filter_congr
  intro j hj
  rw [List.mem_range] at hj
  rw [left_get room w j hj]
  by_cases h : w.count j < room.getD j 0
  · simp [h]
    omega
  · simp [h]
    omega
noncomputable def growN (room : List Nat) : Nat → List (List Nat) → List (List Nat)
  | 0, ws => ws
  | n + 1, ws => growN room n (grow room ws)
theorem growN_level (room : List Nat) : ∀ n i, growN room n (level room i) = level room (i + n)
  | 0, i => rfl
  | n + 1, i => by
    rw [growN, show grow room (level room i) = level room (i + 1) from rfl, growN_level room n (i + 1)]
    congr 1
    omega
theorem sum_flatMap_len (f : List Nat → Nat) (room : List Nat) : ∀ ws : List (List Nat), ((grow room ws).map f).sum = (ws.map fun w => ((nexts room w).map fun j => f (w ++ [j])).sum).sum
  | [] => rfl
  | w :: r => by
    have ih := sum_flatMap_len f room r
    unfold grow at ih ⊢
    rw [List.flatMap_cons, List.map_append, List.sum_append, ih, List.map_cons, List.sum_cons, List.map_map]
    rfl
theorem growN_len (room : List Nat) : ∀ (n : Nat) (ws : List (List Nat)), (growN room n ws).length = (ws.map fun w => words n (left room w)).sum
  | 0, ws => by
    rw [growN]
    induction ws with
    | nil => rfl
    | cons w r ih => rw [List.length_cons, ih, List.map_cons, List.sum_cons, words]; omega
  | n + 1, ws => by
    rw [growN, growN_len room n, sum_flatMap_len]
    congr 1
    apply List.map_congr_left
    intro w _
    rw [words, nexts_left]
    congr 1
    apply List.map_congr_left
    intro j hj
    have hj' := List.mem_filter.mp hj
    rw [List.mem_range, left_len] at hj'
    rw [left_snoc room w j hj'.1]
/-! the words are counted by the factorials -/
noncomputable def prodF (r : List Nat) : Nat := (r.map fact).foldr (· * ·) 1
theorem prodF_cons (a : Nat) (r : List Nat) : prodF (a :: r) = fact a * prodF r := rfl
theorem prodF_pos : ∀ r, 0 < prodF r
  | [] => by decide
  | a :: r => Nat.mul_pos (fact_pos a) (prodF_pos r)
theorem prodF_set : ∀ (r : List Nat) (j : Nat), j < r.length → 0 < r.getD j 0 → prodF r = prodF (r.set j (r.getD j 0 - 1)) * r.getD j 0
  | [], j, h, _ => absurd h (by simp)
  | a :: r, 0, _, h => by
    have h' : 0 < a := h
    show prodF (a :: r) = prodF ((a - 1) :: r) * a
    rw [prodF_cons, prodF_cons]
    obtain ⟨b, rfl⟩ : ∃ b, a = b + 1 := ⟨a - 1, by omega⟩
    rw [show b + 1 - 1 = b by omega, fact]
    simp only [Nat.mul_assoc, Nat.mul_comm, Nat.mul_left_comm]
  | a :: r, j + 1, h, hp => by
    have ih := prodF_set r j (by simpa using h) hp
    show prodF (a :: r) = prodF (a :: r.set j (r.getD j 0 - 1)) * r.getD j 0
    rw [prodF_cons, prodF_cons, ih]
    simp only [Nat.mul_assoc, Nat.mul_comm, Nat.mul_left_comm]
theorem sum_set : ∀ (r : List Nat) (j : Nat), j < r.length → 0 < r.getD j 0 → (r.set j (r.getD j 0 - 1)).sum + 1 = r.sum
  | [], j, h, _ => absurd h (by simp)
  | a :: r, 0, _, h => by
    have h' : 0 < a := h
    show ((a - 1) :: r).sum + 1 = (a :: r).sum
    rw [List.sum_cons, List.sum_cons]
    omega
  | a :: r, j + 1, h, hp => by
    have ih := sum_set r j (by simpa using h) hp
    show (a :: r.set j (r.getD j 0 - 1)).sum + 1 = (a :: r).sum
    rw [List.sum_cons, List.sum_cons]
    omega
theorem sum_mul (c : Nat) (f : Nat → Nat) : ∀ l : List Nat, (l.map f).sum * c = (l.map fun j => f j * c).sum
  | [] => by simp
  | a :: r => by rw [List.map_cons, List.sum_cons, Nat.add_mul, sum_mul c f r, List.map_cons, List.sum_cons]
theorem sum_pos_only (r : List Nat) : (((List.range r.length).filter fun j => decide (0 < r.getD j 0)).map fun j => r.getD j 0).sum = r.sum := by
  have go : ∀ (l : List Nat) (g : Nat → Nat), ((l.filter fun j => decide (0 < g j)).map g).sum = (l.map g).sum := by
    intro l g
    induction l with
    | nil => rfl
    | cons a t ih =>
      rw [List.filter_cons]
      by_cases h : 0 < g a
      · rw [if_pos (by simpa using h), List.map_cons, List.sum_cons, ih, List.map_cons, List.sum_cons]
      · rw [if_neg (by simpa using h), ih, List.map_cons, List.sum_cons]
        omega
  rw [go]
  congr 1
  apply List.ext_getElem?
  intro k
  rw [List.getElem?_map]
  by_cases hk : k < r.length
  · rw [List.getElem?_range hk, List.getElem?_eq_getElem hk]
    show some (r.getD k 0) = some r[k]
    rw [List.getD_eq_getElem?_getD, List.getElem?_eq_getElem hk]
    rfl
  · rw [List.getElem?_eq_none (by simpa using hk), List.getElem?_eq_none (by simpa using hk)]
    rfl
theorem words_fact : ∀ (n : Nat) (r : List Nat), r.sum = n → words n r * prodF r = fact n
  | 0, r, h => by
    have : prodF r = 1 := by
      induction r with
      | nil => rfl
      | cons a t ih =>
        rw [List.sum_cons] at h
        have ha : a = 0 := by omega
        subst ha
        rw [prodF_cons, ih (by omega)]
        rfl
    rw [words, this]
    rfl
  | n + 1, r, h => by
    rw [words, sum_mul]
    have e : ((List.range r.length).filter fun j => decide (0 < r.getD j 0)).map (fun j => words n (r.set j (r.getD j 0 - 1)) * prodF r) = ((List.range r.length).filter fun j => decide (0 < r.getD j 0)).map (fun j => r.getD j 0 * fact n) := by
      apply List.map_congr_left
      intro j hj
      have hj' := List.mem_filter.mp hj
      rw [List.mem_range] at hj'
      have hp : 0 < r.getD j 0 := of_decide_eq_true hj'.2
      rw [prodF_set r j hj'.1 hp, ← Nat.mul_assoc, words_fact n _ (by have := sum_set r j hj'.1 hp; omega), Nat.mul_comm]
    rw [e, ← sum_mul, sum_pos_only, h, fact, Nat.mul_comm]
theorem left_nil (room : List Nat) : left room [] = room := by
  apply List.ext_getElem?
  intro k
  unfold left
  rw [List.getElem?_map]
  by_cases hk : k < room.length
  · rw [List.getElem?_range hk, List.getElem?_eq_getElem hk]
    show some (room.getD k 0 - ([] : List Nat).count k) = some room[k]
    rw [List.getD_eq_getElem?_getD, List.getElem?_eq_getElem hk]
    simp
  · rw [List.getElem?_eq_none (by simpa using hk), List.getElem?_eq_none (by simpa using hk)]
    rfl
theorem level_len (room : List Nat) : (level room room.sum).length * prodF room = fact room.sum := by
  have e := growN_level room room.sum 0
  rw [Nat.zero_add] at e
  rw [← e, growN_len]
  show (List.map (fun w => words room.sum (left room w)) [[]]).sum * prodF room = fact room.sum
  rw [List.map_cons, List.map_nil, List.sum_cons, List.sum_nil, left_nil, Nat.add_zero]
  exact words_fact _ _ rfl
/-! ### what holds of each beginning -/
structure Begun (room : List Nat) (i : Nat) (w : List Nat) : Prop where
  len : w.length = i
  all : ∀ j ∈ w, j < room.length
  cnt : ∀ j, j < room.length → w.count j ≤ room.getD j 0
theorem level_begun (room : List Nat) : ∀ i, ∀ w ∈ level room i, Begun room i w
  | 0, w, h => by
    have : w = [] := by simpa [level] using h
    subst this
    exact ⟨rfl, fun _ h => (nomatch h), fun j _ => by simp⟩
  | i + 1, w, h => by
    rw [level, grow, List.mem_flatMap] at h
    obtain ⟨v, hv, h⟩ := h
    obtain ⟨j, hj, rfl⟩ := List.mem_map.mp h
    have b := level_begun room i v hv
    have hj' := List.mem_filter.mp hj
    rw [List.mem_range] at hj'
    have hc : v.count j < room.getD j 0 := of_decide_eq_true hj'.2
    refine ⟨by rw [List.length_append, b.len]; rfl, fun k hk => ?_, fun k hk => ?_⟩
    · rcases List.mem_append.mp hk with hk | hk
      · exact b.all k hk
      · rw [List.mem_singleton] at hk
        omega
    · rw [List.count_append]
      by_cases e : j = k
      · subst e
        rw [List.count_singleton_self]
        omega
      · have := b.cnt k hk
        rw [List.count_singleton, if_neg (by simpa using e)]
        omega
theorem sum_counts : ∀ (n : Nat) (w : List Nat), (∀ j ∈ w, j < n) → ((List.range n).map fun j => w.count j).sum = w.length
  | n, [] , _ => by
    have : ((List.range n).map fun j => ([] : List Nat).count j) = (List.range n).map fun _ => 0 := by simp
    rw [this]
    have go : ∀ m, ((List.range m).map fun _ => 0).sum = 0 := by
      intro m
      induction m with
      | zero => rfl
      | succ m ih => rw [List.range_succ, List.map_append, List.sum_append, ih]; rfl
    exact go n
  | n, a :: w, h => by
    have ih := sum_counts n w fun j hj => h j (List.mem_cons_of_mem _ hj)
    have ha : a < n := h a List.mem_cons_self
    rw [List.length_cons, ← ih]
    clear ih h
    have go : ∀ m, ((List.range m).map fun j => (a :: w).count j).sum = ((List.range m).map fun j => w.count j).sum + (if a < m then 1 else 0) := by
      intro m
      induction m with
      | zero => simp
      | succ m ih =>
        rw [List.range_succ, List.map_append, List.sum_append, List.map_append, List.sum_append, ih]
        simp only [List.map_cons, List.map_nil, List.sum_cons, List.sum_nil, List.count_cons]
        by_cases e : a = m
        · subst e
          rw [if_neg (Nat.lt_irrefl a), if_pos (Nat.lt_succ_self a), if_pos (beq_self_eq_true a)]
          omega
        · rw [if_neg (show ¬ (a == m) = true by simpa using e)]
          by_cases hl : a < m
          · rw [if_pos hl, if_pos (show a < m + 1 by omega)]
            omega
          · rw [if_neg hl, if_neg (show ¬ a < m + 1 by omega)]
            omega
    rw [go, if_pos ha]
theorem sums_eq : ∀ (n : Nat) (f g : Nat → Nat), (∀ j, j < n → f j ≤ g j) → ((List.range n).map f).sum = ((List.range n).map g).sum → ∀ j, j < n → f j = g j
  | 0, _, _, _, _, j, hj => absurd hj (by omega)
  | n + 1, f, g, hle, hs, j, hj => by
    rw [List.range_succ, List.map_append, List.sum_append, List.map_append, List.sum_append] at hs
    simp only [List.map_cons, List.map_nil, List.sum_cons, List.sum_nil, Nat.add_zero] at hs
    have hle' : ∀ k, k < n → f k ≤ g k := fun k hk => hle k (by omega)
    have mono : ∀ m, m ≤ n → ((List.range m).map f).sum ≤ ((List.range m).map g).sum := by
      intro m
      induction m with
      | zero => intro _; exact Nat.le_refl _
      | succ m ih =>
        intro hm
        rw [List.range_succ, List.map_append, List.sum_append, List.map_append, List.sum_append]
        simp only [List.map_cons, List.map_nil, List.sum_cons, List.sum_nil, Nat.add_zero]
        have := ih (by omega)
        have := hle' m (by omega)
        omega
    have m1 := mono n (Nat.le_refl _)
    have m2 := hle n (by omega)
    by_cases e : j = n
    · subst e
      omega
    · exact sums_eq n f g hle' (by omega) j (by omega)
theorem range_getD (room : List Nat) : (List.range room.length).map (fun j => room.getD j 0) = room := by
  apply List.ext_getElem?
  intro k
  rw [List.getElem?_map]
  by_cases hk : k < room.length
  · rw [List.getElem?_range hk, List.getElem?_eq_getElem hk]
    show some (room.getD k 0) = some room[k]
    rw [List.getD_eq_getElem?_getD, List.getElem?_eq_getElem hk]
    rfl
  · rw [List.getElem?_eq_none (by simpa using hk), List.getElem?_eq_none (by simpa using hk)]
    rfl
theorem whole_counts {room w : List Nat} (h : Begun room room.sum w) : ∀ j, j < room.length → w.count j = room.getD j 0 := by
  refine sums_eq room.length (fun j => w.count j) (fun j => room.getD j 0) h.cnt ?_
  rw [sum_counts room.length w h.all, range_getD, h.len]
/-! ### their order -/
noncomputable def lex : List Nat → List Nat → Bool
  | [], [] => false
  | [], _ :: _ => true
  | _ :: _, [] => false
  | a :: x, b :: y => if a = b then lex x y else decide (a < b)
theorem lex_snoc : ∀ (x y : List Nat) (i j : Nat), x.length = y.length → lex x y = true → lex (x ++ [i]) (y ++ [j]) = true
  | [], [], _, _, _, h => by cases h
  | [], _ :: _, _, _, h, _ => by simp at h
  | _ :: _, [], _, _, h, _ => by simp at h
  | a :: x, b :: y, i, j, hl, h => by
    show (if a = b then lex (x ++ [i]) (y ++ [j]) else decide (a < b)) = true
    have h' : (if a = b then lex x y else decide (a < b)) = true := h
    by_cases e : a = b
    · rw [if_pos e] at h' ⊢
      exact lex_snoc x y i j (by simpa using hl) h'
    · rw [if_neg e] at h' ⊢
      exact h'
theorem lex_same : ∀ (x : List Nat) (i j : Nat), i < j → lex (x ++ [i]) (x ++ [j]) = true
  | [], i, j, h => by
    show (if i = j then lex [] [] else decide (i < j)) = true
    rw [if_neg (by omega)]
    exact decide_eq_true h
  | a :: x, i, j, h => by
    show (if a = a then lex (x ++ [i]) (x ++ [j]) else decide (a < a)) = true
    rw [if_pos rfl]
    exact lex_same x i j h
theorem level_sorted (room : List Nat) : ∀ i, (level room i).Pairwise fun x y => lex x y = true
  | 0 => List.pairwise_singleton _ _
  | i + 1 => by
    have ih := level_sorted room i
    have hb := level_begun room i
    show (grow room (level room i)).Pairwise _
    generalize level room i = ws at ih hb
    unfold grow
    induction ws with
    | nil => exact List.Pairwise.nil
    | cons w r ih2 =>
      rw [List.flatMap_cons, List.pairwise_append]
      rw [List.pairwise_cons] at ih
      refine ⟨?_, ih2 ih.2 fun v hv => hb v (List.mem_cons_of_mem _ hv), fun x hx y hy => ?_⟩
      · rw [List.pairwise_map]
        have sub : (nexts room w).Pairwise fun a b => a < b := (List.pairwise_lt_range).sublist (List.filter_sublist)
        exact sub.imp fun {a b} h => lex_same w a b h
      · obtain ⟨a, _, rfl⟩ := List.mem_map.mp hx
        rw [List.mem_flatMap] at hy
        obtain ⟨v, hv, hy⟩ := hy
        obtain ⟨b, _, rfl⟩ := List.mem_map.mp hy
        exact lex_snoc w v a b (by rw [(hb w List.mem_cons_self).len, (hb v (List.mem_cons_of_mem _ hv)).len]) (ih.1 v hv)
end KM

end

section
-- KcNum
set_option linter.all false
namespace KM
theorem choose_le (n k : Nat) : choose n k ≤ 2 ^ n := by
  induction n generalizing k with
  | zero => cases k <;> simp [choose]
  | succ n ih =>
    cases k with
    | zero => rw [choose_zero]; exact Nat.one_le_two_pow
    | succ k =>
      rw [choose, Nat.pow_succ]
      have := ih k
      have := ih (k + 1)
      omega
theorem choose_stepZ {n i : Nat} (h : i + 1 ≤ n) : ((choose n i : Nat) : Int) * ((n : Int) - (0 + (i : Int))) / (0 + (i : Int) + 1) = ((choose n (i + 1) : Nat) : Int) := by
  have e1 : (n : Int) - (0 + (i : Int)) = ((n - i : Nat) : Int) := by omega
  have e2 : (0 + (i : Int) + 1) = ((i + 1 : Nat) : Int) := by omega
  rw [e1, e2, ← Int.natCast_mul, ← Int.natCast_ediv, choose_step n i h]
theorem prodF_multi (n : Nat) (ss : List Nat) (h : ss.sum ≤ n) : multi n ss * prodF (ss ++ [n - ss.sum]) = fact n := by
  have e : prodF (ss ++ [n - ss.sum]) = (ss.map fact).foldr (· * ·) 1 * fact (n - ss.sum) := by
    generalize n - ss.sum = k
    induction ss with
    | nil => simp [prodF]
    | cons a r ih =>
      have hr : r.sum ≤ n := by rw [List.sum_cons] at h; omega
      show fact a * prodF (r ++ [k]) = fact a * (r.map fact).foldr (· * ·) 1 * fact k
      rw [ih hr, Nat.mul_assoc]
  rw [e]
  exact multi_fact ss n h
theorem level_multi {n : Nat} {ss : List Nat} (h : ss.sum ≤ n) : (level (ss ++ [n - ss.sum]) n).length = multi n ss := by
  have e1 := prodF_multi n ss h
  have hs : (ss ++ [n - ss.sum]).sum = n := by
    rw [List.sum_append, List.sum_cons, List.sum_nil]
    omega
  have e2 := level_len (ss ++ [n - ss.sum])
  rw [hs] at e2
  exact Nat.eq_of_mul_eq_mul_right (prodF_pos _) (e2.trans e1.symm)
theorem words_pos (n : Nat) (r : List Nat) (h : r.sum = n) : 0 < words n r := by
  have e := words_fact n r h
  have f := fact_pos n
  rcases Nat.eq_zero_or_pos (words n r) with z | z
  · rw [z, Nat.zero_mul] at e
    omega
  · exact z
theorem left_sum {room w : List Nat} {i : Nat} (h : Begun room i w) : (left room w).sum + i = room.sum := by
  have go : ∀ m, m ≤ room.length → ((List.range m).map fun j => room.getD j 0 - w.count j).sum + ((List.range m).map fun j => w.count j).sum = ((List.range m).map fun j => room.getD j 0).sum := by
    intro m
    induction m with
    | zero => intro _; rfl
    | succ m ih =>
      intro hm
      have := ih (by omega)
      have := h.cnt m (by omega)
      simp only [List.range_succ, List.map_append, List.sum_append, List.map_cons, List.map_nil, List.sum_cons, List.sum_nil] at *
      omega
  have e := go room.length (Nat.le_refl _)
  rw [sum_counts room.length w h.all, range_getD, h.len] at e
  exact e
theorem level_le {room : List Nat} {i : Nat} (h : i ≤ room.sum) : (level room i).length ≤ (level room room.sum).length := by
  have e := growN_level room (room.sum - i) i
  rw [show i + (room.sum - i) = room.sum by omega] at e
  rw [← e, growN_len]
  have hb := level_begun room i
  generalize level room i = ws at hb
  induction ws with
  | nil => exact Nat.zero_le _
  | cons w r ih =>
    rw [List.map_cons, List.sum_cons, List.length_cons]
    have := ih fun v hv => hb v (List.mem_cons_of_mem _ hv)
    have := words_pos (room.sum - i) (left room w) (by have := left_sum (hb w List.mem_cons_self); omega)
    omega
noncomputable def nextsTo (room w : List Nat) (k : Nat) : List Nat := (List.range k).filter fun j => decide (w.count j < room.getD j 0)
theorem nextsTo_all (room w : List Nat) : nextsTo room w room.length = nexts room w := rfl
theorem nextsTo_succ (room w : List Nat) (k : Nat) : nextsTo room w (k + 1) = nextsTo room w k ++ (if w.count k < room.getD k 0 then [k] else []) := by
  unfold nextsTo
  rw [List.range_succ, List.filter_append]
  by_cases h : w.count k < room.getD k 0
  · rw [if_pos h, List.filter_cons_of_pos (by simpa using h)]
    rfl
  · rw [if_neg h, List.filter_cons_of_neg (by simpa using h)]
    rfl
theorem grow_take (room : List Nat) (ws : List (List Nat)) (i : Nat) (w : List Nat) (h : ws[i]? = some w) : grow room (ws.take (i + 1)) = grow room (ws.take i) ++ (nexts room w).map fun j => w ++ [j] := by
  unfold grow
  rw [List.take_add_one, h, List.flatMap_append]
  simp
theorem grow_take_le (room : List Nat) (ws : List (List Nat)) (i : Nat) : (grow room (ws.take i)).length ≤ (grow room ws).length := by
  have : grow room ws = grow room (ws.take i) ++ grow room (ws.drop i) := by
    unfold grow
    rw [← List.flatMap_append, List.take_append_drop]
  rw [this, List.length_append]
  omega
end KM

end

section
-- KcPack
set_option Elab.async false
set_option linter.all false
set_option maxRecDepth 100000
set_option maxHeartbeats 4000000
namespace L2
open PySem PyProof.Rows
/-! ### things of whatever kind -/
noncomputable def wholeV : V → Bool
  | .int _ => true
  | _ => false
noncomputable def withinV : V → Int → Int → Bool
  | .int i, lo, hi => decide (lo ≤ i) && decide (i ≤ hi)
  | _, _, _ => false
noncomputable def Plain (K : PySem.W.Frag) (H : Hp) (x : V) : Prop := ∃ t b1 b2, TyOf K H x t ∧ PySem.W.kitOne K t (.type "int") = some b1 ∧ PySem.W.kitOne K t (.type "bool") = some b2 ∧ (b1 && !b2) = wholeV x
theorem Plain.int {K : PySem.W.Frag} {H : Hp} (i : Int) : Plain K H (.int i) := ⟨_, _, _, .int i, kit_int_int K, kit_int_bool K, rfl⟩
theorem tyOf_same {K : PySem.W.Frag} {H H' : Hp} {x : V} {t : Value} (h : TyOf K H x t) (s : Same H H') : TyOf K H' x t := by
  cases h with
  | non => exact .non
  | bl b => exact .bl b
  | int i => exact .int i
  | str x => exact .str x
  | flt x => exact .flt x
  | lst e => exact .lst (s _ _ e)
  | frz e => exact .frz (s _ _ e)
  | tup e => exact .tup (s _ _ e)
  | dK e => exact .dK (s _ _ e)
  | dT e => exact .dT (s _ _ e)
  | ins e cl ha hn htk hm => exact .ins (s _ _ e) cl ha hn htk hm
theorem Plain.same {K : PySem.W.Frag} {H H' : Hp} {x : V} (h : Plain K H x) (s : Same H H') : Plain K H' x := by
  obtain ⟨t, b1, b2, ty, r⟩ := h
  exact ⟨t, b1, b2, tyOf_same ty s, r⟩
noncomputable def spWhole (K : PySem.W.Frag) : Sp := fun vs H Q _ => ∃ x, vs = [x] ∧ Plain K H x ∧ Q (.bl (wholeV x)) H
noncomputable abbrev sp_is_whole (K : PySem.W.Frag) : Sp := spWhole K
noncomputable def t_is_whole (K : PySem.W.Frag) : TS := (tRet (tAndV (tCB (rIsi K) (tCons (tVar 0) (tCons (tC (.ty "int")) tNil))) (tNotV (tCB (rIsi K) (tCons (tVar 0) (tCons (tC (.ty "bool")) tNil))))))
theorem len_is_whole {K : PySem.W.Frag} {vs : List V} {H : Hp} {Q : VK} {E : XK} (h : sp_is_whole K vs H Q E) : vs.length = 1 := by
  obtain ⟨x, rfl, _⟩ := h
  rfl
theorem rd_is_whole {K : PySem.W.Frag} {vs : List V} {H : Hp} {Q : VK} {E : XK} (h : sp_is_whole K vs H Q E) : t_is_whole K { nx := fun _ H' => Q .non H', rt := Q } (start ["thing"] vs) H := by
  obtain ⟨x, rfl, ⟨t, b1, b2, ty, k1, k2, e⟩, q⟩ := h
  refine ⟨_, rfl, _, _, _, _, rfl, ty, k1, _, rfl, ite_of (fun c => ?_) (fun c => ?_)⟩
  · subst c
    refine ⟨_, rfl, _, _, _, _, rfl, ty, k2, _, rfl, ?_⟩
    rw [← e, Bool.true_and] at q
    exact q
  · subst c
    rw [← e, Bool.false_and] at q
    exact q
noncomputable def spWithin (K : PySem.W.Frag) : Sp := fun vs H Q _ => ∃ x lo hi, vs = [x, .int lo, .int hi] ∧ Plain K H x ∧ Q (.bl (withinV x lo hi)) H
noncomputable abbrev sp_is_within (K : PySem.W.Frag) : Sp := spWithin K
noncomputable def t_is_within (K : PySem.W.Frag) : TS := (tRet (tAndV (tCall (sp_is_whole K) [] E0 (tCons (tVar 0) tNil)) (tChain (rI0 fun i j => .bl (decide (i ≤ j))) (rI0 fun i j => .bl (decide (i ≤ j))) (tVar 1) (tVar 0) (tVar 2))))
theorem len_is_within {K : PySem.W.Frag} {vs : List V} {H : Hp} {Q : VK} {E : XK} (h : sp_is_within K vs H Q E) : vs.length = 3 := by
  obtain ⟨x, lo, hi, rfl, _⟩ := h
  rfl
theorem rd_is_within {K : PySem.W.Frag} {vs : List V} {H : Hp} {Q : VK} {E : XK} (h : sp_is_within K vs H Q E) : t_is_within K { nx := fun _ H' => Q .non H', rt := Q } (start ["thing", "least", "most"] vs) H := by
  obtain ⟨x, lo, hi, rfl, pl, q⟩ := h
  refine ⟨_, rfl, x, rfl, pl, _, rfl, ite_of (fun c => ?_) (fun c => ?_)⟩
  · cases x with
    | int i =>
      refine ⟨_, rfl, _, rfl, _, _, rfl, rfl, _, rfl, ite_of (fun d => ?_) (fun d => ?_)⟩
      · refine ⟨_, rfl, _, _, rfl, rfl, ?_⟩
        have q' : Q (.bl (decide (lo ≤ i) && decide (i ≤ hi))) H := q
        rw [d, Bool.true_and] at q'
        exact q'
      · have q' : Q (.bl (decide (lo ≤ i) && decide (i ≤ hi))) H := q
        rw [d, Bool.false_and] at q'
        exact q'
    | _ => cases c
  · cases x with
    | int i => cases c
    | _ => exact q
/-! ### what is a pack -/
noncomputable def sumV (zs : List V) : Int := (zs.map fun z => match z with | .int i => i | _ => 0).sum
noncomputable def packV (x : V) (zs : List V) : Bool := match x with
  | .int c => (decide (0 ≤ c) && decide (c ≤ 12)) && (decide (1 ≤ zs.length) && decide (zs.length ≤ 5)) && zs.all (fun z => withinV z 0 c) && decide (sumV zs ≤ c)
  | _ => false
theorem ints_of_within {zs : List V} {lo hi : Int} (h : zs.all (fun z => withinV z lo hi) = true) : ∃ ns : List Int, zs = ns.map V.int ∧ sumV zs = ns.sum := by
  induction zs with
  | nil => exact ⟨[], rfl, rfl⟩
  | cons z r ih =>
    rw [List.all_cons, Bool.and_eq_true] at h
    obtain ⟨ns, e, es⟩ := ih h.2
    cases z with
    | int i =>
      refine ⟨i :: ns, by rw [e]; rfl, ?_⟩
      show i + sumV r = (i :: ns).sum
      rw [es, List.sum_cons]
    | _ => exact absurd h.1 Bool.false_ne_true
noncomputable def Sizes (K : PySem.W.Frag) (H : Hp) (y : V) (zs : Option (List V)) : Prop := match zs with
  | some zs => ∃ a, y = .ref a ∧ (H a = some (.lst zs) ∨ ∃ o, H a = some (.frz o (.lst zs))) ∧ zs.length ≤ 1000 ∧ ∀ z ∈ zs, Plain K H z
  | none => ∃ t, TyOf K H y t ∧ PySem.W.kitOne K t (.type "list") = some false
noncomputable def packO (x : V) : Option (List V) → Bool
  | some zs => packV x zs
  | none => false
noncomputable def spPack (K : PySem.W.Frag) : Sp := fun vs H Q _ => ∃ x y zs, vs = [x, y] ∧ Plain K H x ∧ Sizes K H y zs ∧ ∀ H', Same H H' → Q (.bl (packO x zs)) H'
noncomputable abbrev sp_is_pack (K : PySem.W.Frag) : Sp := spPack K
noncomputable def t_is_pack (K : PySem.W.Frag) : TS := (tSeq (tIfS (tNot (tB (tCall (sp_is_within K) [] E0 (tCons (tVar 0) (tCons (tC (.int 0)) (tCons (tC (.int 12)) tNil)))))) (tRet (tC (.bl false))) tNext)
  (tSeq (tIfS (tOr (tNot (tB (tCB (rIsi K) (tCons (tVar 1) (tCons (tC (.ty "list")) tNil))))) (tNot (tB (tCall (sp_is_within K) [] E0 (tCons (tCB (cLen K) (tCons (tVar 1) tNil)) (tCons (tC (.int 1)) (tCons (tC (.int 5)) tNil))))))) (tRet (tC (.bl false))) tNext)
  (tRet (tAndV (tCB (cAll K) (tCons (tComp (iList K (tVar 1)) (fun _ _ _ _ => (gName 0)) (fun _ _ _ _ => tAlways) (fun _ _ _ _ => (tCall (sp_is_within K) [] E0 (tCons (tVar 0) (tCons (tC (.int 0)) (tCons (tVar 1) tNil))))) [none, some 0]) tNil)) (tOp (rI0 fun i j => .bl (decide (i ≤ j))) (tCB (cSum K) (tCons (tVar 1) tNil)) (tVar 0))))))
theorem len_is_pack {K : PySem.W.Frag} {vs : List V} {H : Hp} {Q : VK} {E : XK} (h : sp_is_pack K vs H Q E) : vs.length = 2 := by
  obtain ⟨x, y, zs, rfl, _⟩ := h
  rfl
theorem rd_is_pack {K : PySem.W.Frag} {vs : List V} {H : Hp} {Q : VK} {E : XK} (h : sp_is_pack K vs H Q E) : t_is_pack K { nx := fun _ H' => Q .non H', rt := Q } (start ["cards", "sizes"] vs) H := by
  obtain ⟨x, y, zs, rfl, px, hz, q⟩ := h
  refine ⟨_, rfl, x, 0, 12, rfl, px, _, rfl, ite_of (fun c => ?_) (fun c => ?_)⟩
  · -- no count of cards
    have e : packO x zs = false := by
      have c' : withinV x 0 12 = false := by simpa using c
      cases zs with
      | none => rfl
      | some zs =>
        cases x with
        | int i =>
          show ((decide (0 ≤ i) && decide (i ≤ 12)) && (decide (1 ≤ zs.length) && decide (zs.length ≤ 5)) && zs.all (fun z => withinV z 0 i) && decide (sumV zs ≤ i)) = false
          rw [show (decide (0 ≤ i) && decide (i ≤ 12)) = false from c']
          rfl
        | _ => rfl
    have := q H (Same.refl H)
    rw [e] at this
    exact this
  · have c' : withinV x 0 12 = true := by simpa using c
    cases x with
    | int i =>
      cases zs with
      | none =>
        obtain ⟨t, ty, k⟩ := hz
        refine ⟨_, rfl, _, _, _, _, rfl, ty, k, _, rfl, iteT (iteT ?_)⟩
        exact q H (Same.refl H)
      | some zs =>
        obtain ⟨a, rfl, ha, hlen, hp⟩ := hz
        have hS : SqL K H a zs := ha.elim (fun h => .inl (.inl h)) (fun h => .inl (.inr h))
        have ty : TyOf K H (.ref a) (.type "list") := ha.elim (fun h => .lst h) (fun ⟨o, h⟩ => .frz h)
        refine ⟨_, rfl, _, _, _, _, rfl, ty, kit_lst_lst K, _, rfl, iteF ?_⟩
        refine ⟨_, rfl, a, _, rfl, .inl hS, _, 1, 5, rfl, Plain.int _, _, rfl, ite_of (fun d => ?_) (fun d => ?_)⟩
        · have e : packO (.int i) (some zs) = false := by
            have d0 : withinV (.int (zs.length : Int)) 1 5 = false := by simpa using d
            have d' : (decide ((1 : Int) ≤ (zs.length : Int)) && decide ((zs.length : Int) ≤ 5)) = false := d0
            show ((decide (0 ≤ i) && decide (i ≤ 12)) && (decide (1 ≤ zs.length) && decide (zs.length ≤ 5)) && zs.all (fun z => withinV z 0 i) && decide (sumV zs ≤ i)) = false
            have e1 : decide (1 ≤ zs.length) = decide ((1 : Int) ≤ (zs.length : Int)) := decide_eq_decide.mpr (by omega)
            have e2 : decide (zs.length ≤ 5) = decide ((zs.length : Int) ≤ 5) := decide_eq_decide.mpr (by omega)
            rw [e1, e2, d', Bool.and_false]
            rfl
          have := q H (Same.refl H)
          rw [e] at this
          exact this
        · have d0 : withinV (.int (zs.length : Int)) 1 5 = true := by simpa using d
          have d' : (decide ((1 : Int) ≤ (zs.length : Int)) && decide ((zs.length : Int) ≤ 5)) = true := d0
          have e0 : packO (.int i) (some zs) = (zs.all (fun z => withinV z 0 i) && decide (sumV zs ≤ i)) := by
            show ((decide (0 ≤ i) && decide (i ≤ 12)) && (decide (1 ≤ zs.length) && decide (zs.length ≤ 5)) && zs.all (fun z => withinV z 0 i) && decide (sumV zs ≤ i)) = _
            have e1 : decide (1 ≤ zs.length) = decide ((1 : Int) ≤ (zs.length : Int)) := decide_eq_decide.mpr (by omega)
            have e2 : decide (zs.length ≤ 5) = decide ((zs.length : Int) ≤ 5) := decide_eq_decide.mpr (by omega)
            rw [e1, e2, d', show (decide (0 ≤ i) && decide (i ≤ 12)) = true from c', Bool.true_and, Bool.true_and]
          rw [e0] at q
          refine ⟨_, rfl, a, rfl, ⟨_, hS⟩, fun p hp' => comp_list (K := K) (a := a) (xs := zs) (fun k acc H2 => acc = ((zs.take k).map fun z => withinV z 0 i).map V.bl ∧ Same H H2 ∧ H2 p = some (.lst acc)) ⟨rfl, same_new hp' _, upd_same⟩ ?_ ?_ (small hlen) ?_ ?_⟩
          · rintro k acc H2 hk ⟨rfl, s2, e2⟩
            exact ⟨e2, by rw [List.length_map, List.length_map, List.length_take]; omega⟩
          · rintro k acc H2 hk ⟨rfl, s2, e2⟩
            exact s2.seq hS
          · rintro _ _ _ _ k z acc H2 hzk ⟨rfl, s2, e2⟩
            refine ⟨_, rfl, _, rfl, z, 0, i, rfl, (hp z (List.mem_of_getElem? hzk)).same s2, e2, ?_, s2.upd hp' _, upd_same⟩
            rw [List.take_add_one, hzk, List.map_append, List.map_append]
            rfl
          · rintro acc H2 ⟨rfl, s2, e2⟩
            rw [List.take_length] at e2
            refine ⟨p, _, rfl, SqL.of e2, _, rfl, ?_⟩
            have ea : (zs.map fun z => withinV z 0 i).all id = zs.all fun z => withinV z 0 i := by
              rw [List.all_map]
              rfl
            rw [ea]
            refine ite_of (fun g => ?_) (fun g => ?_)
            · obtain ⟨ns, en, es⟩ := ints_of_within g
              rw [g, Bool.true_and, es] at q
              refine ⟨_, rfl, a, ns, rfl, by rw [← en]; exact s2.seq hS, _, rfl, _, _, rfl, rfl, ?_⟩
              exact q H2 s2
            · rw [g, Bool.false_and] at q
              exact q H2 s2
    | _ => exact absurd c' Bool.false_ne_true

/-! ### how many -/
noncomputable def spChoices : Sp := fun vs H Q _ => ∃ n k : Nat, vs = [.int n, .int k] ∧ k ≤ n ∧ n ≤ 50 ∧ Q (.int (KM.choose n k : Nat)) H
noncomputable abbrev sp_choices (K : PySem.W.Frag) : Sp := spChoices
noncomputable def t_choices (K : PySem.W.Frag) : TS := (tSeq (tAsg (tC (.int 1)) (gName 2))
  (tSeq (tFor (iRng1 (tCons (tVar 1) tNil)) (gName 3) (tAsg (tOp (rI CDiv fun i j => .int (i / j)) (tOp (rI IntMulOk fun i j => .int (i * j)) (tVar 2) (tOp (rI0 fun i j => .int (i - j)) (tVar 0) (tVar 3))) (tOp (rI0 fun i j => .int (i + j)) (tVar 3) (tC (.int 1)))) (gName 2)))
  (tRet (tVar 2))))
theorem len_choices {K : PySem.W.Frag} {vs : List V} {H : Hp} {Q : VK} {E : XK} (h : sp_choices K vs H Q E) : vs.length = 2 := by
  obtain ⟨n, k, rfl, _⟩ := h
  rfl
theorem rd_choices {K : PySem.W.Frag} {vs : List V} {H : Hp} {Q : VK} {E : XK} (h : sp_choices K vs H Q E) : t_choices K { nx := fun _ H' => Q .non H', rt := Q } (start ["many", "taken", "ways", "step"] vs) H := by
  obtain ⟨n, k, rfl, hk, hn, q⟩ := h
  refine ⟨_, rfl, _, rfl, by omega, by omega, for_range (lo := 0) (n := ((k : Nat) : Int).toNat) (fun i σ H2 => ∃ st, σ = [some (.int n), some (.int k), some (.int (KM.choose n i : Nat)), st] ∧ H2 = H) ⟨none, by rw [KM.choose_zero]; rfl, rfl⟩ ?_ ?_⟩
  · rintro i σ H2 hi ⟨st, rfl, rfl⟩
    have hi' : i + 1 ≤ n := by omega
    refine ⟨_, rfl, _, rfl, _, rfl, _, _, rfl, rfl, _, _, rfl, rfl, .of_right (intBits_le_64 (by omega) (by omega)), _, rfl, _, _, rfl, rfl, _, _, rfl, rfl, ⟨by omega, by omega⟩, ?_⟩
    dsimp only
    rw [KM.choose_stepZ hi']
    exact ⟨_, rfl, rfl⟩
  · rintro σ H2 ⟨st, rfl, rfl⟩
    refine ⟨_, rfl, ?_⟩
    rw [show ((k : Nat) : Int).toNat = k by omega]
    exact q
structure Pack (c : Nat) (ss : List Nat) : Prop where
  c12 : c ≤ 12
  l1 : 1 ≤ ss.length
  l5 : ss.length ≤ 5
  sum : ss.sum ≤ c
noncomputable def natV (ss : List Nat) : List V := ss.map fun (s : Nat) => V.int ((s : Nat) : Int)
theorem natV_ints (ss : List Nat) : natV ss = (ss.map fun (s : Nat) => ((s : Nat) : Int)).map V.int := by unfold natV; rw [List.map_map]; rfl
theorem natV_len (ss : List Nat) : (natV ss).length = ss.length := List.length_map _
theorem sum_cast : ∀ ss : List Nat, (ss.map fun (s : Nat) => ((s : Nat) : Int)).sum = ((ss.sum : Nat) : Int)
  | [] => rfl
  | a :: r => by rw [List.map_cons, List.sum_cons, List.sum_cons, sum_cast r]; omega
theorem mem_le_sum : ∀ {ss : List Nat} {s : Nat}, s ∈ ss → s ≤ ss.sum
  | a :: r, s, h => by
    rw [List.sum_cons]
    rcases List.mem_cons.mp h with rfl | h
    · omega
    · have := mem_le_sum h
      omega
theorem packV_of {c : Nat} {ss : List Nat} (p : Pack c ss) : packV (.int c) (natV ss) = true := by
  have h1 := p.c12
  have h2 := p.l1
  have h3 := p.l5
  have h4 := p.sum
  show ((decide ((0 : Int) ≤ (c : Int)) && decide ((c : Int) ≤ 12)) && (decide (1 ≤ (natV ss).length) && decide ((natV ss).length ≤ 5)) && (natV ss).all (fun z => withinV z 0 c) && decide (sumV (natV ss) ≤ c)) = true
  have e1 : (natV ss).all (fun z => withinV z 0 c) = true := by
    unfold natV
    rw [List.all_map, List.all_eq_true]
    intro s hs
    have := mem_le_sum hs
    show (decide ((0 : Int) ≤ (s : Int)) && decide ((s : Int) ≤ (c : Int))) = true
    rw [decide_eq_true (by omega), decide_eq_true (by omega)]
    rfl
  have e2 : sumV (natV ss) = ((ss.sum : Nat) : Int) := by
    rw [← sum_cast]
    unfold sumV natV
    rw [List.map_map]
    rfl
  rw [e1, e2, natV_len, decide_eq_true (by omega), decide_eq_true (by omega), decide_eq_true h2, decide_eq_true h3, decide_eq_true (by omega)]
  rfl
theorem sizes_of {K : PySem.W.Frag} {H : Hp} {a : Addr} {ss : List Nat} (h : H a = some (.lst (natV ss))) (hl : ss.length ≤ 1000) : Sizes K H (.ref a) (some (natV ss)) :=
  ⟨a, rfl, .inl h, by rw [natV_len]; exact hl, fun z hz => by
    obtain ⟨s, _, rfl⟩ := List.mem_map.mp hz
    exact Plain.int _⟩
noncomputable def spHow (K : PySem.W.Frag) : Sp := fun vs H Q _ => ∃ (c : Nat) (a : Addr) (ss : List Nat), vs = [.int c, .ref a] ∧ H a = some (.lst (natV ss)) ∧ Pack c ss ∧ ∀ H', Same H H' → Q (.int (KM.multi c ss : Nat)) H'
noncomputable abbrev sp_how_many (K : PySem.W.Frag) : Sp := spHow K
noncomputable def t_how_many (K : PySem.W.Frag) : TS := (tSeq (tIfS (tNot (tB (tCall (sp_is_pack K) [] E0 (tCons (tVar 0) (tCons (tVar 1) tNil))))) tNever tNext)
  (tSeq (tAsg (tC (.int 1)) (gName 2))
  (tSeq (tAsg (tVar 0) (gName 3))
  (tSeq (tFor (iList K (tVar 1)) (gName 4) (tSeq (tAsg (tOp (rI IntMulOk fun i j => .int (i * j)) (tVar 2) (tCall (sp_choices K) [] E0 (tCons (tVar 3) (tCons (tVar 4) tNil)))) (gName 2))
  (tAsg (tOp (rI0 fun i j => .int (i - j)) (tVar 3) (tVar 4)) (gName 3))))
  (tRet (tVar 2))))))
theorem len_how_many {K : PySem.W.Frag} {vs : List V} {H : Hp} {Q : VK} {E : XK} (h : sp_how_many K vs H Q E) : vs.length = 2 := by
  obtain ⟨c, a, ss, rfl, _⟩ := h
  rfl
theorem rd_how_many {K : PySem.W.Frag} {vs : List V} {H : Hp} {Q : VK} {E : XK} (h : sp_how_many K vs H Q E) : t_how_many K { nx := fun _ H' => Q .non H', rt := Q } (start ["cards", "sizes", "many", "left", "size"] vs) H := by
  obtain ⟨c, a, ss, rfl, ha, p, q⟩ := h
  have h12 := p.c12
  have h5 := p.l5
  refine ⟨_, rfl, _, rfl, _, _, some (natV ss), rfl, Plain.int _, sizes_of ha (by omega), fun H1 s1 => ⟨_, rfl, ?_⟩⟩
  rw [show packO (.int c) (some (natV ss)) = true from packV_of p]
  refine iteF ?_
  refine ⟨_, rfl, ?_⟩
  refine ⟨_, rfl, a, rfl, ⟨_, SqL.of (s1 _ _ ha)⟩, for_list (K := K) (a := a) (xs := natV ss) (fun i σ H2 => ∃ (m l : Nat) (st : Option V), σ = [some (.int c), some (.ref a), some (.int m), some (.int l), st] ∧ H2 = H1 ∧ m * KM.multi l (ss.drop i) = KM.multi c ss ∧ (ss.drop i).sum ≤ l ∧ l ≤ 12)
    ⟨1, c, none, rfl, rfl, by rw [Nat.one_mul]; rfl, p.sum, h12⟩ (fun i σ H2 _ ⟨_, _, _, _, e, _⟩ => by subst e; exact SqL.of (s1 _ _ ha)) ?_ ?_⟩
  · rintro i x σ H2 hx ⟨m, l, st, rfl, rfl, hm, hs, hl⟩
    obtain ⟨z, hz, rfl⟩ : ∃ z : Nat, ss[i]? = some z ∧ x = .int (z : Int) := by
      unfold natV at hx
      rw [List.getElem?_map] at hx
      cases e : ss[i]? with
      | none => rw [e] at hx; cases hx
      | some z => rw [e] at hx; exact ⟨z, rfl, (Option.some.inj hx).symm⟩
    have hd : ss.drop i = z :: ss.drop (i + 1) := by
      obtain ⟨h1, h2⟩ := List.getElem?_eq_some_iff.mp hz
      rw [List.drop_eq_getElem_cons h1, h2]
    rw [hd, List.sum_cons] at hs
    rw [hd, KM.multi] at hm
    have hle := KM.choose_le l z
    have h2 : (2 : Nat) ^ l ≤ 2 ^ 12 := Nat.pow_le_pow_right (by decide) hl
    refine ⟨_, rfl, _, rfl, _, rfl, l, z, rfl, by omega, by omega, _, _, rfl, rfl, .of_right (intBits_le_64 (by omega) (by omega)), ?_⟩
    refine ⟨_, rfl, _, rfl, _, _, rfl, rfl, m * KM.choose l z, l - z, some (.int (z : Int)), ?_, rfl, by rw [Nat.mul_assoc]; exact hm, by omega, by omega⟩
    have e1 : ((m : Nat) : Int) * ((KM.choose l z : Nat) : Int) = ((m * KM.choose l z : Nat) : Int) := (Int.natCast_mul _ _).symm
    have e2 : ((l : Nat) : Int) - ((z : Nat) : Int) = ((l - z : Nat) : Int) := by omega
    dsimp only
    rw [e1, e2]
    rfl
  · rintro σ H2 ⟨m, l, st, rfl, rfl, hm, hs, hl⟩
    refine ⟨_, rfl, ?_⟩
    rw [natV_len, List.drop_length, KM.multi, Nat.mul_one] at hm
    rw [hm]
    exact q _ s1
/-! ### deals, one more card -/
noncomputable def DealsAt (H : Hp) (p : Addr) (ws : List (List Nat)) : Prop := ∃ rs : List Addr, H p = some (.lst (rs.map V.ref)) ∧ Paired (fun (a : Addr) (w : List Nat) => H a = some (.tup (natV w))) rs ws
theorem paired_same {H H' : Hp} {rs : List Addr} {ws : List (List Nat)} (h : Paired (fun (a : Addr) (w : List Nat) => H a = some (.tup (natV w))) rs ws) (s : ∀ a xs, H a = some (.tup xs) → H' a = some (.tup xs)) : Paired (fun (a : Addr) (w : List Nat) => H' a = some (.tup (natV w))) rs ws :=
  Paired.mapP h fun a w e => s _ _ e
theorem paired_get {α β : Type} {F : α → β → Prop} : ∀ {l : List α} {m : List β} {i : Nat} {a : α}, Paired F l m → l[i]? = some a → ∃ b, m[i]? = some b ∧ F a b
  | _, _, _, _, .nil, h => by simp at h
  | _, _, 0, _, .cons r _, h => by simp at h; subst h; exact ⟨_, rfl, r⟩
  | _, _, i + 1, a, .cons _ t, h => by
    obtain ⟨b, h1, h2⟩ := paired_get (i := i) (a := a) t (by simpa using h)
    exact ⟨b, by simpa using h1, h2⟩
theorem paired_app {α β : Type} {F : α → β → Prop} : ∀ {l : List α} {m : List β} {l' : List α} {m' : List β}, Paired F l m → Paired F l' m' → Paired F (l ++ l') (m ++ m')
  | _, _, _, _, .nil, h => h
  | _, _, _, _, .cons r t, h => .cons r (paired_app t h)
theorem count_natV (w : List Nat) (j : Nat) : (natV w).countP (fun z => eqV z (.int (j : Int))) = w.count j := by
  unfold natV
  rw [List.countP_map, List.count_eq_countP]
  congr 1
  funext k
  show ((k : Int) == (j : Int)) = (k == j)
  by_cases h : k = j
  · subst h; simp
  · rw [beq_eq_false_iff_ne.mpr h, beq_eq_false_iff_ne.mpr (by omega)]
theorem flat_natV (w : List Nat) : (natV w).all flatV = true := by unfold natV; rw [List.all_map]; simp [flatV]
noncomputable def spMore (K : PySem.W.Frag) : Sp := fun vs H Q _ => ∃ (b r : Addr) (ws : List (List Nat)) (room : List Nat), vs = [.ref b, .ref r] ∧ DealsAt H b ws ∧ H r = some (.lst (natV room)) ∧ room.length ≤ 6 ∧ (KM.grow room ws).length ≤ 2000 ∧ (∀ w ∈ ws, w.length ≤ 12) ∧
  ∀ (p : Addr) (H' : Hp), Same H H' → H p = none → DealsAt H' p (KM.grow room ws) → Q (.ref p) H'
noncomputable abbrev sp_with_one_more (K : PySem.W.Frag) : Sp := spMore K
noncomputable def t_with_one_more (K : PySem.W.Frag) : TS := (tSeq (tAsg (tLst tNil) (gName 2))
  (tSeq (tFor (iList K (tVar 0)) (gName 3) (tFor (iEnum srcL K (tCons (tVar 1) tNil)) (gTup K 2 (gCons (gName 4) (gCons (gName 5) gNil))) (tIfS (tTest (tOp (rI0 fun i j => .bl (decide (i < j))) (tBT rCountT (tVar 3) (tCons (tVar 4) tNil)) (tVar 5))) (tDrop (tBM K "list" rAppend (tVar 2) (tCons (tOp (rCatG K) (tVar 3) (tTup (tCons (tVar 4) tNil))) tNil))) tNext)))
  (tRet (tVar 2))))
theorem len_with_one_more {K : PySem.W.Frag} {vs : List V} {H : Hp} {Q : VK} {E : XK} (h : sp_with_one_more K vs H Q E) : vs.length = 2 := by
  obtain ⟨b, r, ws, room, rfl, _⟩ := h
  rfl
theorem rd_with_one_more {K : PySem.W.Frag} {vs : List V} {H : Hp} {Q : VK} {E : XK} (h : sp_with_one_more K vs H Q E) : t_with_one_more K { nx := fun _ H' => Q .non H', rt := Q } (start ["begun", "room", "longer", "deal", "who", "most"] vs) H := by
  obtain ⟨b, r, ws, room, rfl, ⟨rs, hb, hp⟩, hrm, h6, h2000, h12, q⟩ := h
  refine ⟨(by show 0 ≤ sizeLine; decide), fun l hl => ?_⟩
  have sl : Same H (upd H l (.lst [])) := same_new hl _
  have hrl : ws.length = rs.length := hp.length.symm
  refine ⟨_, rfl, b, rfl, ⟨_, SqL.of (sl _ _ hb)⟩, for_list (K := K) (a := b) (xs := rs.map V.ref)
    (fun i σ H2 => ∃ d wh mo : Option V, σ = [some (.ref b), some (.ref r), some (.ref l), d, wh, mo] ∧ Same H H2 ∧ DealsAt H2 l (KM.grow room (ws.take i)))
    ⟨none, none, none, rfl, sl, [], by rw [upd_same]; rfl, .nil⟩ (fun i σ H2 _ ⟨_, _, _, _, s2, _⟩ => SqL.of (s2 _ _ hb)) ?_ ?_⟩
  · rintro i x σ H2 hx ⟨d, wh, mo, rfl, s2, D2⟩
    obtain ⟨a, ea, rfl⟩ : ∃ a, rs[i]? = some a ∧ x = .ref a := by
      rw [List.getElem?_map] at hx
      cases e : rs[i]? with
      | none => rw [e] at hx; cases hx
      | some a => rw [e] at hx; exact ⟨a, rfl, (Option.some.inj hx).symm⟩
    obtain ⟨u, hu, ha⟩ := paired_get hp ea
    have hu12 := h12 u (List.mem_of_getElem? hu)
    have gt := KM.grow_take room ws i u hu
    have gle := KM.grow_take_le room ws (i + 1)
    refine ⟨_, rfl, r, _, rfl, SqL.of (s2 _ _ hrm), for_enum (S := srcL) (K := K) (a := r) (xs := natV room)
      (fun j σ H3 => ∃ wh mo : Option V, σ = [some (.ref b), some (.ref r), some (.ref l), some (.ref a), wh, mo] ∧ Same H H3 ∧ DealsAt H3 l (KM.grow room (ws.take i) ++ (KM.nextsTo room u j).map fun k => u ++ [k]))
      ⟨wh, mo, rfl, s2, by simpa [KM.nextsTo] using D2⟩ (fun j σ H3 _ ⟨_, _, _, s3, _⟩ => SqL.of (s3 _ _ hrm)) ?_ ?_⟩
    · rintro j x T σ H3 hxj ⟨wh', mo', rfl, s3, qs, hq, pq⟩ hT
      obtain ⟨m, hm, rfl⟩ : ∃ m : Nat, room[j]? = some m ∧ x = .int (m : Int) := by
        unfold natV at hxj
        rw [List.getElem?_map] at hxj
        cases e : room[j]? with
        | none => rw [e] at hxj; cases hxj
        | some z => rw [e] at hxj; exact ⟨z, rfl, (Option.some.inj hxj).symm⟩
      have hmD : room.getD j 0 = m := by rw [List.getD_eq_getElem?_getD, hm]; rfl
      have hjl : j < room.length := (List.getElem?_eq_some_iff.mp hm).1
      have nT : H T = none := s3.free hT
      have s4 : Same H (upd H3 T (.tup [.int (j : Int), .int (m : Int)])) := s3.upd nT _
      have a4 : (upd H3 T (.tup [.int (j : Int), .int (m : Int)])) a = some (.tup (natV u)) := s4 _ _ ha
      have nlT : l ≠ T := ne_of_none hq hT
      have q4 : (upd H3 T (.tup [.int (j : Int), .int (m : Int)])) l = some (.lst (qs.map V.ref)) := by rw [upd_ne nlT]; exact hq
      have p4 : Paired (fun (a : Addr) (w : List Nat) => (upd H3 T (.tup [.int (j : Int), .int (m : Int)])) a = some (.tup (natV w))) qs (KM.grow room (ws.take i) ++ (KM.nextsTo room u j).map fun k => u ++ [k]) :=
        paired_same pq fun a xs e => by rw [upd_ne (ne_of_none e hT)]; exact e
      have hqlen : qs.length ≤ 2000 := by
        have e1 := pq.length
        rw [List.length_append, List.length_map] at e1
        rw [gt, List.length_append, List.length_map, ← KM.nextsTo_all] at gle
        have e3 : (KM.nextsTo room u j).length ≤ (KM.nextsTo room u room.length).length := by
          unfold KM.nextsTo
          have : (List.range j).Sublist (List.range room.length) := List.range_sublist.mpr (by omega)
          exact (this.filter _).length_le
        omega
      have t4 : (upd H3 T (.tup [.int (j : Int), .int (m : Int)])) T = some (.tup [.int (j : Int), .int (m : Int)]) := upd_same
      generalize upd H3 T (.tup [.int (j : Int), .int (m : Int)]) = H4 at s4 a4 q4 p4 t4
      have ns := KM.nextsTo_succ room u j
      rw [hmD] at ns
      refine ⟨T, _, rfl, SqT.of t4, rfl, _, _, rfl, _, _, rfl, rfl, ?_⟩
      refine ⟨_, rfl, ⟨a, _, rfl, a4⟩, _, rfl, a, _, _, rfl, rfl, a4, rfl, flat_natV u, _, rfl, _, _, rfl, rfl, _, rfl, ?_⟩
      rw [count_natV]
      refine ite_of (fun c => ?_) (fun c => ?_)
      · have c' : u.count j < m := by have := of_decide_eq_true c; omega
        rw [if_pos c'] at ns
        have fin : ∀ (d : Addr) (H5 : Hp), Same H4 H5 → H5 d = some (.tup (natV (u ++ [j]))) → ∃ (l' : Addr) (xs : List V) (y : V), V.ref l = .ref l' ∧ [V.ref d] = [y] ∧ H5 l' = some (.lst xs) ∧ xs.length < sizeLine ∧
            ∃ wh mo : Option V, ([some (.ref b), some (.ref r), some (.ref l), some (.ref a), some (.int (j : Int)), some (.int (m : Int))] : L2.St) = [some (.ref b), some (.ref r), some (.ref l), some (.ref a), wh, mo] ∧ Same H (upd H5 l' (.lst (xs ++ [y]))) ∧
              DealsAt (upd H5 l' (.lst (xs ++ [y]))) l (KM.grow room (ws.take i) ++ (KM.nextsTo room u (j + 1)).map fun k => u ++ [k]) := by
          intro d H5 s5 e5
          refine ⟨l, _, _, rfl, rfl, s5 _ _ q4, Nat.lt_of_le_of_lt (by rw [List.length_map]; exact hqlen) (by decide), _, _, rfl, (s4.trans s5).upd hl _, qs ++ [d], by rw [upd_same, List.map_append]; rfl, ?_⟩
          have keep : ∀ (c : Addr) (xs : List V), H5 c = some (.tup xs) → upd H5 l (.lst (qs.map V.ref ++ [V.ref d])) c = some (.tup xs) := fun c xs e => by
            rw [upd_ne (ne_of e (s5 _ _ q4) (by intro z; cases z))]
            exact e
          rw [ns, List.map_append, ← List.append_assoc]
          exact paired_app (paired_same (paired_same p4 fun c xs e => s5 _ _ e) keep) (.cons (keep _ _ e5) .nil)
        refine ⟨_, rfl, .inl ⟨rfl, _, SqL.of q4⟩, _, rfl, _, rfl, (by show 1 ≤ sizeLine; decide), fun t ht => ?_⟩
        have st : Same H4 (upd H4 t (.tup [.int (j : Int)])) := same_new ht _
        have ej : natV (u ++ [j]) = natV u ++ [.int (j : Int)] := by unfold natV; rw [List.map_append]; rfl
        refine ⟨a, t, natV u, [.int (j : Int)], rfl, rfl, SqT.of (st _ _ a4), SqT.of upd_same, small (by rw [natV_len]; show u.length + 1 ≤ 1000; omega), fun e0 => ?_, fun _ e0 => (nomatch e0), fun _ _ p hp' => ?_⟩
        · exact fin t _ st (by rw [upd_same, ej, e0]; rfl)
        · exact fin p _ (st.trans (same_new hp' _)) (by rw [upd_same, ej])
      · have c' : ¬ u.count j < m := by have := of_decide_eq_false c; omega
        rw [if_neg c', List.append_nil] at ns
        exact ⟨_, _, rfl, s4, qs, q4, by rw [ns]; exact p4⟩
    · rintro σ H3 ⟨wh', mo', rfl, s3, D3⟩
      rw [natV_len, KM.nextsTo_all, ← gt] at D3
      exact ⟨_, _, _, rfl, s3, D3⟩
  · rintro σ H2 ⟨d, wh, mo, rfl, s2, D2⟩
    refine ⟨_, rfl, ?_⟩
    rw [List.length_map, ← hrl, List.take_length] at D2
    exact q l H2 s2 hl D2
/-! ### the deals -/
noncomputable def spDeals (K : PySem.W.Frag) : Sp := fun vs H Q _ => ∃ (c : Nat) (a : Addr) (ss : List Nat), vs = [.int c, .ref a] ∧ H a = some (.lst (natV ss)) ∧ Pack c ss ∧ KM.multi c ss ≤ 2000 ∧
  ∀ (p : Addr) (H' : Hp), Same H H' → H p = none → DealsAt H' p (KM.level (ss ++ [c - ss.sum]) c) → Q (.ref p) H'
theorem natV_snoc (ss : List Nat) (c : Nat) : natV ss ++ [.int (c : Int)] = natV (ss ++ [c]) := by unfold natV; rw [List.map_append]; rfl
noncomputable abbrev sp_deals_of (K : PySem.W.Frag) : Sp := spDeals K
noncomputable def t_deals_of (K : PySem.W.Frag) : TS := (tSeq (tIfS (tTest (tOp (rI0 fun i j => .bl (decide (j < i))) (tCall (sp_how_many K) [] E0 (tCons (tVar 0) (tCons (tVar 1) tNil))) (tC (.int 2000)))) tNever tNext)
  (tSeq (tAsg (tOp rCat (tVar 1) (tLst (tCons (tOp (rI0 fun i j => .int (i - j)) (tVar 0) (tCB (cSum K) (tCons (tVar 1) tNil))) tNil))) (gName 2))
  (tSeq (tAsg (tLst (tCons (tTup tNil) tNil)) (gName 3))
  (tSeq (tFor (iRng1 (tCons (tVar 0) tNil)) (gName 4) (tAsg (tCall (sp_with_one_more K) [] E0 (tCons (tVar 3) (tCons (tVar 2) tNil))) (gName 3)))
  (tRet (tVar 3))))))
theorem len_deals_of {K : PySem.W.Frag} {vs : List V} {H : Hp} {Q : VK} {E : XK} (h : sp_deals_of K vs H Q E) : vs.length = 2 := by
  obtain ⟨c, a, ss, rfl, _⟩ := h
  rfl
theorem rd_deals_of {K : PySem.W.Frag} {vs : List V} {H : Hp} {Q : VK} {E : XK} (h : sp_deals_of K vs H Q E) : t_deals_of K { nx := fun _ H' => Q .non H', rt := Q } (start ["cards", "sizes", "room", "begun", "card"] vs) H := by
  obtain ⟨c, a, ss, rfl, ha, p, hm, q⟩ := h
  have h12 := p.c12
  have h5 := p.l5
  have hsum := p.sum
  refine ⟨_, rfl, _, rfl, c, a, ss, rfl, ha, p, fun H1 s1 => ?_⟩
  refine ⟨_, _, rfl, rfl, _, rfl, ite_of (fun k => ?_) (fun _ => ?_)⟩
  · have k' : (2000 : Int) < ((KM.multi c ss : Nat) : Int) := of_decide_eq_true k
    omega
  have a1 := s1 _ _ ha
  refine ⟨_, rfl, _, rfl, _, rfl, a, _, rfl, by rw [← natV_ints]; exact SqL.of a1, _, _, rfl, rfl, (by show 1 ≤ sizeLine; decide), fun l hl => ?_⟩
  have s2 : Same H (upd H1 l (.lst [.int ((c : Int) - (ss.map fun (s : Nat) => ((s : Nat) : Int)).sum)])) := s1.trans (same_new hl _)
  have e2 : (upd H1 l (.lst [.int ((c : Int) - (ss.map fun (s : Nat) => ((s : Nat) : Int)).sum)])) l = some (.lst [.int ((c : Int) - (ss.map fun (s : Nat) => ((s : Nat) : Int)).sum)]) := upd_same
  rw [show (c : Int) - (ss.map fun (s : Nat) => ((s : Nat) : Int)).sum = ((c - ss.sum : Nat) : Int) by rw [sum_cast]; omega] at s2 e2
  dsimp only
  rw [show (c : Int) - (ss.map fun (s : Nat) => ((s : Nat) : Int)).sum = ((c - ss.sum : Nat) : Int) by rw [sum_cast]; omega]
  generalize upd H1 l (.lst [.int ((c - ss.sum : Nat) : Int)]) = H2 at s2 e2
  refine ⟨a, l, _, _, rfl, rfl, s2 _ _ ha, e2, small (by rw [natV_len]; show ss.length + 1 ≤ 1000; omega), fun rm hrm => ?_⟩
  rw [natV_snoc]
  have hRs : (ss ++ [c - ss.sum]).sum = c := by rw [List.sum_append, List.sum_cons, List.sum_nil]; omega
  have hRl : (ss ++ [c - ss.sum]).length ≤ 6 := by rw [List.length_append]; show ss.length + 1 ≤ 6; omega
  have hlev := KM.level_multi hsum
  have s3 : Same H (upd H2 rm (.lst (natV (ss ++ [c - ss.sum])))) := s2.trans (same_new hrm _)
  have e3 : (upd H2 rm (.lst (natV (ss ++ [c - ss.sum])))) rm = some (.lst (natV (ss ++ [c - ss.sum]))) := upd_same
  generalize ss ++ [c - ss.sum] = R at *
  generalize upd H2 rm (.lst (natV R)) = H3 at s3 e3
  refine ⟨(by show 0 ≤ sizeLine; decide), fun t ht => ⟨(by show 1 ≤ sizeLine; decide), fun b hb => ?_⟩⟩
  have s4 : Same H3 (upd (upd H3 t (.tup [])) b (.lst [.ref t])) := (same_new ht _).trans (same_new hb _)
  have D4 : DealsAt (upd (upd H3 t (.tup [])) b (.lst [.ref t])) b (KM.level R 0) := ⟨[t], upd_same, .cons (by rw [upd_ne (ne_of_none (upd_same (o := HO.tup [])) hb)]; exact upd_same) .nil⟩
  have f4 : H b = none := by
    have : H3 b = none := (same_new ht _).free hb
    exact s3.free this
  generalize upd (upd H3 t (.tup [])) b (.lst [.ref t]) = H4 at s4 D4
  refine ⟨_, rfl, _, rfl, by omega, by omega, for_range (lo := 0) (n := ((c : Nat) : Int).toNat) (fun i σ H5 => ∃ (b : Addr) (st : Option V), σ = [some (.int c), some (.ref a), some (.ref rm), some (.ref b), st] ∧ Same H3 H5 ∧ H b = none ∧ DealsAt H5 b (KM.level R i)) ⟨b, none, rfl, s4, f4, D4⟩ ?_ ?_⟩
  · rintro i σ H5 hi ⟨b', st, rfl, s5, f5, D5⟩
    have hi' : i + 1 ≤ c := by omega
    refine ⟨_, rfl, _, rfl, b', rm, _, R, rfl, D5, s5 _ _ e3, hRl, ?_, fun u hu => ?_, fun p' H6 s6 f6 D6 => ?_⟩
    · have h1 := KM.level_le (room := R) (i := i + 1) (by omega)
      rw [hRs, hlev] at h1
      exact Nat.le_trans h1 hm
    · have := (KM.level_begun R i u hu).len
      omega
    · exact ⟨p', _, rfl, s5.trans s6, (s3.trans s5).free f6, D6⟩
  · rintro σ H5 ⟨b', st, rfl, s5, f5, D5⟩
    refine ⟨_, rfl, ?_⟩
    rw [show ((c : Nat) : Int).toNat = c by omega] at D5
    exact q b' H5 (s3.trans s5) f5 D5

noncomputable def upto (xs : List Int) (w : Int) (i : Nat) : List Int := ((List.range i).filter fun j => decide (xs[j]? = some w)).map fun (j : Nat) => ((j : Nat) : Int)
theorem upto_succ (xs : List Int) (w : Int) (i : Nat) : upto xs w (i + 1) = upto xs w i ++ (if xs[i]? = some w then [(i : Int)] else []) := by
  unfold upto
  rw [List.range_succ, List.filter_append, List.map_append]
  by_cases h : xs[i]? = some w
  · rw [if_pos h, List.filter_cons_of_pos (by simpa using h)]
    rfl
  · rw [if_neg h, List.filter_cons_of_neg (by simpa using h)]
    rfl
theorem upto_len (xs : List Int) (w : Int) (i : Nat) : (upto xs w i).length ≤ i := by
  unfold upto
  rw [List.length_map]
  have h := List.length_filter_le (fun j => decide (xs[j]? = some w)) (List.range i)
  rw [List.length_range] at h
  exact h

/-! ### the cards of a holder -/
noncomputable def spCards (K : PySem.W.Frag) : Sp := fun vs H Q _ => ∃ (d : Addr) (xs : List Int) (v : Int), vs = [.ref d, .int v] ∧ SqT K H d (xs.map V.int) ∧ xs.length ≤ 1000 ∧
  ∀ (r : Addr) (H' : Hp), Same H H' → H' r = some (.tup ((upto xs v xs.length).map V.int)) → Q (.ref r) H'
theorem int_at {xs : List Int} {i : Nat} {x : V} (h : (xs.map V.int)[i]? = some x) : ∃ z, xs[i]? = some z ∧ x = .int z := by
  rw [List.getElem?_map] at h
  cases e : xs[i]? with
  | none => rw [e] at h; cases h
  | some z => rw [e] at h; exact ⟨z, rfl, (Option.some.inj h).symm⟩
noncomputable abbrev sp_cards_of (K : PySem.W.Frag) : Sp := spCards K
noncomputable def t_cards_of (K : PySem.W.Frag) : TS := (tRet (tCB (cTuple K) (tCons (tComp (iEnum srcT K (tCons (tVar 0) tNil)) (fun _ _ _ _ => (gTup K 2 (gCons (gName 0) (gCons (gName 1) gNil)))) (fun _ _ _ _ => (tTest (tOp rEq (tVar 1) (tVar 2)))) (fun _ _ _ _ => (tVar 0)) [none, none, some 1]) tNil)))
theorem len_cards_of {K : PySem.W.Frag} {vs : List V} {H : Hp} {Q : VK} {E : XK} (h : sp_cards_of K vs H Q E) : vs.length = 2 := by
  obtain ⟨d, xs, v, rfl, _⟩ := h
  rfl
theorem rd_cards_of {K : PySem.W.Frag} {vs : List V} {H : Hp} {Q : VK} {E : XK} (h : sp_cards_of K vs H Q E) : t_cards_of K { nx := fun _ H' => Q .non H', rt := Q } (start ["deal", "who"] vs) H := by
  obtain ⟨d, xs, v, rfl, hd, hlen, q⟩ := h
  have hl : (xs.map V.int).length = xs.length := List.length_map _
  refine ⟨_, rfl, d, _, rfl, hd, fun p hp => comp_enum (S := srcT) (K := K) (a := d) (xs := xs.map V.int) (fun i acc H2 => acc = (upto xs v i).map V.int ∧ Same H H2 ∧ H2 p = some (.lst acc)) ⟨rfl, same_new hp _, upd_same⟩ ?_ ?_ ?_ ?_ ?_⟩
  · rintro i acc H2 hi ⟨rfl, s2, e2⟩
    exact ⟨e2, by rw [List.length_map]; exact upto_len _ _ _⟩
  · rintro i acc H2 hi ⟨rfl, s2, e2⟩
    exact s2.tup hd
  · rw [hl]
    exact small hlen
  · rintro _ _ _ _ i x T acc H2 hx ⟨rfl, s2, e2⟩ hT
    obtain ⟨z, hz, rfl⟩ := int_at hx
    have nTp : p ≠ T := ne_of_none e2 hT
    have nT : H T = none := s2.free hT
    refine ⟨T, _, rfl, SqT.of upd_same, rfl, _, _, rfl, _, _, rfl, rfl, _, rfl, _, rfl, rfl, _, rfl, ?_⟩
    have eu := upto_succ xs v i
    refine ite_of (fun c => ?_) (fun c => ?_)
    · have c' : z = v := by
        have := of_decide_eq_true c
        injection this
      subst c'
      rw [if_pos hz] at eu
      refine ⟨_, rfl, by rw [upd_ne nTp]; exact e2, ?_, (s2.upd nT _).upd hp _, upd_same⟩
      rw [eu, List.map_append]
      rfl
    · have c' : ¬ xs[i]? = some v := by
        rw [hz]
        intro e
        have := of_decide_eq_false c
        exact this (by rw [Option.some.inj e])
      rw [if_neg c', List.append_nil] at eu
      exact ⟨by rw [eu], s2.upd nT _, by rw [upd_ne nTp]; exact e2⟩
  · rintro acc H2 ⟨rfl, s2, e2⟩
    rw [hl] at e2
    exact ⟨p, _, rfl, .inl ⟨SqL.of e2, fun t ht => q t _ (s2.trans (same_new ht _)) upd_same⟩⟩


end L2

end

section
-- KcSoR
set_option Elab.async false
set_option linter.all false
set_option maxRecDepth 100000
set_option maxHeartbeats 4000000
namespace L2
open PySem
/-! ### sorted(xs) of whole numbers, of tuples of whole numbers, of any length -/
noncomputable def TupsAt (H : Hp) (rs : List Addr) (ws : List (List Int)) : Prop := Paired (fun (a : Addr) (w : List Int) => H a = some (.tup (w.map V.int))) rs ws
noncomputable def LexL (a b : List Int) : Prop := HT.lexLt b a = false
theorem TupsAt.same {H H' : Hp} {rs : List Addr} {ws : List (List Int)} (t : TupsAt H rs ws) (s : Same H H') : TupsAt H' rs ws := Paired.mapP t fun _ _ e => s _ _ e
end L2

end

section
-- KcSameD
set_option Elab.async false
set_option linter.all false
set_option maxRecDepth 100000
set_option maxHeartbeats 4000000
namespace L2
open PySem PyProof.Rows
/-! ### one and the same data, lists and tuples to any depth -/
noncomputable def flatD : V → Bool
  | .non => true
  | .bl _ => true
  | .int _ => true
  | _ => false
inductive SameD (K : PySem.W.Frag) (H : Hp) : Nat → V → V → Prop where
  | flat {n : Nat} {x : V} (h : flatD x = true) : SameD K H n x x
  | lst {n : Nat} {a b : Addr} {xs ys : List V} (e1 : SqL K H a xs) (e2 : SqL K H b ys) (hl : xs.length = ys.length) (h : ∀ (i : Nat) (x y : V), xs[i]? = some x → ys[i]? = some y → SameD K H n x y) : SameD K H (n + 1) (.ref a) (.ref b)
  | tup {n : Nat} {a b : Addr} {xs ys : List V} (e1 : SqT K H a xs) (e2 : SqT K H b ys) (hl : xs.length = ys.length) (h : ∀ (i : Nat) (x y : V), xs[i]? = some x → ys[i]? = some y → SameD K H n x y) : SameD K H (n + 1) (.ref a) (.ref b)
noncomputable def rSameD (K : PySem.W.Frag) (neg : Bool) : R2 := fun x y H Q => ∃ n, n ≤ 30 ∧ SameD K H n x y ∧ Q (.bl (!neg)) H
section
variable {K : PySem.W.Frag} {H : Hp} {Q : VK}
theorem r_sameE {x y : V} (n : Nat) (hn : n ≤ 30) (h : SameD K H n x y) (q : Q (.bl true) H) : rSameD K false x y H Q := ⟨n, hn, h, q⟩
theorem same_flatT {a b : Addr} {xs : List V} (e1 : SqT K H a xs) (e2 : SqT K H b xs) (hf : ∀ x ∈ xs, flatD x = true) : SameD K H 1 (.ref a) (.ref b) :=
  .tup e1 e2 rfl fun i x y hx hy => by
    rw [hx] at hy
    cases hy
    exact .flat (hf x (List.mem_of_getElem? hx))
theorem flat_ints (ns : List Int) : ∀ x ∈ ns.map V.int, flatD x = true := fun x hx => by obtain ⟨n, _, rfl⟩ := List.mem_map.mp hx; rfl
end
/-! ### a comprehension over enumerate -/
section
variable {g : CF TG} {tt : CF TT} {te : CF TE} {σ₀ : St} {Q : VK} {H : Hp} {K : PySem.W.Frag}
end
end L2

end

section
-- KcDealC
set_option linter.all false
namespace KM
/-! ### all deals are told; two cards exchanged -/
theorem level_all (room : List Nat) : ∀ (i : Nat) (w : List Nat), w.length = i → (∀ j ∈ w, j < room.length) → (∀ j, w.count j ≤ room.getD j 0) → w ∈ level room i
  | 0, w, hl, _, _ => by
    rw [List.length_eq_zero_iff.mp hl]
    exact List.mem_singleton.mpr rfl
  | i + 1, w, hl, hj, hc => by
    obtain ⟨v, x, rfl⟩ : ∃ v x, w = v ++ [x] := ⟨w.dropLast, w.getLast (by intro e; rw [e] at hl; simp at hl), (List.dropLast_concat_getLast _).symm⟩
    have hv : v.length = i := by simp at hl; exact hl
    have hx : x < room.length := hj x (by simp)
    have cx := hc x
    rw [List.count_append, List.count_singleton_self] at cx
    show v ++ [x] ∈ (level room i).flatMap _
    refine List.mem_flatMap.mpr ⟨v, level_all room i v hv (fun j h => hj j (List.mem_append_left _ h)) (fun j => ?_), List.mem_map.mpr ⟨x, ?_, rfl⟩⟩
    · have := hc j
      rw [List.count_append] at this
      omega
    · unfold nexts
      exact List.mem_filter.mpr ⟨List.mem_range.mpr hx, decide_eq_true (by omega)⟩
end KM

end

section
-- KcExD
set_option linter.all false
set_option maxRecDepth 10000
namespace KM
/-! ### holders and cards exchanged: the deals stay the same ones -/
theorem lex_irr : ∀ x : List Nat, lex x x = false
  | [] => rfl
  | a :: x => by
    show (if a = a then lex x x else decide (a < a)) = false
    rw [if_pos rfl]
    exact lex_irr x
theorem lex_asy : ∀ x y : List Nat, lex x y = true → lex y x = false
  | [], [], h => by cases h
  | [], _ :: _, _ => rfl
  | _ :: _, [], h => by cases h
  | a :: x, b :: y, h => by
    have h' : (if a = b then lex x y else decide (a < b)) = true := h
    show (if b = a then lex y x else decide (b < a)) = false
    by_cases e : a = b
    · subst e
      rw [if_pos rfl] at h' ⊢
      exact lex_asy x y h'
    · rw [if_neg e] at h'
      rw [if_neg (Ne.symm e)]
      have := of_decide_eq_true h'
      exact decide_eq_false (by omega)
theorem level_nodup (room : List Nat) (i : Nat) : (level room i).Nodup := (level_sorted room i).imp fun {x y} h e => by
  rw [e, lex_irr] at h
  cases h
theorem perm_sub {α : Type} [DecidableEq α] : ∀ {l m : List α}, l.Nodup → (∀ x ∈ l, x ∈ m) → l.length = m.length → l.Perm m
  | [], m, _, _, h => by rw [List.eq_nil_of_length_eq_zero h.symm]
  | x :: l, m, nd, sub, h => by
    rw [List.nodup_cons] at nd
    have hx := sub x List.mem_cons_self
    have p := List.perm_cons_erase hx
    have hl : l.length = (m.erase x).length := by
      have := p.length_eq
      simp at this h
      omega
    have q := perm_sub nd.2 (fun y hy => (List.mem_erase_of_ne (fun e : y = x => nd.1 (e ▸ hy))).mpr (sub y (List.mem_cons_of_mem _ hy))) hl
    exact (List.Perm.cons x q).trans p.symm
theorem prodF_perm {r s : List Nat} (p : r.Perm s) : prodF r = prodF s := by
  unfold prodF
  exact (p.map fact).foldr_eq' (fun x _ y _ z => Nat.mul_left_comm y x z) 1
theorem level_len_perm {r s : List Nat} (p : r.Perm s) : (level r r.sum).length = (level s s.sum).length := by
  have h1 := level_len r
  have h2 := level_len s
  rw [prodF_perm p, p.sum_nat] at h1
  have hp := prodF_pos s
  rw [← h1] at h2
  rw [p.sum_nat]
  exact (Nat.eq_of_mul_eq_mul_right hp h2).symm
theorem map_nodup {α β : Type} {f : α → β} {l : List α} (nd : l.Nodup) (inj : ∀ x ∈ l, ∀ y ∈ l, f x = f y → x = y) : (l.map f).Nodup := by
  induction l with
  | nil => exact List.nodup_nil
  | cons a l ih =>
    rw [List.nodup_cons] at nd
    rw [List.map_cons, List.nodup_cons]
    refine ⟨fun z => ?_, ih nd.2 fun x hx y hy => inj x (List.mem_cons_of_mem _ hx) y (List.mem_cons_of_mem _ hy)⟩
    obtain ⟨b, hb, e⟩ := List.mem_map.mp z
    exact nd.1 (inj b (List.mem_cons_of_mem _ hb) a List.mem_cons_self e ▸ hb)
structure Turn (t : List Nat) (n : Nat) : Prop where
  pm : t.Perm (List.range n)
theorem Turn.len {t : List Nat} {n : Nat} (h : Turn t n) : t.length = n := by rw [h.pm.length_eq, List.length_range]
theorem Turn.lt {t : List Nat} {n i : Nat} (h : Turn t n) (hi : i < n) : t.getD i 0 < n := by
  have : t.getD i 0 ∈ t := by
    rw [List.getD_eq_getElem?_getD, List.getElem?_eq_getElem (by rw [h.len]; exact hi)]
    exact List.getElem_mem _
  exact List.mem_range.mp (h.pm.mem_iff.mp this)
theorem Turn.inj {t : List Nat} {n i j : Nat} (h : Turn t n) (hi : i < n) (hj : j < n) (e : t.getD i 0 = t.getD j 0) : i = j := by
  have nd : t.Nodup := h.pm.nodup_iff.mpr List.nodup_range
  rw [List.getD_eq_getElem?_getD, List.getD_eq_getElem?_getD, List.getElem?_eq_getElem (by rw [h.len]; exact hi), List.getElem?_eq_getElem (by rw [h.len]; exact hj)] at e
  exact (List.getElem_inj nd).mp e
theorem Turn.onto {t : List Nat} {n k : Nat} (h : Turn t n) (hk : k < n) : ∃ i, i < n ∧ t.getD i 0 = k := by
  have : k ∈ t := h.pm.mem_iff.mpr (List.mem_range.mpr hk)
  obtain ⟨i, hi⟩ := List.getElem?_of_mem this
  refine ⟨i, by rw [← h.len]; exact (List.getElem?_eq_some_iff.mp hi).1, ?_⟩
  rw [List.getD_eq_getElem?_getD, hi]
  rfl
theorem range_map_getD (w : List Nat) : (List.range w.length).map (fun i => w.getD i 0) = w := by
  refine List.ext_getElem? fun i => ?_
  rw [List.getElem?_map]
  by_cases h : i < w.length
  · rw [List.getElem?_range h, List.getElem?_eq_getElem h]
    simp [List.getD_eq_getElem?_getD, List.getElem?_eq_getElem h]
  · rw [List.getElem?_eq_none (by simpa using h), List.getElem?_eq_none (by omega)]
    rfl
theorem turned_perm {t room others : List Nat} (h : Turn t room.length) (hl : others.length = room.length) (ho : ∀ i, i < room.length → others.getD (t.getD i 0) 0 = room.getD i 0) : room.Perm others := by
  have e1 : t.map (fun k => others.getD k 0) = room := by
    refine List.ext_getElem? fun i => ?_
    rw [List.getElem?_map]
    by_cases hi : i < room.length
    · have ht : i < t.length := by rw [h.len]; exact hi
      have e := ho i hi
      rw [List.getElem?_eq_getElem ht, List.getElem?_eq_getElem hi]
      simp only [List.getD_eq_getElem?_getD, List.getElem?_eq_getElem ht, List.getElem?_eq_getElem hi, Option.getD_some] at e
      simp only [Option.map_some, List.getD_eq_getElem?_getD]
      rw [e]
    · rw [List.getElem?_eq_none (by rw [h.len]; omega), List.getElem?_eq_none (by omega)]
      rfl
  have e2 : (List.range room.length).map (fun k => others.getD k 0) = others := by rw [← hl]; exact range_map_getD others
  have := h.pm.map fun k => others.getD k 0
  rw [e1, e2] at this
  exact this
theorem count_map_inj {f : Nat → Nat} : ∀ {w : List Nat} {i : Nat}, (∀ j ∈ w, f j = f i → j = i) → (w.map f).count (f i) = w.count i
  | [], _, _ => rfl
  | a :: w, i, h => by
    rw [List.map_cons, List.count_cons, List.count_cons, count_map_inj fun j hj => h j (List.mem_cons_of_mem _ hj)]
    by_cases e : a = i
    · rw [e]
      simp
    · have : f a ≠ f i := fun z => e (h a List.mem_cons_self z)
      simp [e, this]
theorem turned {t room others : List Nat} (h : Turn t room.length) (hl : others.length = room.length) (ho : ∀ i, i < room.length → others.getD (t.getD i 0) 0 = room.getD i 0) : ((level room room.sum).map fun w => w.map fun j => t.getD j 0).Perm (level others room.sum) := by
  have pp := turned_perm h hl ho
  refine perm_sub (map_nodup (level_nodup _ _) fun x hx y hy e => ?_) (fun v hv => ?_) (by rw [List.length_map, level_len_perm pp, pp.sum_nat])
  · have bx := level_begun _ _ x hx
    have by' := level_begun _ _ y hy
    refine List.ext_getElem? fun i => ?_
    have ei := congrArg (fun l : List Nat => l[i]?) e
    simp only [List.getElem?_map] at ei
    cases q : x[i]? with
    | none =>
      rw [q] at ei
      cases q2 : y[i]? with
      | none => rfl
      | some b => rw [q2] at ei; cases ei
    | some a =>
      rw [q] at ei
      cases q2 : y[i]? with
      | none => rw [q2] at ei; cases ei
      | some b =>
        rw [q2] at ei
        rw [h.inj (bx.all a (List.mem_of_getElem? q)) (by'.all b (List.mem_of_getElem? q2)) (Option.some.inj ei)]
  · obtain ⟨w, hw, rfl⟩ := List.mem_map.mp hv
    have b := level_begun _ _ w hw
    have lt : ∀ j ∈ w.map (fun j => t.getD j 0), j < others.length := fun j hj => by
      obtain ⟨i, hi, rfl⟩ := List.mem_map.mp hj
      rw [hl]
      exact h.lt (b.all i hi)
    refine level_all others room.sum _ (by rw [List.length_map]; exact b.len) lt fun k => ?_
    by_cases hk : k < room.length
    · obtain ⟨i, hi, rfl⟩ := h.onto hk
      rw [count_map_inj (f := fun j => t.getD j 0) (fun j hj e => h.inj (b.all j hj) hi e), ho i hi]
      exact b.cnt i hi
    · rw [List.count_eq_zero_of_not_mem fun z => hk (hl ▸ lt k z)]
      exact Nat.zero_le _
end KM

end

section
-- KcToI
set_option Elab.async false
set_option linter.all false
set_option maxRecDepth 100000
set_option maxHeartbeats 4000000
namespace L2
open PySem PyProof.Rows
/-! ### rows of whole numbers, as tuples are sorted -/
noncomputable def toI (w : List Nat) : List Int := w.map fun (s : Nat) => ((s : Nat) : Int)
theorem lexLt_lex : ∀ x y : List Nat, HT.lexLt (toI x) (toI y) = KM.lex x y
  | [], [] => rfl
  | [], _ :: _ => rfl
  | _ :: _, [] => rfl
  | a :: x, b :: y => by
    show (if (a : Int) = (b : Int) then HT.lexLt (toI x) (toI y) else decide ((a : Int) < (b : Int))) = (if a = b then KM.lex x y else decide (a < b))
    by_cases e : a = b
    · rw [if_pos (by rw [e]), if_pos e]
      exact lexLt_lex x y
    · rw [if_neg (by omega), if_neg e]
      exact decide_eq_decide.mpr (by omega)
theorem toI_back (w : List Nat) : (toI w).map Int.toNat = w := by
  unfold toI
  rw [List.map_map]
  exact List.map_id'' (fun _ => rfl) w
theorem pairedAt {α β : Type} {F : α → β → Prop} {l : List α} {m : List β} (h : Paired F l m) : ∀ {i : Nat} {x : α}, l[i]? = some x → ∃ y, m[i]? = some y ∧ F x y := by
  induction h with
  | nil => intro i x e; cases e
  | cons q _ ih =>
    intro i x e
    cases i with
    | zero => cases e; exact ⟨_, rfl, q⟩
    | succ i => exact ih e
theorem pairedSnoc {α β : Type} {R : α → β → Prop} {x : α} {y : β} : ∀ {xs : List α} {ys : List β}, Paired R xs ys → R x y → Paired R (xs ++ [x]) (ys ++ [y])
  | _, _, .nil, h => .cons h .nil
  | _, _, .cons a t, h => .cons a (pairedSnoc t h)
theorem DealsAt.sm {H H' : Hp} {p : Addr} {ws : List (List Nat)} (d : DealsAt H p ws) (s : Same H H') : DealsAt H' p ws := let ⟨rs, e, q⟩ := d; ⟨rs, s _ _ e, Paired.mapP q fun _ _ e => s _ _ e⟩
end L2

end

section
-- KcMapK
set_option Elab.async false
set_option linter.all false
set_option maxRecDepth 100000
set_option maxHeartbeats 4000000
namespace L2
open PySem PyProof.Rows
/-! ### keys: None, truths and whole numbers; tuples of these; tuples that have such tuples in them -/
noncomputable abbrev IA := Option Int
noncomputable abbrev IK := Sum IA (List IA)
noncomputable abbrev MK := Sum IA (List IK)
noncomputable def iaV : V → Option IA
  | .non => some none
  | .bl b => some (some (if b then 1 else 0))
  | .int i => some (some i)
  | _ => none
noncomputable def ItemV (H : Hp) (x : V) : IK → Prop
  | .inl a => iaV x = some a
  | .inr as => ∃ c ys, x = .ref c ∧ H c = some (.tup ys) ∧ ys.map iaV = as.map some
noncomputable def KeyV (H : Hp) (x : V) : MK → Prop
  | .inl a => iaV x = some a
  | .inr is => ∃ c xs, x = .ref c ∧ H c = some (.tup xs) ∧ Paired (ItemV H) xs is
noncomputable def kSort : MK → Bool
  | .inl _ => false
  | .inr _ => true
theorem ItemV.keep {H H' : Hp} {x : V} {k : IK} (h : ItemV H x k) (kp : Keep H H') : ItemV H' x k := by
  cases k with
  | inl a => exact h
  | inr as => obtain ⟨c, ys, e, q, r⟩ := h; exact ⟨c, ys, e, kp _ _ q, r⟩
theorem KeyV.keep {H H' : Hp} {x : V} {k : MK} (h : KeyV H x k) (kp : Keep H H') : KeyV H' x k := by
  cases k with
  | inl a => exact h
  | inr as => obtain ⟨c, xs, e, q, r⟩ := h; exact ⟨c, xs, e, kp _ _ q, Paired.mapP r fun _ _ z => ItemV.keep z kp⟩
theorem items_ints (H : Hp) : ∀ ns : List Int, Paired (ItemV H) (ns.map V.int) (ns.map fun n => (Sum.inl (some n) : IK))
  | [] => .nil
  | n :: r => .cons rfl (items_ints H r)
theorem key_tup {H : Hp} {c : Addr} {ns : List Int} (e : H c = some (.tup (ns.map V.int))) : KeyV H (.ref c) (.inr (ns.map fun n => (Sum.inl (some n) : IK))) := ⟨c, _, rfl, e, items_ints H ns⟩
theorem Off.keepD {H H' : Hp} {l : Addr} (o : Off l H H') (h : ∀ xs, H l ≠ some (.tup xs)) : Keep H H' := fun b ys q => by
  rw [o b (fun z => by subst z; exact h _ q)]
  exact q
end L2

end

section
-- KcDict
set_option Elab.async false
set_option linter.all false
set_option maxRecDepth 100000
set_option maxHeartbeats 4000000
namespace L2
open PySem PySem.Spec PyProof.Rows

/-! ### lists of pairs as tables -/
section
variable {κ : Type} [DecidableEq κ]
noncomputable def valV (kvs : List (κ × V)) (k : κ) : Option V := (kvs.find? fun kv => decide (kv.1 = k)).map (·.2)
noncomputable def putK (kvs : List (κ × V)) (k : κ) (v : V) : List (κ × V) :=
  if (kvs.any fun kv => decide (kv.1 = k)) = true then kvs.map (fun kv => if kv.1 = k then (kv.1, v) else kv) else kvs ++ [(k, v)]
noncomputable def dropK (kvs : List (κ × V)) (k : κ) : List (κ × V) := kvs.filter fun kv => decide (kv.1 ≠ k)

theorem valV_pos {p : κ × V} {r : List (κ × V)} {k : κ} (e : p.1 = k) : valV (p :: r) k = some p.2 := by simp [valV, List.find?_cons, e]
theorem valV_neg {p : κ × V} {r : List (κ × V)} {k : κ} (e : ¬ p.1 = k) : valV (p :: r) k = valV r k := by simp [valV, List.find?_cons, e]
theorem valV_any (k : κ) : ∀ kvs : List (κ × V), (kvs.any fun kv => decide (kv.1 = k)) = (valV kvs k).isSome
  | [] => rfl
  | p :: r => by
    rw [List.any_cons]
    by_cases e : p.1 = k
    · simp only [valV_pos e, decide_eq_true e, Bool.true_or, Option.isSome_some]
    · rw [valV_neg e, decide_eq_false e, Bool.false_or]; exact valV_any k r
theorem valV_map (k j : κ) (y : V) : ∀ kvs : List (κ × V), valV (kvs.map fun kv => if kv.1 = k then (kv.1, y) else kv) j = (valV kvs j).map fun x => if j = k then y else x
  | [] => rfl
  | p :: r => by
    have ih := valV_map k j y r
    rw [List.map_cons]
    by_cases h : p.1 = k
    · rw [if_pos h]
      by_cases e : p.1 = j
      · rw [valV_pos (p := (p.1, y)) e, valV_pos e, Option.map_some, if_pos (e.symm.trans h)]
      · rw [valV_neg (p := (p.1, y)) e, valV_neg e, ih]
    · rw [if_neg h]
      by_cases e : p.1 = j
      · rw [valV_pos (p := p) e, valV_pos e, Option.map_some, if_neg (fun z => h (e.trans z))]
      · rw [valV_neg (p := p) e, valV_neg e, ih]
theorem valV_snoc (k j : κ) (y : V) : ∀ kvs : List (κ × V), valV kvs k = none → valV (kvs ++ [(k, y)]) j = if j = k then some y else valV kvs j
  | [], _ => by
    by_cases e : k = j
    · rw [if_pos e.symm]; exact valV_pos (p := (k, y)) e
    · rw [if_neg (fun z => e z.symm)]; exact valV_neg (p := (k, y)) e
  | p :: r, hn => by
    rw [List.cons_append]
    have hk : ¬ p.1 = k := fun z => by rw [valV_pos z] at hn; cases hn
    rw [valV_neg hk] at hn
    have ih := valV_snoc k j y r hn
    by_cases e : p.1 = j
    · rw [valV_pos e, valV_pos e, if_neg (fun z => hk (e.trans z))]
    · rw [valV_neg e, valV_neg e, ih]
theorem valV_put (kvs : List (κ × V)) (k j : κ) (y : V) : valV (putK kvs k y) j = if j = k then some y else valV kvs j := by
  unfold putK
  by_cases a : (kvs.any fun kv => decide (kv.1 = k)) = true
  · rw [if_pos a, valV_map]
    rw [valV_any] at a
    by_cases e : j = k
    · obtain ⟨x, hx⟩ := Option.isSome_iff_exists.mp a
      rw [if_pos e, e, hx, Option.map_some, if_pos rfl]
    · rw [if_neg e]
      cases valV kvs j with
      | none => rfl
      | some x => rw [Option.map_some, if_neg e]
  · rw [if_neg a]
    refine valV_snoc k j y kvs ?_
    rw [valV_any] at a
    cases q : valV kvs k with
    | none => rfl
    | some x => rw [q] at a; exact (a rfl).elim
theorem length_putK (kvs : List (κ × V)) (k : κ) (v : V) : (putK kvs k v).length ≤ kvs.length + 1 := by
  unfold putK
  split
  · rw [List.length_map]; omega
  · rw [List.length_append, List.length_cons, List.length_nil]; omega
theorem RelO.isSome_eq {o : Option V} {u : Option Value} (r : RelO o u) : o.isSome = u.isSome := by
  cases o with
  | none => cases u with
    | none => rfl
    | some _ => exact (show False from r).elim
  | some _ => cases u with
    | none => exact (show False from r).elim
    | some _ => rfl
theorem RelO.getD {o : Option V} {u : Option Value} {d : V} {d' : Value} (r : RelO o u) (rd : RelV d d') : RelV (o.getD d) (u.getD d') := by
  cases o with
  | none => cases u with
    | none => exact rd
    | some _ => exact (show False from r).elim
  | some _ => cases u with
    | none => exact (show False from r).elim
    | some _ => exact r

theorem KV.val {kvs : List (κ × V)} {vs : List (κ × Value)} (r : KV kvs vs) (k : κ) : RelO (valV kvs k) (valueAt vs k) := by
  unfold KV at r
  induction r with
  | nil => exact True.intro
  | @cons p q ps qs h t ih =>
    obtain ⟨h1, h2⟩ := h
    by_cases e : p.1 = k
    · have e' : q.1 = k := h1.symm.trans e
      have b : valueAt (q :: qs) k = some q.2 := by simp [valueAt, List.find?_cons, e']
      rw [valV_pos e, b]; exact h2
    · have e' : ¬ q.1 = k := fun z => e (h1.trans z)
      have b : valueAt (q :: qs) k = valueAt qs k := by simp [valueAt, List.find?_cons, e']
      rw [valV_neg e, b]; exact ih
theorem KV.any {kvs : List (κ × V)} {vs : List (κ × Value)} (r : KV kvs vs) (k : κ) : (kvs.any fun kv => decide (kv.1 = k)) = vs.any fun kv => decide (kv.1 = k) := by
  unfold KV at r
  induction r with
  | nil => rfl
  | cons h t ih => rw [List.any_cons, List.any_cons, ih, h.1]
theorem KV.repl {kvs : List (κ × V)} {vs : List (κ × Value)} (r : KV kvs vs) (k : κ) {y : V} {u : Value} (ry : RelV y u) :
    KV (kvs.map fun kv => if kv.1 = k then (kv.1, y) else kv) (vs.map fun kv => if kv.1 = k then (kv.1, u) else kv) := by
  unfold KV at r ⊢
  induction r with
  | nil => exact .nil
  | @cons p q ps qs h t ih =>
    rw [List.map_cons, List.map_cons]
    refine .cons ?_ ih
    obtain ⟨h1, h2⟩ := h
    by_cases e : p.1 = k
    · rw [if_pos e, if_pos (h1.symm.trans e)]; exact ⟨h1, ry⟩
    · rw [if_neg e, if_neg (fun z => e (h1.trans z))]; exact ⟨h1, h2⟩
theorem KV.put {kvs : List (κ × V)} {vs : List (κ × Value)} (r : KV kvs vs) (k : κ) {y : V} {u : Value} (ry : RelV y u) : KV (putK kvs k y) (stored vs k u) := by
  unfold putK stored
  rw [r.any k]
  by_cases e : (vs.any fun kv => decide (kv.1 = k)) = true
  · rw [if_pos e, if_pos e]; exact r.repl k ry
  · rw [if_neg e, if_neg e]; exact Paired.snoc r ⟨rfl, ry⟩
theorem KV.drop {kvs : List (κ × V)} {vs : List (κ × Value)} (r : KV kvs vs) (k : κ) : KV (dropK kvs k) (without vs k) := by
  unfold KV at r ⊢
  unfold dropK without
  induction r with
  | nil => exact .nil
  | @cons p q ps qs h t ih =>
    obtain ⟨h1, h2⟩ := h
    rw [List.filter_cons, List.filter_cons]
    by_cases e : p.1 = k
    · have a : ¬ decide (p.1 ≠ k) = true := by simp [e]
      have b : ¬ decide (q.1 ≠ k) = true := by simp [h1.symm.trans e]
      rw [if_neg a, if_neg b]; exact ih
    · have e' : ¬ q.1 = k := fun z => e (h1.trans z)
      have a : decide (p.1 ≠ k) = true := by simp [e]
      have b : decide (q.1 ≠ k) = true := by simp [e']
      rw [if_pos a, if_pos b]; exact .cons ⟨h1, h2⟩ ih
theorem KV.keys {kvs : List (κ × V)} {vs : List (κ × Value)} (r : KV kvs vs) : kvs.map (·.1) = vs.map (·.1) := by
  unfold KV at r
  induction r with
  | nil => rfl
  | cons h t ih => rw [List.map_cons, List.map_cons, ih, h.1]
theorem KV.length {kvs : List (κ × V)} {vs : List (κ × Value)} (r : KV kvs vs) : kvs.length = vs.length := Paired.length r
end


/-! ### a tracked dict, its keys ints and texts or tuples of these -/
noncomputable abbrev KT (H : Hp) : List (List Key × V) → List (List Key × Addr × Value) → Prop := Paired fun p q => p.1 = q.1 ∧ H q.2.1 = some (.tup (p.1.map kV)) ∧ RelV p.2 q.2.2
theorem KT.val {H : Hp} {kvs : List (List Key × V)} {xs : List (List Key × Addr × Value)} (r : KT H kvs xs) (k : List Key) : RelO (valV kvs k) ((atKey xs k).map (·.2)) := by
  induction r with
  | nil => exact True.intro
  | @cons p q ps qs h t ih =>
    obtain ⟨h1, _, h2⟩ := h
    by_cases e : p.1 = k
    · have e' : q.1 = k := h1.symm.trans e
      have b : atKey (q :: qs) k = some q.2 := by simp [atKey, List.find?_cons, e']
      rw [valV_pos e, b]; exact h2
    · have e' : ¬ q.1 = k := fun z => e (h1.trans z)
      have b : atKey (q :: qs) k = atKey qs k := by simp [atKey, List.find?_cons, e']
      rw [valV_neg e, b]; exact ih
theorem KT.repl {H : Hp} {kvs : List (List Key × V)} {xs : List (List Key × Addr × Value)} (r : KT H kvs xs) (k : List Key) {y : V} {u : Value} (ry : RelV y u) :
    KT H (kvs.map fun kv => if kv.1 = k then (kv.1, y) else kv) (xs.map (putAt k u)) := by
  induction r with
  | nil => exact .nil
  | @cons p q ps qs h t ih =>
    rw [List.map_cons, List.map_cons]
    refine .cons ?_ ih
    obtain ⟨h1, h2, h3⟩ := h
    unfold putAt
    by_cases e : p.1 = k
    · rw [if_pos e, if_pos (h1.symm.trans e)]; exact ⟨h1, h2, ry⟩
    · rw [if_neg e, if_neg (fun z => e (h1.trans z))]; exact ⟨h1, h2, h3⟩
theorem KT.put {H : Hp} {kvs : List (List Key × V)} {xs : List (List Key × Addr × Value)} (r : KT H kvs xs) (k : List Key) {b : Addr} {y : V} {u : Value} (hb : H b = some (.tup (k.map kV))) (ry : RelV y u) :
    KT H (putK kvs k y) (storedH xs k b u) := by
  have e : (kvs.any fun kv => decide (kv.1 = k)) = (atKey xs k).isSome := by
    rw [valV_any, (r.val k).isSome_eq, Option.isSome_map]
  unfold putK storedH
  rw [e]
  by_cases q : (atKey xs k).isSome = true
  · rw [if_pos q, if_pos q]; exact r.repl k ry
  · rw [if_neg q, if_neg q]; exact Paired.snoc r ⟨rfl, hb, ry⟩
theorem KT.keeps {H H' : Hp} {kvs : List (List Key × V)} {xs : List (List Key × Addr × Value)} (r : KT H kvs xs) (ht : ∀ b ys, H b = some (.tup ys) → H' b = some (.tup ys)) : KT H' kvs xs :=
  Paired.mapP r fun _ _ z => ⟨z.1, ht _ _ z.2.1, z.2.2⟩

section
variable {P : Program} {w : World} {H : Hp} {h : Heap} {a : Addr}
end

noncomputable def DGet (H : Hp) (a : Addr) (y : V) (r : Option V) : Prop :=
  (∃ kvs k, Rd H a (.dK kvs) ∧ y = kV k ∧ r = valV kvs k) ∨ ∃ kvs k b, Rd H a (.dT kvs) ∧ y = .ref b ∧ H b = some (.tup (k.map kV)) ∧ r = valV kvs k
noncomputable def DPut (H : Hp) (a : Addr) (y v : V) (H' : Hp) : Prop :=
  (∃ kvs k, H a = some (.dK kvs) ∧ y = kV k ∧ kvs.length < sizeLine ∧ H' = upd H a (.dK (putK kvs k v))) ∨
  ∃ kvs k b, H a = some (.dT kvs) ∧ y = .ref b ∧ H b = some (.tup (k.map kV)) ∧ kvs.length < sizeLine ∧ H' = upd H a (.dT (putK kvs k v))
theorem DGet.k {H : Hp} {a : Addr} {kvs : List (Key × V)} {k : Key} (e : H a = some (.dK kvs)) : DGet H a (kV k) (valV kvs k) := .inl ⟨kvs, k, .inl e, rfl, rfl⟩
theorem DGet.t {H : Hp} {a b : Addr} {kvs : List (List Key × V)} {k : List Key} (e : H a = some (.dT kvs)) (eb : H b = some (.tup (k.map kV))) : DGet H a (.ref b) (valV kvs k) := .inr ⟨kvs, k, b, .inl e, rfl, eb, rfl⟩
theorem DPut.k {H : Hp} {a : Addr} {kvs : List (Key × V)} {k : Key} {v : V} (e : H a = some (.dK kvs)) (hl : kvs.length < sizeLine) : DPut H a (kV k) v (upd H a (.dK (putK kvs k v))) := .inl ⟨kvs, k, e, rfl, hl, rfl⟩
theorem DPut.t {H : Hp} {a b : Addr} {kvs : List (List Key × V)} {k : List Key} {v : V} (e : H a = some (.dT kvs)) (eb : H b = some (.tup (k.map kV))) (hl : kvs.length < sizeLine) :
    DPut H a (.ref b) v (upd H a (.dT (putK kvs k v))) := .inr ⟨kvs, k, b, e, rfl, eb, hl, rfl⟩


section
variable {X : Cx} {pins : List (Addr × Obj)} {σ : St} {H : Hp} {s : Shared} {a : Addr} {y v : V} {u r : Value} {o : Option V} {A : Around} {E : Value → Shared → Prop}

theorem Inv.big (I : Inv X pins σ H s) : sysModules < s.heap.objs.size := by
  have h : mainGlobals < s.heap.objs.size := (I.mod.glob.keeps I.bk).lt
  exact Nat.lt_trans (by decide) h

theorem d_write {h' : Heap} {t' : Nat} {ob : HO} (I : Inv X pins σ H s) (mu : Mut (H a)) (hs : Heap.SameBut a s.heap h') (he : ∃ q, h'.get? a = some q) (new : ObjOk X.prog X.w (upd H a ob) h' a ob) :
    Inv X pins σ (upd H a ob) { s with heap := h', toks := t' } :=
  I.write (x := a) (e := a) mu (.inl rfl) (fun b q hb z => (hs.2 b hb).trans z) he new
end

section
variable {X : Cx} {pins : List (Addr × Obj)} {σ : St} {H : Hp} {s : Shared} {a : Addr} {kvs : List (Key × V)} {k : Key} {u : Value} {A : Around} {E : Value → Shared → Prop}
end


/-! ### readings and rules -/
section
variable {X : Cx} {o i e value : Expr} {pos pos' tpos : Pos} {td ty tv : TE}
end


/-! ### displays -/
section
variable {X : Cx} {pos : Pos}
end

/-! ### methods -/
structure M1 (X : Cx) (o : Expr) (m : Str) (apos : Pos) (e : Expr) (cpos : Pos) : Prop where
  base : attributeBase o m X.env (eval o X.env) = eval o X.env
  few : ((backTo cpos (starEach [e] X.env)).all (fun x => !x.1) && (backToKw cpos (keywordEach [] X.env)).all (fun x => x.1.isSome)
    && decide (([e] : List Expr).length + ([] : List Keyword).length + (if ([] : List Keyword).isEmpty then 0 else 1) < 30)) = true
  line : (apos.endLine == cpos.line) = true
  trees : backTo cpos (starEach [e] X.env) = [(false, eval e X.env)]
structure M2 (X : Cx) (o : Expr) (m : Str) (apos : Pos) (e f : Expr) (cpos : Pos) : Prop where
  base : attributeBase o m X.env (eval o X.env) = eval o X.env
  few : ((backTo cpos (starEach [e, f] X.env)).all (fun x => !x.1) && (backToKw cpos (keywordEach [] X.env)).all (fun x => x.1.isSome)
    && decide (([e, f] : List Expr).length + ([] : List Keyword).length + (if ([] : List Keyword).isEmpty then 0 else 1) < 30)) = true
  line : (apos.endLine == cpos.line) = true
  trees : backTo cpos (starEach [e, f] X.env) = [(false, eval e X.env), (false, eval f X.env)]

section
variable {X : Cx} {pins : List (Addr × Obj)} {σ : St} {H : Hp} {s : Shared} {a : Addr} {y d : V} {u r : Value} {o : Option V} {A : Around} {E : Value → Shared → Prop}
end

section
variable {X : Cx} {o e f : Expr} {apos cpos : Pos} {td ty tx : TE}
end

/-! ### dict(d): a copy -/
section
variable {X : Cx} {pins : List (Addr × Obj)} {σ : St} {H : Hp} {s : Shared} {a : Addr} {kvs : List (Key × V)} {A : Around} {E : Value → Shared → Prop}
end


section
variable {X : Cx} {pins : List (Addr × Obj)} {σ : St} {H : Hp} {s : Shared} {a : Addr} {y : V} {u : Value} {A : Around} {E : Value → Shared → Prop}
end
end L2

end

section
-- KcMapD
set_option Elab.async false
set_option linter.all false
set_option maxRecDepth 100000
set_option maxHeartbeats 4000000
namespace L2
open PySem PySem.Spec PyProof.Rows
section
variable {prog : Program} {w : World} {A : Around} {E : Value → Shared → Prop} {s : Shared}
theorem wpAny_pyHash_bool {b : Bool} {Q : Int → Shared → Prop} (h : Q (hashInt (if b then 1 else 0)) { s with toks := s.toks + 1 }) : wpAny (model prog w) A (pyHash (.bool b)) Q E s := by
  have hr := rawHash_range (if b then 1 else 0)
  unfold pyHash
  have hv : [Value.bool b].any Value.onHeap = false := rfl
  refine wpAny_bind ?_
  rw [cRoomFor, if_neg (by rw [hv]; exact Bool.false_ne_true)]; refine wpAny_pure ?_
  have hT : s.TypeIs (.bool b) "bool" := rfl
  refine wpAny_bind (wpAny_specialOf hT PySem.F.slot_bool_hash.lookup ?_)
  show wpAny _ _ (if (some (Value.builtin "int.__hash__") == some Value.none) = true then _ else _) Q E s
  rw [if_neg (by rw [beq_builtin_none]; exact Bool.false_ne_true)]
  refine wpAny_bind (wpAny_specialOf hT PySem.F.slot_bool_hash.lookup ?_)
  show wpAny _ _ (callSpecialIfBoundUnlessNone? (.bool b) "__hash__" _ >>= _) Q E s
  refine wpAny_bind (wpAny_callSpecialIfBoundUnlessNone?_slot hT PySem.F.slot_bool_hash (wpAny_call_entry PySem.F.slot_bool_hash hT entry_int_hash ?_ (args_int_hash _)))
  cases b with
  | true =>
    refine (show wpAny _ _ (do ret (← mkInt (rawHash 1))) _ _ s from wpAny_ret_mkInt ?_)
    show wpAny _ _ (if (decide (-(2 : Int) ^ 63 ≤ rawHash 1) && decide (rawHash 1 < 2 ^ 63)) = true then _ else _) Q E _
    rw [if_pos (by decide)]
    exact wpAny_pure h
  | false =>
    refine (show wpAny _ _ (do ret (← mkInt (rawHash 0))) _ _ s from wpAny_ret_mkInt ?_)
    show wpAny _ _ (if (decide (-(2 : Int) ^ 63 ≤ rawHash 0) && decide (rawHash 0 < 2 ^ 63)) = true then _ else _) Q E _
    rw [if_pos (by decide)]
    exact wpAny_pure h
theorem wpAny_pyHash_none {Q : Int → Shared → Prop} (h : Q 4238894112 { s with toks := s.toks + 1 }) : wpAny (model prog w) A (pyHash .none) Q E s := by
  unfold pyHash
  have hv : [Value.none].any Value.onHeap = false := rfl
  refine wpAny_bind ?_
  rw [cRoomFor, if_neg (by rw [hv]; exact Bool.false_ne_true)]; refine wpAny_pure ?_
  have hT : s.TypeIs .none "NoneType" := rfl
  refine wpAny_bind (wpAny_specialOf hT PySem.F.slot_NoneType_hash.lookup ?_)
  show wpAny _ _ (if (some (Value.builtin "NoneType.__hash__") == some Value.none) = true then _ else _) Q E s
  rw [if_neg (by rw [beq_builtin_none]; exact Bool.false_ne_true)]
  refine wpAny_bind (wpAny_specialOf hT PySem.F.slot_NoneType_hash.lookup ?_)
  show wpAny _ _ (callSpecialIfBoundUnlessNone? .none "__hash__" _ >>= _) Q E s
  refine wpAny_bind (wpAny_callSpecialIfBoundUnlessNone?_slot hT PySem.F.slot_NoneType_hash (wpAny_call_entry PySem.F.slot_NoneType_hash hT PySem.F.entry_NoneType_hash ?_ (PySem.F.args_NoneType_hash_1 _)))
  refine (show wpAny _ _ (do ret (← mkInt 4238894112)) _ _ s from wpAny_ret_mkInt ?_)
  show wpAny _ _ (if (decide (-(2 : Int) ^ 63 ≤ 4238894112) && decide ((4238894112 : Int) < 2 ^ 63)) = true then _ else _) Q E _
  rw [if_pos (by decide)]
  exact wpAny_pure h
end
/-! ### keys that are None, truths, whole numbers -/
noncomputable def hashIA : IA → Int
  | none => 4238894112
  | some i => hashInt i
noncomputable def iaIs : IA → Value → Bool
  | none, .none => true
  | some i, .int j _ => i == j
  | some i, .bool b => i == (if b then 1 else 0)
  | _, _ => false
theorem ia_shape {k : IA} {v : Value} (h : iaIs k v = true) : (k = none ∧ v = .none) ∨ (∃ i t, k = some i ∧ v = .int i t) ∨ ∃ b, k = some (if b then 1 else 0) ∧ v = .bool b := by
  rcases k with _ | i <;> cases v <;> (delta iaIs at h; simp at h)
  · exact .inl ⟨rfl, rfl⟩
  · subst h; exact .inr (.inr ⟨_, rfl, rfl⟩)
  · subst h; exact .inr (.inl ⟨_, _, rfl, rfl⟩)
noncomputable def iaKind (prog : Program) (w : World) : PySem.KeyKind prog w IA where
  is := iaIs
  hash := hashIA
  inj := fun v a b ha hb => by
    rcases ia_shape ha with ⟨rfl, rfl⟩ | ⟨i, t, rfl, rfl⟩ | ⟨c, rfl, rfl⟩ <;> rcases ia_shape hb with ⟨rfl, e⟩ | ⟨j, u, rfl, e⟩ | ⟨d, rfl, e⟩ <;> first | rfl | (cases e; rfl) | cases e
  byValue := fun k v h => by
    rcases ia_shape h with ⟨rfl, rfl⟩ | ⟨i, t, rfl, rfl⟩ | ⟨c, rfl, rfl⟩ <;> rfl
  pyHash := fun hv h => by
    rcases ia_shape hv with ⟨rfl, rfl⟩ | ⟨i, t, rfl, rfl⟩ | ⟨c, rfl, rfl⟩
    · exact wpAny_pyHash_none h
    · exact wpAny_pyHash_int h
    · exact wpAny_pyHash_bool h
  eqBool := fun {A E s a b u v Q} hu hv h => by
    rcases ia_shape hu with ⟨rfl, rfl⟩ | ⟨i, t, rfl, rfl⟩ | ⟨c, rfl, rfl⟩ <;> rcases ia_shape hv with ⟨rfl, rfl⟩ | ⟨j, u, rfl, rfl⟩ | ⟨d, rfl, rfl⟩
    · exact SeqAt.EqAt.same _ _ _ _ _ (by simpa using h)
    · exact SeqAt.EqAt.none_int _ _ _ _ _ _ (by simpa using h)
    · exact SeqAt.EqAt.none_bool _ _ _ _ _ (by simpa using h)
    · exact SeqAt.EqAt.int_none _ _ _ _ _ _ (by simpa using h)
    · exact SeqAt.EqAt.int_int _ _ _ _ _ _ _ _ (by simpa [Bool.beq_eq_decide_eq] using h)
    · exact SeqAt.EqAt.int_bool _ _ _ _ _ _ _ (by simpa [Bool.beq_eq_decide_eq] using h)
    · exact SeqAt.EqAt.bool_none _ _ _ _ _ (by simpa using h)
    · exact SeqAt.EqAt.bool_int _ _ _ _ _ _ _ (by simpa [Bool.beq_eq_decide_eq] using h)
    · refine SeqAt.EqAt.bool_bool _ _ _ _ _ _ ?_
      cases c <;> cases d <;> simpa using h
  «strs» := fun k x t v h => by
    rcases ia_shape h with ⟨rfl, e⟩ | ⟨i, u, rfl, e⟩ | ⟨c, rfl, e⟩ <;> cases e
/-! ### tuples of these, and of tuples of these -/
noncomputable def hashIK : IK → Int
  | .inl a => hashIA a
  | .inr as => reduceHash (Builtin.Tuple.tupleHashOf (as.map hashIA))
noncomputable def hashT (is : List IK) : Int := reduceHash (Builtin.Tuple.tupleHashOf (is.map hashIK))
noncomputable def drawsK : IK → Nat
  | .inl _ => 1
  | .inr as => as.length + 1
section
variable (prog : Program) (w : World)
noncomputable def ItemIs (h : Heap) : IK → Value → Prop
  | .inl a, v => iaIs a v = true
  | .inr as, v => ∃ b, v = .ref b ∧ IsTupleKey (iaKind prog w) h as b
noncomputable def IsTk (h : Heap) (is : List IK) (a : Addr) : Prop := ∃ o items n, h.get? a = some o ∧ o.cls = .type "tuple" ∧ o.data = .seq items n ∧ Paired (ItemIs prog w h) is items.toList
end
section
variable {prog : Program} {w : World}
theorem ItemIs.inj {h : Heap} {x y : IK} {v : Value} (hx : ItemIs prog w h x v) (hy : ItemIs prog w h y v) : x = y := by
  cases x with
  | inl a => cases y with
    | inl b => rw [(iaKind prog w).inj v a b hx hy]
    | inr bs =>
      obtain ⟨c, rfl, _⟩ := hy
      rcases ia_shape hx with ⟨_, e⟩ | ⟨_, _, _, e⟩ | ⟨_, _, e⟩ <;> cases e
  | inr as => cases y with
    | inl b =>
      obtain ⟨c, rfl, _⟩ := hx
      rcases ia_shape hy with ⟨_, e⟩ | ⟨_, _, _, e⟩ | ⟨_, _, e⟩ <;> cases e
    | inr bs =>
      obtain ⟨c, rfl, h1⟩ := hx
      obtain ⟨d, e, h2⟩ := hy
      cases e
      rw [h1.inj h2]
theorem items_inj {h : Heap} {xs ys : List IK} {vs : List Value} (p : Paired (ItemIs prog w h) xs vs) : Paired (ItemIs prog w h) ys vs → xs = ys := by
  induction p generalizing ys with
  | nil => intro q; cases q; rfl
  | cons a t ih => intro q; cases q with
    | cons b u => rw [a.inj b, ih u]
theorem IsTk.inj {h : Heap} {a : Addr} {x y : List IK} (hx : IsTk prog w h x a) (hy : IsTk prog w h y a) : x = y := by
  obtain ⟨o, items, n, ho, _, hd, hi⟩ := hx
  obtain ⟨o', items', n', ho', _, hd', hi'⟩ := hy
  obtain rfl : o = o' := Option.some.inj (ho.symm.trans ho')
  rw [hd] at hd'
  injection hd' with h1 _
  subst h1
  exact items_inj hi hi'
theorem ItemIs.keeps {h h' : Heap} {k : IK} {v : Value} {d : Addr} {o : Obj} {es ep} (x : ItemIs prog w h k v) (ho : h.get? d = some o) (hd : o.data = .dict es ep) (hs : Heap.SameBut d h h') : ItemIs prog w h' k v := by
  cases k with
  | inl a => exact x
  | inr as => obtain ⟨b, e, q⟩ := x; exact ⟨b, e, q.keeps ho hd hs⟩
theorem IsTk.keeps {h h' : Heap} {ks : List IK} {a d : Addr} {o : Obj} {es ep} (x : IsTk prog w h ks a) (ho : h.get? d = some o) (hd : o.data = .dict es ep) (hs : Heap.SameBut d h h') : IsTk prog w h' ks a := by
  obtain ⟨o', items, n, ho', hc, hd', hi⟩ := x
  have hne : a ≠ d := by
    rintro rfl
    obtain rfl : o' = o := Option.some.inj (ho'.symm.trans ho)
    rw [hd] at hd'; exact nomatch hd'
  exact ⟨o', items, n, (hs.2 a hne).trans ho', hc, hd', Paired.mapP hi fun _ _ z => z.keeps ho hd hs⟩
theorem IsTk.typeIs {s : Shared} {ks : List IK} {a : Addr} (x : IsTk prog w s.heap ks a) : s.TypeIs (.ref a) "tuple" := let ⟨o, _, _, ho, hc, _⟩ := x; ⟨o, ho, hc⟩
theorem tk_isTuple {h : Heap} {ks : List IA} {a : Addr} (x : IsTupleKey (iaKind prog w) h ks a) : ∃ items, h.IsTuple a items := let ⟨o, items, n, h1, h2, h3, _⟩ := x; ⟨items, o, h1, h2, n, h3⟩
variable {A : Around} {E : Value → Shared → Prop} {s : Shared}
theorem item_hash {k : IK} {v : Value} {Q : Int → Shared → Prop} (hu : A.units < cLine) (hk : ItemIs prog w s.heap k v) (h : Q (hashIK k) { s with toks := s.toks + drawsK k }) : wpAny (model prog w) A (pyHash v) Q E s := by
  cases k with
  | inl a => exact (iaKind prog w).pyHash (k := a) hk h
  | inr as =>
    obtain ⟨b, rfl, q⟩ := hk
    exact wpAny_pyHash_tuple (knd := iaKind prog w) hu q h
theorem ia_tuple {a : IA} {v : Value} {b : Addr} {items : Array Value} {Q : Bool → Shared → Prop} (hu : A.units < cLine) (hk : iaIs a v = true) (ht : s.heap.IsTuple b items) (h : Q false s) : wpAny (model prog w) A (PySem.eqBool v (.ref b)) Q E s := by
  rcases ia_shape hk with ⟨rfl, rfl⟩ | ⟨i, t, rfl, rfl⟩ | ⟨c, rfl, rfl⟩
  · exact SeqAt.EqAt.none_tuple ht hu _ _ _ _ h
  · exact SeqAt.EqAt.int_tuple _ _ ht hu _ _ _ _ h
  · exact SeqAt.EqAt.bool_tuple _ ht hu _ _ _ _ h
theorem tuple_ia {a : IA} {v : Value} {b : Addr} {items : Array Value} {Q : Bool → Shared → Prop} (hu : A.units < cLine) (hk : iaIs a v = true) (ht : s.heap.IsTuple b items) (h : Q false s) : wpAny (model prog w) A (PySem.eqBool (.ref b) v) Q E s := by
  rcases ia_shape hk with ⟨rfl, rfl⟩ | ⟨i, t, rfl, rfl⟩ | ⟨c, rfl, rfl⟩
  · exact SeqAt.EqAt.tuple_none ht hu _ _ _ _ h
  · exact SeqAt.EqAt.tuple_int _ _ ht hu _ _ _ _ h
  · exact SeqAt.EqAt.tuple_bool _ ht hu _ _ _ _ h
theorem item_eq {x y : IK} {u v : Value} {Q : Bool → Shared → Prop} (hu : A.units < cLine) (hx : ItemIs prog w s.heap x u) (hy : ItemIs prog w s.heap y v) (h : Q (decide (x = y)) s) : wpAny (model prog w) A (PySem.eqBool u v) Q E s := by
  cases x with
  | inl a => cases y with
    | inl b =>
      refine (iaKind prog w).eqBool (a := a) (b := b) hx hy ?_
      rw [show decide (a = b) = decide ((Sum.inl a : IK) = Sum.inl b) from decide_eq_decide.mpr ⟨fun e => by rw [e], fun e => Sum.inl.inj e⟩]
      exact h
    | inr bs =>
      obtain ⟨c, rfl, q⟩ := hy
      obtain ⟨items, ht⟩ := tk_isTuple q
      refine ia_tuple hu hx ht ?_
      rw [decide_eq_false (fun e => nomatch e)] at h
      exact h
  | inr as => cases y with
    | inl b =>
      obtain ⟨c, rfl, q⟩ := hx
      obtain ⟨items, ht⟩ := tk_isTuple q
      refine tuple_ia hu hy ht ?_
      rw [decide_eq_false (fun e => nomatch e)] at h
      exact h
    | inr bs =>
      obtain ⟨c, rfl, q⟩ := hx
      obtain ⟨d, rfl, q'⟩ := hy
      refine wpAny_eqBool_tuple (knd := iaKind prog w) hu q q' ?_
      rw [show decide (as = bs) = decide ((Sum.inr as : IK) = Sum.inr bs) from decide_eq_decide.mpr ⟨fun e => by rw [e], fun e => Sum.inr.inj e⟩]
      exact h
noncomputable def drawsT (ks : List IK) : Nat := (ks.map drawsK).sum + 1
theorem tk_pyHash {ks : List IK} {a : Addr} {Q : Int → Shared → Prop} (hu : A.units + 1 < cLine) (hk : IsTk prog w s.heap ks a) (h : Q (hashT ks) { s with toks := s.toks + drawsT ks }) :
    wpAny (model prog w) A (pyHash (.ref a)) Q E s := by
  have hT := hk.typeIs
  obtain ⟨o, items, n, ho, _, hd, hi⟩ := hk
  have hu0 : A.units < cLine := by omega
  unfold pyHash
  first | unfold pyHashByItsType | skip
  first | refine wpAny_bind (wpAny_cRoomFor_or (.inr hu0) ?_) | skip
  refine wpAny_bind (wpAny_specialOf hT F.slot_tuple_hash.lookup ?_)
  show wpAny _ _ (if (some (Value.builtin "tuple.__hash__") == some Value.none) = true then _ else _) Q E s
  rw [if_neg (by rw [beq_builtin_none]; exact Bool.false_ne_true)]
  refine wpAny_bind (wpAny_specialOf hT F.slot_tuple_hash.lookup ?_)
  show wpAny _ _ (callSpecialIfBoundUnlessNone? (.ref a) "__hash__" _ >>= _) Q E s
  refine wpAny_bind (wpAny_callSpecialIfBoundUnlessNone?_slot hT F.slot_tuple_hash (wpAny_call_entry F.slot_tuple_hash hT F.entry_tuple_hash ?_ (F.args_tuple_hash_1 _)))
  show wpAny _ _ (Builtin.Tuple.tupleItemsOf (.ref a) >>= _) _ _ s
  refine wpAny_bind (wpAny_tupleItemsOf ho hd ?_)
  refine wpAny_bind ?_
  rw [← Array.forIn_toList]
  refine wpAny_forIn_list _
    (fun rest (b : Array Int) s' => ∃ done left, ks = done ++ left ∧ Paired (ItemIs prog w s.heap) left rest ∧ b.toList = done.map hashIK ∧ s' = { s with toks := s.toks + (done.map drawsK).sum })
    _ ?_ ?_ _ _ ⟨[], ks, rfl, hi, rfl, rfl⟩
  · rintro x rest b s' ⟨done, left, rfl, hl, hb, rfl⟩
    cases hl with
    | @cons k _ ks' _ h1 hl' =>
      refine wpAny_bind (item_hash (k := k) hu h1 ?_)
      have e : (done.map drawsK).sum + drawsK k = ((done ++ [k]).map drawsK).sum := by simp
      first
        | exact wpAny_pure ⟨done ++ [k], ks', by simp, hl', by simp [hb], by rw [← e]; simp [Nat.add_assoc]⟩
        | exact wpAny_bind (wpAny_pure (wpAny_pure ⟨done ++ [k], ks', by simp, hl', by simp [hb], by rw [← e]; simp [Nat.add_assoc]⟩))
  · rintro b s' ⟨done, left, rfl, hl, hb, rfl⟩
    cases hl
    rw [List.append_nil] at h
    show wpAny _ _ (retInt (Builtin.Tuple.tupleHashOf b.toList)) _ _ _
    rw [hb]
    refine wpAny_ret_mkInt ?_
    show wpAny _ _ (if (decide (-(2 : Int) ^ 63 ≤ Builtin.Tuple.tupleHashOf (done.map hashIK)) && decide (Builtin.Tuple.tupleHashOf (done.map hashIK) < 2 ^ 63)) = true then _ else _) Q E _
    unfold hashT reduceHash drawsT at h
    by_cases hr : (decide (-(2 : Int) ^ 63 ≤ Builtin.Tuple.tupleHashOf (done.map hashIK)) && decide (Builtin.Tuple.tupleHashOf (done.map hashIK) < 2 ^ 63)) = true
    · rw [if_pos hr]
      rw [if_pos hr] at h
      exact wpAny_pure (by simpa [Nat.add_assoc] using h)
    · rw [if_neg hr]
      rw [if_neg hr] at h
      exact wpAny_bind (wpAny_rule (wpAny_pure (by simpa [Nat.add_assoc] using h)))
theorem tk_eq_tree {x y : List IK} {a b : Addr} {P : Fin → Shared → Prop} (hu : A.units < cLine) (hx : IsTk prog w s.heap x a) (hy : IsTk prog w s.heap y b) (h : P (.done (.ret (.bool (decide (x = y))))) s) :
    wpAny (model prog w) A (Builtin.«tuple.__eq__» ⟨[.ref a, .ref b], []⟩) P E s := by
  have hTb := hy.typeIs
  obtain ⟨oa, xs, na, hoa, _, hda, hia⟩ := hx
  obtain ⟨ob, ys, nb, hob, _, hdb, hib⟩ := hy
  show wpAny _ _ (isInstance (.ref b) (.type "tuple") >>= _) _ _ s
  refine wpAny_bind (wpAny_isInstance hTb isSubtype_tuple_tuple ?_)
  simp only [Bool.not_true, Bool.false_eq_true, if_false]
  refine wpAny_bind (wpAny_tupleItemsOf hoa hda ?_)
  refine wpAny_bind (wpAny_tupleItemsOf hob hdb ?_)
  refine wpAny_bind ?_
  refine wpAny_forIn_list _
    (fun rest r s' => r.1 = none ∧ s' = s ∧ ∃ x' y' xs' ys', rest = List.zip xs' ys' ∧ Paired (ItemIs prog w s.heap) x' xs' ∧ Paired (ItemIs prog w s.heap) y' ys' ∧ decide (x' = y') = decide (x = y) ∧ (xs'.length == ys'.length) = (xs.size == ys.size))
    _ ?_ ?_ _ _ ⟨rfl, rfl, x, y, xs.toList, ys.toList, rfl, hia, hib, rfl, by simp⟩
  · rintro ⟨u, v⟩ rest r s' ⟨hr, rfl, x', y', xs', ys', hz, hx', hy', hdec, hlen⟩
    cases hx' with
    | nil => simp at hz
    | @cons k1 u' x'' xs'' h1 hx'' =>
      cases hy' with
      | nil => simp at hz
      | @cons k2 v' y'' ys'' h2 hy'' =>
        simp only [List.zip_cons_cons, List.cons.injEq, Prod.mk.injEq] at hz
        obtain ⟨⟨rfl, rfl⟩, rfl⟩ := hz
        refine wpAny_bind (item_eq (x := k1) (y := k2) hu h1 h2 ?_)
        by_cases hk : k1 = k2
        · subst hk
          rw [decide_eq_true rfl]
          simp only [Bool.not_true, Bool.false_eq_true, if_false]
          refine wpAny_pure ⟨rfl, rfl, x'', y'', xs'', ys'', rfl, hx'', hy'', ?_, by simpa using hlen⟩
          rw [← hdec]
          by_cases hxy : x'' = y''
          · simp [hxy]
          · simp [hxy]
        · rw [decide_eq_false hk]
          simp only [Bool.not_false, if_true]
          have hf : decide (x = y) = false := by rw [← hdec]; simp [hk]
          rw [hf] at h
          exact wpAny_bind (wpAny_pure (wpAny_pure (wpAny_pure h)))
  · rintro ⟨r1, r2⟩ s' ⟨hr, rfl, x', y', xs', ys', hz, hx', hy', hdec, hlen⟩
    simp only at hr
    subst hr
    refine wpAny_pure ?_
    have hfin : (xs.size == ys.size) = decide (x = y) := by
      rw [← hdec, ← hlen]
      cases hx' with
      | nil =>
        cases hy' with
        | nil => simp
        | cons _ _ => simp
      | cons _ _ =>
        cases hy' with
        | nil => simp
        | cons _ _ => simp at hz
    show P (.done (.ret (.bool (xs.size == ys.size)))) s'
    rw [hfin]; exact h
theorem tk_eqBool {x y : List IK} {a b : Addr} {Q : Bool → Shared → Prop} (hu : A.units + 1 < cLine) (hx : IsTk prog w s.heap x a) (hy : IsTk prog w s.heap y b) (h : Q (decide (x = y)) s) :
    wpAny (model prog w) A (eqBool (.ref a) (.ref b)) Q E s := by
  unfold eqBool
  try with_reducible refine wpAny_holding ?_
  show wpAny _ _ (if (Value.ref a == Value.ref b) = true then _ else _) Q E s
  by_cases hab : (Value.ref a == Value.ref b) = true
  · rw [if_pos hab]
    have e : a = b := by have := eq_of_beq hab; injection this
    subst e
    obtain rfl := hx.inj hy
    exact wpAny_bind (wpAny_rule (wpAny_pure (by simpa using h)))
  · rw [if_neg hab]
    exact wpAny_bind (wpAny_richCompare_same_room (op := .Eq) hx.typeIs hy.typeIs F.slot_tuple_eq
      (wpAny_call_entry F.slot_tuple_eq hx.typeIs F.entry_tuple_eq (tk_eq_tree hu hx hy ⟨_, rfl, (fun e => nomatch e), wpAny_truthy_bool h⟩) (F.args_tuple_eq_2 _ _)) (by omega))
theorem quiet_tuple {n : Nat} {ks : List IA} {a : Addr} {Q : Bool → Shared → Prop} (hk : IsTupleKey (iaKind prog w) s.heap ks a) (h : Q true s) : wpAny (model prog w) A (eqIsQuiet (n + 1) (.ref a)) Q E s := by
  have hT := hk.typeIs
  obtain ⟨o, items, _, ho, _, hd, hi⟩ := hk
  unfold eqIsQuiet
  refine wpAny_bind (wpAny_specialOf hT F.slot_tuple_eq.lookup ?_)
  show wpAny _ _ (isInstance (.ref a) (.type "tuple") >>= _) _ _ s
  refine wpAny_bind (wpAny_isInstance hT isSubtype_tuple_tuple ?_)
  simp only [Bool.not_true, Bool.false_eq_true, if_false]
  refine wpAny_bind (wpAny_seqItems ho hd ?_)
  refine wpAny_bind ?_
  show wpAny _ _ (forIn items _ _) _ _ s
  rw [← Array.forIn_toList]
  refine wpAny_forIn_list _ (fun rest r s' => r.1 = none ∧ s' = s ∧ ∀ v ∈ rest, carriedByValue v = true) _ ?_ ?_ _ _ ⟨rfl, rfl, hi.byValue⟩
  · rintro v rest r s' ⟨hr, rfl, hall⟩
    rw [eqIsQuiet_byValue _ (hall v List.mem_cons_self)]
    refine wpAny_bind (wpAny_pure ?_)
    simp only [Bool.not_true, Bool.false_eq_true, if_false]
    exact wpAny_pure ⟨rfl, rfl, fun u hu' => hall u (List.mem_cons_of_mem _ hu')⟩
  · rintro ⟨r1, r2⟩ s' ⟨hr, rfl, _⟩
    simp only at hr
    subst hr
    exact wpAny_pure h
theorem tk_quiet {ks : List IK} {a : Addr} {Q : Bool → Shared → Prop} (hk : IsTk prog w s.heap ks a) (h : Q true s) : wpAny (model prog w) A (eqIsQuiet 8 (.ref a)) Q E s := by
  have hT := hk.typeIs
  obtain ⟨o, items, n, ho, _, hd, hi⟩ := hk
  unfold eqIsQuiet
  refine wpAny_bind (wpAny_specialOf hT F.slot_tuple_eq.lookup ?_)
  show wpAny _ _ (isInstance (.ref a) (.type "tuple") >>= _) _ _ s
  refine wpAny_bind (wpAny_isInstance hT isSubtype_tuple_tuple ?_)
  simp only [Bool.not_true, Bool.false_eq_true, if_false]
  refine wpAny_bind (wpAny_seqItems ho hd ?_)
  refine wpAny_bind ?_
  show wpAny _ _ (forIn items _ _) _ _ s
  rw [← Array.forIn_toList]
  refine wpAny_forIn_list _ (fun rest r s' => r.1 = none ∧ s' = s ∧ ∃ ks, Paired (ItemIs prog w s.heap) ks rest) _ ?_ ?_ _ _ ⟨rfl, rfl, ks, hi⟩
  · rintro v rest r s' ⟨hr, rfl, ks, hall⟩
    cases hall with
    | @cons k _ ks' _ h1 hl =>
      refine wpAny_bind ?_
      have fin : wpAny (model prog w) A (eqIsQuiet 7 v) (fun b s2 => b = true ∧ s2 = s') E s' := by
        cases k with
        | inl a' => rw [eqIsQuiet_byValue _ ((iaKind prog w).byValue _ _ h1)]; exact wpAny_pure ⟨rfl, rfl⟩
        | inr as => obtain ⟨b, rfl, q⟩ := h1; exact quiet_tuple (n := 6) q ⟨rfl, rfl⟩
      refine wpAny_mono fin (fun b s2 ⟨e1, e2⟩ => ?_) fun _ _ x => x
      subst e1 e2
      simp only [Bool.not_true, Bool.false_eq_true, if_false]
      exact wpAny_pure ⟨rfl, rfl, ks', hl⟩
  · rintro ⟨r1, r2⟩ s' ⟨hr, rfl, _⟩
    simp only at hr
    subst hr
    exact wpAny_pure h
end
noncomputable def tkKind (prog : Program) (w : World) : HeapKind prog w (List IK) where
  is := IsTk prog w
  hash := hashT
  draws := drawsT
  room := fun A => A.units + 1 < cLine
  inj := fun hx hy => hx.inj hy
  keeps := fun x ho hd hs => x.keeps ho hd hs
  pyHash := fun hu hk h => tk_pyHash hu hk h
  eqBool := fun hu hx hy h => tk_eqBool hu hx hy h
  quiet := fun hk h => tk_quiet hk h
/-! ### a dict with such keys -/
noncomputable def DA (a : Addr) (kvs : List (IA × V)) (h : Heap) : Prop := kvs.length ≤ sizeLine ∧ (a == sysModules) = false ∧ ∃ (P : Program) (w : World) (vs : List (IA × Value)), KV kvs vs ∧ h.DictOf (iaKind P w) a vs
noncomputable def ZX : List (List IK × Addr × V) → List (List IK × Addr × Value) → Prop := Paired fun z x => z.1 = x.1 ∧ z.2.1 = x.2.1 ∧ RelV z.2.2 x.2.2
noncomputable def DB (a : Addr) (zs : List (List IK × Addr × V)) (h : Heap) : Prop := zs.length ≤ sizeLine ∧ (a == sysModules) = false ∧ ∃ xs : List (List IK × Addr × Value), ZX zs xs ∧
  ∃ o es ep, h.get? a = some o ∧ o.ExactDict ∧ o.data = .dict es ep ∧ es.toList = xs.map (fun x => ⟨hashT x.1, .ref x.2.1, x.2.2⟩) ∧ (xs.map (·.1)).Nodup
noncomputable def dA (a : Addr) (kvs : List (IA × V)) : HO := .ext (DA a kvs)
noncomputable def dB (a : Addr) (zs : List (List IK × Addr × V)) : HO := .ext (DB a zs)
noncomputable def atZ (zs : List (List IK × Addr × V)) (k : List IK) : Option V := (zs.find? fun p => decide (p.1 = k)).map (·.2.2)
noncomputable def Dx (H : Hp) (a : Addr) (s : Bool) (f : MK → Option V) (n : Nat) : Prop :=
  (s = false ∧ ∃ kvs, H a = some (dA a kvs) ∧ (∀ k, valV kvs k = f (.inl k)) ∧ kvs.length ≤ n) ∨
  (s = true ∧ ∃ zs, H a = some (dB a zs) ∧ (∀ z ∈ zs, KeyV H (.ref z.2.1) (.inr z.1)) ∧ (∀ k, atZ zs k = f (.inr k)) ∧ zs.length ≤ n)
section
variable {H H' : Hp} {a b : Addr} {s : Bool} {f g : MK → Option V} {n m : Nat}
theorem Dx.ext (h : Dx H a s f n) : ∃ φ, H a = some (.ext φ) := by
  rcases h with ⟨_, kvs, e, _⟩ | ⟨_, zs, e, _⟩
  · exact ⟨_, e⟩
  · exact ⟨_, e⟩
theorem Dx.keep (h : Dx H a s f n) (e : H' a = H a) (kp : Keep H H') : Dx H' a s f n := by
  rcases h with ⟨hs, kvs, h1, h2⟩ | ⟨hs, zs, h1, h2, h3⟩
  · exact .inl ⟨hs, kvs, e.trans h1, h2⟩
  · exact .inr ⟨hs, zs, e.trans h1, fun z hz => (h2 z hz).keep kp, h3⟩
theorem Dx.same (h : Dx H a s f n) (q : Same H H') : Dx H' a s f n := by
  obtain ⟨φ, h1⟩ := h.ext
  exact h.keep ((q _ _ h1).trans h1.symm) q.keep
theorem Dx.ne_lst {xs : List V} (h : Dx H a s f n) (e : H b = some (.lst xs)) : b ≠ a := by
  obtain ⟨φ, h1⟩ := h.ext
  exact ne_of e h1 (fun z => nomatch z)
theorem Dx.le (h : Dx H a s f n) (e : n ≤ m) : Dx H a s f m := by
  rcases h with ⟨hs, kvs, h1, h2, h3⟩ | ⟨hs, zs, h1, h2, h3, h4⟩
  · exact .inl ⟨hs, kvs, h1, h2, Nat.le_trans h3 e⟩
  · exact .inr ⟨hs, zs, h1, h2, h3, Nat.le_trans h4 e⟩
theorem Dx.congr (h : Dx H a s f n) (e : ∀ k, f k = g k) : Dx H a s g n := by
  rcases h with ⟨hs, kvs, h1, h2, h3⟩ | ⟨hs, zs, h1, h2, h3, h4⟩
  · exact .inl ⟨hs, kvs, h1, fun k => (h2 k).trans (e _), h3⟩
  · exact .inr ⟨hs, zs, h1, h2, fun k => (h3 k).trans (e _), h4⟩
end
end L2

end

section
-- KcMapR
set_option Elab.async false
set_option linter.all false
set_option maxRecDepth 100000
set_option maxHeartbeats 4000000
namespace L2
open PySem PyProof.Rows
theorem Dx.off {H H' : Hp} {a l : Addr} {s : Bool} {f : MK → Option V} {n : Nat} {xs : List V} (h : Dx H a s f n) (e : H l = some (.lst xs)) (o : Off l H H') : Dx H' a s f n :=
  h.keep (o a (h.ne_lst e).symm) (o.keep e)
noncomputable def mDnewX : TE := fun _ H Q => ∃ s, ∀ p H', H p = none → Same H H' → Dx H' p s (fun _ => none) 0 → Q (.ref p) H'
theorem m_dnewX {σ : St} {H : Hp} {Q : VK} (s : Bool) (h : ∀ p H', H p = none → Same H H' → Dx H' p s (fun _ => none) 0 → Q (.ref p) H') : mDnewX σ H Q := ⟨s, h⟩
noncomputable def putF_ (f : MK → Option V) (k : MK) (v : V) : MK → Option V := fun j => if j = k then some v else f j
noncomputable def rXSet : TSet := fun o i v H R => ∃ a s f n k, o = .ref a ∧ Dx H a s f n ∧ KeyV H i k ∧ kSort k = s ∧ n < sizeLine ∧ ∀ H', Off a H H' → Dx H' a s (putF_ f k v) (n + 1) → R H'
noncomputable def tXM (r : V → List V → Hp → VK → Prop) (to : TE) (t : TA) : TE := fun σ H Q => to σ H fun x H1 => (∃ a s f n, x = .ref a ∧ Dx H1 a s f n) ∧ t σ H1 fun ys H2 => r x ys H2 Q
section
variable {σ : St} {H : Hp} {Q : VK} {a : Addr} {s : Bool} {f : MK → Option V} {n : Nat} {k : MK} {y v : V}
theorem r_xset {R : Hp → Prop} (d : Dx H a s f n) (hk : KeyV H y k) (hs : kSort k = s) (hn : n < sizeLine) (h : ∀ H', Off a H H' → Dx H' a s (putF_ f k v) (n + 1) → R H') : rXSet (.ref a) y v H R := ⟨a, s, f, n, k, rfl, d, hk, hs, hn, h⟩
theorem r_xm {r : V → List V → Hp → VK → Prop} {to : TE} {t : TA} (h : to σ H fun x H1 => (∃ a s f n, x = .ref a ∧ Dx H1 a s f n) ∧ t σ H1 fun ys H2 => r x ys H2 Q) : tXM r to t σ H Q := h
end
/-! what the firsts are behind i of the keys -/
section
variable {α : Type} [DecidableEq α] {ks : List α} {i : Nat} {k : α}
noncomputable def firsts (ks : List α) (i : Nat) : α → Option V := fun k => if k ∈ ks.take i then some (.int (ks.idxOf k : Nat)) else none
end
end L2

end

section
-- KcLawC
set_option Elab.async false
set_option linter.all false
set_option maxRecDepth 100000
set_option maxHeartbeats 4000000
namespace L2
open PySem PyProof.Rows

/-! ### the numbers out of a script -/
/-! ### products -/
/-! ### the count of deals by factorials -/
/-! ### the pack -/
end L2

end

section
-- KcLawV
set_option Elab.async false
set_option linter.all false
set_option maxRecDepth 100000
set_option maxHeartbeats 4000000
namespace L2
open PySem PyProof.Rows

/-! ### drawn numbers; lists of whole numbers -/
end L2

end

section
-- KcLawL
set_option Elab.async false
set_option linter.all false
set_option maxRecDepth 100000
set_option maxHeartbeats 4000000
namespace L2
open PySem PyProof.Rows

/-! ### for each thing the least one with the same sign -/
end L2

end

section
-- KcLawW
set_option Elab.async false
set_option linter.all false
set_option maxRecDepth 100000
set_option maxHeartbeats 4000000
namespace L2
open PySem PyProof.Rows

/-! ### a drawn view -/
end L2

end

section
-- KcView
set_option Elab.async false
set_option linter.all false
set_option maxRecDepth 100000
set_option maxHeartbeats 4000000
namespace L2
open PySem PyProof.Rows

/-! ### for each thing the least one with the same mark -/
/-! ### the first view of a hand -/
end L2

end

section
-- KcListR
set_option Elab.async false
set_option linter.all false
set_option maxRecDepth 100000
set_option maxHeartbeats 4000000
namespace L2
open PySem PyProof.Rows
/-! ### list(range(n)), list(zip(a, b)), list(reversed(a)) -/
section
variable {σ : St} {H : Hp} {Q : VK} {K : PySem.W.Frag}
end
end L2

end

section
-- KcSplit
set_option Elab.async false
set_option linter.all false
set_option maxRecDepth 100000
set_option maxHeartbeats 4000000
namespace L2
open PySem PyProof.Rows

/-! ### a view split by values -/
end L2

end

section
-- KcForest
set_option Elab.async false
set_option linter.all false
namespace KF
/-! ### things that point to lesser ones -/
noncomputable def Forest (ps : List Nat) : Prop := ∀ x y : Nat, ps[x]? = some y → y ≤ x
inductive Root (ps : List Nat) : Nat → Nat → Prop where
  | stop {x : Nat} (h : ps[x]? = some x) : Root ps x x
  | step {x y r : Nat} (h : ps[x]? = some y) (hl : y < x) (t : Root ps y r) : Root ps x r
theorem Root.inj {ps : List Nat} {x r r' : Nat} (a : Root ps x r) (b : Root ps x r') : r = r' := by
  induction a with
  | stop h => cases b with
    | stop _ => rfl
    | step h' hl _ => rw [h] at h'; cases h'; omega
  | step h hl _ ih => cases b with
    | stop h' => rw [h] at h'; cases h'; omega
    | step h' _ t => rw [h] at h'; cases h'; exact ih t
theorem Forest.root {ps : List Nat} (f : Forest ps) : ∀ x, x < ps.length → ∃ r, Root ps x r := by
  intro x
  induction x using Nat.strongRecOn with
  | ind x ih =>
    intro hx
    have e := List.getElem?_eq_getElem hx
    have hy := f x _ e
    rcases Nat.lt_or_eq_of_le hy with h | h
    · obtain ⟨r, hr⟩ := ih _ h (by omega)
      exact ⟨r, .step e h hr⟩
    · rw [h] at e
      exact ⟨x, .stop e⟩
theorem Root.le {ps : List Nat} {x r : Nat} (a : Root ps x r) : r ≤ x := by
  induction a with
  | stop _ => exact Nat.le_refl _
  | step _ hl _ ih => omega
theorem Root.self {ps : List Nat} {x r : Nat} (a : Root ps x r) : ps[r]? = some r := by
  induction a with
  | stop h => exact h
  | step _ _ _ ih => exact ih
theorem Root.lt {ps : List Nat} {x r : Nat} (a : Root ps x r) : x < ps.length := by
  cases a with
  | stop h => exact (List.getElem?_eq_some_iff.mp h).1
  | step h _ _ => exact (List.getElem?_eq_some_iff.mp h).1
theorem Forest.range (n : Nat) : Forest (List.range n) := fun x y h => by
  obtain ⟨h1, h2⟩ := List.getElem?_eq_some_iff.mp h
  rw [List.getElem_range] at h2
  omega
theorem Root.range {n x : Nat} (h : x < n) : Root (List.range n) x x := .stop (by rw [List.getElem?_range h])
theorem set_at {ps : List Nat} {e g y z : Nat} (h : (ps.set e g)[y]? = some z) : (y = e ∧ z = g) ∨ (y ≠ e ∧ ps[y]? = some z) := by
  rw [List.getElem?_set] at h
  by_cases q : e = y
  · rw [if_pos q] at h
    split at h
    · cases h; exact .inl ⟨q.symm, rfl⟩
    · cases h
  · rw [if_neg q] at h
    exact .inr ⟨fun z => q z.symm, h⟩
theorem Forest.set {ps : List Nat} (f : Forest ps) {e g : Nat} (h : g ≤ e) : Forest (ps.set e g) := fun x y q => by
  rcases set_at q with ⟨rfl, rfl⟩ | ⟨_, q⟩
  · exact h
  · exact f x y q
/-! ### what is joined by steps -/
inductive Conn (P : Nat → Nat → Prop) : Nat → Nat → Prop where
  | refl (x : Nat) : Conn P x x
  | one {x y : Nat} (h : P x y) : Conn P x y
  | symm {x y : Nat} (h : Conn P x y) : Conn P y x
  | trans {x y z : Nat} (h : Conn P x y) (t : Conn P y z) : Conn P x z
theorem Conn.mono {P P' : Nat → Nat → Prop} (h : ∀ x y, P x y → P' x y) {x y : Nat} (c : Conn P x y) : Conn P' x y := by
  induction c with
  | refl x => exact .refl x
  | one q => exact .one (h _ _ q)
  | symm _ ih => exact .symm ih
  | trans _ _ a b => exact .trans a b
theorem Conn.bind {P P' : Nat → Nat → Prop} (h : ∀ x y, P x y → Conn P' x y) {x y : Nat} (c : Conn P x y) : Conn P' x y := by
  induction c with
  | refl x => exact .refl x
  | one q => exact h _ _ q
  | symm _ ih => exact .symm ih
  | trans _ _ a b => exact .trans a b
theorem Conn.keeps {P : Nat → Nat → Prop} {α : Type} {f : Nat → α} (h : ∀ x y, P x y → f x = f y) {x y : Nat} (c : Conn P x y) : f x = f y := by
  induction c with
  | refl x => rfl
  | one q => exact h _ _ q
  | symm _ ih => exact ih.symm
  | trans _ _ a b => exact a.trans b
structure JoinOf (n : Nat) (P : Nat → Nat → Prop) (r : List Nat) : Prop where
  len : r.length = n
  le : ∀ i x : Nat, r[i]? = some x → x ≤ i
  conn : ∀ i x : Nat, r[i]? = some x → Conn P i x
  same : ∀ i j : Nat, i < n → j < n → Conn P i j → r[i]? = r[j]?
structure Told (n : Nat) (P : Nat → Nat → Prop) (ps : List Nat) : Prop where
  len : ps.length = n
  forest : Forest ps
  conn : ∀ x r, Root ps x r → Conn P x r
  same : ∀ x y, P x y → ∃ r, Root ps x r ∧ Root ps y r
theorem Told.join {n : Nat} {P : Nat → Nat → Prop} {ps r : List Nat} (t : Told n P ps) (hl : r.length = n) (hr : ∀ i x : Nat, r[i]? = some x → Root ps i x) : JoinOf n P r where
  len := hl
  le := fun i x h => (hr i x h).le
  conn := fun i x h => t.conn _ _ (hr i x h)
  same := by
    -- the root, as a function
    have key : ∀ i j, Conn P i j → ∀ x, (Root ps i x ↔ Root ps j x) := by
      intro i j c
      induction c with
      | refl x => intro x; exact Iff.rfl
      | one q =>
        intro x
        obtain ⟨r, h1, h2⟩ := t.same _ _ q
        exact ⟨fun a => by rw [a.inj h1]; exact h2, fun a => by rw [a.inj h2]; exact h1⟩
      | symm _ ih => intro x; exact (ih x).symm
      | trans _ _ a b => intro x; exact (a x).trans (b x)
    intro i j hi hj c
    have e1 := List.getElem?_eq_getElem (l := r) (i := i) (by rw [hl]; exact hi)
    have e2 := List.getElem?_eq_getElem (l := r) (i := j) (by rw [hl]; exact hj)
    have q1 := (key i j c _).mp (hr _ _ e1)
    rw [e1, e2, q1.inj (hr _ _ e2)]
theorem Told.start (n : Nat) : Told n (fun _ _ => False) (List.range n) where
  len := List.length_range
  forest := Forest.range n
  conn := fun x r h => by
    have hx : x < n := by have := h.lt; rw [List.length_range] at this; exact this
    rw [h.inj (Root.range hx)]
    exact .refl x
  same := fun _ _ h => h.elim
end KF

end

section
-- KcViewM
set_option Elab.async false
set_option linter.all false
set_option maxRecDepth 100000
set_option maxHeartbeats 4000000
namespace L2
open KF
/-! ### views: kernels, splits, joins (mathematics alone) -/
section
variable {α β γ : Type} [DecidableEq α] [DecidableEq β] [DecidableEq γ]
end
end L2

end

section
-- KcCd
set_option Elab.async false
set_option linter.all false
set_option maxRecDepth 100000
set_option maxHeartbeats 4000000
namespace L2
open PySem
/-! ### codes, as mathematics -/
section
variable (ws : List (List Nat)) (a b e : Int) (num : List Int → Nat)
end
inductive FR
  | ok
  | friend (d : Nat)
  | third (d : Nat)
section
variable {ws : List (List Nat)} {a b e : Int} {num num' : List Int → Nat}
noncomputable def FR.at : FR → Nat
  | .ok => 0
  | .friend d => d
  | .third d => d
end
/-! what is held -/
/-! all holdings -/
noncomputable def holdOf (n bits : Nat) : List Int := ((List.range n).filter fun c => bits / 2 ^ c % 2 == 1).map fun (c : Nat) => (c : Int)
theorem bits_for (p : Nat → Bool) : ∀ n : Nat, ∃ m, m < 2 ^ n ∧ ∀ c, c < n → (m / 2 ^ c % 2 == 1) = p c
  | 0 => ⟨0, by decide, fun c h => by omega⟩
  | n + 1 => by
    obtain ⟨m, hm, h⟩ := bits_for p n
    have tb : ∀ (x c : Nat), (x / 2 ^ c % 2 == 1) = x.testBit c := fun x c => by rw [Nat.testBit_eq_decide_div_mod_eq]; rfl
    cases hp : p n with
    | false =>
      refine ⟨m, by rw [Nat.pow_succ]; omega, fun c hc => ?_⟩
      rcases Nat.lt_succ_iff_lt_or_eq.mp hc with hc | hc
      · exact h c hc
      · subst hc
        rw [tb, Nat.testBit_lt_two_pow hm, hp]
    | true =>
      refine ⟨2 ^ n + m, by rw [Nat.pow_succ]; omega, fun c hc => ?_⟩
      rcases Nat.lt_succ_iff_lt_or_eq.mp hc with hc | hc
      · rw [tb, Nat.testBit_two_pow_add_gt hc, ← tb]; exact h c hc
      · subst hc
        rw [tb, Nat.testBit_two_pow_add_eq, Nat.testBit_lt_two_pow hm, hp]; rfl
theorem holdOf_inj {n x y : Nat} (hx : x < 2 ^ n) (hy : y < 2 ^ n) (h : holdOf n x = holdOf n y) : x = y := by
  apply Nat.eq_of_testBit_eq
  intro i
  have tb : ∀ (x c : Nat), (x / 2 ^ c % 2 == 1) = x.testBit c := fun x c => by rw [Nat.testBit_eq_decide_div_mod_eq]; rfl
  by_cases hi : i < n
  · have mem : ∀ z : Nat, (i : Int) ∈ holdOf n z ↔ z.testBit i = true := fun z => by
      unfold holdOf
      rw [List.mem_map]
      constructor
      · rintro ⟨c, hc, e⟩
        have : c = i := by omega
        subst this
        rw [← tb]; exact (List.mem_filter.mp hc).2
      · intro hz
        exact ⟨i, List.mem_filter.mpr ⟨List.mem_range.mpr hi, by rw [tb]; exact hz⟩, rfl⟩
    have h1 := mem x
    have h2 := mem y
    rw [h] at h1
    exact Bool.eq_iff_iff.mpr (h1.symm.trans h2)
  · have hp : 2 ^ n ≤ 2 ^ i := Nat.pow_le_pow_right (by decide) (by omega)
    rw [Nat.testBit_lt_two_pow (Nat.lt_of_lt_of_le hx hp), Nat.testBit_lt_two_pow (Nat.lt_of_lt_of_le hy hp)]
/-! words: lists of holdings -/
structure CodeOk (L : List (List (List Int))) (hs : List (List Int)) (num : List Int → Nat) : Prop where
  mem : ∀ i l, L[i]? = some l → ∀ x ∈ l, x ∈ hs ∧ num x = i
  all : ∀ x ∈ hs, ∃ l, L[num x]? = some l ∧ x ∈ l
/-! unheard -/
section
variable {room : List Nat} {c : Nat}
theorem deal_facts {w : List Nat} (hs : room.sum = c) (h : w ∈ KM.level room c) : w.length = c ∧ (∀ j ∈ w, j < room.length) ∧ ∀ j, j < room.length → w.count j = room.getD j 0 := by
  have B := KM.level_begun room c w h
  refine ⟨B.len, B.all, ?_⟩
  subst hs
  exact KM.whole_counts B
end
end L2

end

section
-- KcHd
set_option Elab.async false
set_option linter.all false
set_option maxRecDepth 100000
set_option maxHeartbeats 4000000
namespace L2
open PySem PyProof.Rows
/-! ### holdings, their order, their sums -/
noncomputable def hpN : Nat → List Nat → List Nat
  | _, [] => []
  | o, x :: w => if x = 0 then o :: hpN (o + 1) w else hpN (o + 1) w
theorem hpN_len : ∀ (o : Nat) (w : List Nat), (hpN o w).length = w.count 0
  | _, [] => rfl
  | o, x :: w => by
    show (if x = 0 then o :: hpN (o + 1) w else hpN (o + 1) w).length = _
    rw [List.count_cons]
    by_cases e : x = 0
    · rw [if_pos e, List.length_cons, hpN_len]; simp [e]
    · rw [if_neg e, hpN_len]; simp [e]
theorem hpN_ge : ∀ (o : Nat) (w : List Nat), ∀ y ∈ hpN o w, o ≤ y
  | _, [], y, h => by cases h
  | o, x :: w, y, h => by
    have h' : y ∈ (if x = 0 then o :: hpN (o + 1) w else hpN (o + 1) w) := h
    by_cases e : x = 0
    · rw [if_pos e] at h'
      rcases List.mem_cons.mp h' with z | z
      · omega
      · have := hpN_ge (o + 1) w y z
        omega
    · rw [if_neg e] at h'
      have := hpN_ge (o + 1) w y h'
      omega
theorem hpN_upto : ∀ (o : Nat) (w : List Nat), hpN o w = ((List.range w.length).filter fun j => decide (w[j]? = some 0)).map (fun j => o + j)
  | o, [] => rfl
  | o, x :: w => by
    have e2 : ((((List.range w.length).map Nat.succ).filter fun j => decide ((x :: w)[j]? = some 0)).map fun j => o + j) = hpN (o + 1) w := by
      rw [List.filter_map, List.map_map, hpN_upto (o + 1) w]
      have : ((fun j => decide ((x :: w)[j]? = some 0)) ∘ Nat.succ) = fun j => decide (w[j]? = some 0) := rfl
      rw [this]
      exact List.map_congr_left fun j _ => by show o + (j + 1) = o + 1 + j; omega
    show (if x = 0 then o :: hpN (o + 1) w else hpN (o + 1) w) = _
    rw [List.length_cons, List.range_succ_eq_map, List.filter_cons]
    by_cases e : x = 0
    · rw [if_pos e, if_pos (by simp [e]), List.map_cons, e2]
      rfl
    · rw [if_neg e, if_neg (by simpa using e), e2]
theorem hpN_filter (w : List Nat) : hpN 0 w = (List.range w.length).filter fun j => decide (w[j]? = some 0) := by
  rw [hpN_upto]
  conv => rhs; rw [← List.map_id ((List.range w.length).filter fun j => decide (w[j]? = some 0))]
  exact List.map_congr_left fun j _ => by show 0 + j = j; omega
theorem held_hpN (w : List Nat) : upto (w.map fun (s : Nat) => ((s : Nat) : Int)) 0 (w.map fun (s : Nat) => ((s : Nat) : Int)).length = toI (hpN 0 w) := by
  rw [hpN_filter]
  unfold upto toI
  rw [List.length_map]
  congr 1
  refine List.filter_congr fun j _ => decide_eq_decide.mpr ?_
  rw [List.getElem?_map]
  cases w[j]? with
  | none => simp
  | some x => simp
theorem hpN_lex : ∀ (o : Nat) (v w : List Nat), v.length = w.length → v.count 0 = w.count 0 → (∀ x ∈ v, x < 2) → (∀ x ∈ w, x < 2) → KM.lex v w = true → KM.lex (hpN o v) (hpN o w) = true
  | _, [], [], _, _, _, _, h => by cases h
  | _, [], _ :: _, h, _, _, _, _ => by simp at h
  | _, _ :: _, [], h, _, _, _, _ => by simp at h
  | o, a :: v, b :: w, hl, hc, hv, hw, h => by
    have h' : (if a = b then KM.lex v w else decide (a < b)) = true := h
    have hl' : v.length = w.length := by simpa using hl
    have hv' : ∀ x ∈ v, x < 2 := fun x hx => hv x (List.mem_cons_of_mem _ hx)
    have hw' : ∀ x ∈ w, x < 2 := fun x hx => hw x (List.mem_cons_of_mem _ hx)
    show KM.lex (if a = 0 then o :: hpN (o + 1) v else hpN (o + 1) v) (if b = 0 then o :: hpN (o + 1) w else hpN (o + 1) w) = true
    rw [List.count_cons, List.count_cons] at hc
    by_cases e : a = b
    · subst e
      rw [if_pos rfl] at h'
      have r := hpN_lex (o + 1) v w hl' (by omega) hv' hw' h'
      by_cases z : a = 0
      · rw [if_pos z, if_pos z]
        show (if o = o then KM.lex (hpN (o + 1) v) (hpN (o + 1) w) else decide (o < o)) = true
        rw [if_pos rfl]
        exact r
      · rw [if_neg z, if_neg z]
        exact r
    · rw [if_neg e] at h'
      have h3 := of_decide_eq_true h'
      have hb := hw b List.mem_cons_self
      have a0 : a = 0 := by omega
      have b1 : b = 1 := by omega
      subst a0 b1
      rw [if_pos rfl, if_neg (by decide)]
      have hn : (hpN (o + 1) w).length ≠ 0 := by
        rw [hpN_len]
        simp at hc
        omega
      cases q : hpN (o + 1) w with
      | nil => rw [q] at hn; exact absurd rfl hn
      | cons y t =>
        have hy := hpN_ge (o + 1) w y (by rw [q]; exact List.mem_cons_self)
        show (if o = y then KM.lex (hpN (o + 1) v) t else decide (o < y)) = true
        rw [if_neg (by omega)]
        exact decide_eq_true (by omega)
noncomputable def holdN (c k : Nat) : List (List Nat) := (KM.level ([k] ++ [c - k]) c).map (hpN 0)
theorem room_sum {c k : Nat} (hk : k ≤ c) : ([k] ++ [c - k]).sum = c := by
  show k + (c - k + 0) = c
  omega
theorem holdN_sorted {c k : Nat} (hk : k ≤ c) : (holdN c k).Pairwise fun x y => KM.lex x y = true := by
  unfold holdN
  rw [List.pairwise_map]
  refine List.Pairwise.imp_of_mem (fun {v w} hv hw h => ?_) (KM.level_sorted _ c)
  obtain ⟨v1, v2, v3⟩ := deal_facts (room_sum hk) hv
  obtain ⟨w1, w2, w3⟩ := deal_facts (room_sum hk) hw
  exact hpN_lex 0 v w (by rw [v1, w1]) (by rw [v3 0 (by simp), w3 0 (by simp)]) v2 w2 h
theorem holdN_nd {c k : Nat} (hk : k ≤ c) : (holdN c k).Nodup := (holdN_sorted hk).imp fun {x y} h e => by
  rw [e, KM.lex_irr] at h
  cases h
noncomputable def bitsN (n bits : Nat) : List Nat := (List.range n).filter fun c => bits / 2 ^ c % 2 == 1
theorem count01 : ∀ w : List Nat, (∀ x ∈ w, x < 2) → w.count 0 + w.count 1 = w.length
  | [], _ => rfl
  | x :: w, h => by
    have := count01 w fun y hy => h y (List.mem_cons_of_mem _ hy)
    have hx := h x List.mem_cons_self
    rw [List.count_cons, List.count_cons, List.length_cons]
    have : x = 0 ∨ x = 1 := by omega
    rcases this with rfl | rfl
    · simp; omega
    · simp; omega
theorem mem_holdN {c k : Nat} (hk : k ≤ c) {x : List Nat} : x ∈ holdN c k ↔ (∃ b, b < 2 ^ c ∧ bitsN c b = x) ∧ x.length = k := by
  constructor
  · intro h
    obtain ⟨w, hw, rfl⟩ := List.mem_map.mp h
    obtain ⟨w1, w2, w3⟩ := deal_facts (room_sum hk) hw
    refine ⟨?_, by rw [hpN_len, w3 0 (by simp)]; rfl⟩
    obtain ⟨m, hm, hb⟩ := bits_for (fun j => decide (w[j]? = some 0)) c
    refine ⟨m, hm, ?_⟩
    rw [hpN_filter, w1]
    exact List.filter_congr fun j hj => hb j (List.mem_range.mp hj)
  · rintro ⟨⟨b, hb, rfl⟩, hl⟩
    have e : hpN 0 ((List.range c).map fun j => if b / 2 ^ j % 2 == 1 then 0 else 1) = bitsN c b := by
      rw [hpN_filter, List.length_map, List.length_range]
      unfold bitsN
      refine List.filter_congr fun j hj => ?_
      rw [List.getElem?_map, List.getElem?_range (List.mem_range.mp hj)]
      rw [Bool.eq_iff_iff, decide_eq_true_iff]
      show (some (if (b / 2 ^ j % 2 == 1) = true then 0 else 1) = some 0) ↔ (b / 2 ^ j % 2 == 1) = true
      by_cases q : (b / 2 ^ j % 2 == 1) = true
      · rw [if_pos q]; exact ⟨fun _ => q, fun _ => rfl⟩
      · rw [if_neg q]; exact ⟨fun h => (by cases h), fun h => absurd h q⟩
    have lt : ∀ x ∈ (List.range c).map (fun j => if b / 2 ^ j % 2 == 1 then 0 else 1), x < 2 := fun x hx => by
      obtain ⟨j, _, rfl⟩ := List.mem_map.mp hx
      split <;> omega
    have c0 : ((List.range c).map fun j => if b / 2 ^ j % 2 == 1 then 0 else 1).count 0 = k := by rw [← hpN_len 0, e, hl]
    have c1 := count01 _ lt
    rw [c0, List.length_map, List.length_range] at c1
    refine List.mem_map.mpr ⟨_, KM.level_all _ c _ (by rw [List.length_map, List.length_range]) lt fun j => ?_, e⟩
    rcases j with _ | _ | j
    · rw [c0]; exact Nat.le_refl _
    · show List.count 1 _ ≤ c - k
      omega
    · rw [List.count_eq_zero_of_not_mem fun z => by have := lt _ z; omega]
      exact Nat.zero_le _
theorem bitsN_inj {n x y : Nat} (hx : x < 2 ^ n) (hy : y < 2 ^ n) (h : bitsN n x = bitsN n y) : x = y := holdOf_inj hx hy (by
  show (bitsN n x).map _ = (bitsN n y).map _
  rw [h])
noncomputable def bitsTo (c k i : Nat) : List (List Nat) := ((List.range i).map (bitsN c)).filter fun x => decide (x.length = k)
theorem bitsTo_succ (c k i : Nat) : bitsTo c k (i + 1) = bitsTo c k i ++ if (bitsN c i).length = k then [bitsN c i] else [] := by
  unfold bitsTo
  rw [List.range_succ, List.map_append, List.filter_append]
  congr 1
  by_cases z : (bitsN c i).length = k
  · rw [if_pos z]; exact List.filter_cons_of_pos (decide_eq_true z)
  · rw [if_neg z]; exact List.filter_cons_of_neg (by rw [decide_eq_false z]; exact Bool.false_ne_true)
theorem bitsTo_len (c k i : Nat) : (bitsTo c k i).length ≤ i := Nat.le_trans (List.length_filter_le _ _) (by rw [List.length_map, List.length_range]; exact Nat.le_refl _)
theorem bits_perm {c k : Nat} (hk : k ≤ c) : (bitsTo c k (2 ^ c)).Perm (holdN c k) := by
  refine (List.perm_ext_iff_of_nodup (List.Pairwise.filter _ (KM.map_nodup List.nodup_range fun x hx y hy e => bitsN_inj (List.mem_range.mp hx) (List.mem_range.mp hy) e)) (holdN_nd hk)).mpr fun x => ?_
  rw [mem_holdN hk, List.mem_filter, List.mem_map]
  constructor
  · rintro ⟨⟨b, hb, e⟩, h⟩
    exact ⟨⟨b, List.mem_range.mp hb, e⟩, of_decide_eq_true h⟩
  · rintro ⟨⟨b, hb, e⟩, h⟩
    exact ⟨⟨b, List.mem_range.mpr hb, e⟩, decide_eq_true h⟩
theorem holdN_len {c k : Nat} (hk : k ≤ c) : (holdN c k).length = KM.multi c [k] := by
  unfold holdN
  rw [List.length_map]
  exact KM.level_multi (ss := [k]) (by simpa using hk)
theorem holdN_short {c k : Nat} (hk : k ≤ c) {w : List Nat} (h : w ∈ holdN c k) : w.length ≤ c := by rw [((mem_holdN hk).mp h).2]; exact hk
end L2

end

section
-- KcSrtR
set_option Elab.async false
set_option linter.all false
set_option maxRecDepth 100000
set_option maxHeartbeats 4000000
namespace L2
open PySem
/-! ### sorted(xs) of whole numbers, fewer than 64; xs[::-1] -/
/-! ### != of what fails tells, twice the same -/
end L2

end

section
-- KcVaR
set_option Elab.async false
set_option linter.all false
set_option maxRecDepth 100000
set_option maxHeartbeats 4000000
namespace L2
open PySem
/-! ### readings: sorted(tuples, some of them empty), d.get(key, default), for x in d.values(), t[::-1], == of lists of tuples -/
noncomputable def cSortE (K : PySem.W.Frag) : List V → Hp → VK → Prop := fun xs H Q => ∃ (p : Addr) (rs : List Addr) (ws : List (List Int)), xs = [.ref p] ∧ SqL K H p (rs.map V.ref) ∧ TupsAt H rs ws ∧ ws.length ≤ 100000 ∧
  ∀ (q : Addr) (H' : Hp) (rs' : List Addr) (ws' : List (List Int)), H q = none → Same H H' → H' q = some (.lst (rs'.map V.ref)) → TupsAt H' rs' ws' → ws'.Perm ws → ws'.Pairwise LexL → Q (.ref q) H'
theorem r_sortE {K : PySem.W.Frag} {p : Addr} {rs : List Addr} {ws : List (List Int)} {H : Hp} {Q : VK} (e : SqL K H p (rs.map V.ref)) (t : TupsAt H rs ws) (hl : ws.length ≤ 100000)
    (h : ∀ (q : Addr) (H' : Hp) (rs' : List Addr) (ws' : List (List Int)), H q = none → Same H H' → H' q = some (.lst (rs'.map V.ref)) → TupsAt H' rs' ws' → ws'.Perm ws → ws'.Pairwise LexL → Q (.ref q) H') : cSortE K [.ref p] H Q := ⟨p, rs, ws, rfl, e, t, hl, h⟩
noncomputable def rXGet2 : V → List V → Hp → VK → Prop := fun x ys H Q => ∃ a f n k y v, x = .ref a ∧ ys = [y, v] ∧ Dx H a true f n ∧ KeyV H y k ∧ kSort k = true ∧ Q ((f k).getD v) H
theorem r_xget2 {H : Hp} {Q : VK} {a : Addr} {f : MK → Option V} {n : Nat} {k : MK} {y v : V} (d : Dx H a true f n) (hk : KeyV H y k) (hs : kSort k = true) (h : Q ((f k).getD v) H) : rXGet2 (.ref a) [y, v] H Q := ⟨a, f, n, k, y, v, rfl, rfl, d, hk, hs, h⟩
noncomputable def Itx (a : Addr) (o : HO) (vs : List V) : It := ⟨fun i H => i < vs.length ∧ H a = some o, fun i H x H' => H' = H ∧ vs[i]? = some x, fun i H => i = vs.length ∧ H a = some o⟩
noncomputable def iValsX (to : TE) : TI := fun σ H R => to σ H fun x H1 => ∃ a f n, x = .ref a ∧ Dx H1 a true f n ∧ n ≤ 1000000 ∧
  ∀ (ks : List (List IK)) (vs : List V) (u : HO), (∀ k, k ∈ ks ↔ (f (.inr k)).isSome = true) → vs.map some = ks.map (fun k => f (.inr k)) → vs.length ≤ n → R (Itx a u vs) (upd H1 a u)
theorem r_iValsX {to : TE} {σ : St} {H : Hp} {R : It → Hp → Prop} (h : to σ H fun x H1 => ∃ a f n, x = .ref a ∧ Dx H1 a true f n ∧ n ≤ 1000000 ∧
  ∀ (ks : List (List IK)) (vs : List V) (u : HO), (∀ k, k ∈ ks ↔ (f (.inr k)).isSome = true) → vs.map some = ks.map (fun k => f (.inr k)) → vs.length ≤ n → R (Itx a u vs) (upd H1 a u)) : iValsX to σ H R := h
section
variable {g : CF TG} {tt : CF TT} {te : CF TE} {σ₀ : St} {Q : VK} {H : Hp}
theorem lc_valsX {a : Addr} {f : MK → Option V} {n : Nat} (d : Dx H a true f n) (hn : n ≤ 1000000) (R : List V → Nat → List V → Hp → Prop) (h0 : ∀ vs H', R vs 0 [] H')
    (hs : ∀ vs u p, upd H a u p = none → ∀ C s' H' fp, ∀ i x acc H2, vs[i]? = some x → (∃ k, f (.inr k) = some x) → CInv (upd H a u) p (R vs) i acc H2 → g C s' H' fp x σ₀ H2 fun σ2 H3 => tt C s' H' fp σ2 H3 fun b H4 => if b = true then te C s' H' fp σ2 H4 fun y H5 => H5 p = some (.lst acc) ∧ CInv (upd H a u) p (R vs) (i + 1) (acc ++ [y]) (upd H5 p (.lst (acc ++ [y]))) else CInv (upd H a u) p (R vs) (i + 1) acc H4)
    (hd : ∀ (ks : List (List IK)) vs u, (∀ k, k ∈ ks ↔ (f (.inr k)).isSome = true) → vs.map some = ks.map (fun k => f (.inr k)) → ∀ p acc H2, upd H a u p = none → Same (upd H a u) H2 → H2 p = some (.lst acc) → R vs vs.length acc H2 → Q (.ref p) H2) :
    ∃ a' f' n', V.ref a = .ref a' ∧ Dx H a' true f' n' ∧ n' ≤ 1000000 ∧ ∀ (ks : List (List IK)) (vs : List V) (u : HO), (∀ k, k ∈ ks ↔ (f' (.inr k)).isSome = true) → vs.map some = ks.map (fun k => f' (.inr k)) → vs.length ≤ n' →
      ∀ p, upd H a' u p = none → ∃ W : Nat → Nat → List V → Hp → Prop, (∃ m, W 0 m [] (upd (upd H a' u) p (.lst []))) ∧ ∀ C s' H' fp, CompBody (Itx a' u vs) (g C s' H' fp) (tt C s' H' fp) (te C s' H' fp) σ₀ p Q W := by
  refine ⟨a, f, n, rfl, d, hn, fun ks vs u hk hv hl p hp => ?_⟩
  have ha : ∀ {H2 : Hp}, Same (upd H a u) H2 → H2 a = some u := fun {H2} s => s _ _ upd_same
  have hf : ∀ (i : Nat) (x : V), vs[i]? = some x → ∃ k, f (.inr k) = some x := fun i x hx => by
    have e : (vs.map some)[i]? = some (some x) := by rw [List.getElem?_map, hx]; rfl
    rw [hv, List.getElem?_map] at e
    obtain ⟨k, _, hk⟩ := Option.map_eq_some_iff.mp e
    exact ⟨k, hk⟩
  refine comp_of (J := Itx a u vs) (n := vs.length) (Y := fun i H x H1 => H1 = H ∧ vs[i]? = some x) (CInv (upd H a u) p (R vs)) ⟨same_new hp _, upd_same, Nat.le_refl _, h0 _ _⟩ (fun i acc H2 _ c => ⟨c.2.1, c.2.2.1⟩) (by rw [sizeLine_eq]; omega) (fun i acc H2 hi c => ⟨hi, ha c.1⟩) (fun acc H2 c => ⟨rfl, ha c.1⟩) (fun i acc H2 x H1 hi c y => y) (fun C s' H' fp i x acc H2 H1 hi c y => ?_) fun acc H2 c => hd ks vs u hk hv p acc H2 hp c.1 c.2.1 c.2.2.2
  obtain ⟨rfl, y⟩ := y
  exact hs vs u p hp C s' H' fp i x acc _ y (hf i x y) c
end
noncomputable def mRevT (te : TE) (tk : TO) : TE := fun σ H Q => te σ H fun x H1 => tk σ H1 fun k H2 => ∃ (a : Addr) (xs : List V), x = .ref a ∧ k = some (-1) ∧ H2 a = some (.tup xs) ∧ xs.length ≤ 1000 ∧ ∀ p H3, Same H2 H3 → H3 p = some (.tup xs.reverse) → Q (.ref p) H3
theorem m_revT {te : TE} {tk : TO} {σ : St} {H : Hp} {Q : VK} (h : te σ H fun x H1 => tk σ H1 fun k H2 => ∃ (a : Addr) (xs : List V), x = .ref a ∧ k = some (-1) ∧ H2 a = some (.tup xs) ∧ xs.length ≤ 1000 ∧ ∀ p H3, Same H2 H3 → H3 p = some (.tup xs.reverse) → Q (.ref p) H3) : mRevT te tk σ H Q := h
noncomputable def RowsI (H : Hp) (p : Addr) (ws : List (List Int)) : Prop := ∃ rs : List Addr, H p = some (.lst (rs.map V.ref)) ∧ TupsAt H rs ws
noncomputable def rEqR : R2 := fun x y H Q => ∃ a b ws vs, x = .ref a ∧ y = .ref b ∧ RowsI H a ws ∧ RowsI H b vs ∧ Q (.bl (decide (ws = vs))) H
theorem r_eqR {a b : Addr} {ws vs : List (List Int)} {H : Hp} {Q : VK} (h1 : RowsI H a ws) (h2 : RowsI H b vs) (q : Q (.bl (decide (ws = vs))) H) : rEqR (.ref a) (.ref b) H Q := ⟨a, b, ws, vs, rfl, rfl, h1, h2, q⟩
end L2

end

section
-- KcDkR
set_option Elab.async false
set_option linter.all false
set_option maxRecDepth 100000
set_option maxHeartbeats 4000000
namespace L2
open PySem PyProof.Rows
/-! ### a dict whose keys are whole numbers -/
noncomputable def dkP (kvs : List (Key × V)) (i : Int) (v : V) : List (Key × V) :=
  if (kvs.any fun kv => decide (kv.1 = (Sum.inl i : Key))) = true then kvs.map (fun kv => if kv.1 = (Sum.inl i : Key) then (kv.1, v) else kv) else kvs ++ [((Sum.inl i : Key), v)]
noncomputable def DkI (kvs : List (Key × V)) : Prop := ∀ p ∈ kvs, ∃ i : Int, p.1 = Sum.inl i
theorem DkI.put {kvs : List (Key × V)} (h : DkI kvs) (i : Int) (v : V) : DkI (dkP kvs i v) := by
  unfold dkP
  split
  · intro p hp
    obtain ⟨q, hq, rfl⟩ := List.mem_map.mp hp
    by_cases e : q.1 = Sum.inl i
    · rw [if_pos e]; exact ⟨i, e⟩
    · rw [if_neg e]; exact h q hq
  · intro p hp
    rcases List.mem_append.mp hp with hp | hp
    · exact h p hp
    · rw [List.mem_singleton.mp hp]; exact ⟨i, rfl⟩
section
variable {σ : St} {H : Hp} {Q : VK} {a : Addr} {kvs : List (Key × V)} {i : Int} {v : V}
end
section
variable {g : CF TG} {tt : CF TT} {te : CF TE} {σ₀ : St} {Q : VK} {H : Hp}
end
end L2

end

section
-- KcLenR
set_option Elab.async false
set_option linter.all false
set_option maxRecDepth 100000
set_option maxHeartbeats 4000000
namespace L2
open PySem PyProof.Rows
/-! ### len of a dict with whole numbers as keys; list.clear; list.insert -/
noncomputable def rInsert : V → List V → Hp → VK → Prop := fun x vs H Q => ∃ (l : Addr) (xs : List V) (k : Nat) (y : V), x = .ref l ∧ vs = [.int (k : Int), y] ∧ H l = some (.lst xs) ∧ xs.length < sizeLine ∧ k ≤ xs.length ∧ Q .non (upd H l (.lst (xs.take k ++ y :: xs.drop k)))
theorem r_insert {H : Hp} {Q : VK} {l : Addr} {xs : List V} {k : Nat} {y : V} (e : H l = some (.lst xs)) (hz : xs.length < sizeLine) (hk : k ≤ xs.length) (h : ∀ H', Off l H H' → H' l = some (.lst (xs.take k ++ y :: xs.drop k)) → Q .non H') : rInsert (.ref l) [.int (k : Int), y] H Q := ⟨l, xs, k, y, rfl, rfl, e, hz, hk, h _ off_upd upd_same⟩
end L2

end

section
-- KcRdW
set_option Elab.async false
set_option linter.all false
set_option maxRecDepth 100000
set_option maxHeartbeats 4000000
namespace L2
open PySem PyProof.Rows
theorem CInv.putW {H H4 : Hp} {p : Addr} {R : Nat → List V → Hp → Prop} {i : Nat} {acc : List V} {y : V} (hp : H p = none) (s : Same H H4) (e : H4 p = some (.lst acc)) (l : acc.length ≤ i) (r : ∀ H6, Off p H4 H6 → R (i + 1) (acc ++ [y]) H6) :
    H4 p = some (.lst acc) ∧ CInv H p R (i + 1) (acc ++ [y]) (upd H4 p (.lst (acc ++ [y]))) :=
  ⟨e, s.upd hp _, upd_same, by rw [List.length_append]; exact Nat.add_le_add_right l 1, r _ off_upd⟩
section
variable {g : CF TG} {tt : CF TT} {te : CF TE} {σ₀ : St} {Q : VK} {H : Hp} {K : PySem.W.Frag}
theorem lc_listW {a : Addr} (xs : List V) (hx : SqL K H a xs) (hz : xs.length ≤ 1000000) (R : Addr → Nat → List V → Hp → Prop) (h0 : ∀ p H', Same H H' → R p 0 [] H')
    (hs : ∀ p, H p = none → ∀ C s' H' fp, ∀ i x acc H2, xs[i]? = some x → CInv H p (R p) i acc H2 → g C s' H' fp x σ₀ H2 fun σ2 H3 => tt C s' H' fp σ2 H3 fun b H4 => if b = true then te C s' H' fp σ2 H4 fun y H5 => H5 p = some (.lst acc) ∧ CInv H p (R p) (i + 1) (acc ++ [y]) (upd H5 p (.lst (acc ++ [y]))) else CInv H p (R p) (i + 1) acc H4)
    (hd : ∀ p acc H2, H p = none → Same H H2 → H2 p = some (.lst acc) → R p xs.length acc H2 → Q (.ref p) H2) :
    ∃ a', V.ref a = .ref a' ∧ (∃ xs, SqL K H a' xs) ∧ ∀ p, H p = none → ∃ W : Nat → Nat → List V → Hp → Prop, (∃ m, W 0 m [] (upd H p (.lst []))) ∧ ∀ C s' H' fp, CompBody (Itl K a') (g C s' H' fp) (tt C s' H' fp) (te C s' H' fp) σ₀ p Q W :=
  ⟨a, rfl, ⟨xs, hx⟩, fun p hp => comp_list (CInv H p (R p)) ⟨same_new hp _, upd_same, Nat.le_refl _, h0 _ _ (same_new hp _)⟩ (fun i acc H2 _ c => ⟨c.2.1, c.2.2.1⟩) (fun i acc H2 _ c => c.1.seq hx) (by rw [sizeLine_eq]; omega) (fun C s' H' fp i x acc H2 hi c => hs p hp C s' H' fp i x acc H2 hi c) fun acc H2 c => hd p acc H2 hp c.1 c.2.1 c.2.2.2⟩
theorem lc_rangeW {j : Int} (n : Nat) (hn : j.toNat = n) (hj : j ≤ 1000000) (hj0 : -1000000 ≤ j) (R : Addr → Nat → List V → Hp → Prop) (h0 : ∀ p H', Same H H' → R p 0 [] H')
    (hs : ∀ p, H p = none → ∀ C s' H' fp, ∀ i acc H2, i < n → CInv H p (R p) i acc H2 → g C s' H' fp (.int i) σ₀ H2 fun σ2 H3 => tt C s' H' fp σ2 H3 fun b H4 => if b = true then te C s' H' fp σ2 H4 fun y H5 => H5 p = some (.lst acc) ∧ CInv H p (R p) (i + 1) (acc ++ [y]) (upd H5 p (.lst (acc ++ [y]))) else CInv H p (R p) (i + 1) acc H4)
    (hd : ∀ p acc H2, H p = none → Same H H2 → H2 p = some (.lst acc) → R p n acc H2 → Q (.ref p) H2) :
    ∃ j' : Int, [V.int j] = [.int j'] ∧ -(2 ^ 62) ≤ j' ∧ j' < 2 ^ 62 ∧ ∀ p, H p = none → ∃ W : Nat → Nat → List V → Hp → Prop, (∃ m, W 0 m [] (upd H p (.lst []))) ∧ ∀ C s' H' fp, CompBody (Itr 0 j'.toNat) (g C s' H' fp) (tt C s' H' fp) (te C s' H' fp) σ₀ p Q W := by
  refine ⟨j, rfl, by omega, by omega, fun p hp => ?_⟩
  subst hn
  exact comp_range (lo := 0) (CInv H p (R p)) ⟨same_new hp _, upd_same, Nat.le_refl _, h0 _ _ (same_new hp _)⟩ (fun i acc H2 _ c => ⟨c.2.1, c.2.2.1⟩) (by rw [sizeLine_eq]; omega) (fun C s' H' fp i acc H2 hi c => by rw [Int.zero_add]; exact hs p hp C s' H' fp i acc H2 hi c) fun acc H2 c => hd p acc H2 hp c.1 c.2.1 c.2.2.2
end
end L2

end

section
-- KcSlR
set_option linter.all false
namespace L2
open PySem PyProof.Rows
noncomputable def mSlW (K : PySem.W.Frag) : V → Option Int → Option Int → Hp → VK → Prop := fun x lo hi H Q => ∃ a xs, x = .ref a ∧ H a = some (.tup xs) ∧ ∀ p H', Same H H' → H' p = some (.tup (cutV xs lo hi)) → Q (.ref p) H'
theorem m_slW {K : PySem.W.Frag} {H : Hp} {Q : VK} {a : Addr} {xs : List V} {lo hi : Option Int} (e : H a = some (.tup xs)) (h : ∀ p H', Same H H' → H' p = some (.tup (cutV xs lo hi)) → Q (.ref p) H') : mSlW K (.ref a) lo hi H Q := ⟨a, xs, rfl, e, h⟩
end L2

end

section
-- KcK53a
set_option Elab.async false
set_option linter.all false
set_option maxRecDepth 100000
set_option maxHeartbeats 4000000
namespace L2
open PySem PyProof.Rows

/-! ### lists of holdings, lists of them -/
theorem ref_of5 {rs : List Addr} {i : Nat} {x : V} (h : (rs.map V.ref)[i]? = some x) : ∃ a, rs[i]? = some a ∧ x = .ref a := by
  rw [List.getElem?_map] at h
  cases e : rs[i]? with
  | none => rw [e] at h; cases h
  | some s => rw [e] at h; cases h; exact ⟨s, rfl, rfl⟩
theorem pairedLen5 {α β : Type} {F : α → β → Prop} : ∀ {l : List α} {m : List β}, Paired F l m → l.length = m.length
  | _, _, .nil => rfl
  | _, _, .cons _ t => by rw [List.length_cons, List.length_cons, pairedLen5 t]
theorem pairedApp {α β : Type} {R : α → β → Prop} : ∀ {xs xs' : List α} {ys ys' : List β}, Paired R xs ys → Paired R xs' ys' → Paired R (xs ++ xs') (ys ++ ys')
  | _, _, _, _, .nil, h => h
  | _, _, _, _, .cons a t, h => .cons a (pairedApp t h)
theorem RowsI.sm {H H' : Hp} {p : Addr} {ws : List (List Int)} (d : RowsI H p ws) (s : Same H H') : RowsI H' p ws := let ⟨rs, e, q⟩ := d; ⟨rs, s _ _ e, q.same s⟩
theorem TupsAt.off {H H6 : Hp} {p : Addr} {xs : List V} {rs : List Addr} {ws : List (List Int)} (t : TupsAt H rs ws) (o : Off p H H6) (e : H p = some (.lst xs)) : TupsAt H6 rs ws := Paired.mapP t fun _ _ x => o.keep e _ _ x
theorem RowsI.off {H H6 : Hp} {p q : Addr} {xs : List V} {ws : List (List Int)} (d : RowsI H q ws) (o : Off p H H6) (e : H p = some (.lst xs)) (h : q ≠ p) : RowsI H6 q ws := let ⟨rs, e1, pr⟩ := d; ⟨rs, by rw [o q h]; exact e1, pr.off o e⟩
noncomputable def WordsI (H : Hp) (p : Addr) (L : List (List (List Int))) : Prop := ∃ ls : List Addr, H p = some (.lst (ls.map V.ref)) ∧ Paired (RowsI H) ls L
theorem WordsI.sm {H H' : Hp} {p : Addr} {L : List (List (List Int))} (d : WordsI H p L) (s : Same H H') : WordsI H' p L := let ⟨ls, e, q⟩ := d; ⟨ls, s _ _ e, Paired.mapP q fun _ _ e => e.sm s⟩
theorem rows_off {H H6 : Hp} {p : Addr} {xs : List V} {qs : List Addr} {L : List (List (List Int))} (pq : Paired (RowsI H) qs L) (o : Off p H H6) (e : H p = some (.lst xs)) (h : ∀ q ∈ qs, q ≠ p) : Paired (RowsI H6) qs L := by
  induction pq with
  | nil => exact .nil
  | cons d _ ih => exact .cons (d.off o e (h _ List.mem_cons_self)) (ih fun q hq => h q (List.mem_cons_of_mem _ hq))
theorem rows_same {K : PySem.W.Frag} {H : Hp} {a b : Addr} {ws : List (List Int)} (D1 : RowsI H a ws) (D2 : RowsI H b ws) : SameD K H 2 (.ref a) (.ref b) := by
  obtain ⟨rs, e1, p1⟩ := D1
  obtain ⟨ts, e2, p2⟩ := D2
  refine .lst (SqL.of e1) (SqL.of e2) (by rw [List.length_map, List.length_map, pairedLen5 p1, pairedLen5 p2]) fun i x y hx hy => ?_
  obtain ⟨r, hr, rfl⟩ := ref_of5 hx
  obtain ⟨t, ht, rfl⟩ := ref_of5 hy
  obtain ⟨v, hv, ev⟩ := pairedAt p1 hr
  obtain ⟨w, hw, ew⟩ := pairedAt p2 ht
  rw [hv] at hw
  cases hw
  exact same_flatT (SqT.of ev) (SqT.of ew) (flat_ints _)
theorem words_same {K : PySem.W.Frag} {H : Hp} {a b : Addr} {L : List (List (List Int))} (D1 : WordsI H a L) (D2 : WordsI H b L) : SameD K H 3 (.ref a) (.ref b) := by
  obtain ⟨rs, e1, p1⟩ := D1
  obtain ⟨ts, e2, p2⟩ := D2
  refine .lst (SqL.of e1) (SqL.of e2) (by rw [List.length_map, List.length_map, pairedLen5 p1, pairedLen5 p2]) fun i x y hx hy => ?_
  obtain ⟨r, hr, rfl⟩ := ref_of5 hx
  obtain ⟨t, ht, rfl⟩ := ref_of5 hy
  obtain ⟨v, hv, ev⟩ := pairedAt p1 hr
  obtain ⟨w, hw, ew⟩ := pairedAt p2 ht
  rw [hv] at hw
  cases hw
  exact rows_same ev ew
theorem deals_rows {H : Hp} {p : Addr} {lv : List (List Nat)} (d : DealsAt H p lv) : RowsI H p (lv.map toI) := by
  obtain ⟨rs, e, q⟩ := d
  refine ⟨rs, e, ?_⟩
  clear e
  induction q with
  | nil => exact .nil
  | cons h _ ih => exact .cons (by rw [natV_ints] at h; exact h) ih
structure Fine (L : List (List (List Int))) : Prop where
  len : L.length ≤ 140
  rows : ∀ l ∈ L, l.length ≤ 300 ∧ ∀ w ∈ l, w.length ≤ 20
theorem flat_len {L : List (List (List Int))} {n : Nat} (h : ∀ l ∈ L, l.length ≤ n) : L.flatten.length ≤ L.length * n := by
  induction L with
  | nil => simp
  | cons l L ih =>
    rw [List.flatten_cons, List.length_append, List.length_cons, Nat.add_mul, Nat.one_mul]
    have := h l List.mem_cons_self
    have := ih fun x hx => h x (List.mem_cons_of_mem _ hx)
    omega
theorem Fine.flat {L : List (List (List Int))} (f : Fine L) : L.flatten.length ≤ 42000 := Nat.le_trans (flat_len fun l hl => (f.rows l hl).1) (Nat.le_trans (Nat.mul_le_mul_right _ f.len) (by decide))
theorem lex_anti5 : ∀ a b : List Int, HT.lexLt a b = false → HT.lexLt b a = false → a = b
  | [], [], _, _ => rfl
  | [], _ :: _, h, _ => by cases h
  | _ :: _, [], _, h => by cases h
  | x :: xs, y :: ys, h1, h2 => by
    have h1' : (if x = y then HT.lexLt xs ys else decide (x < y)) = false := h1
    have h2' : (if y = x then HT.lexLt ys xs else decide (y < x)) = false := h2
    by_cases e : x = y
    · subst e
      rw [if_pos rfl] at h1' h2'
      rw [lex_anti5 xs ys h1' h2']
    · rw [if_neg e] at h1'
      rw [if_neg (Ne.symm e)] at h2'
      have := of_decide_eq_false h1'
      have := of_decide_eq_false h2'
      omega
theorem sorted_rows {ws : List (List Int)} {us vs : List (List Int)} (pm : ws.Perm us) (pw : ws.Pairwise LexL) (hs : vs.Pairwise LexL) : ws = vs ↔ us.Perm vs := by
  constructor
  · intro e
    rw [← e]
    exact pm.symm
  · intro h
    exact List.Perm.eq_of_pairwise (le := LexL) (fun a b _ _ h1 h2 => lex_anti5 a b h2 h1) pw hs (pm.trans h)
theorem holdI_sorted {c k : Nat} (hk : k ≤ c) : ((holdN c k).map toI).Pairwise LexL := by
  rw [List.pairwise_map]
  refine (holdN_sorted hk).imp fun {x y} h => ?_
  show HT.lexLt (toI y) (toI x) = false
  rw [lexLt_lex]
  exact KM.lex_asy x y h
theorem holdI_nd {c k : Nat} (hk : k ≤ c) : ((holdN c k).map toI).Nodup := KM.map_nodup (holdN_nd hk) fun x _ y _ e => by rw [← toI_back x, e, toI_back]
structure Sz (c k : Nat) (ss : List Nat) (a : Nat) : Prop where
  c12 : c ≤ 12
  kc : k ≤ c
  few : KM.multi c [k] ≤ 2000
  at_ : ss[a]? = some k
noncomputable def sp_is_tuple_of_numbers (K : PySem.W.Frag) : Sp := fun vs H Q _ => ∃ (d : Addr) (w : List Int), vs = [.ref d] ∧ H d = some (.tup (w.map V.int)) ∧ w.length ≤ 1000 ∧ ∀ H', Same H H' → Q (.bl true) H'
noncomputable def t_is_tuple_of_numbers (K : PySem.W.Frag) : TS := (tRet (tAndV (tCB (rIsi K) (tCons (tVar 0) (tCons (tC (.ty "tuple")) tNil))) (tCB (cAll K) (tCons (tComp (iTup K (tVar 0)) (fun _ _ _ _ => (gName 0)) (fun _ _ _ _ => tAlways) (fun _ _ _ _ => (tCall (sp_is_whole K) [] E0 (tCons (tVar 0) tNil))) [none]) tNil))))
theorem len_is_tuple_of_numbers {K : PySem.W.Frag} {vs : List V} {H : Hp} {Q : VK} {E : XK} (h : sp_is_tuple_of_numbers K vs H Q E) : vs.length = 1 := by
  obtain ⟨d, w, rfl, hd, hl, q⟩ := h
  rfl
theorem rd_is_tuple_of_numbers {K : PySem.W.Frag} {vs : List V} {H : Hp} {Q : VK} {E : XK} (h : sp_is_tuple_of_numbers K vs H Q E) : t_is_tuple_of_numbers K { nx := fun _ H' => Q .non H', rt := Q } (start ["thing"] vs) H := by
  obtain ⟨d, w, rfl, hd, hl, q⟩ := h
  show t_is_tuple_of_numbers K _ [some _] _
  unfold t_is_tuple_of_numbers
  walk_at "rd"
  refine r_isi (.tup hd) (kit_tup_tup K) ?_
  walk_at "rd"
  refine lc_tup (w.map V.int) (SqT.of hd) (by rw [List.length_map]; omega) (fun j acc _ => ∃ bs : List Bool, acc = bs.map V.bl ∧ bs.all id = true) (fun _ _ => ⟨[], rfl, rfl⟩) ?_ ?_
  · rintro p hp C s' H' fp i x acc H2 hx ⟨s2, e2, l2, bs, rfl, hb⟩
    obtain ⟨z, hz, rfl⟩ := int_at hx
    walk_at "rd"
    refine ⟨.int z, rfl, Plain.int _, ?_⟩
    walk_at "rd"
    exact CInv.put hp (fun _ _ _ _ r _ => r) s2 e2 l2 ⟨bs ++ [true], by rw [List.map_append]; rfl, by rw [List.all_append, hb]; rfl⟩
  rintro p acc H2 hp s2 e2 ⟨bs, rfl, hb⟩
  walk_at "rd"
  refine ⟨p, bs, rfl, SqL.of e2, ?_⟩
  rw [hb]
  exact q H2 s2
noncomputable def sp_is_list_of_tuples (K : PySem.W.Frag) : Sp := fun vs H Q _ => ∃ (d : Addr) (ws : List (List Int)), vs = [.ref d] ∧ RowsI H d ws ∧ ws.length ≤ 100000 ∧ (∀ w ∈ ws, w.length ≤ 1000) ∧ ∀ H', Same H H' → Q (.bl true) H'

noncomputable def t_is_list_of_tuples (K : PySem.W.Frag) : TS := (tRet (tAndV (tCB (rIsi K) (tCons (tVar 0) (tCons (tC (.ty "list")) tNil))) (tCB (cAll K) (tCons (tComp (iList K (tVar 0)) (fun _ _ _ _ => (gName 0)) (fun _ _ _ _ => tAlways) (fun _ _ _ _ => (tCall (sp_is_tuple_of_numbers K) [] E0 (tCons (tVar 0) tNil))) [none]) tNil))))
theorem len_is_list_of_tuples {K : PySem.W.Frag} {vs : List V} {H : Hp} {Q : VK} {E : XK} (h : sp_is_list_of_tuples K vs H Q E) : vs.length = 1 := by
  obtain ⟨d, ws, rfl, D, hl, hw, q⟩ := h
  rfl
theorem rd_is_list_of_tuples {K : PySem.W.Frag} {vs : List V} {H : Hp} {Q : VK} {E : XK} (h : sp_is_list_of_tuples K vs H Q E) : t_is_list_of_tuples K { nx := fun _ H' => Q .non H', rt := Q } (start ["thing"] vs) H := by
  obtain ⟨d, ws, rfl, D, hl, hw, q⟩ := h
  show t_is_list_of_tuples K _ [some _] _
  unfold t_is_list_of_tuples
  obtain ⟨rs, ed, pr⟩ := D
  have hrl := pairedLen5 pr
  walk_at "rd"
  refine r_isi (.lst ed) (kit_lst_lst K) ?_
  walk_at "rd"
  refine lc_list (rs.map V.ref) (SqL.of ed) (by rw [List.length_map]; omega) (fun j acc _ => ∃ bs : List Bool, acc = bs.map V.bl ∧ bs.all id = true) (fun _ _ => ⟨[], rfl, rfl⟩) ?_ ?_
  · rintro p hp C s' H' fp i x acc H2 hx ⟨s2, e2, l2, bs, rfl, hb⟩
    obtain ⟨r, hr, rfl⟩ := ref_of5 hx
    obtain ⟨w, hwi, er⟩ := pairedAt pr hr
    walk_at "rd"
    refine ⟨r, w, rfl, s2 _ _ er, hw w (List.mem_of_getElem? hwi), fun H3 s3 => ?_⟩
    walk_at "rd"
    exact CInv.put hp (fun _ _ _ _ r _ => r) (s2.trans s3) (s3 _ _ e2) l2 ⟨bs ++ [true], by rw [List.map_append]; rfl, by rw [List.all_append, hb]; rfl⟩
  rintro p acc H2 hp s2 e2 ⟨bs, rfl, hb⟩
  walk_at "rd"
  refine ⟨p, bs, rfl, SqL.of e2, ?_⟩
  rw [hb]
  exact q H2 s2
noncomputable def sp_holdings_of (K : PySem.W.Frag) : Sp := fun vs H Q _ => ∃ (c k : Nat) (z : Addr) (ss : List Nat) (a : Nat), vs = [.int (c : Int), .ref z, .int (a : Int)] ∧ H z = some (.lst (natV ss)) ∧ Sz c k ss a ∧ ∀ f H', H f = none → Same H H' → DealsAt H' f (holdN c k) → Q (.ref f) H'
noncomputable def t_holdings_of (K : PySem.W.Frag) : TS := (tRet (tComp (iList K (tCall (sp_deals_of K) [] E0 (tCons (tVar 0) (tCons (mLst (tCons (tOp (rIxL K) (tVar 1) (tVar 2)) tNil)) tNil)))) (fun _ _ _ _ => (gName 0)) (fun _ _ _ _ => tAlways) (fun _ _ _ _ => (tCall (sp_cards_of K) [] E0 (tCons (tVar 0) (tCons (tC (.int 0)) tNil)))) [none]))
theorem take_snoc5 {α : Type} {l : List α} {i : Nat} {x : α} (h : l[i]? = some x) : l.take (i + 1) = l.take i ++ [x] := by
  obtain ⟨h1, h2⟩ := List.getElem?_eq_some_iff.mp h
  rw [List.take_succ, h]
  rfl
theorem len_holdings_of {K : PySem.W.Frag} {vs : List V} {H : Hp} {Q : VK} {E : XK} (h : sp_holdings_of K vs H Q E) : vs.length = 3 := by
  obtain ⟨c, k, z, ss, a, rfl, ez, sz, q⟩ := h
  rfl
theorem rd_holdings_of {K : PySem.W.Frag} {vs : List V} {H : Hp} {Q : VK} {E : XK} (h : sp_holdings_of K vs H Q E) : t_holdings_of K { nx := fun _ H' => Q .non H', rt := Q } (start ["cards", "sizes", "hand"] vs) H := by
  obtain ⟨c, k, z, ss, a, rfl, ez, sz, q⟩ := h
  show t_holdings_of K _ [some _, some _, some _] _
  unfold t_holdings_of
  walk_at "rd"
  refine r_ixL (SqL.of ez) (v := .int (k : Int)) (atI_nat (by unfold natV; rw [List.getElem?_map, sz.at_]; rfl)) ?_
  walk_at "rd"
  refine ⟨by simp [sizeLine_eq], fun l3 H3 hl3 s3 e3 => ?_⟩
  walk_at "rd"
  refine ⟨c, l3, [k], rfl, e3, ⟨sz.c12, by simp, by simp, by simpa using sz.kc⟩, sz.few, fun p H4 s4 hp D => ?_⟩
  obtain ⟨rs, ed, pr⟩ := D
  have hrl := pairedLen5 pr
  have hlv : (KM.level ([k] ++ [c - [k].sum]) c).length ≤ 2000 := by rw [KM.level_multi (ss := [k]) (by simpa using sz.kc)]; exact sz.few
  have hlw : ∀ w ∈ KM.level ([k] ++ [c - [k].sum]) c, w.length = c := fun w hw => (KM.level_begun _ _ w hw).len
  have hho : holdN c k = (KM.level ([k] ++ [c - [k].sum]) c).map (hpN 0) := rfl
  generalize KM.level ([k] ++ [c - [k].sum]) c = lv at *
  have c12 := sz.c12
  walk_at "rd"
  refine lc_list (rs.map V.ref) (SqL.of ed) (by rw [List.length_map]; omega) (fun j acc H2 => ∃ ts : List Addr, acc = ts.map V.ref ∧ Paired (fun (t : Addr) (w : List Nat) => H2 t = some (.tup (natV w))) ts ((lv.take j).map (hpN 0))) (fun _ _ => ⟨[], rfl, .nil⟩) ?_ ?_
  · rintro p5 hp5 C s' H' fp i x acc H5 hx ⟨s5, e5, l5, ts, rfl, pt⟩
    obtain ⟨r, hr, rfl⟩ := ref_of5 hx
    obtain ⟨w, hwi, er⟩ := pairedAt pr hr
    walk_at "rd"
    refine ⟨r, w.map fun (s : Nat) => ((s : Nat) : Int), 0, rfl, SqT.of (by rw [← natV_ints]; exact s5 _ _ er), by rw [List.length_map, hlw w (List.mem_of_getElem? hwi)]; omega, fun t H6 s6 e6 => ?_⟩
    rw [held_hpN] at e6
    walk_at "rd"
    refine CInv.put hp5 (fun _ _ _ _ r k => let ⟨ts, a, b⟩ := r; ⟨ts, a, Paired.mapP b fun _ _ x => k _ _ x⟩) (s5.trans s6) (s6 _ _ e5) l5 ⟨ts ++ [t], by rw [List.map_append]; rfl, ?_⟩
    rw [take_snoc5 hwi, List.map_append]
    exact pairedSnoc (Paired.mapP pt fun _ _ x => s6 _ _ x) (by rw [natV_ints]; exact e6)
  rintro p5 acc H5 hp5 s5 e5 ⟨ts, rfl, pt⟩
  rw [List.length_map, hrl, List.take_length] at pt
  walk_at "rd"
  exact q p5 H5 ((s3.trans s4).free hp5) ((s3.trans s4).trans s5) ⟨ts, e5, by rw [hho]; exact pt⟩
noncomputable def sp__law_holdings (_ : PySem.W.Frag) : Sp := fun vs H Q _ => ∃ (c s : Nat), vs = [.int (c : Int), .int (s : Int)] ∧ c ≤ 12 ∧ s ≤ c ∧ ∀ f H', H f = none → Same H H' → RowsI H' f ((bitsTo c s (2 ^ c)).map toI) → Q (.ref f) H'
theorem bit_one5 (i c : Nat) : Builtin.bitAnd ((i : Int) / 2 ^ c) 1 = ((i / 2 ^ c % 2 : Nat) : Int) := by
  have e : (i : Int) / 2 ^ c = ((i / 2 ^ c : Nat) : Int) := by rw [Int.natCast_ediv, Int.natCast_pow]; rfl
  rw [e]
  show ((((i / 2 ^ c : Nat) : Int).toNat &&& (1 : Int).toNat : Nat) : Int) = _
  rw [Int.toNat_natCast, show (1 : Int).toNat = 1 from rfl, Nat.and_one_is_mod]
noncomputable def t__law_holdings (K : PySem.W.Frag) : TS := (tSeq (tAsg (mLst tNil) (gName 2))
  (tSeq (tFor (iRng1 (tCons (tOp (rI CPow fun i j => .int (i * 2 ^ j.toNat)) (tC (.int 1)) (tVar 0)) tNil)) (gName 3) (tSeq (tAsg (tCB (mCTuple K) (tCons (tComp (iRng1 (tCons (tVar 0) tNil)) (fun _ _ _ _ => (gName 0)) (fun _ _ _ _ => (tTest (tOp rEq (tOp (rI0 fun i j => .int (Builtin.bitAnd i j)) (tOp (rI (fun _ j => 0 ≤ j) fun i j => .int (i / 2 ^ j.toNat)) (tVar 1) (tVar 0)) (tC (.int 1))) (tC (.int 1))))) (fun _ _ _ _ => (tVar 0)) [none, some 3]) tNil)) (gName 4))
  (tIfS (tTest (tOp rEq (tCB (cLen K) (tCons (tVar 4) tNil)) (tVar 1))) (tDrop (tBM K "list" rAppend (tVar 2) (tCons (tVar 4) tNil))) tNext)))
  (tRet (tVar 2))))
theorem len__law_holdings {K : PySem.W.Frag} {vs : List V} {H : Hp} {Q : VK} {E : XK} (h : sp__law_holdings K vs H Q E) : vs.length = 2 := by
  obtain ⟨c, s, rfl, hc, hsc, q⟩ := h
  rfl
theorem rd__law_holdings {K : PySem.W.Frag} {vs : List V} {H : Hp} {Q : VK} {E : XK} (h : sp__law_holdings K vs H Q E) : t__law_holdings K { nx := fun _ H' => Q .non H', rt := Q } (start ["_law_cards", "_law_size", "_law_found", "_law_bits", "_law_held"] vs) H := by
  obtain ⟨c, s, rfl, hc, hsc, q⟩ := h
  show t__law_holdings K _ [some _, some _, none, none, none] _
  unfold t__law_holdings
  have h2 : 2 ^ c ≤ 4096 := Nat.pow_le_pow_right (n := 2) (by decide) hc
  walk_at "rd"
  refine ⟨by simp [sizeLine_eq], fun f H1 hf s1 e1 => ?_⟩
  walk_at "rd"
  have hp : (1 : Int) * 2 ^ ((c : Int).toNat) = ((2 ^ c : Nat) : Int) := by rw [Int.one_mul, Int.toNat_natCast, Int.natCast_pow]; rfl
  rw [hp]
  have hB : ((2 ^ c : Nat) : Int) ≤ ((4096 : Nat) : Int) := Int.ofNat_le.mpr h2
  refine lp_range (2 ^ c) (Int.toNat_natCast _) (Int.le_trans hB (by decide)) (Int.le_trans (by decide) (Int.natCast_nonneg _)) (fun i σ H2 => ∃ (u3 u4 : Option V) , σ = [some (.int (c : Int)), some (.int (s : Int)), some (.ref f), u3, u4] ∧ Same H H2 ∧ DealsAt H2 f (bitsTo c s i)) ⟨_, _, rfl, s1, [], e1, .nil⟩ ?_ ?_
  · rintro i σ H2 hi ⟨u3, u4, rfl, s2, ts, e2, p2⟩
    have htl : ts.length ≤ 4096 := by
      have := pairedLen5 p2
      have := bitsTo_len c s i
      omega
    walk_at "rd"
    refine lc_range c (by omega) (by omega) (by omega) (fun j acc _ => acc = natV ((List.range j).filter fun k => i / 2 ^ k % 2 == 1)) (fun _ _ => rfl) ?_ ?_
    · rintro w hw C s' H' fp j acc H3 hj ⟨s3, e3, l3, rfl⟩
      walk_at "rd"
      refine r_I (C := fun _ j => 0 ≤ j) (by omega) ?_
      walk_at "rd"
      rw [Int.toNat_natCast, bit_one5]
      refine ite_dec (fun h => ?_) (fun h => ?_)
      · walk_at "rd"
        refine CInv.put hw (fun _ _ _ _ r _ => r) s3 e3 l3 ?_
        rw [List.range_succ, List.filter_append, List.filter_cons_of_pos (by simp; omega), List.filter_nil, natV_snoc]
      · refine CInv.skip s3 e3 l3 ?_
        rw [List.range_succ, List.filter_append, List.filter_cons_of_neg (by simp; omega), List.filter_nil, List.append_nil]
    rintro w acc H3 hw s3 e3 rfl
    walk_at "rd"
    refine m_tuple (SqL.of e3) fun t H4 ht s4 e4 => ?_
    have s34 := s3.trans s4
    have e24 := s34 _ _ e2
    have e4' : H4 t = some (.tup (natV (bitsN c i))) := e4
    walk_at "rd"
    rw [natV_len]
    refine ite_dec (fun h => ?_) (fun h => ?_)
    · have h' : (bitsN c i).length = s := by have : ((bitsN c i).length : Int) = (s : Int) := h; omega
      walk_at "rd"
      refine ⟨r_tyL e24, ?_⟩
      walk_at "rd"
      refine r_append e24 (by rw [List.length_map, sizeLine_eq]; omega) fun H5 o5 e5 => ?_
      have k5 := o5.keep e24
      walk_at "rd"
      refine ⟨_, _, rfl, (s2.trans s34).off hf o5, ts ++ [t], by rw [e5, List.map_append]; rfl, ?_⟩
      rw [bitsTo_succ, if_pos h']
      exact pairedSnoc (Paired.mapP p2 fun _ _ q => k5 _ _ (s34 _ _ q)) (k5 _ _ e4')
    · have h' : ¬ (bitsN c i).length = s := fun z => h (by show ((bitsN c i).length : Int) = _; omega)
      walk_at "rd"
      refine ⟨_, _, rfl, s2.trans s34, ts, e24, ?_⟩
      rw [bitsTo_succ, if_neg h', List.append_nil]
      exact Paired.mapP p2 fun _ _ q => s34 _ _ q
  · rintro σ H2 ⟨u3, u4, rfl, s2, D⟩
    walk_at "rd"
    exact q f H2 hf s2 (deals_rows D)
noncomputable def sp_is_code (K : PySem.W.Frag) : Sp := fun vs H Q _ => ∃ (c k : Nat) (z p : Addr) (ss : List Nat) (a : Nat) (L : List (List (List Int))), vs = [.int (c : Int), .ref z, .int (a : Int), .ref p] ∧ H z = some (.lst (natV ss)) ∧ Sz c k ss a ∧ WordsI H p L ∧ Fine L ∧
  ∀ (b : Bool) H', Same H H' → (b = true ↔ L.flatten.Perm ((holdN c k).map toI)) → Q (.bl b) H'
noncomputable def t_is_code (K : PySem.W.Frag) : TS := (tSeq (tIfS (tOr (tNot (tB (tCB (rIsi K) (tCons (tVar 3) (tCons (tC (.ty "list")) tNil))))) (tNot (tB (tCB (cAll K) (tCons (tComp (iList K (tVar 3)) (fun _ _ _ _ => (gName 0)) (fun _ _ _ _ => tAlways) (fun _ _ _ _ => (tCall (sp_is_list_of_tuples K) [] E0 (tCons (tVar 0) tNil))) [none]) tNil))))) (tRet (tC (.bl false))) tNext)
  (tSeq (tAsg (mLst tNil) (gName 4))
  (tSeq (tFor (iList K (tVar 3)) (gName 5) (tDrop (tBM K "list" rExtend (tVar 4) (tCons (tVar 5) tNil))))
  (tRet (tOp rEqR (tCB (cSortE K) (tCons (tVar 4) tNil)) (tCall (sp_holdings_of K) [] E0 (tCons (tVar 0) (tCons (tVar 1) (tCons (tVar 2) tNil)))))))))
theorem len_is_code {K : PySem.W.Frag} {vs : List V} {H : Hp} {Q : VK} {E : XK} (h : sp_is_code K vs H Q E) : vs.length = 4 := by
  obtain ⟨c, k, z, p, ss, a, L, rfl, ez, sz, W, fn, q⟩ := h
  rfl
theorem rd_is_code {K : PySem.W.Frag} {vs : List V} {H : Hp} {Q : VK} {E : XK} (h : sp_is_code K vs H Q E) : t_is_code K { nx := fun _ H' => Q .non H', rt := Q } (start ["cards", "sizes", "hand", "words", "said", "word"] vs) H := by
  obtain ⟨c, k, z, p, ss, a, L, rfl, ez, sz, W, fn, q⟩ := h
  show t_is_code K _ [some _, some _, some _, some _, none, none] _
  unfold t_is_code
  obtain ⟨ls, ep, pl⟩ := id W
  have hll := pairedLen5 pl
  have c12 := sz.c12
  have hL := fn.len
  have hfl := fn.rows
  have hff := fn.flat
  walk_at "rd"
  refine r_isi (.lst ep) (kit_lst_lst K) ?_
  walk_at "rd"
  refine lc_list (ls.map V.ref) (SqL.of ep) (by rw [List.length_map]; omega) (fun j acc _ => ∃ bs : List Bool, acc = bs.map V.bl ∧ bs.all id = true) (fun _ _ => ⟨[], rfl, rfl⟩) ?_ ?_
  · rintro p2 hp2 C s' H' fp i x acc H2 hx ⟨s2, e2, l2, bs, rfl, hb⟩
    obtain ⟨r, hr, rfl⟩ := ref_of5 hx
    obtain ⟨l, hli, er⟩ := pairedAt pl hr
    have hl2 := hfl l (List.mem_of_getElem? hli)
    walk_at "rd"
    refine ⟨r, l, rfl, er.sm s2, by omega, fun w hw => Nat.le_trans (hl2.2 w hw) (by decide), fun H3 s3 => ?_⟩
    walk_at "rd"
    exact CInv.put hp2 (fun _ _ _ _ r _ => r) (s2.trans s3) (s3 _ _ e2) l2 ⟨bs ++ [true], by rw [List.map_append]; rfl, by rw [List.all_append, hb]; rfl⟩
  rintro p2 acc H2 hp2 s2 e2 ⟨bs, rfl, hb⟩
  walk_at "rd"
  refine ⟨p2, bs, rfl, SqL.of e2, ?_⟩
  rw [hb]
  walk_at "rd"
  refine ⟨by simp [sizeLine_eq], fun f H3 hf s3 e3 => ?_⟩
  have s03 := s2.trans s3
  walk_at "rd"
  refine lp_list (ls.map V.ref) (SqL.of (s03 _ _ ep)) (fun i σ H4 => ∃ (u5 : Option V), σ = [some (.int (c : Int)), some (.ref z), some (.int (a : Int)), some (.ref p), some (.ref f), u5] ∧ Same H H4 ∧ RowsI H4 f (L.take i).flatten) ⟨_, rfl, s03, [], e3, .nil⟩ (fun i σ H4 _ ⟨_, _, s4, _⟩ => SqL.of (s4 _ _ ep)) ?_ ?_
  · rintro i x σ H4 hx ⟨u5, rfl, s4, ts, e4, p4⟩
    obtain ⟨r, hr, rfl⟩ := ref_of5 hx
    obtain ⟨l, hli, er⟩ := pairedAt pl hr
    obtain ⟨rs, e5, p5⟩ := er.sm s4
    have hl2 := hfl l (List.mem_of_getElem? hli)
    have h5 := pairedLen5 p5
    have h4 := pairedLen5 p4
    have h6 : (L.take i).flatten.length ≤ 42000 := by
      refine Nat.le_trans ?_ hff
      rw [← List.take_append_drop i L, List.flatten_append, List.length_append]
      simp
    walk_at "rd"
    refine ⟨r_tyL e4, ?_⟩
    walk_at "rd"
    refine r_extend e4 e5 (by rw [List.length_map, List.length_map, sizeLine_eq]; omega) fun H5 o5 e6 => ?_
    have k5 := o5.keep e4
    walk_at "rd"
    refine ⟨_, rfl, s4.off (s2.free hf) o5, ts ++ rs, by rw [e6, List.map_append], ?_⟩
    rw [take_snoc5 hli, List.flatten_append, List.flatten_singleton]
    exact pairedApp (Paired.mapP p4 fun _ _ x => k5 _ _ x) (Paired.mapP p5 fun _ _ x => k5 _ _ x)
  · rintro σ H4 ⟨u5, rfl, s4, D⟩
    rw [List.length_map, hll, List.take_length] at D
    obtain ⟨rs, er, tr⟩ := D
    walk_at "rd"
    refine r_sortE (SqL.of er) tr (by omega) fun p6 H6 rs' ws' hp s6 e6 t6 pm6 pw6 => ?_
    walk_at "rd"
    refine ⟨c, k, z, ss, a, rfl, (s4.trans s6) _ _ ez, sz, fun h H7 hh s7 D7 => ?_⟩
    walk_at "rd"
    refine r_eqR (RowsI.sm ⟨rs', e6, t6⟩ s7) (deals_rows D7) ?_
    exact q _ H7 ((s4.trans s6).trans s7) (by rw [decide_eq_true_iff]; exact sorted_rows pm6 pw6 (holdI_sorted sz.kc))

end L2

end

section
-- KcXgR
set_option Elab.async false
set_option linter.all false
set_option maxRecDepth 100000
set_option maxHeartbeats 4000000
namespace L2
open PySem PyProof.Rows
/-! ### d.get(k) of a dict with plain keys -/
/-! ### sum of a tuple -/
noncomputable def cSumT (K : PySem.W.Frag) : List V → Hp → VK → Prop := fun xs H Q => ∃ (p : Addr) (ns : List Int), xs = [.ref p] ∧ SqT K H p (ns.map V.int) ∧ Q (.int ns.sum) H
theorem r_sumT {K : PySem.W.Frag} {H : Hp} {Q : VK} {p : Addr} {ns : List Int} (e : SqT K H p (ns.map V.int)) (h : Q (.int ns.sum) H) : cSumT K [.ref p] H Q := ⟨p, ns, rfl, e, h⟩
end L2

end

section
-- KcK53b
set_option Elab.async false
set_option linter.all false
set_option maxRecDepth 100000
set_option maxHeartbeats 4000000
namespace L2
open PySem PyProof.Rows

/-! ### the law's lists -/
noncomputable def sp__law_cell_l (K : PySem.W.Frag) : Sp := fun vs H Q _ => ∃ (a : Addr) (ns : List Int) (k : Int), vs = [.ref a, .int k] ∧ ScriptOk K H a ns ∧ 0 ≤ k ∧ k ≤ 1000 ∧ ∀ z : Int, Q (.int z) H
theorem len__law_cell_l {K : PySem.W.Frag} {vs : List V} {H : Hp} {Q : VK} {E : XK} (h : sp__law_cell_l K vs H Q E) : vs.length = 2 := by
  obtain ⟨a, ns, k, rfl, h⟩ := h
  rfl
noncomputable def t__law_cell_l (K : PySem.W.Frag) : TS := (tSeq (tIfS (tTest (tOp (rI0 fun i j => .bl (decide (i < j))) (tVar 1) (tCB (cLen K) (tCons (tVar 0) tNil)))) (tRet (tOp (rIxL K) (tVar 0) (tVar 1))) tNext)
  (tSeq (tAsg (tOp (rI0 fun i j => .int (i + j)) (tOp (rI IntMulOk fun i j => .int (i * j)) (tVar 1) (tC (.int 7919))) (tC (.int 23))) (gName 2))
  (tSeq (tIfS (tTest (tOp (rI0 fun i j => .bl (decide (j < i))) (tCB (cLen K) (tCons (tVar 0) tNil)) (tC (.int 0)))) (tAsg (tOp (rI0 fun i j => .int (i + j)) (tOp (rI IntMulOk fun i j => .int (i * j)) (tOp (rI (fun _ j => 0 < j) fun i j => .int (i % j)) (tOp (rIxL K) (tVar 0) (tOp (rI (fun _ j => 0 < j) fun i j => .int (i % j)) (tOp (rI IntMulOk fun i j => .int (i * j)) (tVar 1) (tC (.int 5))) (tCB (cLen K) (tCons (tVar 0) tNil)))) (tC (.int 2147483647))) (tC (.int 48271))) (tOp (rI IntMulOk fun i j => .int (i * j)) (tVar 1) (tC (.int 7919)))) (gName 2)) tNext)
  (tSeq (tAsg (tOp (rI (fun _ j => 0 < j) fun i j => .int (i % j)) (tOp (rI IntMulOk fun i j => .int (i * j)) (tVar 2) (tVar 2)) (tC (.int 2147483629))) (gName 2))
  (tRet (tOp (rI (fun _ j => 0 < j) fun i j => .int (i % j)) (tOp (rI IntMulOk fun i j => .int (i * j)) (tVar 2) (tOp (rI0 fun i j => .int (i + j)) (tVar 2) (tC (.int 48271)))) (tC (.int 2147483647))))))))
noncomputable abbrev N__law_cell_l : List Str := ["_law_script", "_law_k", "_law_number"]
theorem rd__law_cell_l {K : PySem.W.Frag} {vs : List V} {H : Hp} {Q : VK} {E : XK} (h : sp__law_cell_l K vs H Q E) : t__law_cell_l K { nx := fun _ H' => Q .non H', rt := Q } (start N__law_cell_l vs) H := by
  obtain ⟨a, ns, k, rfl, ⟨hS, h63, hbits⟩, h0, h1, q⟩ := h
  show t__law_cell_l K _ [some _, some _, none] _
  unfold t__law_cell_l
  have hl : (ns.map V.int).length = ns.length := List.length_map _
  walk_at "rd"
  rw [hl]
  refine ite_dec (fun c => ?_) (fun c => ?_)
  · walk_at "rd"
    refine r_ixL hS (atI_ints h0 c) ?_
    exact q _
  · refine r_next ?_
    dsimp only
    refine r_seq ?_
    walk_at "rs"
    refine r_seq_n fun NX hNX => ?_
    have last : ∀ n0 : Int, 0 ≤ n0 → n0 ≤ 1000000000000000 → NX [some (.ref a), some (.int k), some (.int n0)] H := by
      intro n0 z0 z1
      refine hNX _ _ ?_
      walk_at "rd"
      exact q _
    walk_at "rs"
    rw [hl]
    refine ite_dec (fun d => ?_) (fun d => ?_)
    · have m1 : 0 ≤ k * 5 % (ns.length : Int) := Int.emod_nonneg _ (by omega)
      have m2 : k * 5 % (ns.length : Int) < (ns.length : Int) := Int.emod_lt_of_pos _ d
      walk_at "rs"
      rw [hl]
      refine r_ixL hS (atI_ints m1 m2) ?_
      walk_at "rs"
      refine last _ ?_ ?_ <;> omega
    · walk_at "rs"
      refine last _ ?_ ?_ <;> omega
noncomputable def sp__law_mixed_l (_ : PySem.W.Frag) : Sp := fun vs H Q _ => ∃ (b k : Int), vs = [.int b, .int k] ∧ 0 ≤ k ∧ k ≤ 100000 ∧ ∀ z : Int, 0 ≤ z → z ≤ 1000003 → Q (.int z) H
theorem len__law_mixed_l {K : PySem.W.Frag} {vs : List V} {H : Hp} {Q : VK} {E : XK} (h : sp__law_mixed_l K vs H Q E) : vs.length = 2 := by
  obtain ⟨b, k, rfl, h⟩ := h
  rfl
noncomputable def t__law_mixed_l (K : PySem.W.Frag) : TS := (tSeq (tAsg (tOp (rI (fun _ j => 0 < j) fun i j => .int (i % j)) (tOp (rI0 fun i j => .int (i + j)) (tOp (rI0 fun i j => .int (i + j)) (tOp (rI IntMulOk fun i j => .int (i * j)) (tOp (rI (fun _ j => 0 < j) fun i j => .int (i % j)) (tVar 0) (tC (.int 2147483647))) (tC (.int 48271))) (tOp (rI IntMulOk fun i j => .int (i * j)) (tVar 1) (tC (.int 69621)))) (tC (.int 3))) (tC (.int 2147483629))) (gName 2))
  (tSeq (tAsg (tOp (rI (fun _ j => 0 < j) fun i j => .int (i % j)) (tOp (rI IntMulOk fun i j => .int (i * j)) (tVar 2) (tOp (rI0 fun i j => .int (i + j)) (tVar 2) (tC (.int 40503)))) (tC (.int 2147483647))) (gName 2))
  (tRet (tOp (rI (fun _ j => 0 < j) fun i j => .int (i % j)) (tOp (rI IntMulOk fun i j => .int (i * j)) (tVar 2) (tOp (rI0 fun i j => .int (i + j)) (tVar 2) (tC (.int 7)))) (tC (.int 1000003))))))
noncomputable abbrev N__law_mixed_l : List Str := ["_law_cell_here", "_law_k", "_law_number"]
theorem rd__law_mixed_l {K : PySem.W.Frag} {vs : List V} {H : Hp} {Q : VK} {E : XK} (h : sp__law_mixed_l K vs H Q E) : t__law_mixed_l K { nx := fun _ H' => Q .non H', rt := Q } (start N__law_mixed_l vs) H := by
  obtain ⟨b, k, rfl, k0, k1, q⟩ := h
  show t__law_mixed_l K _ [some _, some _, none] _
  unfold t__law_mixed_l
  walk_at "rd"
  exact q _ (by omega) (by omega)
theorem refs_get5 {rs : List Addr} {i : Nat} {a : Addr} (h : rs[i]? = some a) : atI (rs.map V.ref) (i : Int) = some (.ref a) := atI_nat (by rw [List.getElem?_map, h]; rfl)
theorem paired_of5 {α β : Type} {F : α → β → Prop} : ∀ {l : List α} {m : List β}, l.length = m.length → (∀ (i : Nat) (x : α) (y : β), l[i]? = some x → m[i]? = some y → F x y) → Paired F l m
  | [], [], _, _ => .nil
  | x :: l, y :: m, hl, h => .cons (h 0 x y rfl rfl) (paired_of5 (by simpa using hl) fun i a b ha hb => h (i + 1) a b ha hb)
  | [], _ :: _, hl, _ => by simp at hl
  | _ :: _, [], hl, _ => by simp at hl
theorem pairedTake {α β : Type} {R : α → β → Prop} : ∀ (k : Nat) {xs : List α} {ys : List β}, Paired R xs ys → Paired R (xs.take k) (ys.take k)
  | 0, _, _, _ => .nil
  | _ + 1, _, _, .nil => .nil
  | k + 1, _, _, .cons a t => .cons a (pairedTake k t)
theorem pairedDrop {α β : Type} {R : α → β → Prop} : ∀ (k : Nat) {xs : List α} {ys : List β}, Paired R xs ys → Paired R (xs.drop k) (ys.drop k)
  | 0, _, _, h => h
  | _ + 1, _, _, .nil => .nil
  | k + 1, _, _, .cons _ t => pairedDrop k t
theorem rows_set {H3 H5 : Hp} {as : List Addr} {L : List (List (List Int))} {b : Addr} {cc : Nat} {l' : List (List Int)} {xs : List V} (nd : as.Nodup) (pl : Paired (RowsI H3) as L) (o : Off b H3 H5) (e : H3 b = some (.lst xs)) (hb : as[cc]? = some b) (r : RowsI H5 b l') : Paired (RowsI H5) as (L.set cc l') := by
  have hl := pairedLen5 pl
  refine paired_of5 (by rw [List.length_set]; exact hl) fun i x y hx hy => ?_
  by_cases z : cc = i
  · subst z
    rw [hb] at hx
    cases hx
    rw [List.getElem?_set_self (by rw [← hl]; exact (List.getElem?_eq_some_iff.mp hb).1)] at hy
    cases hy
    exact r
  · rw [List.getElem?_set_ne z] at hy
    obtain ⟨y', hy', d⟩ := pairedAt pl hx
    rw [hy] at hy'
    cases hy'
    exact d.off o e fun h => z (by
      subst h
      exact (List.getElem?_inj (List.getElem?_eq_some_iff.mp hb).1 nd).mp (hb.trans hx.symm))
theorem flat_set : ∀ {L : List (List (List Int))} {cc : Nat} {l l' : List (List Int)} {w : List Int}, L[cc]? = some l → l'.Perm (w :: l) → (L.set cc l').flatten.Perm (w :: L.flatten)
  | [], _, _, _, _, h, _ => by cases h
  | x :: L, 0, l, l', w, h, hp => by
    cases h
    show (l' ++ L.flatten).Perm (w :: (x ++ L.flatten))
    exact hp.append_right _
  | x :: L, cc + 1, l, l', w, h, hp => by
    have ih := flat_set (L := L) (cc := cc) (l := l) h hp
    show (x ++ (L.set cc l').flatten).Perm (w :: (x ++ L.flatten))
    exact (ih.append_left x).trans List.perm_middle
noncomputable def sp__law_lists (_ : PySem.W.Frag) : Sp := fun vs H Q _ => ∃ (z : Int) (l : Addr) (hs : List (List Int)), vs = [.int z, .ref l] ∧ RowsI H l hs ∧ 1 ≤ hs.length ∧ hs.length ≤ 126 ∧
  ∀ f (L : List (List (List Int))) H', H f = none → Same H H' → WordsI H' f L → L.flatten.Perm hs → L.length ≤ 126 → Q (.ref f) H'
noncomputable def t__law_lists (K : PySem.W.Frag) : TS := (tSeq (tAsg (tOp (rI0 fun i j => .int (i + j)) (tC (.int 1)) (tOp (rI (fun _ j => 0 < j) fun i j => .int (i % j)) (tOp (rI CDiv fun i j => .int (i / j)) (tVar 0) (tC (.int 3))) (tC (.int 9)))) (gName 2))
  (tSeq (tIfS (tTest (tOp rEq (tOp (rI (fun _ j => 0 < j) fun i j => .int (i % j)) (tVar 0) (tC (.int 3))) (tC (.int 1)))) (tAsg (tCB (cLen K) (tCons (tVar 1) tNil)) (gName 2)) tNext)
  (tSeq (tAsg (tComp (iRng1 (tCons (tVar 2) tNil)) (fun _ _ _ _ => (gName 0)) (fun _ _ _ _ => tAlways) (fun _ _ _ _ => (mLst tNil)) [none]) (gName 3))
  (tSeq (tFor (iRng1 (tCons (tCB (cLen K) (tCons (tVar 1) tNil)) tNil)) (gName 4) (tSeq (tAsg (tOp (rI (fun _ j => 0 < j) fun i j => .int (i % j)) (tOp (rIxL K) (mLst (tCons (tCB (cSumT K) (tCons (tOp (rIxL K) (tVar 1) (tVar 4)) tNil)) (tCons (tVar 4) (tCons (tCall (sp__law_mixed_l K) [] E0 (tCons (tVar 0) (tCons (tVar 4) tNil))) tNil)))) (tOp (rI (fun _ j => 0 < j) fun i j => .int (i % j)) (tVar 0) (tC (.int 3)))) (tVar 2)) (gName 5))
  (tDrop (tBM K "list" rInsert (tOp (rIxL K) (tVar 3) (tVar 5)) (tCons (tOp (rI (fun _ j => 0 < j) fun i j => .int (i % j)) (tCall (sp__law_mixed_l K) [] E0 (tCons (tVar 0) (tCons (tOp (rI0 fun i j => .int (i + j)) (tVar 4) (tC (.int 200))) tNil))) (tOp (rI0 fun i j => .int (i + j)) (tCB (cLen K) (tCons (tOp (rIxL K) (tVar 3) (tVar 5)) tNil)) (tC (.int 1)))) (tCons (tOp (rIxL K) (tVar 1) (tVar 4)) tNil))))))
  (tRet (tVar 3))))))
theorem len__law_lists {K : PySem.W.Frag} {vs : List V} {H : Hp} {Q : VK} {E : XK} (h : sp__law_lists K vs H Q E) : vs.length = 2 := by
  obtain ⟨z, l, hs, rfl, HA, h1, hhl, q⟩ := h
  rfl
theorem rd__law_lists {K : PySem.W.Frag} {vs : List V} {H : Hp} {Q : VK} {E : XK} (h : sp__law_lists K vs H Q E) : t__law_lists K { nx := fun _ H' => Q .non H', rt := Q } (start ["_law_cell_here", "_law_holdings_here", "_law_many", "_law_made", "_law_k", "_law_number"] vs) H := by
  obtain ⟨z, l, hs, rfl, HA, h1, hhl, q⟩ := h
  show t__law_lists K _ [some _, some _, none, none, none, none] _
  unfold t__law_lists
  obtain ⟨ts, el, pt⟩ := id HA
  have htl := pairedLen5 pt
  have z9 : 0 ≤ z / 3 % 9 ∧ z / 3 % 9 < 9 := ⟨Int.emod_nonneg _ (by decide), Int.emod_lt_of_pos _ (by decide)⟩
  walk_at "rs"
  refine r_seq_n fun N1 hN1 => ?_
  walk_at "rd"
  refine hN1 _ _ ?_
  clear hN1
  walk_at "rs"
  refine r_seq_n fun NX hNX => ?_
  suffices main : ∀ m : Nat, 1 ≤ m → m ≤ 126 → NX [some (.int z), some (.ref l), some (.int (m : Int)), none, none, none] H by
    walk_at "rd"
    refine ite_dec (fun _ => ?_) (fun _ => ?_)
    · walk_at "rd"
      rw [List.length_map, htl]
      exact main _ h1 hhl
    · walk_at "rd"
      have := main (1 + z / 3 % 9).toNat (by omega) (by omega)
      rwa [show (((1 + z / 3 % 9).toNat : Nat) : Int) = 1 + z / 3 % 9 by omega] at this
  intro m hm1 hm9
  refine hNX _ _ ?_
  clear hNX
  walk_at "rd"
  refine lc_rangeW m (by omega) (by omega) (by omega) (fun p i acc H2 => ∃ as : List Addr, acc = as.map V.ref ∧ as.length = i ∧ as.Nodup ∧ ∀ b ∈ as, b ≠ p ∧ H b = none ∧ H2 b = some (.lst [])) (fun p H' s => ⟨[], rfl, rfl, .nil, fun b hb => by (cases hb)⟩) ?_ ?_
  · rintro p hp C s' H' fp i acc H2 hi ⟨s2, e2, l2, as, rfl, la, nda, h2⟩
    walk_at "rd"
    refine ⟨by simp [sizeLine_eq], fun b H3 hb s3 e3 => ?_⟩
    have nb : b ≠ p := (ne_of_none e2 hb).symm
    refine ⟨s3 _ _ e2, (s2.trans s3).upd hp _, upd_same, by rw [List.length_append]; exact Nat.add_le_add_right l2 1, as ++ [b], by rw [List.map_append]; rfl, by rw [List.length_append, la]; rfl, ?_, fun cc hcc => ?_⟩
    · refine List.nodup_append.mpr ⟨nda, by simp, fun x hx y hy e => ?_⟩
      rw [List.mem_singleton.mp hy] at e
      subst e
      rw [(h2 x hx).2.2] at hb
      cases hb
    · rcases List.mem_append.mp hcc with hcc | hcc
      · exact ⟨(h2 cc hcc).1, (h2 cc hcc).2.1, by rw [upd_ne (h2 cc hcc).1]; exact s3 _ _ (h2 cc hcc).2.2⟩
      · rw [List.mem_singleton.mp hcc]
        exact ⟨nb, s2.free hb, by rw [upd_ne nb]; exact e3⟩
  rintro p acc H2 hp s2 e2 ⟨as, rfl, la, nda, h2⟩
  have el2 := s2 _ _ el
  have hnew : ∀ b ∈ as, b ≠ p ∧ H b = none := fun b hb => ⟨(h2 b hb).1, (h2 b hb).2.1⟩
  walk_at "rd"
  rw [List.length_map, htl]
  have hfl0 : (List.replicate m ([] : List (List Int))).flatten = [] := List.flatten_eq_nil_iff.mpr fun x hx => List.eq_of_mem_replicate hx
  refine lp_range hs.length (by omega) (by omega) (by omega) (fun i σ H3 => ∃ (u4 u5 : Option V) (L : List (List (List Int))), σ = [some (.int z), some (.ref l), some (.int (m : Int)), some (.ref p), u4, u5] ∧ Same H H3 ∧ H3 p = some (.lst (as.map V.ref)) ∧ Paired (RowsI H3) as L ∧ L.flatten.Perm (hs.take i)) ⟨_, _, List.replicate m [], rfl, s2, e2, paired_of5 (by rw [List.length_replicate]; exact la) fun i x y hx hy => ?_, by rw [hfl0, List.take_zero]⟩ ?_ ?_
  · rw [List.eq_of_mem_replicate (List.mem_of_getElem? hy)]
    exact ⟨[], (h2 x (List.mem_of_getElem? hx)).2.2, .nil⟩
  · rintro i σ H3 hi ⟨u4, u5, L, rfl, s3, e3, pL, pm⟩
    have el3 := s3 _ _ el
    obtain ⟨t, ht⟩ : ∃ t, ts[i]? = some t := ⟨ts[i]'(by omega), List.getElem?_eq_getElem (by omega)⟩
    obtain ⟨x, hx', ex⟩ := pairedAt pt ht
    walk_at "rd"
    refine r_ixL (SqL.of el3) (refs_get5 ht) ?_
    walk_at "rd"
    refine r_sumT (SqT.of (s3 _ _ ex)) ?_
    walk_at "rd"
    refine ⟨z, (i : Int), rfl, by omega, by omega, fun y y0 y1 => ?_⟩
    walk_at "rd"
    refine ⟨by simp [sizeLine_eq], fun l4 H4 hl4 s4 e4 => ?_⟩
    walk_at "rd"
    obtain ⟨v, hv, hvm⟩ := at3 (V.int x.sum) (V.int (i : Int)) (V.int y) z
    obtain ⟨nn, rfl⟩ : ∃ nn : Int, v = .int nn := by
      rcases hvm with rfl | rfl | rfl <;> exact ⟨_, rfl⟩
    refine r_ixL (SqL.of e4) hv ?_
    walk_at "rd"
    obtain ⟨cc, hcc, hccm⟩ : ∃ cc : Nat, nn % (m : Int) = (cc : Int) ∧ cc < m := by
      have a1 := Int.emod_nonneg nn (b := (m : Int)) (by omega)
      have a2 := Int.emod_lt_of_pos nn (b := (m : Int)) (by omega)
      exact ⟨(nn % (m : Int)).toNat, by omega, by omega⟩
    rw [hcc]
    obtain ⟨b, hb⟩ : ∃ b, as[cc]? = some b := ⟨as[cc]'(by omega), List.getElem?_eq_getElem (by omega)⟩
    obtain ⟨b1, b2⟩ := hnew b (List.mem_of_getElem? hb)
    obtain ⟨lw, hlw, rs, eb, tb⟩ := pairedAt pL hb
    have eb4 := s4 _ _ eb
    have hlen : lw.length ≤ 126 := by
      have h3 := (List.sublist_flatten_of_mem (List.mem_of_getElem? hlw)).length_le
      rw [pm.length_eq, List.length_take] at h3
      omega
    have hrl := pairedLen5 tb
    refine r_ixL (SqL.of (s4 _ _ e3)) (refs_get5 hb) ?_
    refine ⟨r_tyL eb4, ?_⟩
    walk_at "rd"
    refine ⟨z, (i : Int) + 200, rfl, by omega, by omega, fun y' y0' y1' => ?_⟩
    walk_at "rd"
    refine r_ixL (SqL.of (s4 _ _ e3)) (refs_get5 hb) ?_
    walk_at "rd"
    rw [List.length_map]
    obtain ⟨kk, hkk, hkl⟩ : ∃ kk : Nat, y' % ((rs.length : Int) + 1) = (kk : Int) ∧ kk ≤ rs.length := by
      have a1 := Int.emod_nonneg y' (b := (rs.length : Int) + 1) (by omega)
      have a2 := Int.emod_lt_of_pos y' (b := (rs.length : Int) + 1) (by omega)
      exact ⟨(y' % ((rs.length : Int) + 1)).toNat, by omega, by omega⟩
    rw [hkk]
    refine r_ixL (SqL.of (s4 _ _ el3)) (refs_get5 ht) ?_
    walk_at "rd"
    refine r_insert eb4 (by rw [List.length_map, sizeLine_eq]; omega) (by rw [List.length_map]; exact hkl) fun H5 o5 e5 => ?_
    walk_at "rd"
    refine ⟨_, _, L.set cc (lw.take kk ++ x :: lw.drop kk), rfl, (s3.trans s4).off b2 o5, by rw [o5 p b1.symm]; exact s4 _ _ e3, rows_set nda (Paired.mapP pL fun _ _ d => d.sm s4) o5 eb4 hb ⟨rs.take kk ++ t :: rs.drop kk, by rw [e5, List.map_append, List.map_cons, List.map_take, List.map_drop], ?_⟩, ?_⟩
    · have tb5 : TupsAt H5 rs lw := (tb.same s4).off o5 eb4
      exact pairedApp (pairedTake kk tb5) (.cons (o5.keep eb4 _ _ (s4 _ _ (s3 _ _ ex))) (pairedDrop kk tb5))
    · rw [take_snoc5 hx']
      refine (flat_set hlw (w := x) ?_).trans ((pm.cons x).trans (List.perm_append_singleton x _).symm)
      have := List.perm_middle (a := x) (l₁ := lw.take kk) (l₂ := lw.drop kk)
      rwa [List.take_append_drop] at this
  · rintro σ H3 ⟨u4, u5, L, rfl, s3, e3, pL, pm⟩
    rw [List.take_length] at pm
    walk_at "rd"
    have := pairedLen5 pL
    exact q p L H3 hp s3 ⟨as, e3, pL⟩ pm (by omega)

end L2

end

section
-- KcK53c
set_option Elab.async false
set_option linter.all false
set_option maxRecDepth 100000
set_option maxHeartbeats 4000000
namespace L2
open PySem PyProof.Rows

/-! ### the lists put otherwise -/
theorem cut_dl (xs : List V) : cutV xs none (some (-1)) = xs.dropLast := by
  have e2 : HT.sIx xs.length xs.length (some (-1)) = xs.length - 1 := by
    unfold HT.sIx
    simp
    omega
  unfold cutV
  rw [e2, show HT.sIx xs.length 0 none = 0 from rfl, List.drop_zero, Nat.sub_zero, List.dropLast_eq_take]
theorem cut_d1 (xs : List V) : cutV xs (some 1) none = xs.drop 1 := by
  have e2 : HT.sIx xs.length 0 (some 1) = min 1 xs.length := rfl
  unfold cutV
  rw [e2, show HT.sIx xs.length xs.length none = xs.length from rfl]
  cases xs with
  | nil => rfl
  | cons x xs =>
    rw [show min 1 (x :: xs).length = 1 by simp, List.take_of_length_le (by rw [List.length_drop]; exact Nat.le_refl _)]
theorem r_popAt5 {l : Addr} {xs : List V} {k : Nat} {y : V} {H : Hp} {Q : VK} (e : H l = some (.lst xs)) (hk : xs[k]? = some y) (hl : xs.length ≤ 1000000) (h : ∀ H', Off l H H' → H' l = some (.lst (xs.eraseIdx k)) → Q y H') : rPopAt (.ref l) [.int (k : Int)] H Q := by
  have hlt : k < xs.length := (List.getElem?_eq_some_iff.mp hk).1
  refine ⟨l, xs, (k : Int), k, y, rfl, rfl, e, by omega, by omega, ?_, hk, h _ off_upd upd_same⟩
  unfold seqIndex?
  simp
  omega
theorem mem_take_of {α : Type} {l : List α} {n : Nat} {x : α} (h : x ∈ l.take n) : x ∈ l := (List.take_sublist n l).subset h
theorem rows_chg {H H6 : Hp} {q : Addr} {xs : List V} {ws' : List (List Int)} {ls : List Addr} {L : List (List (List Int))} (pl : Paired (RowsI H) ls L) (o : Off q H H6) (e : H q = some (.lst xs)) (r : RowsI H6 q ws') : ∃ L', Paired (RowsI H6) ls L' ∧ L'.length = L.length ∧ ∀ l ∈ L', l ∈ L ∨ l = ws' := by
  induction pl with
  | nil => exact ⟨[], .nil, rfl, fun _ z => (nomatch z)⟩
  | @cons a l as L d _ ih =>
    obtain ⟨L', p', hl, hm⟩ := ih
    by_cases z : a = q
    · subst z
      exact ⟨ws' :: L', .cons r p', by rw [List.length_cons, List.length_cons, hl], fun x hx => (List.mem_cons.mp hx).elim (fun e => .inr e) fun h => (hm x h).imp (List.mem_cons_of_mem _) id⟩
    · exact ⟨l :: L', .cons (d.off o e z) p', by rw [List.length_cons, List.length_cons, hl], fun x hx => (List.mem_cons.mp hx).elim (fun e => .inl (e ▸ List.mem_cons_self)) fun h => (hm x h).imp (List.mem_cons_of_mem _) id⟩
theorem pairedSet {α β : Type} {R : α → β → Prop} : ∀ {xs : List α} {ys : List β} (k : Nat) {x : α} {y : β}, Paired R xs ys → R x y → Paired R (xs.set k x) (ys.set k y)
  | _, _, _, _, _, .nil, _ => .nil
  | _, _, 0, _, _, .cons _ t, h => .cons h t
  | _, _, k + 1, _, _, .cons a t, h => .cons a (pairedSet k t h)
theorem pairedErase {α β : Type} {R : α → β → Prop} : ∀ {xs : List α} {ys : List β} (k : Nat), Paired R xs ys → Paired R (xs.eraseIdx k) (ys.eraseIdx k)
  | _, _, _, .nil => .nil
  | _, _, 0, .cons _ t => t
  | _, _, k + 1, .cons a t => .cons a (pairedErase k t)
theorem map_erase5 {α β : Type} (f : α → β) : ∀ (l : List α) (k : Nat), (l.map f).eraseIdx k = (l.eraseIdx k).map f
  | [], _ => rfl
  | _ :: _, 0 => rfl
  | a :: l, k + 1 => congrArg (f a :: ·) (map_erase5 f l k)
theorem eq_empty (xs : List V) : eqAns xs [] (fun _ => true) = decide (xs.length = 0) := by
  unfold eqAns
  rw [List.length_nil, Nat.min_zero, List.range_zero, List.all_nil, Bool.true_and]
  rfl
structure Small (L : List (List (List Int))) (c : Nat) : Prop where
  len : L.length ≤ 126
  rows : ∀ l ∈ L, l.length ≤ 126 ∧ ∀ w ∈ l, w.length ≤ c
  c9 : c ≤ 9
  some_ : ∃ (k : Nat) (l : List (List Int)), L[k]? = some l ∧ l ≠ []
noncomputable def Done (H : Hp) (m : Addr) (H' : Hp) : Prop := Same H H' ∧ ∃ L', WordsI H' m L' ∧ Fine L'
noncomputable def sp__law_otherwise (_ : PySem.W.Frag) : Sp := fun vs H Q _ => ∃ (p : Addr) (z : Int) (c : Nat) (L : List (List (List Int))), vs = [.ref p, .int z, .int (c : Int)] ∧ WordsI H p L ∧ Small L c ∧ ∀ f H', Done H f H' → Q (.ref f) H'
noncomputable def t__law_otherwise (K : PySem.W.Frag) : TS := (tSeq (tAsg (tComp (iList K (tVar 0)) (fun _ _ _ _ => (gName 0)) (fun _ _ _ _ => tAlways) (fun _ _ _ _ => (tCB (mCList K) (tCons (tVar 0) tNil))) [none]) (gName 3))
  (tSeq (tAsg (tComp (iRng1 (tCons (tCB (cLen K) (tCons (tVar 3) tNil)) tNil)) (fun _ _ _ _ => (gName 0)) (fun _ _ _ _ => (tTest (tOp (rEqS (SqL K) true) (tOp (rIxL K) (tVar 1) (tVar 0)) (mLst tNil)))) (fun _ _ _ _ => (tVar 0)) [none, some 3]) (gName 4))
  (tSeq (tAsg (tOp (rIxL K) (tVar 4) (tOp (rI (fun _ j => 0 < j) fun i j => .int (i % j)) (tOp (rI CDiv fun i j => .int (i / j)) (tVar 1) (tC (.int 12))) (tCB (cLen K) (tCons (tVar 4) tNil)))) (gName 5))
  (tSeq (tAsg (tOp (rI (fun _ j => 0 < j) fun i j => .int (i % j)) (tOp (rI CDiv fun i j => .int (i / j)) (tVar 1) (tC (.int 144))) (tCB (cLen K) (tCons (tOp (rIxL K) (tVar 3) (tVar 5)) tNil))) (gName 6))
  (tSeq (tAsg (tOp (rIxL K) (tOp (rIxL K) (tVar 3) (tVar 5)) (tVar 6)) (gName 7))
  (tSeq (tAsg (tOp (rI (fun _ j => 0 < j) fun i j => .int (i % j)) (tVar 1) (tC (.int 12))) (gName 8))
  (tSeq (tIfS (tTest (tOp rEq (tVar 8) (tC (.int 0)))) (tDrop (tBM K "list" rInsert (tVar 3) (tCons (tOp (rI (fun _ j => 0 < j) fun i j => .int (i % j)) (tOp (rI CDiv fun i j => .int (i / j)) (tVar 1) (tC (.int 12))) (tOp (rI0 fun i j => .int (i + j)) (tCB (cLen K) (tCons (tVar 3) tNil)) (tC (.int 1)))) (tCons (mLst tNil) tNil)))) tNext)
  (tSeq (tIfS (tTest (tOp rEq (tVar 8) (tC (.int 1)))) (tSeq (tAsg (tBM0 K "list" rPop (tVar 3)) (gName 9))
  (tAsg (tOp mCat (tSl (mSlL K) (tVar 3) tNoPart (tPart (tUn (rU fun i => .int (-i)) (tC (.int 1))))) (mLst (tCons (tOp mCat (tOp (rIxL K) (tOp mCat (tVar 3) (mLst (tCons (mLst tNil) tNil))) (tOp (rI0 fun i j => .int (i - j)) (tCB (cLen K) (tCons (tVar 3) tNil)) (tC (.int 1)))) (tVar 9)) tNil))) (gName 3))) tNext)
  (tSeq (tIfS (tTest (tOp rEq (tVar 8) (tC (.int 2)))) (tDrop (tBM K "list" rPopAt (tOp (rIxL K) (tVar 3) (tVar 5)) (tCons (tVar 6) tNil))) tNext)
  (tSeq (tIfS (tTest (tOp rEq (tVar 8) (tC (.int 3)))) (tDrop (tBM K "list" rAppend (tOp (rIxL K) (tVar 3) (tOp (rI (fun _ j => 0 < j) fun i j => .int (i % j)) (tOp (rI CDiv fun i j => .int (i / j)) (tVar 1) (tC (.int 1728))) (tCB (cLen K) (tCons (tVar 3) tNil)))) (tCons (tVar 7) tNil))) tNext)
  (tSeq (tIfS (tTest (tOp rEq (tVar 8) (tC (.int 4)))) (tAsg (mRevT (tVar 7) (tPart (tUn (rU fun i => .int (-i)) (tC (.int 1))))) (gSub (tOp (rIxL K) (tVar 3) (tVar 5)) (tVar 6) rSetL)) tNext)
  (tSeq (tIfS (tTest (tOp rEq (tVar 8) (tC (.int 5)))) (tAsg (tSl (mSlW K) (tVar 7) tNoPart (tPart (tUn (rU fun i => .int (-i)) (tC (.int 1))))) (gSub (tOp (rIxL K) (tVar 3) (tVar 5)) (tVar 6) rSetL)) tNext)
  (tSeq (tIfS (tTest (tOp rEq (tVar 8) (tC (.int 6)))) (tAsg (tOp (mCatT K) (tVar 7) (mTup (tCons (tVar 2) tNil))) (gSub (tOp (rIxL K) (tVar 3) (tVar 5)) (tVar 6) rSetL)) tNext)
  (tSeq (tIfS (tTest (tOp rEq (tVar 8) (tC (.int 7)))) (tAsg (tOp (mCatT K) (tSl (mSlW K) (tVar 7) tNoPart (tPart (tUn (rU fun i => .int (-i)) (tC (.int 1))))) (mTup (tCons (tOp (rI0 fun i j => .int (i + j)) (tVar 2) (tOp (rI (fun _ j => 0 < j) fun i j => .int (i % j)) (tOp (rI CDiv fun i j => .int (i / j)) (tVar 1) (tC (.int 12))) (tOp (rI CPow fun i j => .int (i ^ j.toNat)) (tC (.int 10)) (tC (.int 40))))) tNil))) (gSub (tOp (rIxL K) (tVar 3) (tVar 5)) (tVar 6) rSetL)) tNext)
  (tSeq (tIfS (tTest (tOp rEq (tVar 8) (tC (.int 8)))) (tAsg (tOp (mCatT K) (mTup (tCons (tOp (rI0 fun i j => .int (i - j)) (tUn (rU fun i => .int (-i)) (tC (.int 1))) (tOp (rI (fun _ j => 0 < j) fun i j => .int (i % j)) (tOp (rI CDiv fun i j => .int (i / j)) (tVar 1) (tC (.int 12))) (tC (.int 1000)))) tNil)) (tSl (mSlW K) (tVar 7) (tPart (tC (.int 1))) tNoPart)) (gSub (tOp (rIxL K) (tVar 3) (tVar 5)) (tVar 6) rSetL)) tNext)
  (tSeq (tIfS (tTest (tOp rEq (tVar 8) (tC (.int 9)))) (tAsg (tCB (mCTuple K) (tCons (tComp (iTup K (tVar 7)) (fun _ _ _ _ => (gName 0)) (fun _ _ _ _ => tAlways) (fun _ _ _ _ => (tOp (rI (fun _ j => 0 < j) fun i j => .int (i % j)) (tOp (rI0 fun i j => .int (i + j)) (tVar 0) (tC (.int 1))) (tVar 1))) [none, some 2]) tNil)) (gSub (tOp (rIxL K) (tVar 3) (tVar 5)) (tVar 6) rSetL)) tNext)
  (tSeq (tIfS (tTest (tOp rEq (tVar 8) (tC (.int 10)))) (tDrop (tBM K "list" rInsert (tOp (rIxL K) (tVar 3) (tVar 5)) (tCons (tVar 6) (tCons (tVar 7) tNil)))) tNext)
  (tSeq (tIfS (tTest (tOp rEq (tVar 8) (tC (.int 11)))) (tDrop (tBM K "list" rPopAt (tVar 3) (tCons (tVar 5) tNil))) tNext)
  (tRet (tVar 3))))))))))))))))))))
theorem len__law_otherwise {K : PySem.W.Frag} {vs : List V} {H : Hp} {Q : VK} {E : XK} (h : sp__law_otherwise K vs H Q E) : vs.length = 3 := by
  obtain ⟨p, z, c, L, rfl, W, sm, q⟩ := h
  rfl
theorem rd__law_otherwise {K : PySem.W.Frag} {vs : List V} {H : Hp} {Q : VK} {E : XK} (h : sp__law_otherwise K vs H Q E) : t__law_otherwise K { nx := fun _ H' => Q .non H', rt := Q } (start ["_law_lists_here", "_law_cell_here", "_law_cards", "_law_made", "_law_full", "_law_at", "_law_spot", "_law_held", "_law_way", "_law_last"] vs) H := by
  obtain ⟨p, z, c, L, rfl, W, sm, q⟩ := h
  show t__law_otherwise K _ [some _, some _, some _, none, none, none, none, none, none, none] _
  unfold t__law_otherwise
  obtain ⟨ls0, ep, pl0⟩ := id W
  have hl0 := pairedLen5 pl0
  have hL := sm.len
  have hLr := sm.rows
  have c9 := sm.c9
  walk_at "rd"
  refine lc_listW (ls0.map V.ref) (SqL.of ep) (by rw [List.length_map]; omega) (fun p j acc H2 => ∃ ls : List Addr, acc = ls.map V.ref ∧ Paired (RowsI H2) ls (L.take j) ∧ p ∉ ls ∧ ∀ q ∈ ls, H q = none) (fun _ _ _ => ⟨[], rfl, .nil, fun h => (nomatch h), fun _ h => (nomatch h)⟩) ?_ ?_
  · rintro p2 hp2 C s' H' fp j x acc H2 hx ⟨s2, e2, l2, ls, rfl, pl, np, nw⟩
    obtain ⟨q1, hq1, rfl⟩ := ref_of5 hx
    obtain ⟨l1, hl1, Dq⟩ := pairedAt pl0 hq1
    obtain ⟨rs, er, pr⟩ := Dq.sm s2
    walk_at "rd"
    refine m_list (SqL.of er) fun y H3 hy s3 e3 => ?_
    have yp : y ≠ p2 := fun z => by rw [z, e2] at hy; cases hy
    walk_at "rd"
    refine CInv.putW hp2 (s2.trans s3) (s3 _ _ e2) l2 fun H4 o4 => ⟨ls ++ [y], by rw [List.map_append]; rfl, ?_, ?_, ?_⟩
    · rw [take_snoc5 hl1]
      exact pairedSnoc (rows_off (Paired.mapP pl fun _ _ d => d.sm s3) o4 (s3 _ _ e2) fun q hq z => np (z ▸ hq)) (RowsI.off ⟨rs, e3, pr.same s3⟩ o4 (s3 _ _ e2) yp)
    · intro z
      rcases List.mem_append.mp z with z | z
      · exact np z
      · exact yp (List.mem_singleton.mp z).symm
    · intro x hx
      rcases List.mem_append.mp hx with z | z
      · exact nw x z
      · rw [List.mem_singleton.mp z]; exact s2.free hy
  rintro m0 acc H1 hm0 s1 e1 ⟨ls, rfl, pl, np, nw⟩
  rw [List.length_map, hl0, List.take_length] at pl
  have hll := pairedLen5 pl
  walk_at "rd"
  rw [List.length_map]
  refine lc_range ls.length (by omega) (by omega) (by omega) (fun j acc _ => ∃ F : List Nat, acc = (F.map fun (k : Nat) => (k : Int)).map V.int ∧ (∀ k ∈ F, ∃ l, L[k]? = some l ∧ l ≠ []) ∧ ∀ (k : Nat) (l : List (List Int)), k < j → L[k]? = some l → l ≠ [] → k ∈ F) (fun _ _ => ⟨[], rfl, fun _ h => (nomatch h), fun k _ h => absurd h (Nat.not_lt_zero _)⟩) ?_ ?_
  · rintro p2 hp2 C s' H' fp j acc H2 hj ⟨s2, e2, l2, F, rfl, F1, F2⟩
    obtain ⟨q1, hq1⟩ : ∃ q1, ls[j]? = some q1 := ⟨ls[j], List.getElem?_eq_getElem hj⟩
    obtain ⟨l1, hl1, rs, er, pr⟩ := pairedAt pl hq1
    have hrl := pairedLen5 pr
    walk_at "rd"
    refine r_ixL (SqL.of (s2 _ _ e1)) (refs_get5 hq1) ?_
    walk_at "rd"
    refine ⟨by simp [sizeLine_eq], fun l3 H3 hl3 s3 e3 => ?_⟩
    refine ⟨q1, l3, rs.map V.ref, [], fun _ => true, rfl, rfl, SqL.of ((s2.trans s3) _ _ er), SqL.of e3, fun j x y _ h => (by cases h), ?_⟩
    have e4 := s3 _ _ e2
    show ∃ k, V.bl (!eqAns (rs.map V.ref) [] fun _ => true) = .bl k ∧ _
    rw [eq_empty, List.length_map, hrl]
    refine ⟨_, rfl, ?_⟩
    by_cases hz : l1.length = 0
    · rw [decide_eq_true hz]
      refine iteF ?_
      refine CInv.skip (s2.trans s3) e4 l2 ⟨F, rfl, F1, fun k l hk hk2 hne => ?_⟩
      by_cases e : k = j
      · subst e
        rw [hl1] at hk2
        cases hk2
        exact absurd (List.eq_nil_of_length_eq_zero hz) hne
      · exact F2 k l (by omega) hk2 hne
    · rw [decide_eq_false hz]
      refine iteT ?_
      walk_at "rd"
      refine CInv.put hp2 (fun _ _ _ _ r _ => r) (s2.trans s3) e4 l2 ⟨F ++ [j], by rw [List.map_append, List.map_append]; rfl, fun k hk => ?_, fun k l hk hk2 hne => ?_⟩
      · rcases List.mem_append.mp hk with h | h
        · exact F1 k h
        · rw [List.mem_singleton.mp h]
          exact ⟨l1, hl1, fun e => hz (by rw [e]; rfl)⟩
      · by_cases e : k = j
        · exact List.mem_append.mpr (.inr (by simp [e]))
        · exact List.mem_append.mpr (.inl (F2 k l (by omega) hk2 hne))
  rintro fl acc H2 hfl s2 e2 ⟨F, rfl, F1, F2⟩
  obtain ⟨k0, lk0, hk0, hlk0⟩ := sm.some_
  have hF : 0 < F.length := List.length_pos_of_mem (F2 k0 lk0 (by have := (List.getElem?_eq_some_iff.mp hk0).1; omega) hk0 hlk0)
  walk_at "rd"
  obtain ⟨x, hx, hxm⟩ := at_mod ((F.map fun (k : Nat) => (k : Int)).map V.int) (z / 12) (m := F.length) (by rw [List.length_map, List.length_map]) hF
  refine r_I (C := fun _ j => 0 < j) (by rw [List.length_map, List.length_map]; show (0 : Int) < _; omega) ?_
  rw [List.length_map, List.length_map]
  refine r_ixL (SqL.of e2) hx ?_
  obtain ⟨at_, hat, rfl⟩ : ∃ k : Nat, k ∈ F ∧ x = .int (k : Int) := by
    obtain ⟨n, hn, rfl⟩ := List.mem_map.mp hxm
    obtain ⟨k, hk, rfl⟩ := List.mem_map.mp hn
    exact ⟨k, hk, rfl⟩
  obtain ⟨lw, hlw, hne⟩ := F1 at_ hat
  clear hx hxm hat F1 F2 hF
  obtain ⟨b, hb⟩ : ∃ b, ls[at_]? = some b := ⟨ls[at_]'(by have := (List.getElem?_eq_some_iff.mp hlw).1; omega), List.getElem?_eq_getElem _⟩
  have pl2 : Paired (RowsI H2) ls L := Paired.mapP pl fun _ _ d => d.sm s2
  have e12 := s2 _ _ e1
  have s12 := s1.trans s2
  have hnw : ∀ q ∈ ls, H q = none := nw
  obtain ⟨lw', hlw', rs, eb, tb⟩ := pairedAt pl2 hb
  rw [hlw] at hlw'
  cases hlw'
  have hrl := pairedLen5 tb
  have hlb := hLr lw (List.mem_of_getElem? hlw)
  have hlp : 0 < lw.length := List.length_pos_iff.mpr hne
  walk_at "rd"
  refine r_ixL (SqL.of e12) (refs_get5 hb) ?_
  walk_at "rd"
  refine r_I (C := fun _ j => 0 < j) (by rw [List.length_map]; show (0 : Int) < _; omega) ?_
  rw [List.length_map]
  obtain ⟨sp, hsp, hspl⟩ : ∃ k : Nat, z / 144 % (rs.length : Int) = (k : Int) ∧ k < rs.length := by
    have a1 := Int.emod_nonneg (z / 144) (b := (rs.length : Int)) (by omega)
    have a2 := Int.emod_lt_of_pos (z / 144) (b := (rs.length : Int)) (by omega)
    exact ⟨(z / 144 % (rs.length : Int)).toNat, by omega, by omega⟩
  rw [hsp]
  clear hsp
  obtain ⟨hd, hhd⟩ : ∃ a, rs[sp]? = some a := ⟨rs[sp], List.getElem?_eq_getElem hspl⟩
  obtain ⟨w, hw, ehd⟩ := pairedAt tb hhd
  have ehd' : H2 hd = some (.tup (w.map V.int)) := ehd
  have hwl := hlb.2 w (List.mem_of_getElem? hw)
  walk_at "rd"
  refine r_ixL (SqL.of e12) (refs_get5 hb) ?_
  walk_at "rd"
  refine r_ixL (SqL.of eb) (refs_get5 hhd) ?_
  walk_at "rs"
  refine r_seq_n fun N0 hN0 => ?_
  walk_at "rd"
  obtain ⟨wy, hwy, hwyl⟩ : ∃ k : Nat, z % 12 = (k : Int) ∧ k < 12 := ⟨(z % 12).toNat, by omega, by omega⟩
  rw [hwy]
  refine hN0 _ _ ?_
  clear hN0
  have bm : b ≠ m0 := fun e => np (e ▸ List.mem_of_getElem? hb)
  have hbn := hnw b (List.mem_of_getElem? hb)
  have hls : ls.length ≤ 126 := by omega
  have fine1 : ∀ l ∈ L, l.length ≤ 300 ∧ ∀ w ∈ l, w.length ≤ 20 := fun l hl => ⟨by have := (hLr l hl).1; omega, fun w hw => by have := (hLr l hl).2 w hw; omega⟩
  -- the list at b is another one
  have chg : ∀ (H5 H6 : Hp) (q : Addr) (xs : List V) (ws' : List (List Int)), Same H2 H5 → q ∈ ls → H5 q = some (.lst xs) → Off q H5 H6 → RowsI H6 q ws' → ws'.length ≤ 300 → (∀ w ∈ ws', w.length ≤ 20) → Done H m0 H6 := by
    intro H5 H6 q xs ws' s5 hq e5 o6 r6 l1 l2
    have qm : q ≠ m0 := fun e => np (e ▸ hq)
    obtain ⟨L', p', hl', hm'⟩ := rows_chg (Paired.mapP pl2 fun _ _ d => d.sm s5) o6 e5 r6
    refine ⟨(s12.trans s5).off (hnw q hq) o6, L', ⟨ls, by rw [o6 m0 qm.symm]; exact s5 _ _ e12, p'⟩, by omega, fun l hl => ?_⟩
    rcases hm' l hl with h | h
    · exact fine1 l h
    · rw [h]; exact ⟨l1, l2⟩
  have hin : ∀ {ws : List (List Int)} {x : List Int} {n : Nat}, x ∈ ws.set sp x → True := fun _ => trivial
  -- one row of it is another one
  have row : ∀ (H5 H6 : Hp) (t : Addr) (w' : List Int), Same H2 H5 → H5 t = some (.tup (w'.map V.int)) → w'.length ≤ 20 → Off b H5 H6 → H6 b = some (.lst ((rs.map V.ref).set sp (.ref t))) → Done H m0 H6 := by
    intro H5 H6 t w' s5 et wl o6 e6
    have e5 := s5 _ _ eb
    have k6 := o6.keep e5
    refine chg H5 H6 b _ (lw.set sp w') s5 (List.mem_of_getElem? hb) e5 o6 ⟨rs.set sp t, by rw [e6, List.map_set], pairedSet sp ((tb.same s5).off o6 e5) (k6 _ _ et)⟩ (by rw [List.length_set]; omega) fun x hx => ?_
    rcases List.mem_or_eq_of_mem_set hx with h | h
    · have := hlb.2 x h; omega
    · rw [h]; exact wl
  have put : ∀ (H5 : Hp) (t : Addr) (w' : List Int) (R : Hp → Prop), Same H2 H5 → H5 t = some (.tup (w'.map V.int)) → w'.length ≤ 20 → (∀ H6, Done H m0 H6 → R H6) → rSetL (.ref b) (.int (sp : Int)) (.ref t) H5 R := by
    intro H5 t w' R s5 et wl hR
    refine r_setL (s5 _ _ eb) (j := sp) ?_ (hR _ (row H5 _ t w' s5 et wl off_upd upd_same))
    unfold ixN
    rw [List.length_map, if_pos (by omega), if_pos (by omega), Int.toNat_natCast]
  let P : Nat → Addr → Hp → Prop := fun k m H' => (m = m0 ∧ H' = H2 ∧ k ≤ wy) ∨ (Done H m H' ∧ wy < k)
  have P0 : P 0 m0 H2 := .inl ⟨rfl, rfl, Nat.zero_le _⟩
  have skip : ∀ (k : Nat) (m : Addr) (H' : Hp), P k m H' → ¬ ((wy : Int) = (k : Int)) → P (k + 1) m H' := fun k m H' h n => by
    rcases h with ⟨a, b, c⟩ | ⟨a, b⟩
    · exact .inl ⟨a, b, by omega⟩
    · exact .inr ⟨a, by omega⟩
  have take : ∀ (k : Nat) (m : Addr) (H' : Hp), P k m H' → (wy : Int) = (k : Int) → m0 = m ∧ H2 = H' ∧ wy < k + 1 := fun k m H' h e => by
    rcases h with ⟨a, b, c⟩ | ⟨a, b⟩
    · exact ⟨a.symm, b.symm, by omega⟩
    · omega
  walk_at "rs"
  refine r_seq_n fun N0 hN0 => ?_
  suffices nx : ∀ (m : Addr) (la : Option V) (H' : Hp), P 1 m H' → N0 [some (.ref p), some (.int z), some (.int (c : Int)), some (.ref m), some (.ref fl), some (.int (at_ : Int)), some (.int (sp : Int)), some (.ref hd), some (.int (wy : Int)), la] H' by
    have hP := P0
    walk_at "rd"
    refine ite_dec (fun h => ?_) (fun h => ?_)
    · obtain ⟨h1, h2, h3⟩ := take 0 _ _ hP h
      walk_at "rd"
      refine ⟨r_tyL e12, ?_⟩
      walk_at "rd"
      rw [List.length_map]
      obtain ⟨kk, hkk, hkl⟩ : ∃ kk : Nat, z / 12 % ((ls.length : Int) + 1) = (kk : Int) ∧ kk ≤ ls.length := by
        have a1 := Int.emod_nonneg (z / 12) (b := (ls.length : Int) + 1) (by omega)
        have a2 := Int.emod_lt_of_pos (z / 12) (b := (ls.length : Int) + 1) (by omega)
        exact ⟨(z / 12 % ((ls.length : Int) + 1)).toNat, by omega, by omega⟩
      rw [hkk]
      walk_at "rd"
      refine ⟨by simp [sizeLine_eq], fun l3 H3 hl3 s3 e3 => ?_⟩
      have e13 := s3 _ _ e12
      walk_at "rd"
      refine r_insert e13 (by rw [List.length_map, sizeLine_eq]; omega) (by rw [List.length_map]; exact hkl) fun H4 o4 e4 => ?_
      have lm : l3 ≠ m0 := fun e => by rw [e, e12] at hl3; cases hl3
      have p4 : Paired (RowsI H4) ls L := rows_off (Paired.mapP pl2 fun _ _ d => d.sm s3) o4 e13 fun q hq e => np (e ▸ hq)
      walk_at "rd"
      refine nx _ _ _ (.inr ⟨⟨(s12.trans s3).off hm0 o4, L.take kk ++ [] :: L.drop kk, ⟨ls.take kk ++ l3 :: ls.drop kk, by rw [e4, List.map_append, List.map_cons, List.map_take, List.map_drop], pairedApp (pairedTake kk p4) (.cons ⟨[], by rw [o4 l3 lm]; exact e3, .nil⟩ (pairedDrop kk p4))⟩, ⟨?_, fun l hl => ?_⟩⟩, h3⟩)
      · rw [List.length_append, List.length_cons, List.length_take, List.length_drop]
        omega
      · rcases List.mem_append.mp hl with h | h
        · exact fine1 l (mem_take_of h)
        · rcases List.mem_cons.mp h with h | h
          · rw [h]; exact ⟨Nat.zero_le _, fun _ z => (nomatch z)⟩
          · exact fine1 l (List.mem_of_mem_drop h)
    · walk_at "rd"
      exact nx _ _ _ (skip 0 _ _ hP h)
  intro m la H' hP
  refine hN0 _ _ ?_
  clear hN0
  walk_at "rs"
  refine r_seq_n fun N1 hN1 => ?_
  suffices nx : ∀ (m : Addr) (la : Option V) (H' : Hp), P 2 m H' → N1 [some (.ref p), some (.int z), some (.int (c : Int)), some (.ref m), some (.ref fl), some (.int (at_ : Int)), some (.int (sp : Int)), some (.ref hd), some (.int (wy : Int)), la] H' by
    walk_at "rd"
    refine ite_dec (fun h => ?_) (fun h => ?_)
    · obtain ⟨h1, h2, h3⟩ := take 1 _ _ hP h
      subst h1 h2
      obtain ⟨ys, y, hys⟩ : ∃ ys y, ls = ys ++ [y] := ⟨ls.dropLast, ls.getLast (by intro e; rw [e] at hb; cases hb), (List.dropLast_concat_getLast _).symm⟩
      have hysl : ls.length = ys.length + 1 := by rw [hys, List.length_append]; rfl
      walk_at "rd"
      refine ⟨r_tyL e12, ?_⟩
      refine r_pop (xs := ys.map V.ref) (y := .ref y) (by rw [e12, hys, List.map_append]; rfl) fun H3 o3 e3 => ?_
      have p3 : Paired (RowsI H3) ls L := rows_off pl2 o3 e12 fun q hq e => np (e ▸ hq)
      have s03 : Same H H3 := s12.off hm0 o3
      obtain ⟨ly, hly, rsy, ey, ty⟩ := pairedAt p3 (i := ys.length) (x := y) (by rw [hys, List.getElem?_append_right (Nat.le_refl _), Nat.sub_self]; rfl)
      have hyl := pairedLen5 ty
      have hlyb := hLr ly (List.mem_of_getElem? hly)
      have pys : Paired (RowsI H3) ys (L.take ys.length) := by
        have := pairedTake ys.length p3
        rwa [show ls.take ys.length = ys by rw [hys, List.take_append_of_le_length (Nat.le_refl _), List.take_length]] at this
      walk_at "rd"
      refine m_slL (SqL.of e3) fun d4 H4 hd4 s4 e4 => ?_
      rw [cut_dl, ← List.map_dropLast] at e4
      walk_at "rd"
      refine ⟨by simp [sizeLine_eq], fun i5 H5 hi5 s5 e5 => ?_⟩
      walk_at "rd"
      refine ⟨by simp [sizeLine_eq], fun i6 H6 hi6 s6 e6 => ?_⟩
      have s36 := s4.trans (s5.trans s6)
      walk_at "rd"
      refine m_cat (s36 _ _ e3) e6 (by rw [List.length_map, sizeLine_eq]; simp; omega) fun c7 H7 hc7 s7 e7 => ?_
      have s37 := s36.trans s7
      have e73 := s37 _ _ e3
      walk_at "rd"
      obtain ⟨g, rsg, lg, hg, eg, tg, lgb⟩ : ∃ (g : Addr) (rsg : List Addr) (lg : List (List Int)), atI (ys.map V.ref ++ [V.ref i5]) (((ys.map V.ref).length : Int) - 1) = some (.ref g) ∧ H7 g = some (.lst (rsg.map V.ref)) ∧ TupsAt H7 rsg lg ∧ lg.length ≤ 126 ∧ ∀ w ∈ lg, w.length ≤ c := by
        rw [List.length_map]
        cases hy0 : ys.length with
        | zero =>
          have : ys = [] := List.eq_nil_of_length_eq_zero hy0
          subst this
          exact ⟨i5, [], [], rfl, (s6.trans s7) _ _ e5, .nil, Nat.zero_le _, fun _ z => (nomatch z)⟩
        | succ n =>
          obtain ⟨g, hg⟩ : ∃ g, ys[n]? = some g := ⟨ys[n]'(by omega), List.getElem?_eq_getElem _⟩
          obtain ⟨lg, hlg, dg⟩ := pairedAt pys hg
          obtain ⟨rsg, eg, tg⟩ := dg.sm s37
          refine ⟨g, rsg, lg, ?_, eg, tg, hLr lg (mem_take_of (List.mem_of_getElem? hlg))⟩
          rw [show (((n + 1 : Nat) : Int) - 1) = (n : Int) by omega]
          refine atI_nat ?_
          rw [List.getElem?_append_left (by rw [List.length_map]; omega), List.getElem?_map, hg]
          rfl
      refine r_ixL (SqL.of e7) hg ?_
      walk_at "rd"
      have hgl := pairedLen5 tg
      refine m_cat eg (s37 _ _ ey) (by rw [List.length_map, List.length_map, sizeLine_eq]; omega) fun c8 H8 hc8 s8 e8 => ?_
      walk_at "rd"
      refine ⟨by simp [sizeLine_eq], fun i9 H9 hi9 s9 e9 => ?_⟩
      have s39 := s37.trans (s8.trans s9)
      walk_at "rd"
      refine m_cat ((s5.trans (s6.trans (s7.trans (s8.trans s9)))) _ _ e4) e9 (by rw [List.length_map, List.length_dropLast, sizeLine_eq]; simp; omega) fun cA HA hcA sA eA => ?_
      have s3A := s39.trans sA
      walk_at "rd"
      refine nx _ _ _ (.inr ⟨⟨s03.trans s3A, (L.take ys.length).take (ys.length - 1) ++ [lg ++ ly], ⟨ys.take (ys.length - 1) ++ [c8], by rw [eA, List.map_append, List.dropLast_eq_take]; rfl, pairedSnoc (Paired.mapP (pairedTake _ pys) fun _ _ d => d.sm s3A) ⟨rsg ++ rsy, by rw [(s9.trans sA) _ _ e8, List.map_append], pairedApp (tg.same (s8.trans (s9.trans sA))) (ty.same s3A)⟩⟩, ⟨?_, fun l hl => ?_⟩⟩, h3⟩)
      · rw [List.length_append, List.length_take, List.length_take]
        show _ + 1 ≤ _
        omega
      · rcases List.mem_append.mp hl with h | h
        · exact fine1 l (mem_take_of (mem_take_of h))
        · rw [List.mem_singleton.mp h]
          refine ⟨by rw [List.length_append]; omega, fun w hw => ?_⟩
          rcases List.mem_append.mp hw with h | h
          · have := lgb.2 w h; omega
          · have := hlyb.2 w h; omega
    · walk_at "rd"
      exact nx _ _ _ (skip 1 _ _ hP h)
  clear hP
  intro m la H' hP
  refine hN1 _ _ ?_
  clear hN1
  walk_at "rs"
  refine r_seq_n fun N2 hN2 => ?_
  suffices nx : ∀ (m : Addr) (la : Option V) (H' : Hp), P 3 m H' → N2 [some (.ref p), some (.int z), some (.int (c : Int)), some (.ref m), some (.ref fl), some (.int (at_ : Int)), some (.int (sp : Int)), some (.ref hd), some (.int (wy : Int)), la] H' by
    walk_at "rd"
    refine ite_dec (fun h => ?_) (fun h => ?_)
    · obtain ⟨h1, h2, h3⟩ := take 2 _ _ hP h
      subst h1 h2
      walk_at "rd"
      refine r_ixL (SqL.of e12) (refs_get5 hb) ?_
      refine ⟨r_tyL eb, ?_⟩
      walk_at "rd"
      refine r_popAt5 eb (k := sp) (y := .ref hd) (by rw [List.getElem?_map, hhd]; rfl) (by rw [List.length_map]; omega) fun H3 o3 e3 => ?_
      walk_at "rd"
      refine nx _ _ _ (.inr ⟨chg H2 H3 b _ (lw.eraseIdx sp) (Same.refl _) (List.mem_of_getElem? hb) eb o3 ⟨rs.eraseIdx sp, by rw [e3, map_erase5], pairedErase sp (tb.off o3 eb)⟩ ?_ fun x hx => ?_, h3⟩)
      · have := List.length_eraseIdx_le lw sp; omega
      · have := hlb.2 x (List.mem_of_mem_eraseIdx hx); omega
    · walk_at "rd"
      exact nx _ _ _ (skip 2 _ _ hP h)
  clear hP
  intro m la H' hP
  refine hN2 _ _ ?_
  clear hN2
  walk_at "rs"
  refine r_seq_n fun N3 hN3 => ?_
  suffices nx : ∀ (m : Addr) (la : Option V) (H' : Hp), P 4 m H' → N3 [some (.ref p), some (.int z), some (.int (c : Int)), some (.ref m), some (.ref fl), some (.int (at_ : Int)), some (.int (sp : Int)), some (.ref hd), some (.int (wy : Int)), la] H' by
    walk_at "rd"
    refine ite_dec (fun h => ?_) (fun h => ?_)
    · obtain ⟨h1, h2, h3⟩ := take 3 _ _ hP h
      subst h1 h2
      walk_at "rd"
      rw [List.length_map]
      obtain ⟨kk, hkk, hkl⟩ : ∃ kk : Nat, z / 1728 % (ls.length : Int) = (kk : Int) ∧ kk < ls.length := by
        have h0 : 0 < ls.length := Nat.lt_of_le_of_lt (Nat.zero_le _) (List.getElem?_eq_some_iff.mp hb).1
        have a1 := Int.emod_nonneg (z / 1728) (b := (ls.length : Int)) (by omega)
        have a2 := Int.emod_lt_of_pos (z / 1728) (b := (ls.length : Int)) (by omega)
        exact ⟨(z / 1728 % (ls.length : Int)).toNat, by omega, by omega⟩
      refine r_I (C := fun _ j => 0 < j) (by show (0 : Int) < _; omega) ?_
      rw [hkk]
      obtain ⟨g, hg⟩ : ∃ g, ls[kk]? = some g := ⟨ls[kk], List.getElem?_eq_getElem _⟩
      obtain ⟨lg, hlg, rsg, eg, tg⟩ := pairedAt pl2 hg
      have hgl := pairedLen5 tg
      have hgb := hLr lg (List.mem_of_getElem? hlg)
      refine r_ixL (SqL.of e12) (refs_get5 hg) ?_
      refine ⟨r_tyL eg, ?_⟩
      walk_at "rd"
      refine r_append eg (by rw [List.length_map, sizeLine_eq]; omega) fun H3 o3 e3 => ?_
      walk_at "rd"
      refine nx _ _ _ (.inr ⟨chg H2 H3 g _ (lg ++ [w]) (Same.refl _) (List.mem_of_getElem? hg) eg o3 ⟨rsg ++ [hd], by rw [e3, List.map_append]; rfl, pairedSnoc (tg.off o3 eg) (o3.keep eg _ _ ehd')⟩ ?_ fun x hx => ?_, h3⟩)
      · rw [List.length_append]; show _ + 1 ≤ _; omega
      · rcases List.mem_append.mp hx with h | h
        · have := hgb.2 x h; omega
        · rw [List.mem_singleton.mp h]; omega
    · walk_at "rd"
      exact nx _ _ _ (skip 3 _ _ hP h)
  clear hP
  intro m la H' hP
  refine hN3 _ _ ?_
  clear hN3
  walk_at "rs"
  refine r_seq_n fun N4 hN4 => ?_
  suffices nx : ∀ (m : Addr) (la : Option V) (H' : Hp), P 5 m H' → N4 [some (.ref p), some (.int z), some (.int (c : Int)), some (.ref m), some (.ref fl), some (.int (at_ : Int)), some (.int (sp : Int)), some (.ref hd), some (.int (wy : Int)), la] H' by
    walk_at "rd"
    refine ite_dec (fun h => ?_) (fun h => ?_)
    · obtain ⟨h1, h2, h3⟩ := take 4 _ _ hP h
      subst h1 h2
      walk_at "rd"
      refine m_revT ?_
      walk_at "rd"
      refine ⟨hd, w.map V.int, rfl, rfl, ehd', by rw [List.length_map]; omega, fun t3 H3 s3 e3 => ?_⟩
      rw [← List.map_reverse] at e3
      walk_at "rd"
      refine r_ixL (SqL.of (s3 _ _ e12)) (refs_get5 hb) ?_
      walk_at "rd"
      refine put H3 t3 w.reverse _ s3 e3 (by rw [List.length_reverse]; omega) fun H6 d6 => ?_
      walk_at "rd"
      exact nx _ _ _ (.inr ⟨d6, h3⟩)
    · walk_at "rd"
      exact nx _ _ _ (skip 4 _ _ hP h)
  clear hP
  intro m la H' hP
  refine hN4 _ _ ?_
  clear hN4
  walk_at "rs"
  refine r_seq_n fun N5 hN5 => ?_
  suffices nx : ∀ (m : Addr) (la : Option V) (H' : Hp), P 6 m H' → N5 [some (.ref p), some (.int z), some (.int (c : Int)), some (.ref m), some (.ref fl), some (.int (at_ : Int)), some (.int (sp : Int)), some (.ref hd), some (.int (wy : Int)), la] H' by
    walk_at "rd"
    refine ite_dec (fun h => ?_) (fun h => ?_)
    · obtain ⟨h1, h2, h3⟩ := take 5 _ _ hP h
      subst h1 h2
      walk_at "rd"
      refine m_slW ehd' fun t3 H3 s3 e3 => ?_
      rw [cut_dl, ← List.map_dropLast] at e3
      walk_at "rd"
      refine r_ixL (SqL.of (s3 _ _ e12)) (refs_get5 hb) ?_
      walk_at "rd"
      refine put H3 t3 w.dropLast _ s3 e3 (by rw [List.length_dropLast]; omega) fun H6 d6 => ?_
      walk_at "rd"
      exact nx _ _ _ (.inr ⟨d6, h3⟩)
    · walk_at "rd"
      exact nx _ _ _ (skip 5 _ _ hP h)
  clear hP
  intro m la H' hP
  refine hN5 _ _ ?_
  clear hN5
  walk_at "rs"
  refine r_seq_n fun N6 hN6 => ?_
  suffices nx : ∀ (m : Addr) (la : Option V) (H' : Hp), P 7 m H' → N6 [some (.ref p), some (.int z), some (.int (c : Int)), some (.ref m), some (.ref fl), some (.int (at_ : Int)), some (.int (sp : Int)), some (.ref hd), some (.int (wy : Int)), la] H' by
    walk_at "rd"
    refine ite_dec (fun h => ?_) (fun h => ?_)
    · obtain ⟨h1, h2, h3⟩ := take 6 _ _ hP h
      subst h1 h2
      walk_at "rd"
      refine ⟨by simp [sizeLine_eq], fun t3 H3 ht3 s3 e3 => ?_⟩
      walk_at "rd"
      refine m_catT (s3 _ _ ehd') e3 (by rw [List.length_map, sizeLine_eq]; simp; omega) fun t4 H4 s4 e4 => ?_
      have s24 := s3.trans s4
      have e4' : H4 t4 = some (.tup ((w ++ [(c : Int)]).map V.int)) := by rw [e4, List.map_append]; rfl
      walk_at "rd"
      refine r_ixL (SqL.of (s24 _ _ e12)) (refs_get5 hb) ?_
      walk_at "rd"
      refine put H4 t4 (w ++ [(c : Int)]) _ s24 e4' (by rw [List.length_append]; show _ + 1 ≤ _; omega) fun H6 d6 => ?_
      walk_at "rd"
      exact nx _ _ _ (.inr ⟨d6, h3⟩)
    · walk_at "rd"
      exact nx _ _ _ (skip 6 _ _ hP h)
  clear hP
  intro m la H' hP
  refine hN6 _ _ ?_
  clear hN6
  walk_at "rs"
  refine r_seq_n fun N7 hN7 => ?_
  suffices nx : ∀ (m : Addr) (la : Option V) (H' : Hp), P 8 m H' → N7 [some (.ref p), some (.int z), some (.int (c : Int)), some (.ref m), some (.ref fl), some (.int (at_ : Int)), some (.int (sp : Int)), some (.ref hd), some (.int (wy : Int)), la] H' by
    walk_at "rd"
    refine ite_dec (fun h => ?_) (fun h => ?_)
    · obtain ⟨h1, h2, h3⟩ := take 7 _ _ hP h
      subst h1 h2
      walk_at "rd"
      refine m_slW ehd' fun t3 H3 s3 e3 => ?_
      rw [cut_dl, ← List.map_dropLast] at e3
      walk_at "rd"
      refine ⟨by simp [sizeLine_eq], fun t4 H4 ht4 s4 e4 => ?_⟩
      walk_at "rd"
      refine m_catT (s4 _ _ e3) e4 (by rw [List.length_map, List.length_dropLast, sizeLine_eq]; simp; omega) fun t5 H5 s5 e5 => ?_
      have s25 := s3.trans (s4.trans s5)
      obtain ⟨y7, e5'⟩ : ∃ y7 : Int, H5 t5 = some (.tup ((w.dropLast ++ [y7]).map V.int)) := ⟨_, by rw [e5, List.map_append]; rfl⟩
      walk_at "rd"
      refine r_ixL (SqL.of (s25 _ _ e12)) (refs_get5 hb) ?_
      walk_at "rd"
      refine put H5 t5 (w.dropLast ++ [y7]) _ s25 e5' (by rw [List.length_append, List.length_dropLast]; show _ + 1 ≤ _; omega) fun H6 d6 => ?_
      walk_at "rd"
      exact nx _ _ _ (.inr ⟨d6, h3⟩)
    · walk_at "rd"
      exact nx _ _ _ (skip 7 _ _ hP h)
  clear hP
  intro m la H' hP
  refine hN7 _ _ ?_
  clear hN7
  walk_at "rs"
  refine r_seq_n fun N8 hN8 => ?_
  suffices nx : ∀ (m : Addr) (la : Option V) (H' : Hp), P 9 m H' → N8 [some (.ref p), some (.int z), some (.int (c : Int)), some (.ref m), some (.ref fl), some (.int (at_ : Int)), some (.int (sp : Int)), some (.ref hd), some (.int (wy : Int)), la] H' by
    walk_at "rd"
    refine ite_dec (fun h => ?_) (fun h => ?_)
    · obtain ⟨h1, h2, h3⟩ := take 8 _ _ hP h
      subst h1 h2
      walk_at "rd"
      refine ⟨by simp [sizeLine_eq], fun t3 H3 ht3 s3 e3 => ?_⟩
      walk_at "rd"
      refine m_slW (s3 _ _ ehd') fun t4 H4 s4 e4 => ?_
      rw [cut_d1, ← List.map_drop] at e4
      walk_at "rd"
      refine m_catT (s4 _ _ e3) e4 (by rw [List.length_map, List.length_drop, sizeLine_eq]; simp; omega) fun t5 H5 s5 e5 => ?_
      have s25 := s3.trans (s4.trans s5)
      obtain ⟨y7, e5'⟩ : ∃ y7 : Int, H5 t5 = some (.tup ((y7 :: w.drop 1).map V.int)) := ⟨_, by rw [e5]; rfl⟩
      walk_at "rd"
      refine r_ixL (SqL.of (s25 _ _ e12)) (refs_get5 hb) ?_
      walk_at "rd"
      refine put H5 t5 (y7 :: w.drop 1) _ s25 e5' (by rw [List.length_cons, List.length_drop]; omega) fun H6 d6 => ?_
      walk_at "rd"
      exact nx _ _ _ (.inr ⟨d6, h3⟩)
    · walk_at "rd"
      exact nx _ _ _ (skip 8 _ _ hP h)
  clear hP
  intro m la H' hP
  refine hN8 _ _ ?_
  clear hN8
  walk_at "rs"
  refine r_seq_n fun N9 hN9 => ?_
  suffices nx : ∀ (m : Addr) (la : Option V) (H' : Hp), P 10 m H' → N9 [some (.ref p), some (.int z), some (.int (c : Int)), some (.ref m), some (.ref fl), some (.int (at_ : Int)), some (.int (sp : Int)), some (.ref hd), some (.int (wy : Int)), la] H' by
    walk_at "rd"
    refine ite_dec (fun h => ?_) (fun h => ?_)
    · obtain ⟨h1, h2, h3⟩ := take 9 _ _ hP h
      subst h1 h2
      walk_at "rd"
      refine lc_tup (w.map V.int) (SqT.of ehd') (by rw [List.length_map]; omega) (fun j acc _ => ∃ us : List Int, acc = us.map V.int ∧ us.length = j) (fun _ _ => ⟨[], rfl, rfl⟩) ?_ ?_
      · rintro p2 hp2 C s' H' fp i x acc H3 hx ⟨s3, e3, l3, us, rfl, hul⟩
        obtain ⟨y, hy, rfl⟩ := int_at hx
        have hwp := (List.getElem?_eq_some_iff.mp hy).1
        walk_at "rd"
        exact CInv.put hp2 (fun _ _ _ _ r _ => r) s3 e3 l3 ⟨us ++ [_], by rw [List.map_append]; rfl, by rw [List.length_append, hul]; rfl⟩
      rintro p2 acc H3 hp2 s3 e3 ⟨us, rfl, hul⟩
      rw [List.length_map] at hul
      walk_at "rd"
      refine m_tuple (SqL.of e3) fun t4 H4 ht4 s4 e4 => ?_
      have s24 := s3.trans s4
      walk_at "rd"
      refine r_ixL (SqL.of (s24 _ _ e12)) (refs_get5 hb) ?_
      walk_at "rd"
      refine put H4 t4 us _ s24 e4 (by omega) fun H6 d6 => ?_
      walk_at "rd"
      exact nx _ _ _ (.inr ⟨d6, h3⟩)
    · walk_at "rd"
      exact nx _ _ _ (skip 9 _ _ hP h)
  clear hP
  intro m la H' hP
  refine hN9 _ _ ?_
  clear hN9
  walk_at "rs"
  refine r_seq_n fun N10 hN10 => ?_
  suffices nx : ∀ (m : Addr) (la : Option V) (H' : Hp), P 11 m H' → N10 [some (.ref p), some (.int z), some (.int (c : Int)), some (.ref m), some (.ref fl), some (.int (at_ : Int)), some (.int (sp : Int)), some (.ref hd), some (.int (wy : Int)), la] H' by
    walk_at "rd"
    refine ite_dec (fun h => ?_) (fun h => ?_)
    · obtain ⟨h1, h2, h3⟩ := take 10 _ _ hP h
      subst h1 h2
      walk_at "rd"
      refine r_ixL (SqL.of e12) (refs_get5 hb) ?_
      refine ⟨r_tyL eb, ?_⟩
      walk_at "rd"
      refine r_insert eb (by rw [List.length_map, sizeLine_eq]; omega) (by rw [List.length_map]; omega) fun H3 o3 e3 => ?_
      walk_at "rd"
      have t3 := tb.off o3 eb
      refine nx _ _ _ (.inr ⟨chg H2 H3 b _ (lw.take sp ++ w :: lw.drop sp) (Same.refl _) (List.mem_of_getElem? hb) eb o3 ⟨rs.take sp ++ hd :: rs.drop sp, by rw [e3, List.map_append, List.map_cons, List.map_take, List.map_drop], pairedApp (pairedTake sp t3) (.cons (o3.keep eb _ _ ehd') (pairedDrop sp t3))⟩ ?_ fun x hx => ?_, h3⟩)
      · rw [List.length_append, List.length_cons, List.length_take, List.length_drop]; omega
      · rcases List.mem_append.mp hx with h | h
        · have := hlb.2 x (mem_take_of h); omega
        · rcases List.mem_cons.mp h with h | h
          · rw [h]; omega
          · have := hlb.2 x (List.mem_of_mem_drop h); omega
    · walk_at "rd"
      exact nx _ _ _ (skip 10 _ _ hP h)
  clear hP
  intro m la H' hP
  refine hN10 _ _ ?_
  clear hN10
  walk_at "rs"
  refine r_seq_n fun N11 hN11 => ?_
  suffices nx : ∀ (m : Addr) (la : Option V) (H' : Hp), P 12 m H' → N11 [some (.ref p), some (.int z), some (.int (c : Int)), some (.ref m), some (.ref fl), some (.int (at_ : Int)), some (.int (sp : Int)), some (.ref hd), some (.int (wy : Int)), la] H' by
    walk_at "rd"
    refine ite_dec (fun h => ?_) (fun h => ?_)
    · obtain ⟨h1, h2, h3⟩ := take 11 _ _ hP h
      subst h1 h2
      walk_at "rd"
      refine ⟨r_tyL e12, ?_⟩
      walk_at "rd"
      refine r_popAt5 e12 (k := at_) (y := .ref b) (by rw [List.getElem?_map, hb]; rfl) (by rw [List.length_map]; omega) fun H3 o3 e3 => ?_
      have p3 : Paired (RowsI H3) ls L := rows_off pl2 o3 e12 fun q hq e => np (e ▸ hq)
      walk_at "rd"
      refine nx _ _ _ (.inr ⟨⟨s12.off hm0 o3, L.eraseIdx at_, ⟨ls.eraseIdx at_, by rw [e3, map_erase5], pairedErase at_ p3⟩, ⟨?_, fun l hl => fine1 l (List.mem_of_mem_eraseIdx hl)⟩⟩, h3⟩)
      have := List.length_eraseIdx_le L at_; omega
    · walk_at "rd"
      exact nx _ _ _ (skip 11 _ _ hP h)
  clear hP
  intro m la H' hP
  refine hN11 _ _ ?_
  clear hN11
  walk_at "rd"
  rcases hP with ⟨_, _, h⟩ | ⟨d, _⟩
  · omega
  · exact q m H' d

end L2

end

section
-- KcK53
set_option Elab.async false
set_option linter.all false
set_option maxRecDepth 100000
set_option maxHeartbeats 4000000
namespace L2
open PySem PyProof.Rows

/-! ### the law's packs -/
structure PkS (c : Nat) (ss : List Nat) : Prop where
  c9 : c ≤ 9
  l1 : 1 ≤ ss.length
  l5 : ss.length ≤ 5
  few : ∀ k ∈ ss, k ≤ c ∧ KM.multi c [k] ≤ 126
noncomputable def PkW (H : Hp) (x : V) : Prop := ∃ (t l : Addr) (c : Nat) (ss : List Nat), x = .ref t ∧ H t = some (.tup [.int (c : Int), .ref l]) ∧ H l = some (.lst (natV ss)) ∧ PkS c ss
theorem PkW.same {H H' : Hp} (s : Same H H') {x : V} (h : PkW H x) : PkW H' x := let ⟨t, l, c, ss, e, e1, e2, p⟩ := h; ⟨t, l, c, ss, e, s _ _ e1, s _ _ e2, p⟩
noncomputable def PkWs (H : Hp) (xs : List V) : Prop := ∀ x ∈ xs, PkW H x
theorem PkWs.nil (H : Hp) : PkWs H [] := fun x h => by cases h
theorem PkWs.same {H H' : Hp} (s : Same H H') {xs : List V} (h : PkWs H xs) : PkWs H' xs := fun x hx => (h x hx).same s
theorem PkWs.snoc {H : Hp} {xs : List V} {x : V} (h : PkWs H xs) (q : PkW H x) : PkWs H (xs ++ [x]) := fun y hy => by
  rcases List.mem_append.mp hy with z | z
  · exact h y z
  · rw [List.mem_singleton.mp z]; exact q
theorem PkWs.app {H : Hp} {xs ys : List V} (h : PkWs H xs) (q : PkWs H ys) : PkWs H (xs ++ ys) := fun y hy => (List.mem_append.mp hy).elim (h y) (q y)
noncomputable def sp__law_pack_l (_ : PySem.W.Frag) : Sp := fun vs H Q _ => ∃ z : Int, vs = [.int z] ∧ ∀ (t l : Addr) (c : Nat) (ss : List Nat) (H' : Hp), Same H H' → H' t = some (.tup [.int (c : Int), .ref l]) → H' l = some (.lst (natV ss)) → PkS c ss → Q (.ref t) H'
theorem len__law_pack_l {K : PySem.W.Frag} {vs : List V} {H : Hp} {Q : VK} {E : XK} (h : sp__law_pack_l K vs H Q E) : vs.length = 1 := by
  obtain ⟨z, rfl, q⟩ := h
  rfl
noncomputable def t__law_pack_l (K : PySem.W.Frag) : TS := (tSeq (tAsg (mLst (tCons (mTup (tCons (tC (.int 0)) (tCons (mLst (tCons (tC (.int 0)) (tCons (tC (.int 0)) tNil))) tNil))) (tCons (mTup (tCons (tC (.int 1)) (tCons (mLst (tCons (tC (.int 1)) tNil)) tNil))) (tCons (mTup (tCons (tC (.int 2)) (tCons (mLst (tCons (tC (.int 1)) (tCons (tC (.int 1)) (tCons (tC (.int 0)) tNil)))) tNil))) (tCons (mTup (tCons (tC (.int 3)) (tCons (mLst (tCons (tC (.int 1)) (tCons (tC (.int 1)) (tCons (tC (.int 1)) tNil)))) tNil))) (tCons (mTup (tCons (tC (.int 4)) (tCons (mLst (tCons (tC (.int 2)) (tCons (tC (.int 1)) (tCons (tC (.int 1)) tNil)))) tNil))) (tCons (mTup (tCons (tC (.int 4)) (tCons (mLst (tCons (tC (.int 1)) (tCons (tC (.int 0)) (tCons (tC (.int 2)) tNil)))) tNil))) (tCons (mTup (tCons (tC (.int 5)) (tCons (mLst (tCons (tC (.int 2)) (tCons (tC (.int 2)) (tCons (tC (.int 1)) tNil)))) tNil))) tNil)))))))) (gName 1))
  (tSeq (tAsg (tOp mCat (tVar 1) (mLst (tCons (mTup (tCons (tC (.int 5)) (tCons (mLst (tCons (tC (.int 3)) (tCons (tC (.int 1)) tNil))) tNil))) (tCons (mTup (tCons (tC (.int 6)) (tCons (mLst (tCons (tC (.int 3)) (tCons (tC (.int 2)) (tCons (tC (.int 1)) tNil)))) tNil))) (tCons (mTup (tCons (tC (.int 6)) (tCons (mLst (tCons (tC (.int 2)) (tCons (tC (.int 2)) (tCons (tC (.int 2)) tNil)))) tNil))) (tCons (mTup (tCons (tC (.int 7)) (tCons (mLst (tCons (tC (.int 3)) (tCons (tC (.int 3)) (tCons (tC (.int 1)) tNil)))) tNil))) (tCons (mTup (tCons (tC (.int 7)) (tCons (mLst (tCons (tC (.int 1)) (tCons (tC (.int 1)) (tCons (tC (.int 1)) (tCons (tC (.int 1)) (tCons (tC (.int 1)) tNil)))))) tNil))) (tCons (mTup (tCons (tC (.int 3)) (tCons (mLst (tCons (tC (.int 0)) (tCons (tC (.int 2)) (tCons (tC (.int 0)) (tCons (tC (.int 1)) tNil))))) tNil))) tNil)))))))) (gName 1))
  (tSeq (tAsg (tOp mCat (tVar 1) (mLst (tCons (mTup (tCons (tC (.int 5)) (tCons (mLst (tCons (tC (.int 5)) tNil)) tNil))) (tCons (mTup (tCons (tC (.int 6)) (tCons (mLst (tCons (tC (.int 4)) (tCons (tC (.int 2)) tNil))) tNil))) (tCons (mTup (tCons (tC (.int 7)) (tCons (mLst (tCons (tC (.int 2)) (tCons (tC (.int 4)) tNil))) tNil))) tNil))))) (gName 1))
  (tSeq (tIfS (tTest (tOp rEq (tOp (rI (fun _ j => 0 < j) fun i j => .int (i % j)) (tOp (rI CDiv fun i j => .int (i / j)) (tVar 0) (tC (.int 16))) (tC (.int 8))) (tC (.int 5)))) (tRet (tOp (rIxL K) (mLst (tCons (mTup (tCons (tC (.int 8)) (tCons (mLst (tCons (tC (.int 3)) (tCons (tC (.int 3)) (tCons (tC (.int 1)) tNil)))) tNil))) (tCons (mTup (tCons (tC (.int 9)) (tCons (mLst (tCons (tC (.int 2)) (tCons (tC (.int 4)) (tCons (tC (.int 0)) (tCons (tC (.int 1)) tNil))))) tNil))) (tCons (mTup (tCons (tC (.int 9)) (tCons (mLst (tCons (tC (.int 4)) (tCons (tC (.int 3)) (tCons (tC (.int 2)) tNil)))) tNil))) (tCons (mTup (tCons (tC (.int 8)) (tCons (mLst (tCons (tC (.int 7)) (tCons (tC (.int 1)) tNil))) tNil))) tNil))))) (tOp (rI (fun _ j => 0 < j) fun i j => .int (i % j)) (tOp (rI CDiv fun i j => .int (i / j)) (tVar 0) (tC (.int 128))) (tC (.int 4))))) tNext)
  (tRet (tOp (rIxL K) (tVar 1) (tOp (rI (fun _ j => 0 < j) fun i j => .int (i % j)) (tVar 0) (tC (.int 16)))))))))
noncomputable abbrev N__law_pack_l : List Str := ["_law_cell_here", "_law_some"]
theorem rd__law_pack_l {K : PySem.W.Frag} {vs : List V} {H : Hp} {Q : VK} {E : XK} (h : sp__law_pack_l K vs H Q E) : t__law_pack_l K { nx := fun _ H' => Q .non H', rt := Q } (start N__law_pack_l vs) H := by
  obtain ⟨z, rfl, q⟩ := h
  show t__law_pack_l K _ [some _, none] _
  unfold t__law_pack_l
  have g0_0 := PkWs.nil H
  walk_at "rd"
  refine ⟨by simp [sizeLine_eq], fun la0 Ha0 _ sa0 ea0 => ?_⟩
  walk_at "rd"
  refine ⟨by simp [sizeLine_eq], fun ta0 Hb0 _ sb0 eb0 => ?_⟩
  have g0_1 := (g0_0.same (sa0.trans sb0)).snoc (x := .ref ta0) ⟨ta0, la0, 0, [0, 0], rfl, eb0, sb0 _ _ ea0, ⟨by decide, by decide, by decide, by decide +kernel⟩⟩
  walk_at "rd"
  refine ⟨by simp [sizeLine_eq], fun la1 Ha1 _ sa1 ea1 => ?_⟩
  walk_at "rd"
  refine ⟨by simp [sizeLine_eq], fun ta1 Hb1 _ sb1 eb1 => ?_⟩
  have g0_2 := (g0_1.same (sa1.trans sb1)).snoc (x := .ref ta1) ⟨ta1, la1, 1, [1], rfl, eb1, sb1 _ _ ea1, ⟨by decide, by decide, by decide, by decide +kernel⟩⟩
  walk_at "rd"
  refine ⟨by simp [sizeLine_eq], fun la2 Ha2 _ sa2 ea2 => ?_⟩
  walk_at "rd"
  refine ⟨by simp [sizeLine_eq], fun ta2 Hb2 _ sb2 eb2 => ?_⟩
  have g0_3 := (g0_2.same (sa2.trans sb2)).snoc (x := .ref ta2) ⟨ta2, la2, 2, [1, 1, 0], rfl, eb2, sb2 _ _ ea2, ⟨by decide, by decide, by decide, by decide +kernel⟩⟩
  walk_at "rd"
  refine ⟨by simp [sizeLine_eq], fun la3 Ha3 _ sa3 ea3 => ?_⟩
  walk_at "rd"
  refine ⟨by simp [sizeLine_eq], fun ta3 Hb3 _ sb3 eb3 => ?_⟩
  have g0_4 := (g0_3.same (sa3.trans sb3)).snoc (x := .ref ta3) ⟨ta3, la3, 3, [1, 1, 1], rfl, eb3, sb3 _ _ ea3, ⟨by decide, by decide, by decide, by decide +kernel⟩⟩
  walk_at "rd"
  refine ⟨by simp [sizeLine_eq], fun la4 Ha4 _ sa4 ea4 => ?_⟩
  walk_at "rd"
  refine ⟨by simp [sizeLine_eq], fun ta4 Hb4 _ sb4 eb4 => ?_⟩
  have g0_5 := (g0_4.same (sa4.trans sb4)).snoc (x := .ref ta4) ⟨ta4, la4, 4, [2, 1, 1], rfl, eb4, sb4 _ _ ea4, ⟨by decide, by decide, by decide, by decide +kernel⟩⟩
  walk_at "rd"
  refine ⟨by simp [sizeLine_eq], fun la5 Ha5 _ sa5 ea5 => ?_⟩
  walk_at "rd"
  refine ⟨by simp [sizeLine_eq], fun ta5 Hb5 _ sb5 eb5 => ?_⟩
  have g0_6 := (g0_5.same (sa5.trans sb5)).snoc (x := .ref ta5) ⟨ta5, la5, 4, [1, 0, 2], rfl, eb5, sb5 _ _ ea5, ⟨by decide, by decide, by decide, by decide +kernel⟩⟩
  walk_at "rd"
  refine ⟨by simp [sizeLine_eq], fun la6 Ha6 _ sa6 ea6 => ?_⟩
  walk_at "rd"
  refine ⟨by simp [sizeLine_eq], fun ta6 Hb6 _ sb6 eb6 => ?_⟩
  have g0_7 := (g0_6.same (sa6.trans sb6)).snoc (x := .ref ta6) ⟨ta6, la6, 5, [2, 2, 1], rfl, eb6, sb6 _ _ ea6, ⟨by decide, by decide, by decide, by decide +kernel⟩⟩
  walk_at "rd"
  refine ⟨by simp [sizeLine_eq], fun ll0 Hl0 _ sl0 el0 => ?_⟩
  have gl0 := g0_7.same sl0
  have sg0 := ((((((((Same.refl H).trans (sa0.trans sb0)).trans (sa1.trans sb1)).trans (sa2.trans sb2)).trans (sa3.trans sb3)).trans (sa4.trans sb4)).trans (sa5.trans sb5)).trans (sa6.trans sb6)).trans sl0
  have S0 : Same H Hl0 := sg0
  have A0 := gl0
  have g1_0 := PkWs.nil Hl0
  walk_at "rd"
  refine ⟨by simp [sizeLine_eq], fun la7 Ha7 _ sa7 ea7 => ?_⟩
  walk_at "rd"
  refine ⟨by simp [sizeLine_eq], fun ta7 Hb7 _ sb7 eb7 => ?_⟩
  have g1_8 := (g1_0.same (sa7.trans sb7)).snoc (x := .ref ta7) ⟨ta7, la7, 5, [3, 1], rfl, eb7, sb7 _ _ ea7, ⟨by decide, by decide, by decide, by decide +kernel⟩⟩
  walk_at "rd"
  refine ⟨by simp [sizeLine_eq], fun la8 Ha8 _ sa8 ea8 => ?_⟩
  walk_at "rd"
  refine ⟨by simp [sizeLine_eq], fun ta8 Hb8 _ sb8 eb8 => ?_⟩
  have g1_9 := (g1_8.same (sa8.trans sb8)).snoc (x := .ref ta8) ⟨ta8, la8, 6, [3, 2, 1], rfl, eb8, sb8 _ _ ea8, ⟨by decide, by decide, by decide, by decide +kernel⟩⟩
  walk_at "rd"
  refine ⟨by simp [sizeLine_eq], fun la9 Ha9 _ sa9 ea9 => ?_⟩
  walk_at "rd"
  refine ⟨by simp [sizeLine_eq], fun ta9 Hb9 _ sb9 eb9 => ?_⟩
  have g1_10 := (g1_9.same (sa9.trans sb9)).snoc (x := .ref ta9) ⟨ta9, la9, 6, [2, 2, 2], rfl, eb9, sb9 _ _ ea9, ⟨by decide, by decide, by decide, by decide +kernel⟩⟩
  walk_at "rd"
  refine ⟨by simp [sizeLine_eq], fun la10 Ha10 _ sa10 ea10 => ?_⟩
  walk_at "rd"
  refine ⟨by simp [sizeLine_eq], fun ta10 Hb10 _ sb10 eb10 => ?_⟩
  have g1_11 := (g1_10.same (sa10.trans sb10)).snoc (x := .ref ta10) ⟨ta10, la10, 7, [3, 3, 1], rfl, eb10, sb10 _ _ ea10, ⟨by decide, by decide, by decide, by decide +kernel⟩⟩
  walk_at "rd"
  refine ⟨by simp [sizeLine_eq], fun la11 Ha11 _ sa11 ea11 => ?_⟩
  walk_at "rd"
  refine ⟨by simp [sizeLine_eq], fun ta11 Hb11 _ sb11 eb11 => ?_⟩
  have g1_12 := (g1_11.same (sa11.trans sb11)).snoc (x := .ref ta11) ⟨ta11, la11, 7, [1, 1, 1, 1, 1], rfl, eb11, sb11 _ _ ea11, ⟨by decide, by decide, by decide, by decide +kernel⟩⟩
  walk_at "rd"
  refine ⟨by simp [sizeLine_eq], fun la12 Ha12 _ sa12 ea12 => ?_⟩
  walk_at "rd"
  refine ⟨by simp [sizeLine_eq], fun ta12 Hb12 _ sb12 eb12 => ?_⟩
  have g1_13 := (g1_12.same (sa12.trans sb12)).snoc (x := .ref ta12) ⟨ta12, la12, 3, [0, 2, 0, 1], rfl, eb12, sb12 _ _ ea12, ⟨by decide, by decide, by decide, by decide +kernel⟩⟩
  walk_at "rd"
  refine ⟨by simp [sizeLine_eq], fun ll1 Hl1 _ sl1 el1 => ?_⟩
  have gl1 := g1_13.same sl1
  have sg1 := (((((((Same.refl Hl0).trans (sa7.trans sb7)).trans (sa8.trans sb8)).trans (sa9.trans sb9)).trans (sa10.trans sb10)).trans (sa11.trans sb11)).trans (sa12.trans sb12)).trans sl1
  walk_at "rd"
  refine m_cat (sg1 _ _ el0) el1 (by simp [sizeLine_eq]) fun lc1 Hc1 _ sc1 ec1 => ?_
  have A1 := ((A0.same sg1).app gl1).same sc1
  have S1 := S0.trans (sg1.trans sc1)
  have g2_0 := PkWs.nil Hc1
  walk_at "rd"
  refine ⟨by simp [sizeLine_eq], fun la13 Ha13 _ sa13 ea13 => ?_⟩
  walk_at "rd"
  refine ⟨by simp [sizeLine_eq], fun ta13 Hb13 _ sb13 eb13 => ?_⟩
  have g2_14 := (g2_0.same (sa13.trans sb13)).snoc (x := .ref ta13) ⟨ta13, la13, 5, [5], rfl, eb13, sb13 _ _ ea13, ⟨by decide, by decide, by decide, by decide +kernel⟩⟩
  walk_at "rd"
  refine ⟨by simp [sizeLine_eq], fun la14 Ha14 _ sa14 ea14 => ?_⟩
  walk_at "rd"
  refine ⟨by simp [sizeLine_eq], fun ta14 Hb14 _ sb14 eb14 => ?_⟩
  have g2_15 := (g2_14.same (sa14.trans sb14)).snoc (x := .ref ta14) ⟨ta14, la14, 6, [4, 2], rfl, eb14, sb14 _ _ ea14, ⟨by decide, by decide, by decide, by decide +kernel⟩⟩
  walk_at "rd"
  refine ⟨by simp [sizeLine_eq], fun la15 Ha15 _ sa15 ea15 => ?_⟩
  walk_at "rd"
  refine ⟨by simp [sizeLine_eq], fun ta15 Hb15 _ sb15 eb15 => ?_⟩
  have g2_16 := (g2_15.same (sa15.trans sb15)).snoc (x := .ref ta15) ⟨ta15, la15, 7, [2, 4], rfl, eb15, sb15 _ _ ea15, ⟨by decide, by decide, by decide, by decide +kernel⟩⟩
  walk_at "rd"
  refine ⟨by simp [sizeLine_eq], fun ll2 Hl2 _ sl2 el2 => ?_⟩
  have gl2 := g2_16.same sl2
  have sg2 := ((((Same.refl Hc1).trans (sa13.trans sb13)).trans (sa14.trans sb14)).trans (sa15.trans sb15)).trans sl2
  walk_at "rd"
  refine m_cat (sg2 _ _ ec1) el2 (by simp [sizeLine_eq]) fun lc2 Hc2 _ sc2 ec2 => ?_
  have A2 := ((A1.same sg2).app gl2).same sc2
  have S2 := S1.trans (sg2.trans sc2)
  obtain ⟨XS, eXS, lXS, pXS⟩ : ∃ XS : List V, Hc2 lc2 = some (.lst XS) ∧ XS.length = 16 ∧ PkWs Hc2 XS := ⟨_, ec2, rfl, A2⟩
  walk_at "rd"
  refine ite_dec (fun hA => ?_) (fun hA => ?_)
  · walk_at "rd"
    have g3_0 := PkWs.nil Hc2
    walk_at "rd"
    refine ⟨by simp [sizeLine_eq], fun la16 Ha16 _ sa16 ea16 => ?_⟩
    walk_at "rd"
    refine ⟨by simp [sizeLine_eq], fun ta16 Hb16 _ sb16 eb16 => ?_⟩
    have g3_17 := (g3_0.same (sa16.trans sb16)).snoc (x := .ref ta16) ⟨ta16, la16, 8, [3, 3, 1], rfl, eb16, sb16 _ _ ea16, ⟨by decide, by decide, by decide, by decide +kernel⟩⟩
    walk_at "rd"
    refine ⟨by simp [sizeLine_eq], fun la17 Ha17 _ sa17 ea17 => ?_⟩
    walk_at "rd"
    refine ⟨by simp [sizeLine_eq], fun ta17 Hb17 _ sb17 eb17 => ?_⟩
    have g3_18 := (g3_17.same (sa17.trans sb17)).snoc (x := .ref ta17) ⟨ta17, la17, 9, [2, 4, 0, 1], rfl, eb17, sb17 _ _ ea17, ⟨by decide, by decide, by decide, by decide +kernel⟩⟩
    walk_at "rd"
    refine ⟨by simp [sizeLine_eq], fun la18 Ha18 _ sa18 ea18 => ?_⟩
    walk_at "rd"
    refine ⟨by simp [sizeLine_eq], fun ta18 Hb18 _ sb18 eb18 => ?_⟩
    have g3_19 := (g3_18.same (sa18.trans sb18)).snoc (x := .ref ta18) ⟨ta18, la18, 9, [4, 3, 2], rfl, eb18, sb18 _ _ ea18, ⟨by decide, by decide, by decide, by decide +kernel⟩⟩
    walk_at "rd"
    refine ⟨by simp [sizeLine_eq], fun la19 Ha19 _ sa19 ea19 => ?_⟩
    walk_at "rd"
    refine ⟨by simp [sizeLine_eq], fun ta19 Hb19 _ sb19 eb19 => ?_⟩
    have g3_20 := (g3_19.same (sa19.trans sb19)).snoc (x := .ref ta19) ⟨ta19, la19, 8, [7, 1], rfl, eb19, sb19 _ _ ea19, ⟨by decide, by decide, by decide, by decide +kernel⟩⟩
    walk_at "rd"
    refine ⟨by simp [sizeLine_eq], fun ll3 Hl3 _ sl3 el3 => ?_⟩
    have gl3 := g3_20.same sl3
    have sg3 := (((((Same.refl Hc2).trans (sa16.trans sb16)).trans (sa17.trans sb17)).trans (sa18.trans sb18)).trans (sa19.trans sb19)).trans sl3
    obtain ⟨YS, eYS, lYS, pYS⟩ : ∃ YS : List V, Hl3 ll3 = some (.lst YS) ∧ YS.length = 4 ∧ PkWs Hl3 YS := ⟨_, el3, rfl, gl3⟩
    obtain ⟨x, hx, hxm⟩ := at_mod YS (z / 128) (m := 4) lYS (by decide)
    walk_at "rd"
    refine r_ixL (SqL.of eYS) hx ?_
    obtain ⟨t, l, c, ss, rfl, e1, e2, pr⟩ := pYS x hxm
    exact q t l c ss Hl3 (S2.trans sg3) e1 e2 pr
  · walk_at "rd"
    obtain ⟨x, hx, hxm⟩ := at_mod XS z (m := 16) lXS (by decide)
    refine r_ixL (SqL.of eXS) hx ?_
    obtain ⟨t, l, c, ss, rfl, e1, e2, pr⟩ := pXS x hxm
    exact q t l c ss Hc2 S2 e1 e2 pr
/-! ### what is left of each -/
theorem holdN_pos {c k : Nat} (hk : k ≤ c) : 1 ≤ (holdN c k).length := by
  have hb : bitsN c (2 ^ k - 1) ∈ holdN c k := by
    refine (mem_holdN hk).mpr ⟨⟨2 ^ k - 1, ?_, rfl⟩, ?_⟩
    · have := Nat.pow_le_pow_right (n := 2) (by decide) hk
      have := Nat.two_pow_pos k
      omega
    · unfold bitsN
      rw [show ((List.range c).filter fun j => (2 ^ k - 1) / 2 ^ j % 2 == 1) = List.range k from ?_, List.length_range]
      have e : List.range c = List.range k ++ (List.range (c - k)).map (k + ·) := by
        rw [← List.range_add, Nat.add_sub_cancel' hk]
      have bit : ∀ j, ((2 ^ k - 1) / 2 ^ j % 2 == 1) = decide (j < k) := fun j => by
        have := Nat.testBit_two_pow_sub_one k j
        rw [Nat.testBit_eq_decide_div_mod_eq] at this
        rw [← this]
        rfl
      rw [e, List.filter_append, List.filter_eq_self.mpr fun j hj => by rw [bit]; exact decide_eq_true (List.mem_range.mp hj), List.filter_eq_nil_iff.mpr fun j hj => ?_, List.append_nil]
      obtain ⟨i, _, rfl⟩ := List.mem_map.mp hj
      rw [bit]
      simp
  exact List.length_pos_of_mem hb
noncomputable def keyW (w : List Int) : MK := .inr (w.map fun n => (Sum.inl (some n) : IK))
theorem keyW_inj {v w : List Int} (h : keyW v = keyW w) : v = w := by
  injection h with h
  induction v generalizing w with
  | nil => cases w with
    | nil => rfl
    | cons _ _ => cases h
  | cons a v ih => cases w with
    | nil => cases h
    | cons b w =>
      injection h with h1 h2
      injection h1 with h1
      injection h1 with h1
      rw [h1, ih h2]
noncomputable def lefts (hs done : List (List Int)) (w : List Int) : Int := (if w ∈ hs then 1 else 0) - (done.count w : Int)
structure FI (hs done : List (List Int)) (f : MK → Option V) : Prop where
  at_ : ∀ w, f (keyW w) = if w ∈ hs ∨ w ∈ done then some (.int (lefts hs done w)) else none
  key : ∀ k v, f (.inr k) = some v → ∃ w, keyW w = .inr k
theorem FI.one {hs : List (List Int)} {f : MK → Option V} {w : List Int} (h : FI hs [] f) : FI (hs ++ [w]) [] (putF_ f (keyW w) (.int 1)) := by
  refine ⟨fun v => ?_, fun k v e => ?_⟩
  · show (if keyW v = keyW w then some (V.int 1) else f (keyW v)) = _
    by_cases e : v = w
    · subst e
      rw [if_pos rfl, if_pos (.inl (by simp))]
      unfold lefts
      rw [if_pos (by simp), List.count_nil]
      rfl
    · rw [if_neg fun z => e (keyW_inj z), h.at_ v]
      have e1 : (v ∈ hs ++ [w] ∨ v ∈ ([] : List (List Int))) ↔ (v ∈ hs ∨ v ∈ ([] : List (List Int))) := by simp [e]
      unfold lefts
      by_cases m : v ∈ hs
      · rw [if_pos (.inl m), if_pos (e1.mpr (.inl m)), if_pos m, if_pos (List.mem_append_left _ m)]
      · rw [if_neg (by simp [m]), if_neg (by simp [m, e])]
  · by_cases z : (Sum.inr k : MK) = keyW w
    · exact ⟨w, z.symm⟩
    · have e' : (if (Sum.inr k : MK) = keyW w then some (V.int 1) else f (.inr k)) = some v := e
      rw [if_neg z] at e'
      exact h.key k v e'
theorem FI.get {hs done : List (List Int)} {f : MK → Option V} (h : FI hs done f) (w : List Int) : (f (keyW w)).getD (.int 0) = .int (lefts hs done w) := by
  rw [h.at_ w]
  by_cases m : w ∈ hs ∨ w ∈ done
  · rw [if_pos m]; rfl
  · rw [if_neg m]
    unfold lefts
    rw [if_neg (fun z => m (.inl z)), List.count_eq_zero_of_not_mem (fun z => m (.inr z))]
    rfl
theorem FI.less {hs done : List (List Int)} {f : MK → Option V} {w : List Int} (h : FI hs done f) : FI hs (done ++ [w]) (putF_ f (keyW w) (.int (lefts hs done w - 1))) := by
  refine ⟨fun v => ?_, fun k v e => ?_⟩
  · show (if keyW v = keyW w then some (V.int (lefts hs done w - 1)) else f (keyW v)) = _
    by_cases e : v = w
    · subst e
      rw [if_pos rfl, if_pos (.inr (by simp))]
      unfold lefts
      rw [List.count_append, List.count_singleton_self]
      congr 2
      omega
    · rw [if_neg fun z => e (keyW_inj z), h.at_ v]
      have e1 : (v ∈ hs ∨ v ∈ done ++ [w]) ↔ (v ∈ hs ∨ v ∈ done) := by simp [e]
      have e2 : lefts hs (done ++ [w]) v = lefts hs done v := by
        unfold lefts
        rw [List.count_append, List.count_eq_zero_of_not_mem (a := v) (l := [w]) (by simp [e]), Nat.add_zero]
      rw [e2]
      by_cases m : v ∈ hs ∨ v ∈ done
      · rw [if_pos m, if_pos (e1.mpr m)]
      · rw [if_neg m, if_neg fun z => m (e1.mp z)]
  · by_cases z : (Sum.inr k : MK) = keyW w
    · exact ⟨w, z.symm⟩
    · have e' : (if (Sum.inr k : MK) = keyW w then some (V.int (lefts hs done w - 1)) else f (.inr k)) = some v := e
      rw [if_neg z] at e'
      exact h.key k v e'
theorem nd_count : ∀ {hs : List (List Int)} {w : List Int}, hs.Nodup → hs.count w = if w ∈ hs then 1 else 0
  | [], w, _ => rfl
  | a :: hs, w, nd => by
    obtain ⟨h1, h2⟩ := List.nodup_cons.mp nd
    rw [List.count_cons, nd_count h2]
    by_cases e : a = w
    · subst e
      rw [if_neg h1]
      simp
    · rw [show (a == w) = false from beq_eq_false_iff_ne.mpr e]
      have : w ∈ a :: hs ↔ w ∈ hs := by simp [Ne.symm e]
      by_cases m : w ∈ hs
      · rw [if_pos m, if_pos (this.mpr m)]; rfl
      · rw [if_neg m, if_neg fun z => m (this.mp z)]; rfl
theorem left_perm {hs done : List (List Int)} (nd : hs.Nodup) : done.Perm hs ↔ ∀ w, w ∈ hs ∨ w ∈ done → lefts hs done w = 0 := by
  have key : ∀ w, lefts hs done w = (hs.count w : Int) - (done.count w : Int) := fun w => by
    unfold lefts
    rw [nd_count nd]
    split <;> rfl
  rw [List.perm_iff_count]
  constructor
  · intro h w _
    rw [key, h w]
    omega
  · intro h w
    by_cases m : w ∈ hs ∨ w ∈ done
    · have := h w m
      rw [key] at this
      omega
    · rw [List.count_eq_zero_of_not_mem fun z => m (.inl z), List.count_eq_zero_of_not_mem fun z => m (.inr z)]
theorem off_up5 {H : Hp} (a : Addr) (u : HO) : Off a H (upd H a u) := fun _ h => upd_ne h
noncomputable def sp__law_due (_ : PySem.W.Frag) : Sp := fun vs H Q _ => ∃ (p h : Addr) (L : List (List (List Int))) (hs : List (List Int)), vs = [.ref p, .ref h] ∧ WordsI H p L ∧ RowsI H h hs ∧ hs.Nodup ∧ Fine L ∧ hs.length ≤ 126 ∧ ∀ (b : Bool) H', Same H H' → (b = true ↔ L.flatten.Perm hs) → Q (.bl b) H'
noncomputable def t__law_due (K : PySem.W.Frag) : TS := (tSeq (tAsg mDnewX (gName 2))
  (tSeq (tFor (iList K (tVar 1)) (gName 3) (tAsg (tC (.int 1)) (gSub (tVar 2) (tVar 3) rXSet)))
  (tSeq (tFor (iList K (tVar 0)) (gName 4) (tFor (iList K (tVar 4)) (gName 3) (tAsg (tOp (rI0 fun i j => .int (i - j)) (tXM rXGet2 (tVar 2) (tCons (tVar 3) (tCons (tC (.int 0)) tNil))) (tC (.int 1))) (gSub (tVar 2) (tVar 3) rXSet))))
  (tRet (tCB (cAll K) (tCons (tComp (iValsX (tVar 2)) (fun _ _ _ _ => (gName 0)) (fun _ _ _ _ => tAlways) (fun _ _ _ _ => (tOp rEq (tVar 0) (tC (.int 0)))) [none]) tNil))))))
theorem len__law_due {K : PySem.W.Frag} {vs : List V} {H : Hp} {Q : VK} {E : XK} (h : sp__law_due K vs H Q E) : vs.length = 2 := by
  obtain ⟨p, h, L, hs, rfl, W, R, nd, fn, hl, q⟩ := h
  rfl
theorem rd__law_due {K : PySem.W.Frag} {vs : List V} {H : Hp} {Q : VK} {E : XK} (h : sp__law_due K vs H Q E) : t__law_due K { nx := fun _ H' => Q .non H', rt := Q } (start ["_law_lists_here", "_law_holdings_here", "_law_left", "_law_held", "_law_some"] vs) H := by
  obtain ⟨p, h, L, hs, rfl, W, R, nd, fn, hl, q⟩ := h
  show t__law_due K _ [some _, some _, none, none, none] _
  unfold t__law_due
  obtain ⟨ls, ep, pl⟩ := id W
  obtain ⟨ts, eh, th⟩ := id R
  have hll := pairedLen5 pl
  have htl := pairedLen5 th
  have hff := fn.flat
  walk_at "rd"
  refine m_dnewX true fun d H1 hd s1 D1 => ?_
  have dh : h ≠ d := fun z => by rw [z, hd] at eh; cases eh
  walk_at "rd"
  refine lp_list (ts.map V.ref) (SqL.of (s1 _ _ eh)) (fun i σ H2 => ∃ (u3 u4 : Option V) (f : MK → Option V), σ = [some (.ref p), some (.ref h), some (.ref d), u3, u4] ∧ Same H H2 ∧ Dx H2 d true f i ∧ FI (hs.take i) [] f) ⟨_, _, _, rfl, s1, D1, ⟨fun w => by rw [List.take_zero, if_neg (by simp)], fun k v e => by cases e⟩⟩ (fun i σ H2 _ ⟨_, _, _, _, s2, _⟩ => SqL.of (s2 _ _ eh)) ?_ ?_
  · rintro i x σ H2 hx ⟨u3, u4, f, rfl, s2, D2, F2⟩
    obtain ⟨t, ht, rfl⟩ := ref_of5 hx
    obtain ⟨w, hw, et⟩ := pairedAt th ht
    have hi := (List.getElem?_eq_some_iff.mp hw).1
    walk_at "rd"
    refine r_xset D2 (key_tup (s2 _ _ et)) rfl (by rw [sizeLine_eq]; omega) fun H3 o3 D3 => ?_
    walk_at "rd"
    exact ⟨_, _, _, rfl, s2.off hd o3, D3, by rw [take_snoc5 hw]; exact F2.one⟩
  rintro σ H2 ⟨u3, u4, f, rfl, s2, D2, F2⟩
  rw [List.length_map, htl] at D2 F2
  rw [List.take_length] at F2
  walk_at "rd"
  refine lp_list (ls.map V.ref) (SqL.of (s2 _ _ ep)) (fun i σ H3 => ∃ (u3 u4 : Option V) (f : MK → Option V), σ = [some (.ref p), some (.ref h), some (.ref d), u3, u4] ∧ Same H H3 ∧ Dx H3 d true f (hs.length + (L.take i).flatten.length) ∧ FI hs (L.take i).flatten f) ⟨_, _, f, rfl, s2, by rw [List.take_zero]; exact D2, F2⟩ (fun i σ H3 _ ⟨_, _, _, _, s3, _⟩ => SqL.of (s3 _ _ ep)) ?_ ?_
  · rintro i x σ H3 hx ⟨u3, u4, f, rfl, s3, D3, F3⟩
    obtain ⟨r, hr, rfl⟩ := ref_of5 hx
    obtain ⟨l, hli, rs, er, tr⟩ := pairedAt pl hr
    have hrl := pairedLen5 tr
    have hsn : (L.take (i + 1)).flatten = (L.take i).flatten ++ l := by rw [take_snoc5 hli, List.flatten_append, List.flatten_singleton]
    have hb : (L.take i).flatten.length + l.length ≤ 42000 := by
      rw [← List.length_append, ← hsn]
      refine Nat.le_trans ?_ hff
      rw [← List.take_append_drop (i + 1) L, List.flatten_append, List.length_append]
      simp
    walk_at "rd"
    refine lp_list (rs.map V.ref) (SqL.of (s3 _ _ er)) (fun j σ H4 => ∃ (u3 : Option V) (f : MK → Option V), σ = [some (.ref p), some (.ref h), some (.ref d), u3, some (.ref r)] ∧ Same H H4 ∧ Dx H4 d true f (hs.length + (L.take i).flatten.length + j) ∧ FI hs ((L.take i).flatten ++ l.take j) f) ⟨_, f, rfl, s3, D3, by rw [List.take_zero, List.append_nil]; exact F3⟩ (fun j σ H4 _ ⟨_, _, _, s4, _⟩ => SqL.of (s4 _ _ er)) ?_ ?_
    · rintro j x σ H4 hx ⟨u3, f, rfl, s4, D4, F4⟩
      obtain ⟨t, ht, rfl⟩ := ref_of5 hx
      obtain ⟨w, hw, et⟩ := pairedAt tr ht
      have hj := (List.getElem?_eq_some_iff.mp hw).1
      have hk : KeyV H4 (.ref t) (keyW w) := key_tup (s4 _ _ et)
      walk_at "rd"
      refine r_xm ?_
      walk_at "rd"
      refine ⟨⟨d, true, f, _, rfl, D4⟩, ?_⟩
      walk_at "rd"
      refine r_xget2 D4 hk rfl ?_
      rw [F4.get w]
      walk_at "rd"
      refine r_xset D4 hk rfl (by rw [sizeLine_eq]; omega) fun H5 o5 D5 => ?_
      walk_at "rd"
      exact ⟨_, _, rfl, s4.off hd o5, D5, by rw [take_snoc5 hw, ← List.append_assoc]; exact F4.less⟩
    rintro σ H4 ⟨u3, f, rfl, s4, D4, F4⟩
    rw [List.length_map, hrl] at D4 F4
    rw [List.take_length] at F4
    walk_at "rd"
    exact ⟨_, _, f, rfl, s4, by rw [hsn, List.length_append, ← Nat.add_assoc]; exact D4, by rw [hsn]; exact F4⟩
  rintro σ H3 ⟨u3, u4, f, rfl, s3, D3, F3⟩
  rw [List.length_map, hll, List.take_length] at D3 F3
  walk_at "rd"
  refine r_iValsX ?_
  walk_at "rd"
  refine lc_valsX D3 (by omega) (fun vs j acc _ => ∃ bs : List Bool, acc = bs.map V.bl ∧ bs.length = j ∧ ∀ (i : Nat) (b : Bool) (x : Int), bs[i]? = some b → vs[i]? = some (.int x) → b = decide (x = 0)) (fun _ _ => ⟨[], rfl, rfl, fun _ _ _ h => by cases h⟩) ?_ ?_
  · rintro vs u p2 hp2 C s' H' fp i x acc H4 hx ⟨k, hk⟩ ⟨s4, e4, l4, bs, rfl, hbl, hb⟩
    obtain ⟨w, hw⟩ := F3.key k x hk
    obtain ⟨y, rfl⟩ : ∃ y : Int, x = .int y := by
      rw [← hw, F3.at_] at hk
      split at hk
      · cases hk; exact ⟨_, rfl⟩
      · cases hk
    walk_at "rd"
    refine CInv.put hp2 (fun _ _ _ _ r _ => r) s4 e4 l4 ⟨bs ++ [decide (y = 0)], by rw [List.map_append]; rfl, by rw [List.length_append, hbl]; rfl, fun j b x' h1 h2 => ?_⟩
    by_cases hj : j < bs.length
    · rw [List.getElem?_append_left hj] at h1
      exact hb j b x' h1 h2
    · have hj2 : j = i := by
        have := (List.getElem?_eq_some_iff.mp h1).1
        rw [List.length_append, List.length_singleton] at this
        omega
      subst hj2
      rw [List.getElem?_append_right (by omega), hbl, Nat.sub_self] at h1
      cases h1
      rw [hx] at h2
      cases h2
      rfl
  rintro ks vs u hks hvs p2 acc H4 hp2 s4 e4 ⟨bs, rfl, hbl, hb⟩
  walk_at "rd"
  refine ⟨p2, bs, rfl, SqL.of e4, ?_⟩
  refine q _ H4 ((s3.off hd (off_up5 d u)).trans s4) ?_
  rw [left_perm nd]
  have hlen : vs.length = ks.length := by have := congrArg List.length hvs; rwa [List.length_map, List.length_map] at this
  constructor
  · intro ha w hw
    have hf : f (keyW w) = some (.int (lefts hs L.flatten w)) := by rw [F3.at_, if_pos hw]
    have hm : (w.map fun n => (Sum.inl (some n) : IK)) ∈ ks := (hks _).mpr (by show (f (keyW w)).isSome = true; rw [hf]; rfl)
    obtain ⟨i, hi⟩ := List.getElem?_of_mem hm
    have hv : vs[i]? = some (.int (lefts hs L.flatten w)) := by
      have e := congrArg (fun l => l[i]?) hvs
      simp only [List.getElem?_map, hi, Option.map_some] at e
      have e' : Option.map some vs[i]? = some (f (keyW w)) := e
      rw [hf] at e'
      obtain ⟨x, h1, h2⟩ := Option.map_eq_some_iff.mp e'
      rw [h1, h2]
    obtain ⟨b, hbi⟩ : ∃ b, bs[i]? = some b := ⟨bs[i]'(by rw [hbl]; exact (List.getElem?_eq_some_iff.mp hv).1), List.getElem?_eq_getElem _⟩
    have e := hb i b _ hbi hv
    have : b = true := List.all_eq_true.mp ha b (List.mem_of_getElem? hbi)
    rw [this] at e
    exact of_decide_eq_true e.symm
  · intro ha
    refine List.all_eq_true.mpr fun b hbm => ?_
    obtain ⟨i, hi⟩ := List.getElem?_of_mem hbm
    have hiv : i < vs.length := by rw [← hbl]; exact (List.getElem?_eq_some_iff.mp hi).1
    obtain ⟨k, hk⟩ : ∃ k, ks[i]? = some k := ⟨ks[i]'(by omega), List.getElem?_eq_getElem _⟩
    have e := congrArg (fun l => l[i]?) hvs
    simp only [List.getElem?_map, hk, Option.map_some, List.getElem?_eq_getElem hiv] at e
    have e' : some (some vs[i]) = some (f (.inr k)) := e
    injection e' with e'
    obtain ⟨w, hw⟩ := F3.key k _ e'.symm
    rw [← hw, F3.at_] at e'
    by_cases m : w ∈ hs ∨ w ∈ L.flatten
    · rw [if_pos m, ha w m] at e'
      injection e' with e'
      have := hb i b 0 hi (by rw [List.getElem?_eq_getElem hiv, e'])
      rw [this]
      rfl
    · rw [if_neg m] at e'; cases e'
noncomputable def sp__law_told (K : PySem.W.Frag) : Sp := fun vs H Q _ => ∃ (c k : Nat) (z p : Addr) (ss : List Nat) (a : Nat) (L : List (List (List Int))) (due : Bool), vs = [.int (c : Int), .ref z, .int (a : Int), .ref p, .bl due] ∧ H z = some (.lst (natV ss)) ∧ Sz c k ss a ∧ WordsI H p L ∧ Fine L ∧ (due = true ↔ L.flatten.Perm ((holdN c k).map toI)) ∧ ∀ H', Same H H' → Q (.bl true) H'
noncomputable def t__law_told (K : PySem.W.Frag) : TS := (tSeq (tAsg (tComp (iList K (tVar 3)) (fun _ _ _ _ => (gName 0)) (fun _ _ _ _ => tAlways) (fun _ _ _ _ => (tCB (mCList K) (tCons (tVar 0) tNil))) [none]) (gName 5))
  (tSeq (tAsg (tCall (sp_is_code K) [] E0 (tCons (tVar 0) (tCons (tCB (mCList K) (tCons (tVar 1) tNil)) (tCons (tVar 2) (tCons (tVar 5) tNil))))) (gName 6))
  (tRet (tAndV (tOp (rSameD K false) (tVar 5) (tVar 3)) (tAndV (tCB (rIsi K) (tCons (tVar 6) (tCons (tC (.ty "bool")) tNil))) (tOp rEq (tVar 6) (tVar 4)))))))
theorem len__law_told {K : PySem.W.Frag} {vs : List V} {H : Hp} {Q : VK} {E : XK} (h : sp__law_told K vs H Q E) : vs.length = 5 := by
  obtain ⟨c, k, z, p, ss, a, L, due, rfl, ez, sz, W, fn, hdue, q⟩ := h
  rfl
theorem rd__law_told {K : PySem.W.Frag} {vs : List V} {H : Hp} {Q : VK} {E : XK} (h : sp__law_told K vs H Q E) : t__law_told K { nx := fun _ H' => Q .non H', rt := Q } (start ["_law_cards", "_law_sizes", "_law_hand", "_law_lists_here", "_law_due_here", "_law_handed", "_law_found"] vs) H := by
  obtain ⟨c, k, z, p, ss, a, L, due, rfl, ez, sz, W, fn, hdue, q⟩ := h
  show t__law_told K _ [some _, some _, some _, some _, some _, none, none] _
  unfold t__law_told
  obtain ⟨ls0, ep, pl0⟩ := id W
  have hl0 := pairedLen5 pl0
  have hL := fn.len
  walk_at "rd"
  refine lc_listW (ls0.map V.ref) (SqL.of ep) (by rw [List.length_map]; omega) (fun p j acc H2 => ∃ ls : List Addr, acc = ls.map V.ref ∧ Paired (RowsI H2) ls (L.take j) ∧ p ∉ ls) (fun _ _ _ => ⟨[], rfl, .nil, fun h => (nomatch h)⟩) ?_ ?_
  · rintro p2 hp2 C s' H' fp j x acc H2 hx ⟨s2, e2, l2, ls, rfl, pl, np⟩
    obtain ⟨q1, hq1, rfl⟩ := ref_of5 hx
    obtain ⟨l1, hl1, Dq⟩ := pairedAt pl0 hq1
    obtain ⟨rs, er, pr⟩ := Dq.sm s2
    walk_at "rd"
    refine m_list (SqL.of er) fun y H3 hy s3 e3 => ?_
    have yp : y ≠ p2 := fun z => by rw [z, e2] at hy; cases hy
    walk_at "rd"
    refine CInv.putW hp2 (s2.trans s3) (s3 _ _ e2) l2 fun H4 o4 => ⟨ls ++ [y], by rw [List.map_append]; rfl, ?_, ?_⟩
    · rw [take_snoc5 hl1]
      exact pairedSnoc (rows_off (Paired.mapP pl fun _ _ d => d.sm s3) o4 (s3 _ _ e2) fun q hq z => np (z ▸ hq)) (RowsI.off ⟨rs, e3, pr.same s3⟩ o4 (s3 _ _ e2) yp)
    · intro z
      rcases List.mem_append.mp z with z | z
      · exact np z
      · exact yp (List.mem_singleton.mp z).symm
  rintro hd acc H1 hm0 s1 e1 ⟨ls, rfl, pl, np⟩
  rw [List.length_map, hl0, List.take_length] at pl
  have W1 : WordsI H1 hd L := ⟨ls, e1, pl⟩
  walk_at "rd"
  refine m_list (SqL.of (s1 _ _ ez)) fun z2 H2 hz2 s2 e2 => ?_
  walk_at "rd"
  refine ⟨c, k, z2, hd, ss, a, L, rfl, e2, sz, W1.sm s2, fn, fun b H3 s3 hb => ?_⟩
  walk_at "rd"
  refine r_sameE 3 (by decide) (words_same (W1.sm (s2.trans s3)) (W.sm (s1.trans (s2.trans s3)))) ?_
  walk_at "rd"
  refine r_isi (.bl b) (kit_bool_bool K) ?_
  walk_at "rd"
  have : (b == due) = true := by
    rw [beq_iff_eq, Bool.eq_iff_iff]
    exact hb.trans hdue.symm
  rw [this]
  exact q H3 (s1.trans (s2.trans s3))
theorem cut_ints (ns : List Int) (lo hi : Option Int) : ∃ ms : List Int, cutV (ns.map V.int) lo hi = ms.map V.int ∧ ms.length ≤ ns.length := by
  unfold cutV
  rw [← List.map_drop, ← List.map_take]
  refine ⟨_, rfl, ?_⟩
  rw [List.length_take, List.length_drop]
  omega
noncomputable abbrev sp_law (K : PySem.W.Frag) : Sp := spLaw K
noncomputable def t_law (K : PySem.W.Frag) : TS := (tSeq (tAsg (tCall (sp__law_pack_l K) [] E0 (tCons (tCall (sp__law_cell_l K) [] E0 (tCons (tVar 0) (tCons (tC (.int 0)) tNil))) tNil)) (gTup K 2 (gCons (gName 1) (gCons (gName 2) gNil))))
  (tSeq (tAsg (tOp (rI (fun _ j => 0 < j) fun i j => .int (i % j)) (tCall (sp__law_cell_l K) [] E0 (tCons (tVar 0) (tCons (tC (.int 1)) tNil))) (tCB (cLen K) (tCons (tVar 2) tNil))) (gName 3))
  (tSeq (tAsg (tCall (sp__law_holdings K) [] E0 (tCons (tVar 1) (tCons (tOp (rIxL K) (tVar 2) (tVar 3)) tNil))) (gName 4))
  (tSeq (tAsg (tCall (sp__law_lists K) [] E0 (tCons (tCall (sp__law_cell_l K) [] E0 (tCons (tVar 0) (tCons (tC (.int 2)) tNil))) (tCons (tVar 4) tNil))) (gName 5))
  (tSeq (tIfS (tNot (tB (tCall (sp__law_told K) [] E0 (tCons (tVar 1) (tCons (tVar 2) (tCons (tVar 3) (tCons (tVar 5) (tCons (tC (.bl true)) tNil)))))))) (tRet (tC (.bl false))) tNext)
  (tSeq (tAsg (tOp (rIxL K) (mLst (tCons (tC (.int 24)) (tCons (tC (.int 10)) tNil))) (tCB cInt (tCons (tOp (rI0 fun i j => .bl (decide (j < i))) (tVar 1) (tC (.int 7))) tNil))) (gName 6))
  (tSeq (tFor (iList K (tOp mCat (tSl (mSlL K) (tVar 0) (tPart (tC (.int 4))) (tPart (tVar 6))) (mLst (tCons (tCall (sp__law_cell_l K) [] E0 (tCons (tVar 0) (tCons (tC (.int 3)) tNil))) tNil)))) (gName 7) (tSeq (tAsg (tCall (sp__law_otherwise K) [] E0 (tCons (tVar 5) (tCons (tVar 7) (tCons (tVar 1) tNil)))) (gName 8))
  (tSeq (tIfS (tNot (tB (tCall (sp__law_told K) [] E0 (tCons (tVar 1) (tCons (tVar 2) (tCons (tVar 3) (tCons (tVar 8) (tCons (tCall (sp__law_due K) [] E0 (tCons (tVar 8) (tCons (tVar 4) tNil))) tNil)))))))) (tRet (tC (.bl false))) tNext)
  (tIfS (tNot (tB (tCall (sp__law_told K) [] E0 (tCons (tVar 1) (tCons (tVar 2) (tCons (tVar 3) (tCons (tVar 5) (tCons (tC (.bl true)) tNil)))))))) (tRet (tC (.bl false))) tNext))))
  (tRet (tC (.bl true))))))))))
theorem len_law {K : PySem.W.Frag} {vs : List V} {H : Hp} {Q : VK} {E : XK} (h : sp_law K vs H Q E) : vs.length = 1 := by
  obtain ⟨a, ns, rfl, hSc, g⟩ := h
  rfl
theorem rd_law {K : PySem.W.Frag} {vs : List V} {H : Hp} {Q : VK} {E : XK} (h : sp_law K vs H Q E) : t_law K { nx := fun _ H' => Q .non H', rt := Q } (start ["_law_script", "_law_cards", "_law_sizes", "_law_hand", "_law_holdings_here", "_law_lists_here", "_law_many", "_law_cell_here", "_law_other"] vs) H := by
  obtain ⟨a, ns, rfl, hSc, g⟩ := h
  show t_law K _ [some _, none, none, none, none, none, none, none, none] _
  unfold t_law
  walk_at "rd"
  refine ⟨a, ns, 0, rfl, hSc, by omega, by omega, fun z0 => ?_⟩
  walk_at "rd"
  refine ⟨z0, rfl, fun t l c ss H1 s1 et el pk => ?_⟩
  refine g_pair (SqT.of et) ?_
  have hl1 := pk.l1
  have hl5 := pk.l5
  have c9 := pk.c9
  have hnl := natV_len ss
  walk_at "rs"
  refine r_seq_n fun N5 hN5 => ?_
  walk_at "rd"
  refine ⟨a, ns, 1, rfl, hSc.same s1, by omega, by omega, fun z1 => ?_⟩
  walk_at "rd"
  rw [natV_len]
  obtain ⟨ha, hha, hal⟩ : ∃ k : Nat, z1 % (ss.length : Int) = (k : Int) ∧ k < ss.length := by
    have a1 := Int.emod_nonneg z1 (b := (ss.length : Int)) (by omega)
    have a2 := Int.emod_lt_of_pos z1 (b := (ss.length : Int)) (by omega)
    exact ⟨(z1 % (ss.length : Int)).toNat, by omega, by omega⟩
  rw [hha]
  obtain ⟨k, hk⟩ : ∃ k, ss[ha]? = some k := ⟨_, List.getElem?_eq_getElem hal⟩
  have kf := pk.few k (List.mem_of_getElem? hk)
  have sz : Sz c k ss ha := ⟨by omega, kf.1, by have := kf.2; omega, hk⟩
  clear hnl hha
  refine hN5 _ _ ?_
  clear hN5
  walk_at "rd"
  refine r_ixL (SqL.of el) (v := .int (k : Int)) (atI_nat (by unfold natV; rw [List.getElem?_map, hk]; rfl)) ?_
  walk_at "rd"
  refine ⟨c, k, rfl, by omega, kf.1, fun hp H2 hhp s2 R2 => ?_⟩
  have bp : ((bitsTo c k (2 ^ c)).map toI).Perm ((holdN c k).map toI) := (bits_perm kf.1).map toI
  have hnd : ((bitsTo c k (2 ^ c)).map toI).Nodup := bp.nodup_iff.mpr (holdI_nd kf.1)
  have hlen : ((bitsTo c k (2 ^ c)).map toI).length = KM.multi c [k] := by rw [bp.length_eq, List.length_map, holdN_len kf.1]
  have hrow : ∀ w ∈ (bitsTo c k (2 ^ c)).map toI, w.length ≤ c := fun w hw => by
    obtain ⟨u, hu, rfl⟩ := List.mem_map.mp (bp.mem_iff.mp hw)
    have := holdN_short kf.1 hu
    unfold toI
    rw [List.length_map]
    exact this
  have hpos : 1 ≤ KM.multi c [k] := by
    rw [← holdN_len kf.1]
    exact holdN_pos kf.1
  generalize (bitsTo c k (2 ^ c)).map toI = hs at *
  have hk2 := kf.2
  walk_at "rd"
  refine ⟨a, ns, 2, rfl, (hSc.same s1).same s2, by omega, by omega, fun z2 => ?_⟩
  walk_at "rd"
  refine ⟨z2, hp, hs, rfl, R2, by omega, by omega, fun f L H3 hf s3 W3 pm hLl => ?_⟩
  have s13 := s2.trans s3
  have el3 := s13 _ _ el
  have rowL : ∀ l ∈ L, l.length ≤ 126 ∧ ∀ w ∈ l, w.length ≤ c := fun l hl => by
    have hsb := List.sublist_flatten_of_mem hl
    refine ⟨by have := hsb.length_le; rw [pm.length_eq] at this; omega, fun w hw => hrow w (pm.mem_iff.mp (hsb.subset hw))⟩
  have fnL : Fine L := ⟨by omega, fun l hl => ⟨by have := (rowL l hl).1; omega, fun w hw => by have := (rowL l hl).2 w hw; omega⟩⟩
  have smL : Small L c := ⟨hLl, rowL, c9, by
    have h0 : 0 < L.flatten.length := by rw [pm.length_eq]; omega
    obtain ⟨w, hw⟩ : ∃ w, w ∈ L.flatten := ⟨L.flatten[0], List.getElem_mem h0⟩
    obtain ⟨l, hl, hwl⟩ := List.mem_flatten.mp hw
    obtain ⟨i, hi⟩ := List.getElem?_of_mem hl
    exact ⟨i, l, hi, fun e => by rw [e] at hwl; cases hwl⟩⟩
  have pmH := pm.trans bp
  walk_at "rd"
  refine ⟨c, k, l, f, ss, ha, L, true, rfl, el3, sz, W3, fnL, ⟨fun _ => pmH, fun _ => rfl⟩, fun H4 s4 => ?_⟩
  walk_at "rs"
  refine r_seq_n fun N8 hN8 => ?_
  suffices main : ∀ (x6 : Int) (H5 : Hp), Same H4 H5 → N8 [some (.ref a), some (.int (c : Int)), some (.ref l), some (.int (ha : Int)), some (.ref hp), some (.ref f), some (.int x6), none, none] H5 by
    walk_at "rd"
    refine ⟨by simp [sizeLine_eq], fun l5 H5 hl5 s5 e5 => ?_⟩
    walk_at "rd"
    by_cases h7 : (7 : Int) < (c : Int)
    · rw [decide_eq_true h7]
      refine r_ixL (SqL.of e5) (v := .int 10) rfl ?_
      exact main 10 H5 s5
    · rw [decide_eq_false h7]
      refine r_ixL (SqL.of e5) (v := .int 24) rfl ?_
      exact main 24 H5 s5
  intro x6 H5 s5
  refine hN8 _ _ ?_
  clear hN8
  have s45 := s4.trans s5
  have s25 := s3.trans s45
  have sc5 := ((hSc.same s1).same s2).same s25
  obtain ⟨ms, hms, hml⟩ := cut_ints ns (some 4) (some x6)
  have hn63 := hSc.2.1
  walk_at "rd"
  refine m_slL sc5.1 fun sl6 H6 hsl6 s6 e6 => ?_
  rw [hms] at e6
  walk_at "rd"
  refine ⟨a, ns, 3, rfl, sc5.same s6, by omega, by omega, fun z3 => ?_⟩
  walk_at "rd"
  refine ⟨by simp [sizeLine_eq], fun l7 H7 hl7 s7 e7 => ?_⟩
  walk_at "rd"
  refine m_cat (s7 _ _ e6) e7 (by rw [List.length_map, sizeLine_eq]; simp; omega) fun l8 H8 hl8 s8 e8 => ?_
  have e8' : H8 l8 = some (.lst ((ms ++ [z3]).map V.int)) := by rw [e8, List.map_append]; rfl
  have s38 := s45.trans (s6.trans (s7.trans s8))
  have s28 := s3.trans s38
  refine lp_list ((ms ++ [z3]).map V.int) (SqL.of e8') (fun i σ H9 => ∃ (u7 u8 : Option V), σ = [some (.ref a), some (.int (c : Int)), some (.ref l), some (.int (ha : Int)), some (.ref hp), some (.ref f), some (.int x6), u7, u8] ∧ Same H8 H9) ⟨_, _, rfl, Same.refl _⟩ (fun i σ H9 _ ⟨_, _, _, s9⟩ => SqL.of (s9 _ _ e8')) ?_ ?_
  · rintro i x σ H9 hx ⟨u7, u8, rfl, s9⟩
    obtain ⟨y, hy, rfl⟩ := int_at hx
    clear hx hy
    have s39 := s38.trans s9
    walk_at "rd"
    refine ⟨f, y, c, L, rfl, W3.sm s39, smL, fun g1 HA dn => ?_⟩
    obtain ⟨sA, L', WA, fnA⟩ := dn
    have s3A := s39.trans sA
    walk_at "rd"
    refine ⟨g1, hp, L', hs, rfl, WA, (R2.sm s3).sm s3A, hnd, fnA, by omega, fun b HB sB hb => ?_⟩
    have s3B := s3A.trans sB
    walk_at "rd"
    refine ⟨c, k, l, g1, ss, ha, L', b, rfl, s3B _ _ el3, sz, WA.sm sB, fnA, hb.trans ⟨fun h => h.trans bp, fun h => h.trans bp.symm⟩, fun HC sC => ?_⟩
    walk_at "rd"
    have s3C := s3B.trans sC
    refine ⟨c, k, l, f, ss, ha, L, true, rfl, s3C _ _ el3, sz, W3.sm s3C, fnL, ⟨fun _ => pmH, fun _ => rfl⟩, fun HD sD => ?_⟩
    walk_at "rd"
    exact ⟨_, _, rfl, ((s9.trans sA).trans sB).trans (sC.trans sD)⟩
  · rintro σ H9 ⟨u7, u8, rfl, s9⟩
    walk_at "rd"
    exact g _

end L2

end

section
-- KcDxL
set_option Elab.async false
set_option linter.all false
set_option maxRecDepth 100000
set_option maxHeartbeats 4000000
namespace L2
open PySem PySem.Spec PyProof.Rows
section
variable {prog : Program} {w : World} {A : Around} {E : Value → Shared → Prop} {s : Shared}
theorem first_stop : firstArgMember (.type "StopIteration") [] = pure Value.none := by
  unfold firstArgMember
  (show (pure (if _ = true then Value.none else Value.none) : Sem Value) = _)
  rw [ite_self]
theorem stop_new {Q : Value → Shared → Prop} (h : ∀ (h' : Heap) (e : Addr), (∀ b ob, s.heap.get? b = some ob → h'.get? b = some ob) → (∃ o, h'.get? e = some o ∧ o.cls = .type "StopIteration") → Q (.ref e) { s with heap := h' }) : wpAny (model prog w) A (newExc (.type "StopIteration") []) Q E s := by
  unfold newExc
  refine wpAny_bind (wpAny_newTuple ?_)
  refine wpAny_bind (wpAny_of_eq first_stop ?_)
  refine wpAny_newObj_type ?_
  exact h _ _ (fun b ob e => Heap.get?_push_of_some _ (Heap.get?_push_of_some _ e)) ⟨_, Heap.get?_push_size _ rfl, rfl⟩
end
end L2

end

section
-- KcVaL
set_option Elab.async false
set_option linter.all false
set_option maxRecDepth 100000
set_option maxHeartbeats 4000000
namespace L2
open PySem PySem.Spec PyProof.Rows
section
variable {prog : Program} {w : World} {A : Around} {E : Value → Shared → Prop} {s : Shared}
theorem nextV_item {it d : Addr} {i ep : Nat} {od : Obj} {es : Array DictEntry} {e : DictEntry} {Q : Option Value → Shared → Prop} (hit : s.heap.IsValIter it d i es.size ep) (hod : s.heap.get? d = some od) (hdd : od.data = .dict es ep) (hi : es[i]? = some e)
    (hQ : ∀ h' : Heap, h'.IsValIter it d (i + 1) es.size ep → Heap.SameBut it s.heap h' → Q (some e.val) { s with heap := h' }) : wpAny (model prog w) A (pyNext (.ref it)) Q E s := by
  obtain ⟨o, ho, hc, hd⟩ := id hit
  unfold pyNext
  refine wpAny_bind (wpAny_attempt (wpAny_callSpecial?_slot (name := Str.ofString "__next__") hit.typeIs F.slot_dict_valueiterator_next
    (wpAny_call_entry F.slot_dict_valueiterator_next hit.typeIs F.entry_dict_valueiterator_next ?_ (F.args_dict_valueiterator_next_1 _))))
  refine wpAny_bind (wpAny_pure ?_)
  refine wpAny_bind ?_
  refine wpAny_bind ?_
  first | refine wpAny_bind (wpAny_typeNameOfWhole_valiter hit.typeIs (wpAny_pure ?_)) | refine wpAny_bind (wpAny_typeNameOf_valiter hit.typeIs (wpAny_pure ?_))
  refine wpAny_bind (wpAny_fieldsOf ho hd ?_)
  have hown : Builtin.Dict_items.ownsTuple "dict_valueiterator" = false := by decide
  simp only [hown, Bool.false_eq_true, if_false]
  show wpAny _ _ (if (Value.ref d == Value.none) = true then _ else _) _ _ s
  rw [if_neg (show ¬ ((Value.ref d == Value.none) = true) from Bool.false_ne_true)]
  refine wpAny_bind (wpAny_pure ?_)
  refine wpAny_bind (wpAny_dictEntries hod hdd ?_)
  rw [if_neg (by simp)]
  refine wpAny_bind (wpAny_pure ?_)
  refine wpAny_bind (wpAny_dictEpoch hod hdd ?_)
  rw [if_neg (by simp)]
  refine wpAny_pure ?_
  simp only [show ¬ ((i : Int) < 0) from by omega, if_false, Int.toNat_natCast, hi]
  refine wpAny_bind ?_
  first | refine wpAny_bind (wpAny_typeNameOfWhole_valiter hit.typeIs (wpAny_pure ?_)) | refine wpAny_bind (wpAny_typeNameOf_valiter hit.typeIs (wpAny_pure ?_))
  refine wpAny_bind (wpAny_isOneOf_valiter hit.typeIs ?_)
  show wpAny _ _ (setField (.ref it) 1 (rawInt ((i : Int) + 1)) >>= _) _ _ s
  refine wpAny_bind (wpAny_setField ho hd (by simp) ?_)
  have hit' : (s.heap.update it (Obj.mapFields (·.setIfInBounds 1 (rawInt ((i : Int) + 1))))).IsValIter it d (i + 1) es.size ep :=
    ⟨_, Heap.get?_update_self _ ho (Obj.isFreed_of_fields (Obj.data_mapFields hd _)), (Obj.cls_mapFields ..).trans hc, by rw [Obj.data_mapFields hd]; simp [rawInt]⟩
  refine wpAny_bind (wpAny_holding ?_)
  refine wpAny_bind (wpAny_isOneOf_valiter (s := { s with heap := s.heap.update it (Obj.mapFields (·.setIfInBounds 1 (rawInt ((i : Int) + 1)))) }) hit'.typeIs ?_)
  refine wpAny_bind (wpAny_isOneOf_valiter (s := { s with heap := s.heap.update it (Obj.mapFields (·.setIfInBounds 1 (rawInt ((i : Int) + 1)))) }) hit'.typeIs ?_)
  show wpAny _ _ (pure e.val) _ _ _
  exact wpAny_pure (wpAny_pure ⟨_, rfl, wpAny_pure (hQ _ hit' (Heap.SameBut.update ..))⟩)
theorem nextV_end {it d : Addr} {i ep : Nat} {od : Obj} {es : Array DictEntry} {Q : Option Value → Shared → Prop} (hh : A.handled = none) (hit : s.heap.IsValIter it d i es.size ep) (hod : s.heap.get? d = some od) (hdd : od.data = .dict es ep) (hi : es[i]? = none)
    (h : ∀ h' : Heap, (∀ b ob, b ≠ it → s.heap.get? b = some ob → h'.get? b = some ob) → Q none { s with heap := h' }) : wpAny (model prog w) A (pyNext (.ref it)) Q E s := by
  obtain ⟨o, ho, hc, hd⟩ := id hit
  unfold pyNext
  refine wpAny_bind (wpAny_attempt (wpAny_callSpecial?_slot (name := Str.ofString "__next__") hit.typeIs F.slot_dict_valueiterator_next
    (wpAny_call_entry F.slot_dict_valueiterator_next hit.typeIs F.entry_dict_valueiterator_next ?_ (F.args_dict_valueiterator_next_1 _))))
  refine wpAny_bind (wpAny_pure ?_)
  refine wpAny_bind ?_
  refine wpAny_bind ?_
  first | refine wpAny_bind (wpAny_typeNameOfWhole_valiter hit.typeIs (wpAny_pure ?_)) | refine wpAny_bind (wpAny_typeNameOf_valiter hit.typeIs (wpAny_pure ?_))
  refine wpAny_bind (wpAny_fieldsOf ho hd ?_)
  have hown : Builtin.Dict_items.ownsTuple "dict_valueiterator" = false := by decide
  simp only [hown, Bool.false_eq_true, if_false]
  show wpAny _ _ (if (Value.ref d == Value.none) = true then _ else _) _ _ s
  rw [if_neg (show ¬ ((Value.ref d == Value.none) = true) from Bool.false_ne_true)]
  refine wpAny_bind (wpAny_pure ?_)
  refine wpAny_bind (wpAny_dictEntries hod hdd ?_)
  rw [if_neg (by simp)]
  refine wpAny_bind (wpAny_pure ?_)
  refine wpAny_bind (wpAny_dictEpoch hod hdd ?_)
  rw [if_neg (by simp)]
  refine wpAny_pure ?_
  simp only [show ¬ ((i : Int) < 0) from by omega, if_false, Int.toNat_natCast, hi]
  refine wpAny_bind ?_
  first | refine wpAny_bind (wpAny_typeNameOfWhole_valiter hit.typeIs (wpAny_pure ?_)) | refine wpAny_bind (wpAny_typeNameOf_valiter hit.typeIs (wpAny_pure ?_))
  show wpAny _ _ (setField (.ref it) 0 .none >>= _) _ _ s
  refine wpAny_bind (wpAny_setField ho hd (by simp) ?_)
  generalize hh2 : s.heap.update it _ = h2
  have hS : ∀ b ob, b ≠ it → s.heap.get? b = some ob → h2.get? b = some ob := fun b ob hb e => by
    rw [← hh2]
    exact (Heap.get?_update_other _ _ (Ne.symm hb)).trans e
  refine wpAny_bind (stop_new fun h3 e M ⟨oe, he, hce⟩ => ?_)
  refine wpAny_raiseNew_none (show A.in1.handled = none from hh) ?_
  (show wpAny _ A (isInstance (.ref e) (.type "StopIteration") >>= _) _ _ _)
  refine wpAny_bind (wpAny_isInstance ⟨_, he, hce⟩ isSubtype_stop ?_)
  rw [if_pos rfl]
  exact wpAny_pure (h h3 fun b ob hb q => M _ _ (hS b ob hb q))
theorem callV {d : Addr} {o : Obj} {es : Array DictEntry} {ep : Nat} {Q : Value → Shared → Prop} (hs : (d == sysModules) = false) (ho : s.heap.get? d = some o) (hx : o.ExactDict) (hd : o.data = .dict es ep)
    (h : Q (.ref s.heap.objs.size) { s with heap := s.heap.push { cls := .type "dict_values", data := .fields #[.ref d] } }) : wpAny (model prog w) A (call (.builtin "dict.values") [.ref d]) Q E s := by
  have hT : s.TypeIs (.ref d) "dict" := ⟨o, ho, hx.1⟩
  refine wpAny_call_entry F.slot_dict_values hT F.entry_dict_values ?_ (F.args_dict_values_1 _)
  refine wpAny_bind ?_
  unfold Builtin.Dict.noArgs
  refine wpAny_bind (wpAny_notOrdered_dict hT ?_)
  show wpAny _ _ (pure d) _ _ s
  refine wpAny_pure ?_
  show wpAny _ _ (Builtin.Dict.showsAll d >>= _) _ _ s
  unfold Builtin.Dict.showsAll
  rw [if_neg (by rw [hs]; exact Bool.false_ne_true)]
  refine wpAny_bind (wpAny_pure ?_)
  exact wpAny_bind (wpAny_newObj_type (wpAny_pure ⟨_, rfl, h⟩))
theorem iterV {v d : Addr} {o : Obj} {es : Array DictEntry} {ep : Nat} {Q : Value → Shared → Prop} (hv : s.heap.IsValuesView v d) (ho : s.heap.get? d = some o) (hdat : o.data = .dict es ep)
    (hQ : Q (.ref s.heap.objs.size) { s with heap := s.heap.push { cls := .type "dict_valueiterator", data := .fields #[.ref d, .int 0 0, .int (es.size : Nat) 0, .int (ep : Nat) 0] } }) : wpAny (model prog w) A (pyIter (.ref v)) Q E s := by
  obtain ⟨ov, hov, hcv, hdv⟩ := id hv
  refine wpAny_pyIter_slot hv.typeIs F.slot_dict_values_iter (wpAny_call_entry F.slot_dict_values_iter hv.typeIs F.entry_dict_values_iter ?_ (F.args_dict_values_iter_1 _))
  unfold Builtin.«dict_values.__iter__»
  refine wpAny_bind (wpAny_pure ?_)
  refine wpAny_bind ?_
  unfold Builtin.Dict_items.dictOf
  refine wpAny_bind (wpAny_field hov hdv (x := .ref d) rfl (wpAny_pure ?_))
  refine wpAny_bind ?_
  unfold Builtin.Dict_items.newIterator
  refine wpAny_bind (wpAny_dictEntries ho hdat ?_)
  refine wpAny_bind (wpAny_dictEpoch ho hdat ?_)
  have hown : Builtin.Dict_items.ownsTuple "dict_valueiterator" = false := by decide
  simp only [hown, Bool.false_eq_true, if_false]
  refine wpAny_newObj_type (wpAny_pure ⟨_, rfl, "dict_valueiterator", _, ⟨_, Heap.get?_push_size _ rfl, rfl⟩, F.slot_dict_valueiterator_next.lookup, ?_⟩)
  simpa [rawInt] using hQ
end
end L2

end

section
-- KcTs0
set_option linter.all false
set_option autoImplicit false
namespace TS
structure Ord {α : Type} (lt : α → α → Bool) : Prop where
  asym : ∀ a b, lt a b = true → lt b a = false
  tr : ∀ a b c, lt b a = false → lt c b = false → lt c a = false
section
variable {α : Type} {lt : α → α → Bool}
noncomputable def Le (lt : α → α → Bool) (a b : α) : Prop := lt b a = false
theorem Ord.refl (O : Ord lt) (a : α) : Le lt a a := by
  unfold Le
  cases h : lt a a with
  | false => rfl
  | true =>
    have := O.asym a a h
    rw [h] at this
    cases this
theorem Ord.le (O : Ord lt) {a b : α} (h : lt a b = true) : Le lt a b := O.asym a b h
theorem Ord.trans (O : Ord lt) {a b c : α} (h1 : Le lt a b) (h2 : Le lt b c) : Le lt a c := O.tr a b c h1 h2
theorem Ord.le_lt (O : Ord lt) {a b c : α} (h1 : Le lt a b) (h2 : lt b c = true) : lt a c = true := by
  cases h : lt a c with
  | true => rfl
  | false =>
    have := O.tr c a b h h1
    rw [h2] at this
    cases this
noncomputable def Srt (lt : α → α → Bool) (l : List α) : Prop := l.Pairwise (Le lt)
theorem srt_nil : Srt lt ([] : List α) := List.Pairwise.nil
theorem srt_app {l m : List α} : Srt lt (l ++ m) ↔ Srt lt l ∧ Srt lt m ∧ ∀ x ∈ l, ∀ y ∈ m, Le lt x y := List.pairwise_append
theorem srt_one (x : α) : Srt lt [x] := List.pairwise_singleton _ _
structure Mid (lt : α → α → Bool) (T out A B : List α) : Prop where
  o : Srt lt out
  a : Srt lt A
  b : Srt lt B
  oa : ∀ x ∈ out, ∀ y ∈ A, Le lt x y
  ob : ∀ x ∈ out, ∀ y ∈ B, Le lt x y
  pm : (out ++ A ++ B).Perm T
variable {T out A B A1 A2 B1 B2 : List α} {x y : α}
theorem Mid.takeA (O : Ord lt) (m : Mid lt T out (A1 ++ A2) B) (h : ∀ x ∈ A1, ∀ y ∈ B, Le lt x y) : Mid lt T (out ++ A1) A2 B := by
  obtain ⟨a1, a2, a12⟩ := srt_app.mp m.a
  refine ⟨srt_app.mpr ⟨m.o, a1, fun x hx y hy => m.oa x hx y (List.mem_append_left _ hy)⟩, a2, m.b, fun x hx y hy => ?_, fun x hx y hy => ?_, ?_⟩
  · rcases List.mem_append.mp hx with z | z
    · exact m.oa x z y (List.mem_append_right _ hy)
    · exact a12 x z y hy
  · rcases List.mem_append.mp hx with z | z
    · exact m.ob x z y hy
    · exact h x z y hy
  · have := m.pm
    rw [← List.append_assoc] at this
    exact this
theorem Mid.takeB (O : Ord lt) (m : Mid lt T out A (B1 ++ B2)) (h : ∀ y ∈ B1, ∀ x ∈ A, Le lt y x) : Mid lt T (out ++ B1) A B2 := by
  obtain ⟨b1, b2, b12⟩ := srt_app.mp m.b
  refine ⟨srt_app.mpr ⟨m.o, b1, fun x hx y hy => m.ob x hx y (List.mem_append_left _ hy)⟩, m.a, b2, fun x hx y hy => ?_, fun x hx y hy => ?_, ?_⟩
  · rcases List.mem_append.mp hx with z | z
    · exact m.oa x z y hy
    · exact h x z y hy
  · rcases List.mem_append.mp hx with z | z
    · exact m.ob x z y (List.mem_append_right _ hy)
    · exact b12 x z y hy
  · refine List.Perm.trans ?_ m.pm
    rw [List.append_assoc, List.append_assoc, List.append_assoc]
    refine List.Perm.append_left _ ?_
    rw [← List.append_assoc, ← List.append_assoc]
    exact List.Perm.append_right _ List.perm_append_comm
theorem Mid.doneA (m : Mid lt T out A []) : Srt lt (out ++ A) ∧ (out ++ A).Perm T := ⟨srt_app.mpr ⟨m.o, m.a, m.oa⟩, by have := m.pm; rwa [List.append_nil] at this⟩
theorem Mid.doneB (m : Mid lt T out [] B) : Srt lt (out ++ B) ∧ (out ++ B).Perm T := ⟨srt_app.mpr ⟨m.o, m.b, m.ob⟩, by have := m.pm; rwa [List.append_nil] at this⟩
theorem Mid.last (m : Mid lt T out [x] B) (h : ∀ y ∈ B, Le lt y x) : Srt lt (out ++ B ++ [x]) ∧ (out ++ B ++ [x]).Perm T := by
  refine ⟨srt_app.mpr ⟨srt_app.mpr ⟨m.o, m.b, m.ob⟩, srt_one x, fun z hz y hy => ?_⟩, ?_⟩
  · rw [List.mem_singleton.mp hy]
    rcases List.mem_append.mp hz with q | q
    · exact m.oa z q x (List.mem_singleton.mpr rfl)
    · exact h z q
  · refine List.Perm.trans ?_ m.pm
    rw [List.append_assoc, List.append_assoc]
    exact List.Perm.append_left _ List.perm_append_comm
structure MidH (lt : α → α → Bool) (T A B out : List α) : Prop where
  o : Srt lt out
  a : Srt lt A
  b : Srt lt B
  oa : ∀ y ∈ A, ∀ x ∈ out, Le lt y x
  ob : ∀ y ∈ B, ∀ x ∈ out, Le lt y x
  pm : (A ++ B ++ out).Perm T
theorem MidH.takeA (m : MidH lt T (A1 ++ A2) B out) (h : ∀ y ∈ B, ∀ x ∈ A2, Le lt y x) : MidH lt T A1 B (A2 ++ out) := by
  obtain ⟨a1, a2, a12⟩ := srt_app.mp m.a
  refine ⟨srt_app.mpr ⟨a2, m.o, fun x hx y hy => m.oa x (List.mem_append_right _ hx) y hy⟩, a1, m.b, fun y hy x hx => ?_, fun y hy x hx => ?_, ?_⟩
  · rcases List.mem_append.mp hx with z | z
    · exact a12 y hy x z
    · exact m.oa y (List.mem_append_left _ hy) x z
  · rcases List.mem_append.mp hx with z | z
    · exact h y hy x z
    · exact m.ob y hy x z
  · refine List.Perm.trans ?_ m.pm
    rw [← List.append_assoc]
    refine List.Perm.append_right _ ?_
    rw [List.append_assoc, List.append_assoc]
    exact List.Perm.append_left _ List.perm_append_comm
theorem MidH.takeB (m : MidH lt T A (B1 ++ B2) out) (h : ∀ x ∈ A, ∀ y ∈ B2, Le lt x y) : MidH lt T A B1 (B2 ++ out) := by
  obtain ⟨b1, b2, b12⟩ := srt_app.mp m.b
  refine ⟨srt_app.mpr ⟨b2, m.o, fun x hx y hy => m.ob x (List.mem_append_right _ hx) y hy⟩, m.a, b1, fun y hy x hx => ?_, fun y hy x hx => ?_, ?_⟩
  · rcases List.mem_append.mp hx with z | z
    · exact h y hy x z
    · exact m.oa y hy x z
  · rcases List.mem_append.mp hx with z | z
    · exact b12 y hy x z
    · exact m.ob y (List.mem_append_left _ hy) x z
  · have := m.pm
    rw [← List.append_assoc] at this
    rw [← List.append_assoc]
    exact this
theorem MidH.doneA (m : MidH lt T A [] out) : Srt lt (A ++ out) ∧ (A ++ out).Perm T := ⟨srt_app.mpr ⟨m.a, m.o, m.oa⟩, by have := m.pm; rwa [List.append_nil] at this⟩
theorem MidH.doneB (m : MidH lt T [] B out) : Srt lt (B ++ out) ∧ (B ++ out).Perm T := ⟨srt_app.mpr ⟨m.b, m.o, m.ob⟩, by have := m.pm; rwa [List.nil_append] at this⟩
theorem MidH.first (m : MidH lt T A [x] out) (h : ∀ y ∈ A, Le lt x y) : Srt lt ([x] ++ A ++ out) ∧ ([x] ++ A ++ out).Perm T := by
  refine ⟨srt_app.mpr ⟨srt_app.mpr ⟨srt_one x, m.a, fun z hz y hy => ?_⟩, m.o, fun z hz y hy => ?_⟩, ?_⟩
  · rw [List.mem_singleton.mp hz]
    exact h y hy
  · rcases List.mem_append.mp hz with q | q
    · exact m.ob z q y hy
    · exact m.oa z q y hy
  · exact List.Perm.trans (List.Perm.append_right _ List.perm_append_comm) m.pm
end
end TS

end

section
-- KcTs1
set_option linter.all false
set_option autoImplicit false
set_option maxRecDepth 100000
set_option maxHeartbeats 4000000
namespace TS
open PySem PyProof.Rows
noncomputable def gallop' : Bool → Keyed → Array Keyed → Nat → Nat → Nat → StateT SortSt Sem (Option Nat) := sortPriv% PySem.Builtin.gallop
structure Cmp (prog : Program) (w : World) (A : Around) (s : Shared) (κ : SortKind) (S : Keyed → Prop) (lt : Keyed → Keyed → Bool) : Prop where
  ord : Ord lt
  cmp : ∀ x y, S x → S y → ∀ (Q : Bool → Shared → Prop) (E : Value → Shared → Prop), Q (lt x y) s → wpAny (model prog w) A (keyLt' κ x.1 y.1) Q E s
section
variable {prog : Program} {w : World} {A : Around} {E : Value → Shared → Prop} {s : Shared} {κ : SortKind} {S : Keyed → Prop} {lt : Keyed → Keyed → Bool}
theorem wpS_lt (C : Cmp prog w A s κ S lt) {st : SortSt} {x y : Keyed} {Q : Option Bool → SortSt → Prop} (hk : kindOf st = κ) (hx : S x) (hy : S y) (h : Q (some (lt x y)) st) : wpS (model prog w) A E s (lt' x y) Q st := by
  rw [lt'_eq]
  refine wpS_bind (wpS_get ?_)
  rw [hk]
  refine wpS_bind (wpS_lift (wpAny_attempt (C.cmp x y hx hy _ _ ⟨rfl, ?_⟩)))
  exact wpS_pure h
theorem wpS_elem {M : Model} {st : SortSt} {arr : Array Keyed} {i : Nat} {x : Keyed} {Q : Keyed → SortSt → Prop} (h : arr[i]? = some x) (q : Q x st) : wpS M A E s (elem' arr i) Q st := by
  rw [elem'_eq, h]
  exact wpS_pure q
theorem bin_loop {M : Model} {n : Nat} {Bd : Nat → Bool} {st : SortSt} {f : Nat → Option (Option Nat) × Nat × Nat → StateT SortSt Sem (ForInStep (Option (Option Nat) × Nat × Nat))}
    (mono : ∀ i j, i ≤ j → j < n → Bd j = true → Bd i = true)
    (hf : ∀ x lo hi (R : ForInStep (Option (Option Nat) × Nat × Nat) → SortSt → Prop), hi ≤ n → (hi ≤ lo → R (.done (none, lo, hi)) st) →
      (lo < hi → Bd (lo + (hi - lo) / 2) = true → R (.yield (none, lo + (hi - lo) / 2 + 1, hi)) st) → (lo < hi → Bd (lo + (hi - lo) / 2) = false → R (.yield (none, lo, lo + (hi - lo) / 2)) st) → wpS M A E s (f x (none, lo, hi)) R st)
    {lo hi : Nat} (h1 : lo ≤ hi) (h2 : hi ≤ n) (h3 : ∀ i, i < lo → Bd i = true) (h4 : ∀ i, hi ≤ i → i < n → Bd i = false) {Q : Option (Option Nat) × Nat × Nat → SortSt → Prop}
    (h : ∀ k, k ≤ n → (∀ i, i < k → Bd i = true) → (∀ i, k ≤ i → i < n → Bd i = false) → Q (none, k, k) st) : wpS M A E s (forIn [:n] (none, lo, hi) f) Q st := by
  refine wpS_forRange (I := fun x c st' => st' = st ∧ ∃ lo hi, c = (none, lo, hi) ∧ lo ≤ hi ∧ hi ≤ n ∧ hi - lo ≤ n - x ∧ (∀ i, i < lo → Bd i = true) ∧ (∀ i, hi ≤ i → i < n → Bd i = false)) ?_ ?_ ⟨rfl, lo, hi, rfl, h1, h2, by omega, h3, h4⟩
  · rintro x c st' _ hx ⟨rfl, lo, hi, rfl, a1, a2, a3, a4, a5⟩
    refine hf x lo hi _ a2 (fun z => ?_) (fun z e => ⟨rfl, _, _, rfl, by omega, a2, by omega, fun i hi' => mono i _ (Nat.le_of_lt_succ hi') (by omega) e, a5⟩) fun z e => ⟨rfl, _, _, rfl, by omega, by omega, by omega, a4, fun i hi' hn => ?_⟩
    · have : lo = hi := by omega
      subst this
      exact h lo a2 a4 a5
    · cases q : Bd i with
      | false => rfl
      | true =>
        rw [mono _ i hi' hn q] at e
        cases e
  · rintro c st' ⟨rfl, lo, hi, rfl, a1, a2, a3, a4, a5⟩
    have : lo = hi := by omega
    subst this
    exact h lo a2 a4 a5
theorem wpS_gallop (C : Cmp prog w A s κ S lt) {st : SortSt} {left : Bool} {key : Keyed} {arr : Array Keyed} {base n hint : Nat} {Bd : Nat → Bool} {Q : Option Nat → SortSt → Prop} (hk : kindOf st = κ) (hS : S key)
    (hb : ∀ i, i < n → ∃ x, arr[base + i]? = some x ∧ S x ∧ Bd i = (if left = true then lt x key else !lt key x)) (mono : ∀ i j, i ≤ j → j < n → Bd j = true → Bd i = true) (hh : hint < n)
    (h : ∀ k, k ≤ n → (∀ i, i < k → Bd i = true) → (∀ i, k ≤ i → i < n → Bd i = false) → Q (some k) st) : wpS (model prog w) A E s (gallop' left key arr base n hint) Q st := by
  have bey : ∀ (i : Nat) (R : Option Bool → SortSt → Prop), i < n → R (some (Bd i)) st → wpS (model prog w) A E s (do let x ← elem' arr (base + i); if left = true then lt' x key else do let r ← lt' key x; pure (Option.map (fun x => !x) r)) R st := by
    intro i R hi hr
    obtain ⟨x, e, sx, eb⟩ := hb i hi
    refine wpS_bind (wpS_elem e ?_)
    cases left with
    | true =>
      simp only [if_true] at eb ⊢
      refine wpS_lt C hk sx hS ?_
      rw [← eb]
      exact hr
    | false =>
      simp only [Bool.false_eq_true, if_false] at eb ⊢
      refine wpS_bind (wpS_lt C hk hS sx (wpS_pure ?_))
      show R (some (!lt key x)) st
      rw [← eb]
      exact hr
  have mono' : ∀ i j, i ≤ j → j < n → Bd i = false → Bd j = false := fun i j hij hj e => by
    cases q : Bd j with
    | false => rfl
    | true =>
      rw [mono i j hij hj q] at e
      cases e
  refine wpS_bind (bey hint _ hh ?_)
  dsimp only
  cases e : Bd hint with
  | true =>
    simp only [if_true]
    refine wpS_bind (wpS_mono (wpS_forRange (I := fun x c st' => st' = st ∧ ∃ la ofs, c = (none, la, ofs) ∧ la < ofs ∧ x + 1 ≤ ofs ∧ la < n - hint ∧ Bd (hint + la) = true)
      (Q := fun c st' => st' = st ∧ ∃ la ofs, c = (none, la, ofs) ∧ la < ofs ∧ la < n - hint ∧ Bd (hint + la) = true ∧ (n - hint ≤ ofs ∨ (ofs < n - hint ∧ Bd (hint + ofs) = false))) ?_ ?_ ⟨rfl, 0, 1, rfl, by omega, by omega, by omega, e⟩) ?_)
    · rintro x c st' _ hx ⟨rfl, la, ofs, rfl, a1, a2, a3, a4⟩
      dsimp only
      by_cases z : ofs ≥ n - hint
      · rw [if_pos z]
        exact wpS_pure ⟨rfl, la, ofs, rfl, a1, a3, a4, .inl z⟩
      · rw [if_neg z]
        refine wpS_bind (bey (hint + ofs) _ (by omega) ?_)
        dsimp only
        cases q : Bd (hint + ofs) with
        | true =>
          simp only [Bool.not_true, Bool.false_eq_true, if_false]
          exact wpS_pure ⟨rfl, ofs, 2 * ofs + 1, rfl, by omega, by omega, by omega, q⟩
        | false =>
          simp only [Bool.not_false, if_true]
          exact wpS_pure ⟨rfl, la, ofs, rfl, a1, a3, a4, .inr ⟨by omega, q⟩⟩
    · rintro c st' ⟨rfl, la, ofs, rfl, a1, a2, a3, a4⟩
      exact ⟨rfl, la, ofs, rfl, a1, a3, a4, .inl (by omega)⟩
    · rintro c st' ⟨rfl, la, ofs, rfl, a1, a3, a4, a5⟩
      dsimp only
      refine wpS_bind (bin_loop mono (fun x lo hi R h2 c1 c2 c3 => ?_) (lo := hint + la + 1) (hi := hint + min ofs (n - hint)) (by omega) (by omega) (fun i hi => mono i (hint + la) (by omega) (by omega) a4) (fun i hi hn => ?_) fun k hk1 hk2 hk3 => ?_)
      · dsimp only
        by_cases z : lo ≥ hi
        · rw [if_pos z]
          exact wpS_pure (c1 z)
        · rw [if_neg z]
          refine wpS_bind (bey _ _ (by omega) ?_)
          dsimp only
          cases q : Bd (lo + (hi - lo) / 2) with
          | true =>
            simp only [if_true]
            exact wpS_pure (c2 (by omega) q)
          | false =>
            simp only [Bool.false_eq_true, if_false]
            exact wpS_pure (c3 (by omega) q)
      · rcases a5 with z | ⟨z, q⟩
        · omega
        · exact mono' (hint + ofs) i (by omega) hn q
      · exact wpS_pure (h k hk1 hk2 hk3)
  | false =>
    simp only [Bool.false_eq_true, if_false]
    refine wpS_bind (wpS_mono (wpS_forRange (I := fun x c st' => st' = st ∧ ∃ la ofs, c = (none, la, ofs) ∧ la < ofs ∧ x + 1 ≤ ofs ∧ la ≤ hint ∧ Bd (hint - la) = false)
      (Q := fun c st' => st' = st ∧ ∃ la ofs, c = (none, la, ofs) ∧ la < ofs ∧ la ≤ hint ∧ Bd (hint - la) = false ∧ (hint + 1 ≤ ofs ∨ (ofs ≤ hint ∧ Bd (hint - ofs) = true))) ?_ ?_ ⟨rfl, 0, 1, rfl, by omega, by omega, by omega, e⟩) ?_)
    · rintro x c st' _ hx ⟨rfl, la, ofs, rfl, a1, a2, a3, a4⟩
      dsimp only
      by_cases z : ofs ≥ hint + 1
      · rw [if_pos z]
        exact wpS_pure ⟨rfl, la, ofs, rfl, a1, a3, a4, .inl z⟩
      · rw [if_neg z]
        refine wpS_bind (bey (hint - ofs) _ (by omega) ?_)
        dsimp only
        cases q : Bd (hint - ofs) with
        | false =>
          simp only [Bool.false_eq_true, if_false]
          exact wpS_pure ⟨rfl, ofs, 2 * ofs + 1, rfl, by omega, by omega, by omega, q⟩
        | true =>
          simp only [if_true]
          exact wpS_pure ⟨rfl, la, ofs, rfl, a1, a3, a4, .inr ⟨by omega, q⟩⟩
    · rintro c st' ⟨rfl, la, ofs, rfl, a1, a2, a3, a4⟩
      exact ⟨rfl, la, ofs, rfl, a1, a3, a4, .inl (by omega)⟩
    · rintro c st' ⟨rfl, la, ofs, rfl, a1, a3, a4, a5⟩
      dsimp only
      refine wpS_bind (bin_loop mono (fun x lo hi R h2 c1 c2 c3 => ?_) (lo := hint + 1 - min ofs (hint + 1)) (hi := hint - la) (by omega) (by omega) (fun i hi => ?_) (fun i hi hn => mono' (hint - la) i hi hn a4) fun k hk1 hk2 hk3 => ?_)
      · dsimp only
        by_cases z : lo ≥ hi
        · rw [if_pos z]
          exact wpS_pure (c1 z)
        · rw [if_neg z]
          refine wpS_bind (bey _ _ (by omega) ?_)
          dsimp only
          cases q : Bd (lo + (hi - lo) / 2) with
          | true =>
            simp only [if_true]
            exact wpS_pure (c2 (by omega) q)
          | false =>
            simp only [Bool.false_eq_true, if_false]
            exact wpS_pure (c3 (by omega) q)
      · rcases a5 with z | ⟨z, q⟩
        · omega
        · exact mono i (hint - ofs) (by omega) (by omega) q
      · exact wpS_pure (h k hk1 hk2 hk3)
end
end TS

end

section
-- KcTs2
set_option linter.all false
set_option autoImplicit false
set_option maxRecDepth 100000
set_option maxHeartbeats 4000000
namespace TS
open PySem PyProof.Rows
noncomputable def mergeLo' : Array Keyed → Array Keyed → StateT SortSt Sem (Array Keyed) := sortPriv% PySem.Builtin.mergeLo
noncomputable def setMG' : Nat → StateT SortSt Sem Unit := sortPriv% PySem.Builtin.setMinGallop
noncomputable abbrev withG (st : SortSt) (g : Nat) : SortSt := SortSt.mk' (kindOf st) (arrOf st) (pendingOf st) g (failedOf st)
noncomputable def SameG (st st' : SortSt) : Prop := kindOf st' = kindOf st ∧ arrOf st' = arrOf st ∧ pendingOf st' = pendingOf st ∧ failedOf st' = failedOf st
theorem SameG.refl (st : SortSt) : SameG st st := ⟨rfl, rfl, rfl, rfl⟩
theorem SameG.trans {a b c : SortSt} (h : SameG a b) (k : SameG b c) : SameG a c := ⟨k.1.trans h.1, k.2.1.trans h.2.1, k.2.2.1.trans h.2.2.1, k.2.2.2.trans h.2.2.2⟩
theorem sameG_with (st : SortSt) (g : Nat) : SameG st (withG st g) := ⟨rfl, rfl, rfl, rfl⟩
section
variable {α : Type}
theorem dropC {a : Array α} {i : Nat} {x : α} (h : a[i]? = some x) : a.toList.drop i = x :: a.toList.drop (i + 1) := by
  rw [← Array.getElem?_toList] at h
  obtain ⟨hi, e⟩ := List.getElem?_eq_some_iff.mp h
  rw [List.drop_eq_getElem_cons hi, e]
theorem extAll {a : Array α} (i : Nat) : (a.extract i a.size).toList = a.toList.drop i := by
  simp only [Array.toList_extract, List.extract]
  exact List.take_of_length_le (by simp)
theorem extTo (a : Array α) (i j : Nat) : (a.extract i j).toList = (a.toList.drop i).take (j - i) := by
  simp [Array.toList_extract, List.extract]
theorem dropK {a : Array α} {i k : Nat} : a.toList.drop i = (a.extract i (i + k)).toList ++ a.toList.drop (i + k) := by
  rw [extTo, Nat.add_sub_cancel_left, ← List.drop_drop, List.take_append_drop]
theorem atT {a : Array α} {i : Nat} (h : i < a.size) : ∃ x, a[i]? = some x ∧ x ∈ a.toList := ⟨a[i], by simp [h], by simp⟩
theorem mem_ext {a : Array α} {i k : Nat} {x : α} (h : x ∈ (a.extract i (i + k)).toList) (hk : i + k ≤ a.size) : ∃ j, j < k ∧ a[i + j]? = some x := by
  rw [extTo, Nat.add_sub_cancel_left] at h
  obtain ⟨j, hj⟩ := List.getElem?_of_mem h
  have hjk : j < k := by
    have := (List.getElem?_eq_some_iff.mp hj).1
    rw [List.length_take] at this
    omega
  refine ⟨j, hjk, ?_⟩
  rw [List.getElem?_take_of_lt hjk, List.getElem?_drop, Array.getElem?_toList] at hj
  exact hj
theorem mem_drop {a : Array α} {i : Nat} {x : α} (h : x ∈ a.toList.drop i) : ∃ j, i ≤ j ∧ j < a.size ∧ a[j]? = some x := by
  obtain ⟨j, hj⟩ := List.getElem?_of_mem h
  rw [List.getElem?_drop, Array.getElem?_toList] at hj
  exact ⟨i + j, by omega, (Array.getElem?_eq_some_iff.mp hj).1, hj⟩
theorem drop_all {a : Array α} {i : Nat} (h : i = a.size) : a.toList.drop i = [] := by
  rw [h]
  simp
end
section
variable {prog : Program} {w : World} {A : Around} {E : Value → Shared → Prop} {s : Shared} {κ : SortKind} {S : Keyed → Prop} {lt : Keyed → Keyed → Bool}
theorem wpS_setMG {M : Model} {st : SortSt} {g : Nat} {Q : Unit → SortSt → Prop} (h : Q () (withG st g)) : wpS M A E s (setMG' g) Q st := by
  exact wpS_modify h
theorem wpS_ite {M : Model} {α : Type} {c : Prop} [Decidable c] {t u : StateT SortSt Sem α} {st : SortSt} {Q : α → SortSt → Prop} (h1 : c → wpS M A E s t Q st) (h2 : ¬ c → wpS M A E s u Q st) : wpS M A E s (if c then t else u) Q st := by
  by_cases h : c
  · rw [if_pos h]
    exact h1 h
  · rw [if_neg h]
    exact h2 h
theorem srt_at (O : Ord lt) {a : Array Keyed} (h : Srt lt a.toList) {i j : Nat} (hij : i ≤ j) {x y : Keyed} (hx : a[i]? = some x) (hy : a[j]? = some y) : Le lt x y := by
  rw [← Array.getElem?_toList] at hx hy
  obtain ⟨h1, e1⟩ := List.getElem?_eq_some_iff.mp hx
  obtain ⟨h2, e2⟩ := List.getElem?_eq_some_iff.mp hy
  rcases Nat.lt_or_eq_of_le hij with z | z
  · have := List.pairwise_iff_getElem.mp h i j h1 h2 z
    rw [e1, e2] at this
    exact this
  · subst z
    rw [e1] at e2
    rw [← e2]
    exact O.refl x
theorem gal_right (C : Cmp prog w A s κ S lt) {st : SortSt} {key : Keyed} {arr : Array Keyed} {base n hint : Nat} {Q : Option Nat → SortSt → Prop} (hk : kindOf st = κ) (hS : S key) (hs : ∀ i j x y, i ≤ j → j < n → arr[base + i]? = some x → arr[base + j]? = some y → Le lt x y) (hA : ∀ x ∈ arr.toList, S x) (hn : base + n ≤ arr.size) (hh : hint < n)
    (h : ∀ k, k ≤ n → (∀ i x, i < k → arr[base + i]? = some x → Le lt x key) → (∀ i x, k ≤ i → i < n → arr[base + i]? = some x → lt key x = true) → Q (some k) st) : wpS (model prog w) A E s (gallop' false key arr base n hint) Q st := by
  refine wpS_gallop C (Bd := fun i => match arr[base + i]? with | some x => !lt key x | none => false) hk hS (fun i hi => ?_) (fun i j hij hj e => ?_) hh fun k h1 h2 h3 => h k h1 (fun i x hi hx => ?_) fun i x hi hin hx => ?_
  · obtain ⟨x, e, m⟩ := atT (a := arr) (i := base + i) (by omega)
    exact ⟨x, e, hA x m, by simp [e]⟩
  · obtain ⟨x, ex, _⟩ := atT (a := arr) (i := base + i) (by omega)
    obtain ⟨y, ey, _⟩ := atT (a := arr) (i := base + j) (by omega)
    simp only [ex, ey, Bool.not_eq_true'] at e ⊢
    exact C.ord.tr x y key (hs i j x y hij hj ex ey) e
  · have := h2 i hi
    simp only [hx, Bool.not_eq_true'] at this
    exact this
  · have := h3 i hi hin
    simpa only [hx, Bool.not_eq_false'] using this
theorem gal_left (C : Cmp prog w A s κ S lt) {st : SortSt} {key : Keyed} {arr : Array Keyed} {base n hint : Nat} {Q : Option Nat → SortSt → Prop} (hk : kindOf st = κ) (hS : S key) (hs : ∀ i j x y, i ≤ j → j < n → arr[base + i]? = some x → arr[base + j]? = some y → Le lt x y) (hA : ∀ x ∈ arr.toList, S x) (hn : base + n ≤ arr.size) (hh : hint < n)
    (h : ∀ k, k ≤ n → (∀ i x, i < k → arr[base + i]? = some x → lt x key = true) → (∀ i x, k ≤ i → i < n → arr[base + i]? = some x → Le lt key x) → Q (some k) st) : wpS (model prog w) A E s (gallop' true key arr base n hint) Q st := by
  refine wpS_gallop C (Bd := fun i => match arr[base + i]? with | some x => lt x key | none => false) hk hS (fun i hi => ?_) (fun i j hij hj e => ?_) hh fun k h1 h2 h3 => h k h1 (fun i x hi hx => ?_) fun i x hi hin hx => ?_
  · obtain ⟨x, e, m⟩ := atT (a := arr) (i := base + i) (by omega)
    exact ⟨x, e, hA x m, by simp [e]⟩
  · obtain ⟨x, ex, _⟩ := atT (a := arr) (i := base + i) (by omega)
    obtain ⟨y, ey, _⟩ := atT (a := arr) (i := base + j) (by omega)
    simp only [ex, ey] at e ⊢
    exact C.ord.le_lt (hs i j x y hij hj ex ey) e
  · have := h2 i hi
    simpa only [hx] using this
  · have := h3 i hi hin
    simp only [hx] at this
    exact this
structure ML (lt : Keyed → Keyed → Bool) (a b out : Array Keyed) (ia ib : Nat) : Prop where
  m : Mid lt (a.toList ++ b.toList) out.toList (a.toList.drop ia) (b.toList.drop ib)
  ha : ia + 1 < a.size
  hb : ib < b.size
noncomputable def Res (lt : Keyed → Keyed → Bool) (a b r : Array Keyed) : Prop := Srt lt r.toList ∧ r.toList.Perm (a.toList ++ b.toList)
variable {a b out : Array Keyed} {ia ib : Nat}
theorem res_b (m : Mid lt (a.toList ++ b.toList) out.toList (a.toList.drop ia) (b.toList.drop ib)) (h : ib = b.size) : Res lt a b (out ++ a.extract ia a.size ++ b.extract ib b.size) := by
  rw [drop_all h] at m
  have := m.doneA
  unfold Res
  rw [Array.toList_append, Array.toList_append, extAll, extAll, drop_all h, List.append_nil]
  exact this
theorem res_a (m : Mid lt (a.toList ++ b.toList) out.toList (a.toList.drop ia) (b.toList.drop ib)) (h : ia = a.size) : Res lt a b (out ++ a.extract ia a.size ++ b.extract ib b.size) := by
  rw [drop_all h] at m
  have := m.doneB
  unfold Res
  rw [Array.toList_append, Array.toList_append, extAll, extAll, drop_all h, List.append_nil]
  exact this
theorem res_l (m : Mid lt (a.toList ++ b.toList) out.toList (a.toList.drop ia) (b.toList.drop ib)) (h : ia + 1 = a.size) (hl : ∀ x y, a[a.size - 1]? = some x → y ∈ b.toList → Le lt y x) : Res lt a b (out ++ b.extract ib b.size ++ a.extract ia a.size) := by
  obtain ⟨x, ex, _⟩ := atT (a := a) (i := ia) (by omega)
  have e : a.toList.drop ia = [x] := by rw [dropC ex, drop_all h]
  rw [e] at m
  have := m.last fun y hy => hl x y (by rw [← h]; exact ex) (List.mem_of_mem_drop hy)
  unfold Res
  rw [Array.toList_append, Array.toList_append, extAll, extAll, e]
  exact this
theorem wpS_mergeLo (C : Cmp prog w A s κ S lt) {st : SortSt} {Q : Array Keyed → SortSt → Prop} (hk : kindOf st = κ) (sa : Srt lt a.toList) (sb : Srt lt b.toList) (hSa : ∀ x ∈ a.toList, S x) (hSb : ∀ x ∈ b.toList, S x) (ha1 : 1 ≤ a.size) (hb1 : 1 ≤ b.size)
    (hf : ∀ x y, b[0]? = some x → y ∈ a.toList → Le lt x y) (hl : ∀ x y, a[a.size - 1]? = some x → y ∈ b.toList → Le lt y x)
    (h : ∀ r st', SameG st st' → Res lt a b r → Q r st') : wpS (model prog w) A E s (mergeLo' a b) Q st := by
  have O := C.ord
  refine wpS_bind (wpS_lift (wpAny_rule ⟨rfl, ?_⟩))
  obtain ⟨b0, eb0, mb0⟩ := atT (a := b) (i := 0) (by omega)
  refine wpS_bind (wpS_elem eb0 ?_)
  have m0 : Mid lt (a.toList ++ b.toList) (#[b0] : Array Keyed).toList (a.toList.drop 0) (b.toList.drop 1) := by
    have e : b.toList = b0 :: b.toList.drop 1 := by
      have := dropC eb0
      rwa [List.drop_zero] at this
    have st0 : Mid lt (a.toList ++ b.toList) [] (a.toList.drop 0) ([b0] ++ b.toList.drop 1) := ⟨srt_nil, by rw [List.drop_zero]; exact sa, by rw [List.singleton_append, ← e]; exact sb, fun _ z => (nomatch z), fun _ z => (nomatch z), by rw [List.nil_append, List.drop_zero, List.singleton_append, ← e]⟩
    exact st0.takeB O fun y hy x hx => by rw [List.mem_singleton.mp hy]; exact hf b0 x eb0 (by rwa [List.drop_zero] at hx)
  by_cases z1 : (1 == b.size) = true
  · rw [if_pos z1]
    exact wpS_pure (h _ _ (SameG.refl st) (res_b m0 (by simpa using z1)))
  rw [if_neg z1]
  by_cases z2 : (0 + 1 == a.size) = true
  · rw [if_pos z2]
    exact wpS_pure (h _ _ (SameG.refl st) (res_l m0 (by simpa using z2) hl))
  rw [if_neg z2]
  have z1' : 1 ≠ b.size := by simpa using z1
  have z2' : 1 ≠ a.size := by simpa using z2
  refine wpS_bind (wpS_get ?_)
  refine wpS_bind (wpS_mono (wpS_forRange
    (I := fun x c st' => SameG st st' ∧ ∃ out ia ib g, c = (none, out, ia, ib, g) ∧ ML lt a b out ia ib ∧ x + 1 ≤ ia + ib)
    (Q := fun c st' => SameG st st' ∧ ∃ r out ia ib g, c = (some r, out, ia, ib, g) ∧ Res lt a b r) ?step ?fin ⟨SameG.refl st, _, 0, 1, _, rfl, ⟨m0, by omega, by omega⟩, by omega⟩) ?post)
  case post =>
    rintro c st' ⟨sg, r, out, ia, ib, g, rfl, R⟩
    exact wpS_pure (h r st' sg R)
  case fin =>
    rintro c st' ⟨sg, out, ia, ib, g, rfl, m, hx⟩
    have := m.ha
    have := m.hb
    omega
  case step =>
    rintro x c st1 _ hx ⟨sg, out, ia, ib, g, rfl, m, hm⟩
    dsimp only
    have hk1 : kindOf st1 = κ := sg.1.trans hk
    refine wpS_bind (wpS_mono (wpS_forRange
      (I := fun x' c st' => st' = st1 ∧ ∃ out ia' ib' ac bc, c = (none, out, ia', ib', ac, bc) ∧ ML lt a b out ia' ib' ∧ ia + ib + x' ≤ ia' + ib')
      (Q := fun c st' => st' = st1 ∧ ((∃ r out ia ib ac bc, c = (some r, out, ia, ib, ac, bc) ∧ Res lt a b r) ∨ ∃ out ia' ib' ac bc, c = (none, out, ia', ib', ac, bc) ∧ ML lt a b out ia' ib' ∧ ia + ib + 1 ≤ ia' + ib')) ?s1 ?f1 ⟨rfl, out, ia, ib, _, _, rfl, m, by omega⟩) ?p1)
    case f1 =>
      rintro c st' ⟨rfl, out, ia', ib', ac, bc, rfl, m', h'⟩
      exact ⟨rfl, .inr ⟨out, ia', ib', ac, bc, rfl, m', by omega⟩⟩
    case s1 =>
      rintro x' c st' _ hx' ⟨rfl, out, ia', ib', ac, bc, rfl, m', h'⟩
      dsimp only
      obtain ⟨xb, exb, mxb⟩ := atT (a := b) (i := ib') m'.hb
      obtain ⟨xa, exa, mxa⟩ := atT (a := a) (i := ia') (by have := m'.ha; omega)
      refine wpS_bind (wpS_elem exb (wpS_bind (wpS_elem exa (wpS_bind (wpS_lt C hk1 (hSb xb mxb) (hSa xa mxa) ?_)))))
      have mm := m'.m
      cases q : lt xb xa with
      | true =>
        simp only [if_true]
        refine wpS_bind (wpS_elem exb ?_)
        have m2 : Mid lt (a.toList ++ b.toList) (out.push xb).toList (a.toList.drop ia') (b.toList.drop (ib' + 1)) := by
          rw [dropC exb] at mm
          have := Mid.takeB (B1 := [xb]) O mm fun y hy z hz => by
            rw [List.mem_singleton.mp hy]
            obtain ⟨j, j1, j2, j3⟩ := mem_drop hz
            exact O.trans (O.le q) (srt_at O sa j1 exa j3)
          rwa [Array.toList_push]
        by_cases z : (ib' + 1 == b.size) = true
        · rw [if_pos z]
          exact wpS_pure ⟨rfl, .inl ⟨_, _, _, _, _, _, rfl, res_b m2 (by simpa using z)⟩⟩
        · rw [if_neg z]
          have z' : ib' + 1 ≠ b.size := by simpa using z
          have M2 : ML lt a b (out.push xb) ia' (ib' + 1) := ⟨m2, m'.ha, by have := m'.hb; omega⟩
          by_cases y : bc + 1 ≥ g
          · rw [if_pos y]
            exact wpS_pure ⟨rfl, .inr ⟨_, _, _, _, _, rfl, M2, by omega⟩⟩
          · rw [if_neg y]
            exact wpS_pure ⟨rfl, _, _, _, _, _, rfl, M2, by omega⟩
      | false =>
        simp only [Bool.false_eq_true, if_false]
        refine wpS_bind (wpS_elem exa ?_)
        have m2 : Mid lt (a.toList ++ b.toList) (out.push xa).toList (a.toList.drop (ia' + 1)) (b.toList.drop ib') := by
          rw [dropC exa] at mm
          have := Mid.takeA (A1 := [xa]) O mm fun y hy z hz => by
            rw [List.mem_singleton.mp hy]
            obtain ⟨j, j1, j2, j3⟩ := mem_drop hz
            exact O.trans q (srt_at O sb j1 exb j3)
          rwa [Array.toList_push]
        by_cases z : (ia' + 1 + 1 == a.size) = true
        · rw [if_pos z]
          exact wpS_pure ⟨rfl, .inl ⟨_, _, _, _, _, _, rfl, res_l m2 (by simpa using z) hl⟩⟩
        · rw [if_neg z]
          have z' : ia' + 1 + 1 ≠ a.size := by simpa using z
          have M2 : ML lt a b (out.push xa) (ia' + 1) ib' := ⟨m2, by have := m'.ha; omega, m'.hb⟩
          by_cases y : ac + 1 ≥ g
          · rw [if_pos y]
            exact wpS_pure ⟨rfl, .inr ⟨_, _, _, _, _, rfl, M2, by omega⟩⟩
          · rw [if_neg y]
            exact wpS_pure ⟨rfl, _, _, _, _, _, rfl, M2, by omega⟩
    case p1 =>
      rintro c st' ⟨rfl, ⟨r, out', ia', ib', ac, bc, rfl, R⟩ | ⟨out', ia', ib', ac, bc, rfl, m', h'⟩⟩
      · dsimp only
        exact wpS_pure ⟨sg, r, _, _, _, _, rfl, R⟩
      · dsimp only
        refine wpS_bind (wpS_lift (wpAny_rule ⟨rfl, ?_⟩))
        refine wpS_bind (wpS_mono (wpS_forRange
          (I := fun x' c st2 => SameG st st2 ∧ ∃ out ia2 ib2 g ac bc, c = (none, out, ia2, ib2, g, ac, bc) ∧ ML lt a b out ia2 ib2 ∧ ia' + ib' ≤ ia2 + ib2)
          (Q := fun c st2 => SameG st st2 ∧ ((∃ r out ia ib g ac bc, c = (some r, out, ia, ib, g, ac, bc) ∧ Res lt a b r) ∨ ∃ out ia2 ib2 g ac bc, c = (none, out, ia2, ib2, g, ac, bc) ∧ ML lt a b out ia2 ib2 ∧ ia' + ib' ≤ ia2 + ib2)) ?s2 ?f2 ⟨sg, out', ia', ib', _, _, _, rfl, m', Nat.le_refl _⟩) ?p2)
        case f2 =>
          rintro c st2 ⟨sg2, out, ia2, ib2, g, ac, bc, rfl, m2, h2⟩
          exact ⟨sg2, .inr ⟨out, ia2, ib2, g, ac, bc, rfl, m2, h2⟩⟩
        case p2 =>
          rintro c st2 ⟨sg2, ⟨r, out2, ia2, ib2, g2, ac2, bc2, rfl, R⟩ | ⟨out2, ia2, ib2, g2, ac2, bc2, rfl, m2, h2⟩⟩
          · dsimp only
            exact wpS_pure ⟨sg2, r, _, _, _, _, rfl, R⟩
          · dsimp only
            refine wpS_bind (wpS_setMG (wpS_pure ⟨sg2.trans (sameG_with _ _), _, _, _, _, rfl, m2, by omega⟩))
        case s2 =>
          rintro x' c st2 _ hx' ⟨sg2, out2, ia2, ib2, g2, ac2, bc2, rfl, m2, h2⟩
          dsimp only
          have b1 := m2.ha
          have b2 := m2.hb
          obtain ⟨xb, exb, mxb⟩ := atT (a := b) (i := ib2) m2.hb
          have two : ∀ (ia3 : Nat) (out3 : Array Keyed), Mid lt (a.toList ++ b.toList) out3.toList (a.toList.drop ia3) (b.toList.drop ib2) → (∀ y ∈ a.toList.drop ia3, Le lt xb y) → Mid lt (a.toList ++ b.toList) (out3.push xb).toList (a.toList.drop ia3) (b.toList.drop (ib2 + 1)) := fun ia3 out3 m3 hy => by
            rw [dropC exb] at m3
            have := Mid.takeB (B1 := [xb]) O m3 fun y hy' z hz => by
              rw [List.mem_singleton.mp hy']
              exact hy z hz
            rwa [Array.toList_push]
          by_cases zg : g2 > 1
          all_goals
            first | rw [if_pos zg] | rw [if_neg zg]
            refine wpS_bind (wpS_setMG (wpS_bind (wpS_elem exb ?_)))
            refine wpS_bind (gal_right C (sg2.1.trans hk) (hSb xb mxb) (fun i j x y hij hj ex ey => srt_at O sa (by omega) ex ey) hSa (by omega) (by omega) fun k k1 k2 k3 => ?_)
            have sg3 := sg2.trans (sameG_with st2 (g2 - 1))
            have sg3' := sg2.trans (sameG_with st2 g2)
            dsimp only
            have rest : ∀ y ∈ a.toList.drop (ia2 + k), Le lt xb y := fun y hy => by
              obtain ⟨j, j1, j2, j3⟩ := mem_drop hy
              exact O.le (k3 (j - ia2) y (by omega) (by omega) (by rw [show ia2 + (j - ia2) = j by omega]; exact j3))
            have m3 : Mid lt (a.toList ++ b.toList) (out2 ++ a.extract ia2 (ia2 + k)).toList (a.toList.drop (ia2 + k)) (b.toList.drop ib2) := by
              have mm := m2.m
              rw [dropK (a := a) (i := ia2) (k := k)] at mm
              rw [Array.toList_append]
              refine mm.takeA O fun x hx y hy => ?_
              obtain ⟨j, j1, j2⟩ := mem_ext hx (by omega)
              obtain ⟨i, i1, i2, i3⟩ := mem_drop hy
              exact O.trans (k2 j x j1 j2) (srt_at O sb i1 exb i3)
            have h3 : ia' + ib' ≤ ia2 + k + ib2 := by omega
            by_cases zk : k > 0
            rw [if_pos zk]
            by_cases y1 : (ia2 + k + 1 == a.size) = true
            rw [if_pos y1]
            exact wpS_pure ⟨by assumption, .inl ⟨_, _, _, _, _, _, _, rfl, res_l m3 (by simpa using y1) hl⟩⟩
            rw [if_neg y1]
            by_cases y2 : (ia2 + k == a.size) = true
            rw [if_pos y2]
            exact wpS_pure ⟨by assumption, .inl ⟨_, _, _, _, _, _, _, rfl, res_a m3 (by simpa using y2)⟩⟩
            rw [if_neg y2]
            have y3 : ia2 + k + 1 < a.size := by
              have : ia2 + k + 1 ≠ a.size := by simpa using y1
              have : ia2 + k ≠ a.size := by simpa using y2
              omega
            generalize out2 ++ a.extract ia2 (ia2 + k) = out3 at m3 ⊢
            generalize ia2 + k = ia3 at *
            rotate_left
            rw [if_neg zk]
            have y3 : ia2 + k + 1 < a.size := by omega
            have k0 : k = 0 := by omega
            subst k0
            have eo : out2 ++ a.extract ia2 (ia2 + 0) = out2 := by
              simp
              omega
            rw [eo] at m3
            rw [Nat.add_zero] at *
            generalize out2 = out3 at *
            generalize ia2 = ia3 at *
          all_goals
            have m4 := two ia3 out3 m3 rest
            refine wpS_bind (wpS_elem exb ?_)
            obtain ⟨xa, exa, mxa⟩ := atT (a := a) (i := ia3) (by omega)
            by_cases y4 : (ib2 + 1 == b.size) = true
            rw [if_pos y4]
            exact wpS_pure ⟨by assumption, .inl ⟨_, _, _, _, _, _, _, rfl, res_b m4 (by simpa using y4)⟩⟩
            rw [if_neg y4]
            have y5 : ib2 + 1 < b.size := by
              have : ib2 + 1 ≠ b.size := by simpa using y4
              omega
            refine wpS_bind (wpS_elem exa ?_)
            refine wpS_bind (gal_left C (sg2.1.trans hk) (hSa xa mxa) (fun i j x y hij hj ex ey => srt_at O sb (by omega) ex ey) hSb (by omega) (by omega) fun l l1 l2 l3 => ?_)
            dsimp only
            have rest2 : ∀ y ∈ b.toList.drop (ib2 + 1 + l), Le lt xa y := fun y hy => by
              obtain ⟨j, j1, j2, j3⟩ := mem_drop hy
              exact l3 (j - (ib2 + 1)) y (by omega) (by omega) (by rw [show ib2 + 1 + (j - (ib2 + 1)) = j by omega]; exact j3)
            have m5 : Mid lt (a.toList ++ b.toList) (out3.push xb ++ b.extract (ib2 + 1) (ib2 + 1 + l)).toList (a.toList.drop ia3) (b.toList.drop (ib2 + 1 + l)) := by
              rw [dropK (a := b) (i := ib2 + 1) (k := l)] at m4
              rw [Array.toList_append]
              refine m4.takeB O fun x hx y hy => ?_
              obtain ⟨j, j1, j2⟩ := mem_ext hx (by omega)
              obtain ⟨i, i1, i2, i3⟩ := mem_drop hy
              exact O.trans (O.le (l2 j x j1 j2)) (srt_at O sa i1 exa i3)
            by_cases zl : l > 0
            rw [if_pos zl]
            by_cases y6 : (ib2 + 1 + l == b.size) = true
            rw [if_pos y6]
            exact wpS_pure ⟨by assumption, .inl ⟨_, _, _, _, _, _, _, rfl, res_b m5 (by simpa using y6)⟩⟩
            rw [if_neg y6]
            have y7 : ib2 + 1 + l < b.size := by
              have : ib2 + 1 + l ≠ b.size := by simpa using y6
              omega
            have y8 : ia' + ib' ≤ ia3 + (ib2 + 1 + l) := by omega
            generalize out3.push xb ++ b.extract (ib2 + 1) (ib2 + 1 + l) = out4 at m5 ⊢
            generalize ib2 + 1 + l = ib4 at *
            rotate_left
            rw [if_neg zl]
            have y7 : ib2 + 1 + l < b.size := by omega
            have y8 : ia' + ib' ≤ ia3 + (ib2 + 1 + l) := by omega
            have l0 : l = 0 := by omega
            subst l0
            have eo : out3.push xb ++ b.extract (ib2 + 1) (ib2 + 1 + 0) = out3.push xb := by
              simp
              omega
            rw [eo] at m5
            rw [Nat.add_zero] at rest2 m5 y7 y8
            generalize out3.push xb = out4 at *
            generalize ib2 + 1 = ib4 at *
          all_goals
            refine wpS_bind (wpS_elem exa ?_)
            have m6 : Mid lt (a.toList ++ b.toList) (out4.push xa).toList (a.toList.drop (ia3 + 1)) (b.toList.drop ib4) := by
              rw [dropC exa] at m5
              have := Mid.takeA (A1 := [xa]) O m5 fun y hy z hz => by
                rw [List.mem_singleton.mp hy]
                exact rest2 z hz
              rwa [Array.toList_push]
            by_cases y9 : (ia3 + 1 + 1 == a.size) = true
            rw [if_pos y9]
            exact wpS_pure ⟨by assumption, .inl ⟨_, _, _, _, _, _, _, rfl, res_l m6 (by simpa using y9) hl⟩⟩
            rw [if_neg y9]
            have ya : ia3 + 1 + 1 < a.size := by
              have : ia3 + 1 + 1 ≠ a.size := by simpa using y9
              omega
            have M6 : ML lt a b (out4.push xa) (ia3 + 1) ib4 := ⟨m6, ya, by omega⟩
            refine wpS_ite (fun _ => wpS_pure ⟨by assumption, .inr ⟨_, _, _, _, _, _, rfl, M6, by omega⟩⟩) fun _ => wpS_pure ⟨by assumption, _, _, _, _, _, _, rfl, M6, by omega⟩
end
end TS

end

section
-- KcTs3
set_option linter.all false
set_option autoImplicit false
set_option maxRecDepth 100000
set_option maxHeartbeats 4000000
namespace TS
open PySem PyProof.Rows
noncomputable def mergeHi' : Array Keyed → Array Keyed → StateT SortSt Sem (Array Keyed) := sortPriv% PySem.Builtin.mergeHi
section
variable {α : Type}
theorem ext0 (a : Array α) (n : Nat) : (a.extract 0 n).toList = a.toList.take n := by rw [extTo, List.drop_zero, Nat.sub_zero]
theorem takeC {a : Array α} {n : Nat} {x : α} (h : a[n]? = some x) : a.toList.take (n + 1) = a.toList.take n ++ [x] := by
  rw [List.take_add_one, Array.getElem?_toList, h]
  rfl
theorem takeK {a : Array α} {m n : Nat} (h : m ≤ n) : a.toList.take n = a.toList.take m ++ (a.extract m n).toList := by
  rw [extTo, ← List.drop_take]
  have := List.take_append_drop m (a.toList.take n)
  rw [List.take_take, Nat.min_eq_left h] at this
  exact this.symm
theorem mem_take {a : Array α} {n : Nat} {x : α} (h : x ∈ a.toList.take n) (hn : n ≤ a.size) : ∃ j, j < n ∧ a[j]? = some x := by
  obtain ⟨j, hj⟩ := List.getElem?_of_mem h
  have hjn : j < n := by
    have := (List.getElem?_eq_some_iff.mp hj).1
    rw [List.length_take] at this
    omega
  rw [List.getElem?_take_of_lt hjn, Array.getElem?_toList] at hj
  exact ⟨j, hjn, hj⟩
theorem mem_ext2 {a : Array α} {m n : Nat} {x : α} (h : x ∈ (a.extract m n).toList) (hn : n ≤ a.size) : ∃ j, m ≤ j ∧ j < n ∧ a[j]? = some x := by
  rw [extTo] at h
  obtain ⟨j, hj⟩ := List.getElem?_of_mem h
  have hjk : j < n - m := by
    have := (List.getElem?_eq_some_iff.mp hj).1
    rw [List.length_take] at this
    omega
  rw [List.getElem?_take_of_lt hjk, List.getElem?_drop, Array.getElem?_toList] at hj
  exact ⟨m + j, by omega, by omega, hj⟩
end
section
variable {prog : Program} {w : World} {A : Around} {E : Value → Shared → Prop} {s : Shared} {κ : SortKind} {S : Keyed → Prop} {lt : Keyed → Keyed → Bool} {a b out : Array Keyed} {na nb : Nat}
noncomputable abbrev MH (lt : Keyed → Keyed → Bool) (a b out : Array Keyed) (na nb : Nat) : Prop := MidH lt (a.toList ++ b.toList) (a.toList.take na) (b.toList.take nb) out.toList.reverse
theorem hres_a (m : MH lt a b out na nb) (h : na = 0) : Res lt a b (a.extract 0 na ++ b.extract 0 nb ++ out.reverse) := by
  subst h
  unfold MH at m
  rw [List.take_zero] at m
  have := m.doneB
  unfold Res
  rw [Array.toList_append, Array.toList_append, ext0, ext0, List.take_zero, List.nil_append, Array.toList_reverse]
  exact this
theorem hres_b (m : MH lt a b out na nb) (h : nb = 0) : Res lt a b (a.extract 0 na ++ b.extract 0 nb ++ out.reverse) := by
  subst h
  unfold MH at m
  rw [List.take_zero] at m
  have := m.doneA
  unfold Res
  rw [Array.toList_append, Array.toList_append, ext0, ext0, List.take_zero, List.append_nil, Array.toList_reverse]
  exact this
theorem hres_f (m : MH lt a b out na nb) (h : nb = 1) (hb1 : 1 ≤ b.size) (hf : ∀ x y, b[0]? = some x → y ∈ a.toList → Le lt x y) : Res lt a b (b.extract 0 nb ++ a.extract 0 na ++ out.reverse) := by
  subst h
  obtain ⟨x, ex, _⟩ := atT (a := b) (i := 0) (by omega)
  have e : b.toList.take 1 = [x] := by
    have := takeC ex
    rwa [List.take_zero, List.nil_append] at this
  unfold MH at m
  rw [e] at m
  have := m.first fun y hy => hf x y ex (List.mem_of_mem_take hy)
  unfold Res
  rw [Array.toList_append, Array.toList_append, ext0, ext0, e, Array.toList_reverse]
  exact this
theorem mh_a (m : MH lt a b out (na + 1) nb) {x : Keyed} (e : a[na]? = some x) (h : ∀ y ∈ b.toList.take nb, Le lt y x) : MH lt a b (out.push x) na nb := by
  unfold MH at *
  rw [takeC e] at m
  have := m.takeA fun y hy z hz => by
    rw [List.mem_singleton.mp hz]
    exact h y hy
  rw [Array.toList_push, List.reverse_append]
  exact this
theorem mh_b (m : MH lt a b out na (nb + 1)) {x : Keyed} (e : b[nb]? = some x) (h : ∀ y ∈ a.toList.take na, Le lt y x) : MH lt a b (out.push x) na nb := by
  unfold MH at *
  rw [takeC e] at m
  have := m.takeB fun y hy z hz => by
    rw [List.mem_singleton.mp hz]
    exact h y hy
  rw [Array.toList_push, List.reverse_append]
  exact this
theorem mh_as (m : MH lt a b out na nb) {k : Nat} (hk : k ≤ na) (h : ∀ y ∈ b.toList.take nb, ∀ x ∈ (a.extract k na).toList, Le lt y x) : MH lt a b (out ++ (a.extract k na).reverse) k nb := by
  unfold MH at *
  rw [takeK hk] at m
  have := m.takeA h
  rw [Array.toList_append, List.reverse_append, Array.toList_reverse, List.reverse_reverse]
  exact this
theorem mh_bs (m : MH lt a b out na nb) {k : Nat} (hk : k ≤ nb) (h : ∀ y ∈ a.toList.take na, ∀ x ∈ (b.extract k nb).toList, Le lt y x) : MH lt a b (out ++ (b.extract k nb).reverse) na k := by
  unfold MH at *
  rw [takeK hk] at m
  have := m.takeB h
  rw [Array.toList_append, List.reverse_append, Array.toList_reverse, List.reverse_reverse]
  exact this
structure MG (lt : Keyed → Keyed → Bool) (a b out : Array Keyed) (na nb : Nat) : Prop where
  m : MH lt a b out na nb
  a1 : 1 ≤ na
  a2 : na ≤ a.size
  b1 : 2 ≤ nb
  b2 : nb ≤ b.size
theorem wpS_mergeHi (C : Cmp prog w A s κ S lt) {st : SortSt} {Q : Array Keyed → SortSt → Prop} (hk : kindOf st = κ) (sa : Srt lt a.toList) (sb : Srt lt b.toList) (hSa : ∀ x ∈ a.toList, S x) (hSb : ∀ x ∈ b.toList, S x) (ha1 : 1 ≤ a.size) (hb1 : 1 ≤ b.size)
    (hf : ∀ x y, b[0]? = some x → y ∈ a.toList → Le lt x y) (hl : ∀ x y, a[a.size - 1]? = some x → y ∈ b.toList → Le lt y x)
    (h : ∀ r st', SameG st st' → Res lt a b r → Q r st') : wpS (model prog w) A E s (mergeHi' a b) Q st := by
  have O := C.ord
  refine wpS_bind (wpS_lift (wpAny_rule ⟨rfl, ?_⟩))
  obtain ⟨a0, ea0, ma0⟩ := atT (a := a) (i := a.size - 1) (by omega)
  refine wpS_bind (wpS_elem ea0 ?_)
  have m0 : MH lt a b #[a0] (a.size - 1) b.size := by
    have st0 : MH lt a b #[] (a.size - 1 + 1) b.size := by
      have e1 : a.toList.take (a.size - 1 + 1) = a.toList := List.take_of_length_le (by rw [Array.length_toList]; omega)
      have e2 : b.toList.take b.size = b.toList := List.take_of_length_le (by rw [Array.length_toList]; omega)
      unfold MH
      rw [e1, e2]
      exact ⟨srt_nil, sa, sb, fun _ _ _ z => (nomatch z), fun _ _ _ z => (nomatch z), by simp⟩
    exact mh_a st0 ea0 fun y hy => hl a0 y ea0 (List.mem_of_mem_take hy)
  by_cases z1 : (a.size - 1 == 0) = true
  · rw [if_pos z1]
    exact wpS_pure (h _ _ (SameG.refl st) (hres_a m0 (by simpa using z1)))
  rw [if_neg z1]
  by_cases z2 : (b.size == 1) = true
  · rw [if_pos z2]
    exact wpS_pure (h _ _ (SameG.refl st) (hres_f m0 (by simpa using z2) hb1 hf))
  rw [if_neg z2]
  have z1' : a.size - 1 ≠ 0 := fun z => z1 (by rw [z]; rfl)
  have z2' : b.size ≠ 1 := fun z => z2 (by rw [z]; rfl)
  refine wpS_bind (wpS_get ?_)
  refine wpS_bind (wpS_mono (wpS_forRange
    (I := fun x c st' => SameG st st' ∧ ∃ na nb out g, c = (none, na, nb, out, g) ∧ MG lt a b out na nb ∧ na + nb + x + 1 ≤ a.size + b.size)
    (Q := fun c st' => SameG st st' ∧ ∃ r na nb out g, c = (some r, na, nb, out, g) ∧ Res lt a b r) ?step ?fin ⟨SameG.refl st, _, _, _, _, rfl, ⟨m0, by omega, by omega, by omega, by omega⟩, by omega⟩) ?post)
  case post =>
    rintro c st' ⟨sg, r, na, nb, out, g, rfl, R⟩
    exact wpS_pure (h r st' sg R)
  case fin =>
    rintro c st' ⟨sg, na, nb, out, g, rfl, m, hx⟩
    have := m.a1
    omega
  case step =>
    rintro x c st1 _ hx ⟨sg, na, nb, out, g, rfl, m, hm⟩
    dsimp only
    have hk1 : kindOf st1 = κ := sg.1.trans hk
    refine wpS_bind (wpS_mono (wpS_forRange
      (I := fun x' c st' => st' = st1 ∧ ∃ na' nb' out ac bc, c = (none, na', nb', out, ac, bc) ∧ MG lt a b out na' nb' ∧ na' + nb' + x' ≤ na + nb)
      (Q := fun c st' => st' = st1 ∧ ((∃ r na nb out ac bc, c = (some r, na, nb, out, ac, bc) ∧ Res lt a b r) ∨ ∃ na' nb' out ac bc, c = (none, na', nb', out, ac, bc) ∧ MG lt a b out na' nb' ∧ na' + nb' + 1 ≤ na + nb)) ?s1 ?f1 ⟨rfl, na, nb, out, _, _, rfl, m, by omega⟩) ?p1)
    case f1 =>
      rintro c st' ⟨rfl, na', nb', out, ac, bc, rfl, m', h'⟩
      exact ⟨rfl, .inr ⟨na', nb', out, ac, bc, rfl, m', by omega⟩⟩
    case s1 =>
      rintro x' c st' _ hx' ⟨rfl, na', nb', out, ac, bc, rfl, m', h'⟩
      dsimp only
      obtain ⟨mm, q1, q2, q3, q4⟩ := m'
      obtain ⟨xb, exb, mxb⟩ := atT (a := b) (i := nb' - 1) (by omega)
      obtain ⟨xa, exa, mxa⟩ := atT (a := a) (i := na' - 1) (by omega)
      refine wpS_bind (wpS_elem exb (wpS_bind (wpS_elem exa (wpS_bind (wpS_lt C hk1 (hSb xb mxb) (hSa xa mxa) ?_)))))
      cases q : lt xb xa with
      | true =>
        simp only [if_true]
        refine wpS_bind (wpS_elem exa ?_)
        have m2 : MH lt a b (out.push xa) (na' - 1) nb' := mh_a (by rw [show na' - 1 + 1 = na' by omega]; exact mm) exa fun y hy => by
          obtain ⟨j, j1, j2⟩ := mem_take hy q4
          exact O.trans (srt_at O sb (by omega) j2 exb) (O.le q)
        by_cases z : (na' - 1 == 0) = true
        · rw [if_pos z]
          exact wpS_pure ⟨rfl, .inl ⟨_, _, _, _, _, _, rfl, hres_a m2 (by simpa using z)⟩⟩
        · rw [if_neg z]
          have z' : na' - 1 ≠ 0 := fun e => z (by rw [e]; rfl)
          have M2 : MG lt a b (out.push xa) (na' - 1) nb' := ⟨m2, by omega, by omega, q3, q4⟩
          exact wpS_ite (fun _ => wpS_pure ⟨rfl, .inr ⟨_, _, _, _, _, rfl, M2, by omega⟩⟩) fun _ => wpS_pure ⟨rfl, _, _, _, _, _, rfl, M2, by omega⟩
      | false =>
        simp only [Bool.false_eq_true, if_false]
        refine wpS_bind (wpS_elem exb ?_)
        have m2 : MH lt a b (out.push xb) na' (nb' - 1) := mh_b (by rw [show nb' - 1 + 1 = nb' by omega]; exact mm) exb fun y hy => by
          obtain ⟨j, j1, j2⟩ := mem_take hy q2
          exact O.trans (srt_at O sa (by omega) j2 exa) q
        by_cases z : (nb' - 1 == 1) = true
        · rw [if_pos z]
          exact wpS_pure ⟨rfl, .inl ⟨_, _, _, _, _, _, rfl, hres_f m2 (by simpa using z) hb1 hf⟩⟩
        · rw [if_neg z]
          have z' : nb' - 1 ≠ 1 := fun e => z (by rw [e]; rfl)
          have M2 : MG lt a b (out.push xb) na' (nb' - 1) := ⟨m2, q1, q2, by omega, by omega⟩
          exact wpS_ite (fun _ => wpS_pure ⟨rfl, .inr ⟨_, _, _, _, _, rfl, M2, by omega⟩⟩) fun _ => wpS_pure ⟨rfl, _, _, _, _, _, rfl, M2, by omega⟩
    case p1 =>
      rintro c st' ⟨rfl, ⟨r, na', nb', out', ac, bc, rfl, R⟩ | ⟨na', nb', out', ac, bc, rfl, m', h'⟩⟩
      · dsimp only
        exact wpS_pure ⟨sg, r, _, _, _, _, rfl, R⟩
      · dsimp only
        refine wpS_bind (wpS_lift (wpAny_rule ⟨rfl, ?_⟩))
        refine wpS_bind (wpS_mono (wpS_forRange
          (I := fun x' c st2 => SameG st st2 ∧ ∃ na2 nb2 out g ac bc, c = (none, na2, nb2, out, g, ac, bc) ∧ MG lt a b out na2 nb2 ∧ na2 + nb2 ≤ na' + nb')
          (Q := fun c st2 => SameG st st2 ∧ ((∃ r na nb out g ac bc, c = (some r, na, nb, out, g, ac, bc) ∧ Res lt a b r) ∨ ∃ na2 nb2 out g ac bc, c = (none, na2, nb2, out, g, ac, bc) ∧ MG lt a b out na2 nb2 ∧ na2 + nb2 ≤ na' + nb')) ?s2 ?f2 ⟨sg, na', nb', out', _, _, _, rfl, m', Nat.le_refl _⟩) ?p2)
        case f2 =>
          rintro c st2 ⟨sg2, na2, nb2, out, g, ac, bc, rfl, m2, h2⟩
          exact ⟨sg2, .inr ⟨na2, nb2, out, g, ac, bc, rfl, m2, h2⟩⟩
        case p2 =>
          rintro c st2 ⟨sg2, ⟨r, na2, nb2, out2, g2, ac2, bc2, rfl, R⟩ | ⟨na2, nb2, out2, g2, ac2, bc2, rfl, m2, h2⟩⟩
          · dsimp only
            exact wpS_pure ⟨sg2, r, _, _, _, _, rfl, R⟩
          · dsimp only
            refine wpS_bind (wpS_setMG (wpS_pure ⟨sg2.trans (sameG_with _ _), _, _, _, _, rfl, m2, by omega⟩))
        case s2 =>
          rintro x' c st2 _ hx' ⟨sg2, na2, nb2, out2, g2, ac2, bc2, rfl, m2, h2⟩
          dsimp only
          obtain ⟨mm, q1, q2, q3, q4⟩ := m2
          obtain ⟨xb, exb, mxb⟩ := atT (a := b) (i := nb2 - 1) (by omega)
          have sg3 := sg2.trans (sameG_with st2 (g2 - 1))
          have sg3' := sg2.trans (sameG_with st2 g2)
          by_cases zg : g2 > 1
          all_goals
            first | rw [if_pos zg] | rw [if_neg zg]
            refine wpS_bind (wpS_setMG (wpS_bind (wpS_elem exb ?_)))
            refine wpS_bind (gal_right C (sg2.1.trans hk) (hSb xb mxb) (fun i j x y hij hj ex ey => srt_at O sa (by omega) ex ey) hSa (by omega) (by omega) fun k k1 k2 k3 => ?_)
            dsimp only
            have low : ∀ y ∈ a.toList.take k, Le lt y xb := fun y hy => by
              obtain ⟨j, j1, j2⟩ := mem_take hy (by omega)
              exact k2 j y j1 (by rw [Nat.zero_add]; exact j2)
            have m3 : MH lt a b (out2 ++ (a.extract k na2).reverse) k nb2 := mh_as mm k1 fun y hy x hx => by
              obtain ⟨j, j1, j2, j3⟩ := mem_ext2 hx q2
              obtain ⟨i, i1, i2⟩ := mem_take hy q4
              exact O.trans (srt_at O sb (by omega) i2 exb) (O.le (k3 j x j1 j2 (by rw [Nat.zero_add]; exact j3)))
            by_cases zk : na2 - k > 0
            rw [if_pos zk]
            by_cases y1 : (k == 0) = true
            rw [if_pos y1]
            exact wpS_pure ⟨by assumption, .inl ⟨_, _, _, _, _, _, _, rfl, hres_a m3 (by simpa using y1)⟩⟩
            rw [if_neg y1]
            have y3 : 1 ≤ k := by
              have : k ≠ 0 := fun e => y1 (by rw [e]; rfl)
              omega
            have y4 : k ≤ a.size := by omega
            have h3 : k + nb2 ≤ na' + nb' := by omega
            generalize out2 ++ (a.extract k na2).reverse = out3 at m3 ⊢
            generalize k = na3 at *
            rotate_left
            rw [if_neg zk]
            obtain rfl : k = na2 := by omega
            have eo : out2 ++ (a.extract k k).reverse = out2 := by
              simp
              omega
            rw [eo] at m3
            have y3 : 1 ≤ k := q1
            have y4 : k ≤ a.size := q2
            have h3 : k + nb2 ≤ na' + nb' := h2
            generalize out2 = out3 at *
            generalize k = na3 at *
          all_goals
            refine wpS_bind (wpS_elem exb ?_)
            have m4 : MH lt a b (out3.push xb) na3 (nb2 - 1) := mh_b (by rw [show nb2 - 1 + 1 = nb2 by omega]; exact m3) exb low
            obtain ⟨xa, exa, mxa⟩ := atT (a := a) (i := na3 - 1) (by omega)
            by_cases y5 : (nb2 - 1 == 1) = true
            rw [if_pos y5]
            exact wpS_pure ⟨by assumption, .inl ⟨_, _, _, _, _, _, _, rfl, hres_f m4 (by simpa using y5) hb1 hf⟩⟩
            rw [if_neg y5]
            have y6 : 2 ≤ nb2 - 1 := by
              have : nb2 - 1 ≠ 1 := fun e => y5 (by rw [e]; rfl)
              omega
            refine wpS_bind (wpS_elem exa ?_)
            refine wpS_bind (gal_left C (sg2.1.trans hk) (hSa xa mxa) (fun i j x y hij hj ex ey => srt_at O sb (by omega) ex ey) hSb (by omega) (by omega) fun l l1 l2 l3 => ?_)
            dsimp only
            have low2 : ∀ y ∈ b.toList.take l, Le lt y xa := fun y hy => by
              obtain ⟨j, j1, j2⟩ := mem_take hy (by omega)
              exact O.le (l2 j y j1 (by rw [Nat.zero_add]; exact j2))
            have m5 : MH lt a b (out3.push xb ++ (b.extract l (nb2 - 1)).reverse) na3 l := mh_bs m4 l1 fun y hy x hx => by
              obtain ⟨j, j1, j2, j3⟩ := mem_ext2 hx (by omega)
              obtain ⟨i, i1, i2⟩ := mem_take hy y4
              exact O.trans (srt_at O sa (by omega) i2 exa) (l3 j x j1 j2 (by rw [Nat.zero_add]; exact j3))
            by_cases zl : nb2 - 1 - l > 0
            rw [if_pos zl]
            by_cases y7 : (l == 1) = true
            rw [if_pos y7]
            exact wpS_pure ⟨by assumption, .inl ⟨_, _, _, _, _, _, _, rfl, hres_f m5 (by simpa using y7) hb1 hf⟩⟩
            rw [if_neg y7]
            by_cases y8 : (l == 0) = true
            rw [if_pos y8]
            exact wpS_pure ⟨by assumption, .inl ⟨_, _, _, _, _, _, _, rfl, hres_b m5 (by simpa using y8)⟩⟩
            rw [if_neg y8]
            have y9 : 2 ≤ l := by
              have : l ≠ 1 := fun e => y7 (by rw [e]; rfl)
              have : l ≠ 0 := fun e => y8 (by rw [e]; rfl)
              omega
            have ya : l ≤ b.size := by omega
            have h4 : na3 + l ≤ na' + nb' := by omega
            generalize out3.push xb ++ (b.extract l (nb2 - 1)).reverse = out4 at m5 ⊢
            generalize l = nb4 at *
            rotate_left
            rw [if_neg zl]
            have el : l = nb2 - 1 := by omega
            have eo : out3.push xb ++ (b.extract l (nb2 - 1)).reverse = out3.push xb := by
              rw [el]
              simp
              omega
            rw [eo] at m5
            rw [← el]
            have y9 : 2 ≤ l := by omega
            have ya : l ≤ b.size := by omega
            have h4 : na3 + l ≤ na' + nb' := by omega
            generalize out3.push xb = out4 at *
            generalize l = nb4 at *
          all_goals
            refine wpS_bind (wpS_elem exa ?_)
            have m6 : MH lt a b (out4.push xa) (na3 - 1) nb4 := mh_a (by rw [show na3 - 1 + 1 = na3 by omega]; exact m5) exa low2
            by_cases yb : (na3 - 1 == 0) = true
            rw [if_pos yb]
            exact wpS_pure ⟨by assumption, .inl ⟨_, _, _, _, _, _, _, rfl, hres_a m6 (by simpa using yb)⟩⟩
            rw [if_neg yb]
            have yc : 1 ≤ na3 - 1 := by
              have : na3 - 1 ≠ 0 := fun e => yb (by rw [e]; rfl)
              omega
            have M6 : MG lt a b (out4.push xa) (na3 - 1) nb4 := ⟨m6, yc, by omega, y9, ya⟩
            refine wpS_ite (fun _ => wpS_pure ⟨by assumption, .inr ⟨_, _, _, _, _, _, rfl, M6, by omega⟩⟩) fun _ => wpS_pure ⟨by assumption, _, _, _, _, _, _, rfl, M6, by omega⟩
end
end TS

end

section
-- KcTs4
set_option linter.all false
set_option autoImplicit false
set_option maxRecDepth 100000
set_option maxHeartbeats 4000000
namespace TS
open PySem PyProof.Rows
section
variable {α : Type}
theorem setSeg (o : Nat) : ∀ (m : List α) (i : Nat) (U V W : List α) (arr : Array α), arr.toList = U ++ V ++ W → V.length = m.length → U.length = o + i →
    ((m.zipIdx i).foldl (fun a x => match x with | (p, j) => a.setIfInBounds (o + j) p) arr).toList = U ++ m ++ W
  | [], i, U, V, W, arr, e, hl, hu => by
    rw [List.zipIdx_nil, List.foldl_nil, e, show V = [] from List.eq_nil_of_length_eq_zero (by simpa using hl)]
  | p :: m, i, U, v :: V, W, arr, e, hl, hu => by
    rw [List.zipIdx_cons, List.foldl_cons]
    have h1 : (arr.setIfInBounds (o + i) p).toList = (U ++ [p]) ++ V ++ W := by
      rw [Array.toList_setIfInBounds, e, ← hu]
      simp
    rw [setSeg o m (i + 1) (U ++ [p]) V W _ h1 (by simpa using hl) (by simp; omega)]
    simp
  | p :: m, i, U, [], W, arr, e, hl, hu => by simp at hl
theorem at_seg {arr : Array α} {P X R : List α} (e : arr.toList = P ++ X ++ R) {i : Nat} (hi : i < X.length) : arr[P.length + i]? = X[i]? := by
  rw [← Array.getElem?_toList, e, List.append_assoc, List.getElem?_append_right (by omega), Nat.add_sub_cancel_left, List.getElem?_append_left hi]
theorem ext_seg {arr : Array α} {P X R : List α} (e : arr.toList = P ++ X ++ R) {i j : Nat} (hi : i = P.length) (hj : j = P.length + X.length) : (arr.extract i j).toList = X := by
  rw [extTo, e, List.append_assoc, hi, List.drop_left, hj, Nat.add_sub_cancel_left, List.take_left]
end
section
variable {prog : Program} {w : World} {A : Around} {E : Value → Shared → Prop} {s : Shared} {κ : SortKind} {S : Keyed → Prop} {lt : Keyed → Keyed → Bool}
theorem wpS_set {M : Model} {st st' : SortSt} {Q : PUnit → SortSt → Prop} (h : Q ⟨⟩ st') : wpS M A E s (set st' : StateT SortSt Sem PUnit) Q st := by
  unfold wpS
  rw [StateT.run_set]
  exact wpAny_pure ⟨rfl, h⟩
theorem srt_list (O : Ord lt) {X : List Keyed} (h : Srt lt X) {i j : Nat} (hij : i ≤ j) {x y : Keyed} (hx : X[i]? = some x) (hy : X[j]? = some y) : Le lt x y := by
  obtain ⟨h1, e1⟩ := List.getElem?_eq_some_iff.mp hx
  obtain ⟨h2, e2⟩ := List.getElem?_eq_some_iff.mp hy
  rcases Nat.lt_or_eq_of_le hij with z | z
  · have := List.pairwise_iff_getElem.mp h i j h1 h2 z
    rw [e1, e2] at this
    exact this
  · subst z
    rw [e1] at e2
    rw [← e2]
    exact O.refl x
theorem wpS_mergeAt (C : Cmp prog w A s κ S lt) {st : SortSt} {i sa na pw sb nb pw2 : Nat} {P X Y R : List Keyed} {Q : Bool → SortSt → Prop} (hk : kindOf st = κ) (hf : failedOf st = none)
    (hp1 : (pendingOf st)[i]? = some (sa, na, pw)) (hp2 : (pendingOf st)[i + 1]? = some (sb, nb, pw2)) (ea : (arrOf st).toList = P ++ X ++ Y ++ R) (l1 : P.length = sa) (l2 : X.length = na) (l3 : sb = sa + na) (l4 : Y.length = nb) (n1 : 1 ≤ na) (n2 : 1 ≤ nb)
    (sX : Srt lt X) (sY : Srt lt Y) (hS : ∀ x ∈ (arrOf st).toList, S x)
    (h : ∀ Z st', kindOf st' = κ → failedOf st' = none → pendingOf st' = ((pendingOf st).setIfInBounds i (sa, na + nb, pw)).eraseIdxIfInBounds (i + 1) → (arrOf st').toList = P ++ Z ++ R → Srt lt Z → Z.Perm (X ++ Y) → Q true st') :
    wpS (model prog w) A E s (mergeAt' i) Q st := by
  have O := C.ord
  have eX : (arrOf st).toList = P ++ X ++ (Y ++ R) := by rw [ea]; simp
  have eY : (arrOf st).toList = (P ++ X) ++ Y ++ R := ea
  have lPX : (P ++ X).length = sb := by rw [List.length_append, l1, l2, l3]
  have sz : (arrOf st).size = sa + na + nb + R.length := by
    rw [← Array.length_toList, ea]
    simp [l1, l2, l4]
    omega
  have aX : ∀ i, i < na → (arrOf st)[sa + i]? = X[i]? := fun i hi => by rw [← l1]; exact at_seg eX (by omega)
  have aY : ∀ i, i < nb → (arrOf st)[sb + i]? = Y[i]? := fun i hi => by rw [← lPX]; exact at_seg eY (by omega)
  obtain ⟨y0, ey0⟩ : ∃ y0, Y[0]? = some y0 := ⟨Y[0]'(by omega), List.getElem?_eq_getElem _⟩
  obtain ⟨xl, exl⟩ : ∃ xl, X[na - 1]? = some xl := ⟨X[na - 1]'(by omega), List.getElem?_eq_getElem _⟩
  have Sy0 : S y0 := hS _ (by rw [ea]; simp [List.mem_of_getElem? ey0])
  have Sxl : S xl := hS _ (by rw [ea]; simp [List.mem_of_getElem? exl])
  refine wpS_bind (wpS_get ?_)
  rw [show (sortPriv% PySem.Builtin.SortState.pending) st = pendingOf st from rfl, hp1, hp2]
  dsimp only
  refine wpS_bind (wpS_set ?_)
  refine wpS_bind (wpS_elem (x := y0) (by rw [← ey0]; exact aY 0 (by omega)) ?_)
  refine wpS_bind (gal_right C hk Sy0 (fun i j x y hij hj ex ey => by rw [aX i (by omega)] at ex; rw [aX j hj] at ey; exact srt_list O sX hij ex ey) hS (show sa + na ≤ (arrOf st).size by omega) (by omega) fun k k1 k2 k3 => ?_)
  dsimp only
  have lowX : ∀ x ∈ X.take k, ∀ y ∈ Y, Le lt x y := fun x hx y hy => by
    obtain ⟨j, hj⟩ := List.getElem?_of_mem hx
    have hjk : j < k := by
      have := (List.getElem?_eq_some_iff.mp hj).1
      rw [List.length_take] at this
      omega
    rw [List.getElem?_take_of_lt hjk] at hj
    obtain ⟨t, ht⟩ := List.getElem?_of_mem hy
    exact O.trans (k2 j x hjk (by rw [aX j (by omega)]; exact hj)) (srt_list O sY (Nat.zero_le t) ey0 ht)
  have done : Srt lt (X ++ Y) → wpS (model prog w) A E s (pure true : StateT SortSt Sem Bool) Q (setPending st (((pendingOf st).setIfInBounds i (sa, na + nb, pw)).eraseIdxIfInBounds (i + 1))) := fun sXY =>
    wpS_pure (h (X ++ Y) _ hk hf rfl (by rw [← List.append_assoc]; exact ea) sXY (List.Perm.refl _))
  by_cases z1 : (na - k == 0) = true
  · rw [if_pos z1]
    have z1' : na - k = 0 := by simpa using z1
    refine done (srt_app.mpr ⟨sX, sY, fun x hx y hy => lowX x ?_ y hy⟩)
    rw [List.take_of_length_le (by omega)]
    exact hx
  rw [if_neg z1]
  have z1' : k < na := by
    have : na - k ≠ 0 := fun e => z1 (by rw [e]; rfl)
    omega
  refine wpS_bind (wpS_elem (x := xl) (by rw [show sa + k + (na - k) - 1 = sa + (na - 1) by omega, ← exl]; exact aX _ (by omega)) ?_)
  refine wpS_bind (gal_left C hk Sxl (fun i j x y hij hj ex ey => by rw [aY i (by omega)] at ex; rw [aY j hj] at ey; exact srt_list O sY hij ex ey) hS (show sb + nb ≤ (arrOf st).size by omega) (by omega) fun l q1 q2 q3 => ?_)
  dsimp only
  have highY : ∀ y ∈ Y.drop l, ∀ x ∈ X, Le lt x y := fun y hy x hx => by
    obtain ⟨j, hj⟩ := List.getElem?_of_mem hy
    rw [List.getElem?_drop] at hj
    have hjl : l + j < nb := by
      have := (List.getElem?_eq_some_iff.mp hj).1
      omega
    obtain ⟨t, ht⟩ := List.getElem?_of_mem hx
    have htl : t < na := by
      have := (List.getElem?_eq_some_iff.mp ht).1
      omega
    exact O.trans (srt_list O sX (by omega) ht exl) (q3 (l + j) y (by omega) hjl (by rw [aY _ hjl]; exact hj))
  by_cases z2 : (l == 0) = true
  · rw [if_pos z2]
    have z2' : l = 0 := by simpa using z2
    exact done (srt_app.mpr ⟨sX, sY, fun x hx y hy => highY y (by rw [z2', List.drop_zero]; exact hy) x hx⟩)
  rw [if_neg z2]
  have z2' : 1 ≤ l := by
    have : l ≠ 0 := fun e => z2 (by rw [e]; rfl)
    omega
  -- the two stretches
  have e2 : (arrOf st).toList = (P ++ X.take k) ++ X.drop k ++ (Y ++ R) := by
    rw [List.append_assoc P, List.take_append_drop]
    exact eX
  have e3 : (arrOf st).toList = (P ++ X) ++ Y.take l ++ (Y.drop l ++ R) := by
    rw [List.append_assoc (P ++ X), ← List.append_assoc (Y.take l), List.take_append_drop, ← List.append_assoc]
    exact eY
  have ex : ((arrOf st).extract (sa + k) sb).toList = X.drop k := ext_seg e2 (by simp [l1, l2]; omega) (by simp [l1, l2]; omega)
  have ey : ((arrOf st).extract sb (sb + l)).toList = Y.take l := ext_seg e3 lPX.symm (by rw [lPX, List.length_take]; omega)
  generalize hx : (arrOf st).extract (sa + k) sb = x at ex
  generalize hy : (arrOf st).extract sb (sb + l) = y at ey
  have szx : x.size = na - k := by rw [← Array.length_toList, ex, List.length_drop, l2]
  have szy : y.size = l := by rw [← Array.length_toList, ey, List.length_take]; omega
  have fX : ∀ (u v : Keyed), y[0]? = some u → v ∈ x.toList → Le lt u v := fun u v hu hv => by
    rw [← Array.getElem?_toList, ey, List.getElem?_take_of_lt (by omega), ey0] at hu
    cases hu
    rw [ex] at hv
    obtain ⟨j, hj⟩ := List.getElem?_of_mem hv
    rw [List.getElem?_drop] at hj
    have hjl : k + j < na := by
      have := (List.getElem?_eq_some_iff.mp hj).1
      omega
    exact O.le (k3 (k + j) v (by omega) hjl (by rw [aX _ hjl]; exact hj))
  have lX : ∀ (u v : Keyed), x[x.size - 1]? = some u → v ∈ y.toList → Le lt v u := fun u v hu hv => by
    rw [← Array.getElem?_toList, ex, List.getElem?_drop, szx, show k + (na - k - 1) = na - 1 by omega, exl] at hu
    cases hu
    rw [ey] at hv
    obtain ⟨j, hj⟩ := List.getElem?_of_mem hv
    have hjl : j < l := by
      have := (List.getElem?_eq_some_iff.mp hj).1
      rw [List.length_take] at this
      omega
    rw [List.getElem?_take_of_lt hjl] at hj
    exact O.le (q2 j v hjl (by rw [aY _ (by omega)]; exact hj))
  have sx : Srt lt x.toList := by rw [ex]; exact sX.sublist (List.drop_sublist _ _)
  have sy : Srt lt y.toList := by rw [ey]; exact sY.sublist (List.take_sublist _ _)
  have Sx : ∀ u ∈ x.toList, S u := fun u hu => hS u (by rw [ea]; rw [ex] at hu; simp [List.mem_of_mem_drop hu])
  have Sy : ∀ u ∈ y.toList, S u := fun u hu => hS u (by rw [ea]; rw [ey] at hu; simp [List.mem_of_mem_take hu])
  have fin : ∀ (r : Array Keyed) (st' : SortSt), SameG (setPending st (((pendingOf st).setIfInBounds i (sa, na + nb, pw)).eraseIdxIfInBounds (i + 1))) st' → Res lt x y r →
      Q true (setArr st' (r.toList.zipIdx.foldl (fun a x => match x with | (p, j) => a.setIfInBounds (sa + k + j) p) (arrOf st'))) := by
    intro r st' sg ⟨R1, R2⟩
    have ea' : (arrOf st').toList = (P ++ X.take k) ++ (X.drop k ++ Y.take l) ++ (Y.drop l ++ R) := by
      rw [sg.2.1]
      show (arrOf st).toList = _
      calc (arrOf st).toList = P ++ (X.take k ++ X.drop k) ++ (Y.take l ++ Y.drop l) ++ R := by rw [List.take_append_drop, List.take_append_drop]; exact ea
        _ = _ := by simp only [List.append_assoc]
    rw [ex, ey] at R2
    have ew := setSeg (sa + k) r.toList 0 (P ++ X.take k) (X.drop k ++ Y.take l) (Y.drop l ++ R) (arrOf st') ea' R2.length_eq.symm (by simp [l1, l2]; omega)
    refine h (X.take k ++ r.toList ++ Y.drop l) _ (sg.1.trans hk) (sg.2.2.2.trans hf) sg.2.2.1 ?_ ?_ ?_
    · show (List.foldl _ (arrOf st') r.toList.zipIdx).toList = _
      rw [ew]
      simp [List.append_assoc]
    · have mem : ∀ u ∈ r.toList, u ∈ X.drop k ∨ u ∈ Y.take l := fun u hu => List.mem_append.mp (R2.mem_iff.mp hu)
      obtain ⟨t1, t2, t3⟩ := srt_app.mp (by rw [List.take_append_drop]; exact sX : Srt lt (X.take k ++ X.drop k))
      obtain ⟨t4, t5, t6⟩ := srt_app.mp (by rw [List.take_append_drop]; exact sY : Srt lt (Y.take l ++ Y.drop l))
      refine srt_app.mpr ⟨srt_app.mpr ⟨t1, R1, fun u hu v hv => ?_⟩, t5, fun u hu v hv => ?_⟩
      · rcases mem v hv with z | z
        · exact t3 u hu v z
        · exact lowX u hu v (List.mem_of_mem_take z)
      · rcases List.mem_append.mp hu with z | z
        · exact highY v hv u (List.mem_of_mem_take z)
        · rcases mem u z with z | z
          · exact highY v hv u (List.mem_of_mem_drop z)
          · exact t6 u z v hv
    · refine List.Perm.trans (List.Perm.append_right _ (List.Perm.append_left _ R2)) ?_
      rw [← List.append_assoc, List.take_append_drop, List.append_assoc, List.take_append_drop]
  have tail : ∀ (r : Array Keyed) (st' : SortSt), SameG (setPending st (((pendingOf st).setIfInBounds i (sa, na + nb, pw)).eraseIdxIfInBounds (i + 1))) st' → Res lt x y r → failedOf st' = none := fun r st' sg _ => sg.2.2.2.trans hf
  refine wpS_ite (fun _ => ?_) fun _ => ?_
  · refine wpS_bind (wpS_mergeLo C (show kindOf (setPending st _) = κ from hk) sx sy Sx Sy (by omega) (by omega) fX lX fun r st' sg R => ?_)
    refine wpS_bind (wpS_modify (wpS_bind (wpS_get ?_)))
    refine wpS_pure ?_
    show Q (failedOf st').isNone _
    rw [tail r st' sg R]
    exact fin r st' sg R
  · refine wpS_bind (wpS_mergeHi C (show kindOf (setPending st _) = κ from hk) sx sy Sx Sy (by omega) (by omega) fX lX fun r st' sg R => ?_)
    refine wpS_bind (wpS_modify (wpS_bind (wpS_get ?_)))
    refine wpS_pure ?_
    show Q (failedOf st').isNone _
    rw [tail r st' sg R]
    exact fin r st' sg R
end
end TS

end

section
-- KcTs5
set_option linter.all false
set_option autoImplicit false
set_option maxRecDepth 100000
set_option maxHeartbeats 4000000
namespace TS
open PySem PyProof.Rows
noncomputable def Ris (lt : Keyed → Keyed → Bool) (xs : Array Keyed) (lo n : Nat) : Prop := ∀ i j x y, i ≤ j → j < n → xs[lo + i]? = some x → xs[lo + j]? = some y → Le lt x y
noncomputable def Fal (lt : Keyed → Keyed → Bool) (xs : Array Keyed) (lo n : Nat) : Prop := ∀ i j x y, i ≤ j → j < n → xs[lo + i]? = some x → xs[lo + j]? = some y → Le lt y x
noncomputable def Lik (lt : Keyed → Keyed → Bool) (xs : Array Keyed) (lo m n : Nat) : Prop := ∀ i j x y, m ≤ i → i < n → m ≤ j → j < n → xs[lo + i]? = some x → xs[lo + j]? = some y → Le lt x y
structure Fm (lo hi : Nat) (st st' : SortSt) : Prop where
  kind : kindOf st' = kindOf st
  pend : pendingOf st' = pendingOf st
  fail : failedOf st' = failedOf st
  perm : (arrOf st').Perm (arrOf st)
  out : ∀ k : Nat, (k < lo ∨ hi ≤ k) → (arrOf st')[k]? = (arrOf st)[k]?
theorem Fm.refl (lo hi : Nat) (st : SortSt) : Fm lo hi st st := ⟨rfl, rfl, rfl, Array.Perm.refl _, fun _ _ => rfl⟩
theorem Fm.trans {lo hi : Nat} {a b c : SortSt} (h : Fm lo hi a b) (k : Fm lo hi b c) : Fm lo hi a c := ⟨k.kind.trans h.kind, k.pend.trans h.pend, k.fail.trans h.fail, k.perm.trans h.perm, fun j hj => (k.out j hj).trans (h.out j hj)⟩
theorem Fm.wide {lo hi lo' hi' : Nat} {a b : SortSt} (h : Fm lo hi a b) (h1 : lo' ≤ lo) (h2 : hi ≤ hi') : Fm lo' hi' a b := ⟨h.kind, h.pend, h.fail, h.perm, fun j hj => h.out j (by omega)⟩
theorem Fm.size {lo hi : Nat} {a b : SortSt} (h : Fm lo hi a b) : (arrOf b).size = (arrOf a).size := h.perm.size_eq
theorem Fm.all {lo hi : Nat} {a b : SortSt} {S : Keyed → Prop} (h : Fm lo hi a b) (hS : ∀ x ∈ (arrOf a).toList, S x) : ∀ x ∈ (arrOf b).toList, S x := fun x hx => hS x ((Array.perm_iff_toList_perm.mp h.perm).mem_iff.mp hx)
section
variable {prog : Program} {w : World} {A : Around} {E : Value → Shared → Prop} {s : Shared} {κ : SortKind} {S : Keyed → Prop} {lt : Keyed → Keyed → Bool}
theorem wpS_ltP (C : Cmp prog w A s κ S lt) {st : SortSt} {i j : Nat} {Q : Option Bool → SortSt → Prop} (hk : kindOf st = κ) (hS : ∀ x ∈ (arrOf st).toList, S x) (hi : i < (arrOf st).size) (hj : j < (arrOf st).size)
    (h : ∀ x y, (arrOf st)[i]? = some x → (arrOf st)[j]? = some y → Q (some (lt x y)) st) : wpS (model prog w) A E s (ltAt' i j) Q st := by
  obtain ⟨x, ex, mx⟩ := atT hi
  obtain ⟨y, ey, my⟩ := atT hj
  rw [ltAt'_eq]
  refine wpS_bind (wpS_get ?_)
  refine wpS_bind (wpS_elem ex (wpS_bind (wpS_elem ey ?_)))
  exact wpS_lt C hk (hS x mx) (hS y my) (h x y ex ey)
theorem wpS_rev {M : Model} {st : SortSt} {i j : Nat} {Q : Unit → SortSt → Prop} (h : Q () (setArr st (mirror (arrOf st) i j ((j - i) / 2)))) : wpS M A E s (reverseSlice' i j) Q st := by
  rw [reverseSlice'_eq]
  exact wpS_modify h
theorem fm_rev {st : SortSt} {lo hi i j : Nat} (h1 : lo ≤ i) (h2 : j ≤ hi) (hj : j ≤ (arrOf st).size) : Fm lo hi st (setArr st (mirror (arrOf st) i j ((j - i) / 2))) :=
  ⟨rfl, rfl, rfl, mirror_perm _ _ _ _, fun k hk => by
    show (mirror (arrOf st) i j ((j - i) / 2))[k]? = _
    rw [getElem?_mirror_all hj, if_neg (by omega)]⟩
theorem Ris.more (O : Ord lt) {xs : Array Keyed} {lo n : Nat} (h : Ris lt xs lo n) (hn : 1 ≤ n) {x y : Keyed} (ex : xs[lo + n]? = some x) (ey : xs[lo + n - 1]? = some y) (q : lt x y = false) : Ris lt xs lo (n + 1) := by
  intro i j u v hij hj eu ev
  by_cases z : j < n
  · exact h i j u v hij z eu ev
  · obtain rfl : j = n := by omega
    rw [ex] at ev
    cases ev
    by_cases z2 : i = j
    · subst z2
      rw [ex] at eu
      cases eu
      exact O.refl _
    · exact O.trans (h i (j - 1) u y (by omega) (by omega) eu (by rw [show lo + (j - 1) = lo + j - 1 by omega]; exact ey)) q
theorem Fal.more (O : Ord lt) {xs : Array Keyed} {lo n : Nat} (h : Fal lt xs lo n) (hn : 1 ≤ n) {x y : Keyed} (ex : xs[lo + n]? = some x) (ey : xs[lo + n - 1]? = some y) (q : Le lt x y) : Fal lt xs lo (n + 1) := by
  intro i j u v hij hj eu ev
  by_cases z : j < n
  · exact h i j u v hij z eu ev
  · obtain rfl : j = n := by omega
    rw [ex] at ev
    cases ev
    by_cases z2 : i = j
    · subst z2
      rw [ex] at eu
      cases eu
      exact O.refl _
    · exact O.trans q (h i (j - 1) u y (by omega) (by omega) eu (by rw [show lo + (j - 1) = lo + j - 1 by omega]; exact ey))
theorem Fal.turn {xs : Array Keyed} {lo n m : Nat} (h : Fal lt xs lo n) (hm : m ≤ n) (hs : lo + n ≤ xs.size) (k : Lik lt xs lo m n) : Fal lt (mirror xs (lo + m) (lo + n) ((lo + n - (lo + m)) / 2)) lo n ∧ Lik lt (mirror xs (lo + m) (lo + n) ((lo + n - (lo + m)) / 2)) lo m n := by
  have e : ∀ i, i < n → ∃ i', (i < m → i' = i) ∧ (m ≤ i → m ≤ i' ∧ i' < n) ∧ (mirror xs (lo + m) (lo + n) ((lo + n - (lo + m)) / 2))[lo + i]? = xs[lo + i']? := fun i hi => by
    rw [getElem?_mirror_all hs]
    by_cases z : m ≤ i
    · exact ⟨m + n - 1 - i, fun _ => by omega, fun _ => by omega, by rw [if_pos (by omega)]; congr 1; omega⟩
    · exact ⟨i, fun _ => rfl, fun _ => by omega, by rw [if_neg (by omega)]⟩
  refine ⟨fun i j x y hij hj ex ey => ?_, fun i j x y h1 h2 h3 h4 ex ey => ?_⟩
  · obtain ⟨i', a1, a2, a3⟩ := e i (by omega)
    obtain ⟨j', b1, b2, b3⟩ := e j hj
    rw [a3] at ex
    rw [b3] at ey
    by_cases zi : m ≤ i
    · have := a2 zi
      have := b2 (by omega)
      exact k j' i' y x (by omega) (by omega) (by omega) (by omega) ey ex
    · have := a1 (by omega)
      by_cases zj : m ≤ j
      · have := b2 zj
        exact h i' j' x y (by omega) (by omega) ex ey
      · have := b1 (by omega)
        exact h i' j' x y (by omega) (by omega) ex ey
  · obtain ⟨i', a1, a2, a3⟩ := e i h2
    obtain ⟨j', b1, b2, b3⟩ := e j h4
    rw [a3] at ex
    rw [b3] at ey
    have := a2 h1
    have := b2 h3
    exact k i' j' x y (by omega) (by omega) (by omega) (by omega) ex ey
theorem Fal.rev {xs : Array Keyed} {lo n : Nat} (h : Fal lt xs lo n) (hs : lo + n ≤ xs.size) : Ris lt (mirror xs lo (lo + n) ((lo + n - lo) / 2)) lo n := by
  intro i j x y hij hj ex ey
  rw [getElem?_mirror_all hs, if_pos (by omega)] at ex ey
  exact h (n - 1 - j) (n - 1 - i) y x (by omega) (by omega) (by rw [show lo + (n - 1 - j) = lo + (lo + n) - 1 - (lo + j) by omega]; exact ey) (by rw [show lo + (n - 1 - i) = lo + (lo + n) - 1 - (lo + i) by omega]; exact ex)
theorem lik_one (O : Ord lt) {xs : Array Keyed} {lo n : Nat} : Lik lt xs lo (n + 1 - (0 + 1)) (n + 1) := fun i j x y h1 h2 h3 h4 ex ey => by
  obtain rfl : i = j := by omega
  rw [ex] at ey
  cases ey
  exact O.refl _
theorem Lik.more (O : Ord lt) {xs : Array Keyed} {lo m n : Nat} (k : Lik lt xs lo m n) (hm : m < n) {u v : Keyed} (eu : xs[lo + n]? = some u) (ev : xs[lo + n - 1]? = some v) (h1 : Le lt u v) (h2 : Le lt v u) : Lik lt xs lo m (n + 1) := by
  intro i j x y i1 i2 j1 j2 ex ey
  have ev' : xs[lo + (n - 1)]? = some v := by rw [show lo + (n - 1) = lo + n - 1 by omega]; exact ev
  have a : Le lt x v := by
    by_cases z : i < n
    · exact k i (n - 1) x v i1 z (by omega) (by omega) ex ev'
    · obtain rfl : i = n := by omega
      rw [eu] at ex
      cases ex
      exact h1
  have b : Le lt v y := by
    by_cases z : j < n
    · exact k (n - 1) j v y (by omega) (by omega) j1 z ev' ey
    · obtain rfl : j = n := by omega
      rw [eu] at ey
      cases ey
      exact h2
  exact O.trans a b
theorem asc_loop (C : Cmp prog w A s κ S lt) {st : SortSt} {lo a nrem : Nat} {Q : Option (Option Nat) × Nat → SortSt → Prop} {f : Nat → Option (Option Nat) × Nat → StateT SortSt Sem (ForInStep (Option (Option Nat) × Nat))} (hk : kindOf st = κ) (hS : ∀ x ∈ (arrOf st).toList, S x) (hz : lo + nrem ≤ (arrOf st).size) (ha : 1 ≤ a) (han : a ≤ nrem) (hr : Ris lt (arrOf st) lo a)
    (hf : ∀ x n (R : ForInStep (Option (Option Nat) × Nat) → SortSt → Prop), 1 ≤ n → n < nrem → (∀ u v, (arrOf st)[lo + n]? = some u → (arrOf st)[lo + n - 1]? = some v → lt u v = true → R (.done (none, n)) st) →
      (∀ u v, (arrOf st)[lo + n]? = some u → (arrOf st)[lo + n - 1]? = some v → lt u v = false → R (.yield (none, n + 1)) st) → wpS (model prog w) A E s (f x (none, n)) R st)
    (h : ∀ n, a ≤ n → n ≤ nrem → Ris lt (arrOf st) lo n → (n = nrem ∨ n < nrem ∧ ∀ u v, (arrOf st)[lo + n]? = some u → (arrOf st)[lo + n - 1]? = some v → lt u v = true) → Q (none, n) st) :
    wpS (model prog w) A E s (forIn [a:nrem] (none, a) f) Q st := by
  refine wpS_forRange (I := fun x c st' => st' = st ∧ c = (none, x) ∧ Ris lt (arrOf st) lo x) ?_ ?_ ⟨rfl, rfl, hr⟩
  · rintro x c st' hax hx ⟨rfl, rfl, r⟩
    refine hf x x _ (by omega) hx (fun u v eu ev q => h x hax (by omega) r (.inr ⟨hx, fun u' v' eu' ev' => ?_⟩)) fun u v eu ev q => ⟨rfl, rfl, r.more C.ord (by omega) eu ev q⟩
    rw [eu] at eu'
    rw [ev] at ev'
    cases eu'
    cases ev'
    exact q
  · rintro c st' ⟨rfl, rfl, r⟩
    rw [show max a nrem = nrem by omega] at r ⊢
    exact h nrem han (Nat.le_refl _) r (.inl rfl)
theorem wpS_countG (C : Cmp prog w A s κ S lt) {st : SortSt} {lo nrem : Nat} {Q : Option Nat → SortSt → Prop} (hk : kindOf st = κ) (hS : ∀ x ∈ (arrOf st).toList, S x) (hz : lo + nrem ≤ (arrOf st).size) (h1 : 1 ≤ nrem)
    (h : ∀ m st', Fm lo (lo + nrem) st st' → 1 ≤ m → m ≤ nrem → Ris lt (arrOf st') lo m → Q (some m) st') : wpS (model prog w) A E s (countRun' lo nrem) Q st := by
  have O := C.ord
  have r1 : Ris lt (arrOf st) lo 1 := fun i j x y hij hj ex ey => by
    obtain rfl : i = j := by omega
    rw [ex] at ey
    cases ey
    exact O.refl _
  refine wpS_bind (asc_loop C hk hS hz (Nat.le_refl 1) h1 r1 (fun x n R n1 n2 c1 c2 => ?_) fun n n1 n2 rn last => ?_)
  · refine wpS_bind (wpS_ltP C hk hS (by omega) (by omega) fun u v eu ev => ?_)
    dsimp only
    cases q : lt u v with
    | true => exact wpS_pure (c1 u v eu ev q)
    | false => exact wpS_pure (c2 u v eu ev q)
  dsimp only
  by_cases z1 : (n == nrem) = true
  · rw [if_pos z1]
    exact wpS_pure (h n st (Fm.refl _ _ _) n1 n2 rn)
  rw [if_neg z1]
  have hlt : n < nrem := by
    have : n ≠ nrem := by simpa using z1
    omega
  have low : ∀ u v, (arrOf st)[lo + n]? = some u → (arrOf st)[lo + n - 1]? = some v → lt u v = true := by
    rcases last with z | z
    · omega
    · exact z.2
  obtain ⟨xn, exn, _⟩ := atT (a := arrOf st) (i := lo + n) (by omega)
  obtain ⟨xp, exp, _⟩ := atT (a := arrOf st) (i := lo + n - 1) (by omega)
  have qn := low xn xp exn exp
  -- what follows, from a falling stretch
  have tail : ∀ (m : Nat) (st2 : SortSt), Fm lo (lo + nrem) st st2 → 1 ≤ m → m ≤ nrem → Fal lt (arrOf st2) lo m → Fm lo (lo + nrem) st (setArr st2 (mirror (arrOf st2) lo (lo + m) ((lo + m - lo) / 2))) ∧ Ris lt (mirror (arrOf st2) lo (lo + m) ((lo + m - lo) / 2)) lo m := fun m st2 f2 m1 m2 fl => by
    have zz : lo + m ≤ (arrOf st2).size := by rw [f2.size]; omega
    exact ⟨f2.trans (fm_rev (Nat.le_refl _) (by omega) zz), fl.rev zz⟩
  by_cases z2 : n > 1
  all_goals
    first | rw [if_pos z2] | rw [if_neg z2]
  · refine wpS_bind (wpS_ltP C hk hS (by omega) (by omega) fun u v eu ev => ?_)
    dsimp only
    cases q : lt u v with
    | true => exact wpS_pure (h n st (Fm.refl _ _ _) n1 n2 rn)
    | false =>
      simp only [Bool.false_eq_true, if_false]
      rw [ev] at exp
      cases exp
      refine wpS_bind (wpS_rev ?_)
      have zz : lo + n ≤ (arrOf st).size := by omega
      have fm2 : Fm lo (lo + nrem) st (setArr st (mirror (arrOf st) lo (lo + n) ((lo + n - lo) / 2))) := fm_rev (Nat.le_refl _) (by omega) zz
      have alike : ∀ i j x y, i < n → j < n → (arrOf st)[lo + i]? = some x → (arrOf st)[lo + j]? = some y → Le lt x y := fun i j x y hi hj ex ey => by
        refine O.trans (rn i (n - 1) x xp (by omega) (by omega) ex (by rw [show lo + (n - 1) = lo + n - 1 by omega]; exact ev)) (O.trans q (rn 0 j u y (by omega) hj (by rw [Nat.add_zero]; exact eu) ey))
      have fl : Fal lt (arrOf (setArr st (mirror (arrOf st) lo (lo + n) ((lo + n - lo) / 2)))) lo (n + 1) := fun i j x y hij hj ex ey => by
        change (mirror (arrOf st) lo (lo + n) ((lo + n - lo) / 2))[lo + i]? = some x at ex
        change (mirror (arrOf st) lo (lo + n) ((lo + n - lo) / 2))[lo + j]? = some y at ey
        rw [getElem?_mirror_all zz] at ex ey
        by_cases zj : j < n
        · rw [if_pos (by omega)] at ex ey
          exact alike (n - 1 - j) (n - 1 - i) y x (by omega) (by omega) (by rw [show lo + (n - 1 - j) = lo + (lo + n) - 1 - (lo + j) by omega]; exact ey) (by rw [show lo + (n - 1 - i) = lo + (lo + n) - 1 - (lo + i) by omega]; exact ex)
        · obtain rfl : j = n := by omega
          rw [if_neg (by omega), exn] at ey
          cases ey
          by_cases zi : i < j
          · rw [if_pos (by omega)] at ex
            exact O.trans (O.le qn) (alike (j - 1) (j - 1 - i) xp x (by omega) (by omega) (by rw [show lo + (j - 1) = lo + j - 1 by omega]; exact ev) (by rw [show lo + (j - 1 - i) = lo + (lo + j) - 1 - (lo + i) by omega]; exact ex))
          · rw [if_neg (by omega), show lo + i = lo + j by omega, exn] at ex
            cases ex
            exact O.refl _
      generalize setArr st (mirror (arrOf st) lo (lo + n) ((lo + n - lo) / 2)) = st2 at fm2 fl ⊢
      refine wpS_bind (wpS_lift (wpAny_rule ⟨rfl, ?_⟩))
      refine wpS_bind (wpS_mono (wpS_forRange
        (I := fun x c st' => ∃ q, c = (none, x, q) ∧ Fm lo (lo + nrem) st st' ∧ Fal lt (arrOf st') lo x ∧ q + 1 ≤ x ∧ Lik lt (arrOf st') lo (x - (q + 1)) x)
        (Q := fun c st' => ∃ m q, c = (none, m, q) ∧ n + 1 ≤ m ∧ m ≤ nrem ∧ Fm lo (lo + nrem) st st' ∧ Fal lt (arrOf st') lo m ∧ q + 1 ≤ m ∧ Lik lt (arrOf st') lo (m - (q + 1)) m) ?ds ?df ⟨0, rfl, fm2, fl, by omega, lik_one O⟩) ?dp)
      case df =>
        rintro c st' ⟨q, rfl, f', fl', q1, lk⟩
        rw [show max (n + 1) nrem = nrem by omega] at fl' q1 lk ⊢
        exact ⟨nrem, q, rfl, by omega, Nat.le_refl _, f', fl', q1, lk⟩
      case ds =>
        rintro x c st' hax hx ⟨q, rfl, f', fl', q1, lk⟩
        dsimp only
        have hk' := f'.kind.trans hk
        have hS' := f'.all hS
        have sz' := f'.size
        refine wpS_bind (wpS_ltP C hk' hS' (by omega) (by omega) fun u v eu ev => ?_)
        dsimp only
        cases e : lt u v with
        | true =>
          simp only [if_true]
          by_cases zq : q > 0
          · rw [if_pos zq]
            refine wpS_bind (wpS_rev ?_)
            have e1 : lo + x - (q + 1) = lo + (x - (q + 1)) := by omega
            rw [e1]
            have zz : lo + x ≤ (arrOf st').size := by omega
            obtain ⟨fl2, lk2⟩ := fl'.turn (m := x - (q + 1)) (by omega) zz lk
            obtain ⟨v', ev', _⟩ := atT (a := arrOf st') (i := lo + (x - (q + 1))) (by omega)
            have a1 : (mirror (arrOf st') (lo + (x - (q + 1))) (lo + x) ((lo + x - (lo + (x - (q + 1)))) / 2))[lo + x]? = some u := by rw [getElem?_mirror_all zz, if_neg (by omega)]; exact eu
            have a2 : (mirror (arrOf st') (lo + (x - (q + 1))) (lo + x) ((lo + x - (lo + (x - (q + 1)))) / 2))[lo + x - 1]? = some v' := by
              rw [getElem?_mirror_all zz, if_pos (by omega), ← ev']
              congr 1
              omega
            exact wpS_pure ⟨0, rfl, f'.trans (fm_rev (by omega) (by omega) zz), fl2.more O (by omega) a1 a2 (O.trans (O.le e) (lk (x - 1) (x - (q + 1)) v v' (by omega) (by omega) (by omega) (by omega) (by rw [show lo + (x - 1) = lo + x - 1 by omega]; exact ev) ev')), by omega, lik_one O⟩
          · rw [if_neg zq]
            exact wpS_pure ⟨0, rfl, f', fl'.more O (by omega) eu ev (O.le e), by omega, lik_one O⟩
        | false =>
          simp only [Bool.false_eq_true, if_false]
          refine wpS_bind (wpS_ltP C hk' hS' (by omega) (by omega) fun v' u' ev' eu' => ?_)
          rw [ev] at ev'
          rw [eu] at eu'
          cases ev'
          cases eu'
          dsimp only
          cases e2 : lt v u with
          | true => exact wpS_pure ⟨x, q, rfl, hax, by omega, f', fl', q1, lk⟩
          | false =>
            refine wpS_pure ⟨q + 1, rfl, f', fl'.more O (by omega) eu ev e2, by omega, ?_⟩
            rw [show x + 1 - (q + 1 + 1) = x - (q + 1) by omega]
            exact lk.more O (by omega) eu ev e2 e
      case dp =>
        rintro c st' ⟨m, q, rfl, m1, m2, f', fl', q1, lk⟩
        dsimp only
        by_cases zq : q > 0
        · rw [if_pos zq]
          refine wpS_bind (wpS_rev ?_)
          have e1 : lo + m - (q + 1) = lo + (m - (q + 1)) := by omega
          rw [e1]
          have zz : lo + m ≤ (arrOf st').size := by rw [f'.size]; omega
          obtain ⟨fl2, _⟩ := fl'.turn (m := m - (q + 1)) (by omega) zz lk
          have f2 := f'.trans (fm_rev (lo := lo) (hi := lo + nrem) (i := lo + (m - (q + 1))) (by omega) (by omega) zz)
          refine wpS_bind (wpS_rev ?_)
          obtain ⟨f4, r4⟩ := tail m _ f2 (by omega) m2 fl2
          refine wpS_bind (asc_loop C (f4.kind.trans hk) (f4.all hS) (by rw [f4.size]; exact hz) (by omega) m2 r4 (fun x n R n1 n2 c1 c2 => ?_) fun n n1 n2 rn _ => ?_)
          · refine wpS_bind (wpS_ltP C (f4.kind.trans hk) (f4.all hS) (by rw [f4.size]; omega) (by rw [f4.size]; omega) fun u v eu ev => ?_)
            dsimp only
            cases q : lt u v with
            | true => exact wpS_pure (c1 u v eu ev q)
            | false => exact wpS_pure (c2 u v eu ev q)
          · exact wpS_pure (h n _ f4 (by omega) n2 rn)
        · rw [if_neg zq]
          refine wpS_bind (wpS_rev ?_)
          obtain ⟨f4, r4⟩ := tail m st' f' (by omega) m2 fl'
          refine wpS_bind (asc_loop C (f4.kind.trans hk) (f4.all hS) (by rw [f4.size]; exact hz) (by omega) m2 r4 (fun x n R n1 n2 c1 c2 => ?_) fun n n1 n2 rn _ => ?_)
          · refine wpS_bind (wpS_ltP C (f4.kind.trans hk) (f4.all hS) (by rw [f4.size]; omega) (by rw [f4.size]; omega) fun u v eu ev => ?_)
            dsimp only
            cases q : lt u v with
            | true => exact wpS_pure (c1 u v eu ev q)
            | false => exact wpS_pure (c2 u v eu ev q)
          · exact wpS_pure (h n _ f4 (by omega) n2 rn)
  · have fm2 : Fm lo (lo + nrem) st st := Fm.refl _ _ _
    have fl : Fal lt (arrOf st) lo (n + 1) := by
      obtain rfl : n = 1 := by omega
      refine Fal.more O (fun i j x y hij hj ex ey => ?_) (Nat.le_refl 1) exn exp (O.le qn)
      obtain rfl : i = j := by omega
      rw [ex] at ey
      cases ey
      exact O.refl _
    refine wpS_bind (wpS_lift (wpAny_rule ⟨rfl, ?_⟩))
    refine wpS_bind (wpS_mono (wpS_forRange
      (I := fun x c st' => ∃ q, c = (none, x, q) ∧ Fm lo (lo + nrem) st st' ∧ Fal lt (arrOf st') lo x ∧ q + 1 ≤ x ∧ Lik lt (arrOf st') lo (x - (q + 1)) x)
      (Q := fun c st' => ∃ m q, c = (none, m, q) ∧ n + 1 ≤ m ∧ m ≤ nrem ∧ Fm lo (lo + nrem) st st' ∧ Fal lt (arrOf st') lo m ∧ q + 1 ≤ m ∧ Lik lt (arrOf st') lo (m - (q + 1)) m) ?ds ?df ⟨0, rfl, fm2, fl, by omega, lik_one O⟩) ?dp)
    case df =>
      rintro c st' ⟨q, rfl, f', fl', q1, lk⟩
      rw [show max (n + 1) nrem = nrem by omega] at fl' q1 lk ⊢
      exact ⟨nrem, q, rfl, by omega, Nat.le_refl _, f', fl', q1, lk⟩
    case ds =>
      rintro x c st' hax hx ⟨q, rfl, f', fl', q1, lk⟩
      dsimp only
      have hk' := f'.kind.trans hk
      have hS' := f'.all hS
      have sz' := f'.size
      refine wpS_bind (wpS_ltP C hk' hS' (by omega) (by omega) fun u v eu ev => ?_)
      dsimp only
      cases e : lt u v with
      | true =>
        simp only [if_true]
        by_cases zq : q > 0
        · rw [if_pos zq]
          refine wpS_bind (wpS_rev ?_)
          have e1 : lo + x - (q + 1) = lo + (x - (q + 1)) := by omega
          rw [e1]
          have zz : lo + x ≤ (arrOf st').size := by omega
          obtain ⟨fl2, lk2⟩ := fl'.turn (m := x - (q + 1)) (by omega) zz lk
          obtain ⟨v', ev', _⟩ := atT (a := arrOf st') (i := lo + (x - (q + 1))) (by omega)
          have a1 : (mirror (arrOf st') (lo + (x - (q + 1))) (lo + x) ((lo + x - (lo + (x - (q + 1)))) / 2))[lo + x]? = some u := by rw [getElem?_mirror_all zz, if_neg (by omega)]; exact eu
          have a2 : (mirror (arrOf st') (lo + (x - (q + 1))) (lo + x) ((lo + x - (lo + (x - (q + 1)))) / 2))[lo + x - 1]? = some v' := by
            rw [getElem?_mirror_all zz, if_pos (by omega), ← ev']
            congr 1
            omega
          exact wpS_pure ⟨0, rfl, f'.trans (fm_rev (by omega) (by omega) zz), fl2.more O (by omega) a1 a2 (O.trans (O.le e) (lk (x - 1) (x - (q + 1)) v v' (by omega) (by omega) (by omega) (by omega) (by rw [show lo + (x - 1) = lo + x - 1 by omega]; exact ev) ev')), by omega, lik_one O⟩
        · rw [if_neg zq]
          exact wpS_pure ⟨0, rfl, f', fl'.more O (by omega) eu ev (O.le e), by omega, lik_one O⟩
      | false =>
        simp only [Bool.false_eq_true, if_false]
        refine wpS_bind (wpS_ltP C hk' hS' (by omega) (by omega) fun v' u' ev' eu' => ?_)
        rw [ev] at ev'
        rw [eu] at eu'
        cases ev'
        cases eu'
        dsimp only
        cases e2 : lt v u with
        | true => exact wpS_pure ⟨x, q, rfl, hax, by omega, f', fl', q1, lk⟩
        | false =>
          refine wpS_pure ⟨q + 1, rfl, f', fl'.more O (by omega) eu ev e2, by omega, ?_⟩
          rw [show x + 1 - (q + 1 + 1) = x - (q + 1) by omega]
          exact lk.more O (by omega) eu ev e2 e
    case dp =>
      rintro c st' ⟨m, q, rfl, m1, m2, f', fl', q1, lk⟩
      dsimp only
      by_cases zq : q > 0
      · rw [if_pos zq]
        refine wpS_bind (wpS_rev ?_)
        have e1 : lo + m - (q + 1) = lo + (m - (q + 1)) := by omega
        rw [e1]
        have zz : lo + m ≤ (arrOf st').size := by rw [f'.size]; omega
        obtain ⟨fl2, _⟩ := fl'.turn (m := m - (q + 1)) (by omega) zz lk
        have f2 := f'.trans (fm_rev (lo := lo) (hi := lo + nrem) (i := lo + (m - (q + 1))) (by omega) (by omega) zz)
        refine wpS_bind (wpS_rev ?_)
        obtain ⟨f4, r4⟩ := tail m _ f2 (by omega) m2 fl2
        refine wpS_bind (asc_loop C (f4.kind.trans hk) (f4.all hS) (by rw [f4.size]; exact hz) (by omega) m2 r4 (fun x n R n1 n2 c1 c2 => ?_) fun n n1 n2 rn _ => ?_)
        · refine wpS_bind (wpS_ltP C (f4.kind.trans hk) (f4.all hS) (by rw [f4.size]; omega) (by rw [f4.size]; omega) fun u v eu ev => ?_)
          dsimp only
          cases q : lt u v with
          | true => exact wpS_pure (c1 u v eu ev q)
          | false => exact wpS_pure (c2 u v eu ev q)
        · exact wpS_pure (h n _ f4 (by omega) n2 rn)
      · rw [if_neg zq]
        refine wpS_bind (wpS_rev ?_)
        obtain ⟨f4, r4⟩ := tail m st' f' (by omega) m2 fl'
        refine wpS_bind (asc_loop C (f4.kind.trans hk) (f4.all hS) (by rw [f4.size]; exact hz) (by omega) m2 r4 (fun x n R n1 n2 c1 c2 => ?_) fun n n1 n2 rn _ => ?_)
        · refine wpS_bind (wpS_ltP C (f4.kind.trans hk) (f4.all hS) (by rw [f4.size]; omega) (by rw [f4.size]; omega) fun u v eu ev => ?_)
          dsimp only
          cases q : lt u v with
          | true => exact wpS_pure (c1 u v eu ev q)
          | false => exact wpS_pure (c2 u v eu ev q)
        · exact wpS_pure (h n _ f4 (by omega) n2 rn)
end
end TS

end

section
-- KcTs6
set_option linter.all false
set_option autoImplicit false
set_option maxRecDepth 100000
set_option maxHeartbeats 4000000
namespace TS
open PySem PyProof.Rows
section
variable {prog : Program} {w : World} {A : Around} {E : Value → Shared → Prop} {s : Shared} {κ : SortKind} {S : Keyed → Prop} {lt : Keyed → Keyed → Bool}
theorem wpS_move {M : Model} {st : SortSt} {src dst : Nat} {Q : Unit → SortSt → Prop} (h : Q () (setArr st (bubble (arrOf st) src (src - dst)))) : wpS M A E s (moveDown' src dst) Q st := by
  rw [moveDown'_eq]
  exact wpS_modify h
theorem wpS_binG (C : Cmp prog w A s κ S lt) {st : SortSt} {lo n ok : Nat} {Q : Bool → SortSt → Prop} (hk : kindOf st = κ) (hS : ∀ x ∈ (arrOf st).toList, S x) (hz : lo + n ≤ (arrOf st).size) (hok : ok ≤ n) (hr : Ris lt (arrOf st) lo ok)
    (h : ∀ st', Fm lo (lo + n) st st' → Ris lt (arrOf st') lo n → Q true st') : wpS (model prog w) A E s (binarySort' lo n ok) Q st := by
  have O := C.ord
  refine wpS_bind (wpS_mono (wpS_forRange (I := fun k c st' => c = (none, ()) ∧ Fm lo (lo + n) st st' ∧ Ris lt (arrOf st') lo (min k n))
    (Q := fun c st' => c = (none, ()) ∧ Fm lo (lo + n) st st' ∧ Ris lt (arrOf st') lo n) ?step ?fin ?init) ?post)
  case post =>
    rintro c st' ⟨rfl, f, r⟩
    exact wpS_pure (h st' f r)
  case init =>
    refine ⟨rfl, Fm.refl _ _ _, fun i j x y hij hj ex ey => ?_⟩
    by_cases z : ok = 0
    · obtain rfl : i = j := by omega
      rw [ex] at ey
      cases ey
      exact O.refl _
    · exact hr i j x y hij (by omega) ex ey
  case fin =>
    rintro c st' ⟨rfl, f, r⟩
    refine ⟨rfl, f, ?_⟩
    rwa [show min (max (max ok 1) n) n = n by omega] at r
  case step =>
    rintro k c st1 hak hkn ⟨rfl, f, r⟩
    rw [show min k n = k by omega] at r
    have hk1 := f.kind.trans hk
    have hS1 := f.all hS
    have sz1 := f.size
    obtain ⟨key, ekey, _⟩ := atT (a := arrOf st1) (i := lo + k) (by omega)
    refine wpS_bind (wpS_mono (wpS_forRange (I := fun x c st' => st' = st1 ∧ ∃ l r, c = (none, l, r) ∧ l ≤ r ∧ r ≤ k ∧ r - l ≤ k - x ∧ (∀ i y, i < l → (arrOf st1)[lo + i]? = some y → Le lt y key) ∧ (∀ i y, r ≤ i → i < k → (arrOf st1)[lo + i]? = some y → Le lt key y))
      (Q := fun c st' => st' = st1 ∧ ∃ l r, c = (none, l, r) ∧ l ≤ k ∧ (∀ i y, i < l → (arrOf st1)[lo + i]? = some y → Le lt y key) ∧ (∀ i y, l ≤ i → i < k → (arrOf st1)[lo + i]? = some y → Le lt key y)) ?is ?jf ⟨rfl, 0, k, rfl, by omega, by omega, by omega, fun i y hi => by omega, fun i y h1 h2 => by omega⟩) ?jp)
    case jf =>
      rintro c st' ⟨rfl, l, r, rfl, a1, a2, a3, a4, a5⟩
      obtain rfl : l = r := by omega
      exact ⟨rfl, l, l, rfl, a2, a4, a5⟩
    case is =>
      rintro x c st' _ hx ⟨rfl, l, r', rfl, a1, a2, a3, a4, a5⟩
      dsimp only
      by_cases z : l ≥ r'
      · rw [if_pos z]
        obtain rfl : l = r' := by omega
        exact wpS_pure ⟨rfl, l, l, rfl, a2, a4, a5⟩
      · rw [if_neg z]
        refine wpS_bind (wpS_ltP C hk1 hS1 (by omega) (by omega) fun u v eu ev => ?_)
        rw [ekey] at eu
        cases eu
        dsimp only
        cases q : lt key v with
        | true =>
          exact wpS_pure ⟨rfl, l, (l + r') / 2, rfl, by omega, by omega, by omega, a4, fun i y h1 h2 ey => O.trans (O.le q) (r ((l + r') / 2) i v y h1 h2 ev ey)⟩
        | false =>
          exact wpS_pure ⟨rfl, (l + r') / 2 + 1, r', rfl, by omega, by omega, by omega, fun i y h1 ey => O.trans (r i ((l + r') / 2) y v (by omega) (by omega) ey ev) q, a5⟩
    case jp =>
      rintro c st' ⟨rfl, l, r', rfl, a1, a4, a5⟩
      dsimp only
      refine wpS_bind (wpS_move (wpS_pure ?_))
      have hks : lo + k < (arrOf st').size := by omega
      have gb := fun j => getElem?_bubble (xs := arrOf st') (src := lo + k) hks (lo + k - (lo + l)) (by omega) j
      refine ⟨rfl, f.trans ⟨rfl, rfl, rfl, bubble_perm _ _ _, fun j hj => ?_⟩, ?_⟩
      · show (bubble (arrOf st') (lo + k) (lo + k - (lo + l)))[j]? = _
        rw [gb, if_neg (by omega), if_neg (by omega)]
      · rw [show min (k + 1) n = k + 1 by omega]
        intro i j x y hij hj ex ey
        change (bubble (arrOf st') (lo + k) (lo + k - (lo + l)))[lo + i]? = some x at ex
        change (bubble (arrOf st') (lo + k) (lo + k - (lo + l)))[lo + j]? = some y at ey
        rw [gb] at ex ey
        have cls : ∀ (t : Nat) (u : Keyed), t < k + 1 → (if lo + t = lo + k - (lo + k - (lo + l)) then (arrOf st')[lo + k]? else if lo + k - (lo + k - (lo + l)) < lo + t ∧ lo + t ≤ lo + k then (arrOf st')[lo + t - 1]? else (arrOf st')[lo + t]?) = some u →
            (t = l ∧ u = key) ∨ (l < t ∧ (arrOf st')[lo + (t - 1)]? = some u) ∨ (t < l ∧ (arrOf st')[lo + t]? = some u) := fun t u ht e => by
          by_cases z1 : t = l
          · rw [if_pos (by omega), ekey] at e
            cases e
            exact .inl ⟨z1, rfl⟩
          · rw [if_neg (by omega)] at e
            by_cases z2 : l < t
            · rw [if_pos (by omega)] at e
              exact .inr (.inl ⟨z2, by rw [show lo + (t - 1) = lo + t - 1 by omega]; exact e⟩)
            · rw [if_neg (by omega)] at e
              exact .inr (.inr ⟨by omega, e⟩)
        rcases cls i x (by omega) ex with ⟨i1, rfl⟩ | ⟨i1, i2⟩ | ⟨i1, i2⟩ <;> rcases cls j y (by omega) ey with ⟨j1, rfl⟩ | ⟨j1, j2⟩ | ⟨j1, j2⟩
        · exact O.refl _
        · exact a5 (j - 1) y (by omega) (by omega) j2
        · omega
        · omega
        · exact r (i - 1) (j - 1) x y (by omega) (by omega) i2 j2
        · omega
        · exact a4 i x i1 i2
        · exact r i (j - 1) x y (by omega) (by omega) i2 j2
        · exact r i j x y (by omega) (by omega) i2 j2
end
end TS

end

section
-- KcTs7
set_option linter.all false
set_option autoImplicit false
set_option maxRecDepth 100000
set_option maxHeartbeats 4000000
namespace TS
open PySem PyProof.Rows
noncomputable def PR (lt : Keyed → Keyed → Bool) : Nat → List (Nat × Nat) → List (List Keyed) → Prop
  | _, [], [] => True
  | off, p :: ps, r :: rs => p.1 = off ∧ p.2 = r.length ∧ 1 ≤ r.length ∧ Srt lt r ∧ PR lt (off + r.length) ps rs
  | _, _, _ => False
noncomputable abbrev two (x : Nat × Nat × Nat) : Nat × Nat := (x.1, x.2.1)
section
variable {lt : Keyed → Keyed → Bool}
theorem PR.split : ∀ {A B : List (Nat × Nat)} {off : Nat} {rs : List (List Keyed)}, PR lt off (A ++ B) rs → ∃ R1 R2, rs = R1 ++ R2 ∧ PR lt off A R1 ∧ PR lt (off + R1.flatten.length) B R2 ∧ R1.length = A.length
  | [], B, off, rs, h => ⟨[], rs, rfl, trivial, h, rfl⟩
  | p :: A, B, off, [], h => h.elim
  | p :: A, B, off, r :: rs, h => by
    obtain ⟨h1, h2, h3, h4, h5⟩ := h
    obtain ⟨R1, R2, e, a, b, c⟩ := PR.split (A := A) h5
    refine ⟨r :: R1, R2, by rw [e]; rfl, ⟨h1, h2, h3, h4, a⟩, ?_, by simp [c]⟩
    rw [List.flatten_cons, List.length_append, ← Nat.add_assoc]
    exact b
theorem PR.join : ∀ {A B : List (Nat × Nat)} {off : Nat} {R1 R2 : List (List Keyed)}, PR lt off A R1 → PR lt (off + R1.flatten.length) B R2 → PR lt off (A ++ B) (R1 ++ R2)
  | [], B, off, [], R2, _, h => h
  | [], B, off, _ :: _, R2, h, _ => h.elim
  | p :: A, B, off, [], R2, h, _ => h.elim
  | p :: A, B, off, r :: R1, R2, ⟨h1, h2, h3, h4, h5⟩, h => ⟨h1, h2, h3, h4, PR.join h5 (by rw [List.flatten_cons, List.length_append, ← Nat.add_assoc] at h; exact h)⟩
theorem PR.len : ∀ {A : List (Nat × Nat)} {off : Nat} {rs : List (List Keyed)}, PR lt off A rs → rs.length = A.length ∧ A.length ≤ rs.flatten.length
  | [], _, [], _ => ⟨rfl, Nat.zero_le _⟩
  | [], _, _ :: _, h => h.elim
  | _ :: _, _, [], h => h.elim
  | p :: A, off, r :: rs, ⟨h1, h2, h3, h4, h5⟩ => by
    obtain ⟨a, b⟩ := PR.len h5
    refine ⟨by simp [a], ?_⟩
    rw [List.flatten_cons, List.length_append, List.length_cons]
    omega
end
section
variable {prog : Program} {w : World} {A : Around} {E : Value → Shared → Prop} {s : Shared} {κ : SortKind} {S : Keyed → Prop} {lt : Keyed → Keyed → Bool} {a₀ : List Keyed}
noncomputable def Sst (κ : SortKind) (lt : Keyed → Keyed → Bool) (a₀ : List Keyed) (lo : Nat) (rest : List Keyed) (st : SortSt) : Prop :=
  kindOf st = κ ∧ failedOf st = none ∧ (arrOf st).toList.Perm a₀ ∧ ∃ runs, (arrOf st).toList = runs.flatten ++ rest ∧ runs.flatten.length = lo ∧ PR lt 0 ((pendingOf st).toList.map two) runs
theorem pend_merge {p : Array (Nat × Nat × Nat)} {i : Nat} {v : Nat × Nat × Nat} (hi : i + 1 < p.size) : ((p.setIfInBounds i v).eraseIdxIfInBounds (i + 1)).toList.map two = (p.toList.take i).map two ++ [two v] ++ (p.toList.drop (i + 2)).map two := by
  have e1 : ((p.setIfInBounds i v).eraseIdxIfInBounds (i + 1)).toList = (p.toList.set i v).eraseIdx (i + 1) := by
    rw [Array.eraseIdxIfInBounds, dif_pos (by simpa using hi), Array.toList_eraseIdx, Array.toList_setIfInBounds]
  rw [e1, List.eraseIdx_eq_take_drop_succ, List.map_append]
  have hl : i < p.toList.length := by rw [Array.length_toList]; omega
  have e2 : (p.toList.set i v).take (i + 1) = p.toList.take i ++ [v] := by
    rw [List.take_add_one, List.take_set_of_le (Nat.le_refl _), List.getElem?_set_self hl]
    rfl
  have e3 : (p.toList.set i v).drop (i + 1 + 1) = p.toList.drop (i + 2) := by rw [List.drop_set_of_lt (by omega)]
  rw [e2, e3, List.map_append]
  rfl
theorem merge_inv (C : Cmp prog w A s κ S lt) {st : SortSt} {lo i : Nat} {rest : List Keyed} {Q : Bool → SortSt → Prop} (hS : ∀ x ∈ a₀, S x) (J : Sst κ lt a₀ lo rest st) (hi : i + 1 < (pendingOf st).size)
    (h : ∀ st', Sst κ lt a₀ lo rest st' → (pendingOf st').size + 1 = (pendingOf st).size → Q true st') : wpS (model prog w) A E s (mergeAt' i) Q st := by
  obtain ⟨hk, hf, pm, runs, ea, hl, pr⟩ := J
  have e1 : (pendingOf st)[i]? = some ((pendingOf st)[i]'(by omega)) := by simp
  have e2 : (pendingOf st)[i + 1]? = some ((pendingOf st)[i + 1]'hi) := by simp
  generalize (pendingOf st)[i]'(by omega) = p1 at e1
  generalize (pendingOf st)[i + 1]'hi = p2 at e2
  obtain ⟨sa, na, pw⟩ := p1
  obtain ⟨sb, nb, pw2⟩ := p2
  have dec : (pendingOf st).toList = (pendingOf st).toList.take i ++ ((sa, na, pw) :: (sb, nb, pw2) :: (pendingOf st).toList.drop (i + 2)) := by
    have d1 := dropC e1
    have d2 := dropC e2
    rw [← d2, ← d1, List.take_append_drop]
  rw [dec, List.map_append, List.map_cons, List.map_cons] at pr
  obtain ⟨R1, R2, rfl, pa, pb, la⟩ := pr.split
  match R2, pb with
  | X :: Y :: RB, ⟨x1, x2, x3, x4, y1, y2, y3, y4, pc⟩ =>
    rw [Nat.zero_add] at x1 y1 pc
    have x1' : sa = R1.flatten.length := x1
    have x2' : na = X.length := x2
    have y1' : sb = R1.flatten.length + X.length := y1
    have y2' : nb = Y.length := y2
    have ea' : (arrOf st).toList = R1.flatten ++ X ++ Y ++ (RB.flatten ++ rest) := by
      rw [ea]
      simp [List.append_assoc]
    refine wpS_mergeAt C hk hf e1 e2 ea' x1'.symm x2'.symm (by omega) y2'.symm (by omega) (by omega) x4 y4 (fun x hx => hS x (pm.mem_iff.mp hx)) fun Z st' k1 k2 k3 k4 k5 k6 => h st' ⟨k1, k2, ?_, R1 ++ Z :: RB, ?_, ?_, ?_⟩ ?_
    · refine List.Perm.trans ?_ pm
      rw [k4, ea']
      refine List.Perm.append_right _ ?_
      rw [List.append_assoc]
      exact List.Perm.append_left _ k6
    · rw [k4]
      simp [List.append_assoc]
    · rw [← hl]
      have := k6.length_eq
      simp at this ⊢
      omega
    · rw [k3, pend_merge hi, List.append_assoc]
      have lz : Z.length = X.length + Y.length := by rw [k6.length_eq, List.length_append]
      refine pa.join ?_
      rw [Nat.zero_add]
      refine ⟨x1, ?_, by omega, k5, ?_⟩
      · show na + nb = Z.length
        omega
      · rw [lz, ← Nat.add_assoc]
        exact pc
    · rw [k3]
      rw [Array.eraseIdxIfInBounds, dif_pos (by simpa using hi), Array.size_eraseIdx, Array.size_setIfInBounds]
      omega
  | [X], ⟨_, _, _, _, z⟩ => exact z.elim
  | [], z => exact z.elim
theorem ris_srt (O : Ord lt) {xs : Array Keyed} {lo n : Nat} (h : Ris lt xs lo n) : Srt lt ((xs.toList.drop lo).take n) := by
  refine List.pairwise_iff_getElem.mpr fun i j hi hj hij => ?_
  have a1 := List.getElem?_eq_getElem hi
  have a2 := List.getElem?_eq_getElem hj
  have b : j < n := by
    rw [List.length_take] at hj
    omega
  rw [List.getElem?_take_of_lt (by omega), List.getElem?_drop, Array.getElem?_toList] at a1
  rw [List.getElem?_take_of_lt b, List.getElem?_drop, Array.getElem?_toList] at a2
  exact h i j _ _ (by omega) b a1 a2
theorem fm_take {lo hi : Nat} {st st' : SortSt} (f : Fm lo hi st st') : (arrOf st').toList.take lo = (arrOf st).toList.take lo := by
  refine List.ext_getElem? fun i => ?_
  by_cases z : i < lo
  · rw [List.getElem?_take_of_lt z, List.getElem?_take_of_lt z, Array.getElem?_toList, Array.getElem?_toList]
    exact f.out i (.inl z)
  · rw [List.getElem?_take, List.getElem?_take, if_neg z, if_neg z]
theorem Sst.turned {lo : Nat} {rest : List Keyed} {st st' : SortSt} {hi : Nat} (J : Sst κ lt a₀ lo rest st) (f : Fm lo hi st st') : Sst κ lt a₀ lo ((arrOf st').toList.drop lo) st' := by
  obtain ⟨hk, hf, pm, runs, ea, hl, pr⟩ := J
  refine ⟨f.kind.trans hk, f.fail.trans hf, (Array.perm_iff_toList_perm.mp f.perm).trans pm, runs, ?_, hl, by rw [f.pend]; exact pr⟩
  have : (arrOf st').toList.take lo = runs.flatten := by rw [fm_take f, ea, ← hl, List.take_left]
  rw [← this, List.take_append_drop]
theorem Sst.push {lo n : Nat} {rest : List Keyed} {st : SortSt} (J : Sst κ lt a₀ lo rest st) (h1 : 1 ≤ n) (h2 : n ≤ rest.length) (sr : Srt lt (rest.take n)) (q : Nat) : Sst κ lt a₀ (lo + n) (rest.drop n) (setPending st ((pendingOf st).push (lo, n, q))) := by
  obtain ⟨hk, hf, pm, runs, ea, hl, pr⟩ := J
  have lt' : (rest.take n).length = n := by rw [List.length_take]; omega
  refine ⟨hk, hf, pm, runs ++ [rest.take n], ?_, ?_, ?_⟩
  · show (arrOf st).toList = _
    rw [ea, List.flatten_append]
    simp
  · rw [List.flatten_append, List.length_append, hl]
    simp
    omega
  · show PR lt 0 (((pendingOf st).push (lo, n, q)).toList.map two) _
    rw [Array.toList_push, List.map_append]
    refine pr.join ⟨?_, lt'.symm, by omega, sr, trivial⟩
    rw [Nat.zero_add]
    exact hl.symm
theorem Sst.pow {lo : Nat} {rest : List Keyed} {st : SortSt} (J : Sst κ lt a₀ lo rest st) {f : Nat × Nat × Nat → Nat × Nat × Nat} (hf' : ∀ x, two (f x) = two x) (i : Nat) : Sst κ lt a₀ lo rest (setPending st ((pendingOf st).modify i f)) := by
  obtain ⟨hk, hf, pm, runs, ea, hl, pr⟩ := J
  refine ⟨hk, hf, pm, runs, ea, hl, ?_⟩
  have : ((pendingOf st).modify i f).toList.map two = (pendingOf st).toList.map two := by
    refine List.ext_getElem? fun j => ?_
    rw [List.getElem?_map, List.getElem?_map, Array.getElem?_toList, Array.getElem?_toList, Array.getElem?_modify]
    by_cases z : i = j
    · rw [if_pos z]
      cases (pendingOf st)[j]? with
      | none => rfl
      | some x => simp only [Option.map_some]; rw [hf']
    · rw [if_neg z]
  show PR lt 0 (((pendingOf st).modify i f).toList.map two) runs
  rw [this]
  exact pr
theorem Sst.powQ {lo : Nat} {rest : List Keyed} {st : SortSt} (J : Sst κ lt a₀ lo rest st) (q i : Nat) : Sst κ lt a₀ lo rest (setPending st ((pendingOf st).modify i fun x => (x.1, x.2.1, q))) := J.pow (f := fun x => (x.1, x.2.1, q)) (fun _ => rfl) i
theorem ite_lt {c : Prop} [Decidable c] {a b n : Nat} (h1 : a + 1 < n) (h2 : b + 1 < n) : (if c then a else b) + 1 < n := by
  split <;> assumption
theorem wpS_sortG (C : Cmp prog w A s κ S lt) {st : SortSt} {Q : Unit → SortSt → Prop} (hk : kindOf st = κ) (hS : ∀ x ∈ (arrOf st).toList, S x) (hf : failedOf st = none) (hp : pendingOf st = #[])
    (h : ∀ st', (arrOf st').toList.Perm (arrOf st).toList → failedOf st' = none → Srt lt (arrOf st').toList → Q () st') : wpS (model prog w) A E s sortRuns' Q st := by
  have O := C.ord
  have J0 : Sst κ lt (arrOf st).toList 0 (arrOf st).toList st := ⟨hk, hf, List.Perm.refl _, [], rfl, rfl, by rw [hp]; trivial⟩
  refine wpS_bind (wpS_get ?_)
  have ez : ∀ (st' : SortSt) {lo : Nat} {rest : List Keyed}, Sst κ lt (arrOf st).toList lo rest st' → (arrOf st').size = (arrOf st).size ∧ lo + rest.length = (arrOf st).size := fun st' lo rest J => by
    obtain ⟨_, _, pm, runs, ea, hl, _⟩ := J
    have e1 := pm.length_eq
    rw [Array.length_toList, Array.length_toList] at e1
    have e2 := congrArg List.length ea
    rw [Array.length_toList, List.length_append, hl] at e2
    exact ⟨e1, by omega⟩
  generalize hsz : (arrOf st).size = size at ez
  dsimp only
  refine wpS_bind (wpS_mono (wpS_forRange
    (I := fun x c st' => ∃ lo rest, c = (none, lo) ∧ x ≤ lo ∧ Sst κ lt (arrOf st).toList lo rest st')
    (Q := fun c st' => c = (none, size) ∧ ∃ rest, Sst κ lt (arrOf st).toList size rest st') ?step ?fin ⟨0, _, rfl, Nat.le_refl _, J0⟩) ?post)
  case fin =>
    rintro c st' ⟨lo, rest, rfl, hx, J⟩
    have := (ez st' J).2
    obtain rfl : lo = size := by omega
    exact ⟨rfl, rest, J⟩
  case post =>
    rintro c st' ⟨rfl, rest, J⟩
    dsimp only
    have hr := (ez st' J).2
    obtain rfl : rest = [] := List.eq_nil_of_length_eq_zero (by omega)
    refine wpS_bind (wpS_mono (wpS_forRange
      (I := fun x c st' => c = (none, ()) ∧ Sst κ lt (arrOf st).toList size [] st' ∧ (pendingOf st').size + x ≤ size)
      (Q := fun c st' => c = (none, ()) ∧ Sst κ lt (arrOf st).toList size [] st' ∧ (pendingOf st').size ≤ 1) ?s2 ?f2 ⟨rfl, J, ?i2⟩) ?p2)
    case i2 =>
      obtain ⟨_, _, _, runs, _, hl, pr⟩ := J
      have := pr.len.2
      rw [List.length_map, Array.length_toList] at this
      omega
    case f2 =>
      rintro c st2 ⟨rfl, J2, h2⟩
      exact ⟨rfl, J2, by omega⟩
    case s2 =>
      rintro x c st2 _ hx ⟨rfl, J2, h2⟩
      refine wpS_bind (wpS_get ?_)
      refine wpS_ite (fun z => wpS_pure ⟨rfl, J2, z⟩) fun z => ?_
      have z' : 2 ≤ (pendingOf st2).size := by
        have : ¬ (pendingOf st2).size ≤ 1 := z
        omega
      refine wpS_bind (merge_inv C hS J2 ?_ fun st3 J3 h3 => ?_)
      · exact ite_lt (show (pendingOf st2).size - 2 - 1 + 1 < (pendingOf st2).size by omega) (show (pendingOf st2).size - 2 + 1 < (pendingOf st2).size by omega)
      · exact wpS_pure ⟨rfl, J3, by omega⟩
    case p2 =>
      rintro c st2 ⟨rfl, J2, h2⟩
      obtain ⟨_, f2, pm2, runs, ea, hl, pr⟩ := J2
      refine wpS_pure (h st2 pm2 f2 ?_)
      rw [ea, List.append_nil]
      have hlen := pr.len.1
      rw [List.length_map, Array.length_toList] at hlen
      match runs, hlen, pr with
      | [], _, _ => exact srt_nil
      | [r], hl', pr =>
        match hp2 : (pendingOf st2).toList.map two, pr with
        | p :: ps, ⟨_, _, _, sr, _⟩ =>
          simpa using sr
      | _ :: _ :: _, hl', _ =>
        simp at hl'
        omega
  case step =>
    rintro x c st1 _ hx ⟨lo, rest, rfl, hxl, J⟩
    dsimp only
    have z1 := ez st1 J
    refine wpS_ite (fun z => wpS_pure ⟨?_, ?_⟩) fun z => ?_
    · rw [show lo = size by omega]
    · obtain rfl : lo = size := by omega
      exact ⟨rest, J⟩
    have hS1 : ∀ x ∈ (arrOf st1).toList, S x := fun x hx => hS x (J.2.2.1.mem_iff.mp hx)
    refine wpS_bind (wpS_countG C J.1 hS1 (by omega) (by omega) fun m st2 f2 m1 m2 r2 => ?_)
    dsimp only
    have fin : ∀ (n : Nat) (st3 : SortSt), Fm lo (lo + (size - lo)) st1 st3 → 1 ≤ n → n ≤ size - lo → Ris lt (arrOf st3) lo n → ∃ rest3, Sst κ lt (arrOf st).toList lo rest3 st3 ∧ n ≤ rest3.length ∧ Srt lt (rest3.take n) := fun n st3 f3 n1 n2 r3 => by
      refine ⟨_, J.turned f3, ?_, ris_srt O r3⟩
      rw [List.length_drop, Array.length_toList, f3.size]
      omega
    refine wpS_ite (fun zm => ?_) fun zm => ?_
    · refine wpS_bind (wpS_lift (wpAny_rule ⟨rfl, ?_⟩))
      refine wpS_bind (wpS_binG C (f2.kind.trans J.1) (f2.all hS1) (by rw [f2.size]; omega) (by omega) r2 fun st3 f3 r3 => ?_)
      simp only [Bool.not_true, Bool.false_eq_true, if_false]
      have n1 : 1 ≤ min (size - lo) ((sortPriv% PySem.Builtin.minRun) size size 0) := by omega
      obtain ⟨rest3, J3, ln3, sr3⟩ := fin _ st3 (f2.trans (f3.wide (Nat.le_refl _) (by omega))) n1 (by omega) r3
      refine wpS_bind (wpS_get ?_)
      split
      · refine wpS_bind (wpS_mono (wpS_forRange (I := fun x c st' => c = (none, ()) ∧ Sst κ lt (arrOf st).toList lo rest3 st') (Q := fun c st' => c = (none, ()) ∧ Sst κ lt (arrOf st).toList lo rest3 st') ?_ (fun c st' z => z) ⟨rfl, J3⟩) ?_)
        · rintro x' c st4 _ _ ⟨rfl, J4⟩
          refine wpS_bind (wpS_get ?_)
          split
          · rename_i heq
            have p2 : 1 < (pendingOf st4).size := by
              by_cases z : (pendingOf st4).size > 1
              · exact z
              · rw [if_neg z] at heq
                cases heq
            refine wpS_ite (fun _ => wpS_pure ⟨rfl, J4⟩) fun _ => ?_
            refine wpS_bind (merge_inv C hS J4 (show (pendingOf st4).size - 2 + 1 < (pendingOf st4).size by omega) fun st5 J5 _ => ?_)
            exact wpS_pure ⟨rfl, J5⟩
          · exact wpS_pure ⟨rfl, J4⟩
        · rintro c st4 ⟨rfl, J4⟩
          dsimp only
          refine wpS_bind (wpS_modify (wpS_bind (wpS_modify (wpS_pure ⟨_, rest3.drop (min (size - lo) ((sortPriv% PySem.Builtin.minRun) size size 0)), rfl, by omega, ?_⟩))))
          exact (J4.powQ _ _).push n1 ln3 sr3 0
      · exact wpS_bind (wpS_modify (wpS_pure ⟨_, _, rfl, by omega, J3.push n1 ln3 sr3 0⟩))
    · have n1 := m1
      obtain ⟨rest3, J3, ln3, sr3⟩ := fin m st2 f2 m1 m2 r2
      refine wpS_bind (wpS_get ?_)
      split
      · refine wpS_bind (wpS_mono (wpS_forRange (I := fun x c st' => c = (none, ()) ∧ Sst κ lt (arrOf st).toList lo rest3 st') (Q := fun c st' => c = (none, ()) ∧ Sst κ lt (arrOf st).toList lo rest3 st') ?_ (fun c st' z => z) ⟨rfl, J3⟩) ?_)
        · rintro x' c st4 _ _ ⟨rfl, J4⟩
          refine wpS_bind (wpS_get ?_)
          split
          · rename_i heq
            have p2 : 1 < (pendingOf st4).size := by
              by_cases z : (pendingOf st4).size > 1
              · exact z
              · rw [if_neg z] at heq
                cases heq
            refine wpS_ite (fun _ => wpS_pure ⟨rfl, J4⟩) fun _ => ?_
            refine wpS_bind (merge_inv C hS J4 (show (pendingOf st4).size - 2 + 1 < (pendingOf st4).size by omega) fun st5 J5 _ => ?_)
            exact wpS_pure ⟨rfl, J5⟩
          · exact wpS_pure ⟨rfl, J4⟩
        · rintro c st4 ⟨rfl, J4⟩
          dsimp only
          refine wpS_bind (wpS_modify (wpS_bind (wpS_modify (wpS_pure ⟨_, rest3.drop m, rfl, by omega, ?_⟩))))
          exact (J4.powQ _ _).push n1 ln3 sr3 0
      · exact wpS_bind (wpS_modify (wpS_pure ⟨_, _, rfl, by omega, J3.push n1 ln3 sr3 0⟩))
end
end TS

end

section
-- KcTs8
set_option linter.all false
set_option autoImplicit false
set_option maxRecDepth 100000
set_option maxHeartbeats 4000000
namespace TS
open PySem PyProof.Rows PySem.W
section
variable {prog : Program} {w : World} {A : Around} {E : Value → Shared → Prop} {s : Shared} {ltv : Value → Value → Bool}
noncomputable abbrev ltK (ltv : Value → Value → Bool) : Keyed → Keyed → Bool := fun x y => ltv x.1 y.1
noncomputable abbrev Of (vs : List Value) : Keyed → Prop := fun p => p.1 = p.2 ∧ p.1 ∈ vs
noncomputable def midHeap (h : Heap) (a : Addr) (vs : List Value) : Heap := ((h.update a (Obj.mapSeq fun _ => #[])).push (seqObj "tuple" vs.toArray 0)).push (seqObj "list" #[] 0)
theorem midHeap_old {h : Heap} {a b : Addr} {vs : List Value} {o : Obj} (hb : b ≠ a) (e : h.get? b = some o) : (midHeap h a vs).get? b = some o := by
  unfold midHeap
  refine Heap.get?_push_of_some _ (Heap.get?_push_of_some _ ?_)
  rw [Heap.get?_update_ne _ _ _ _ hb]
  exact e
theorem sort_tree {a : Addr} {vs : List Value} {n : Nat} {P : PySem.Fin → Shared → Prop} (ho : s.heap.get? a = some (seqObj "list" vs.toArray n)) (hz : vs.length ≤ 100000)
    (hk : 2 ≤ vs.length → wpAny (model prog w) A (keyKind' vs.toArray) (fun κ s' => s' = { s with heap := midHeap s.heap a vs } ∧ Cmp prog w A { s with heap := midHeap s.heap a vs } κ (Of vs) (ltK ltv)) E { s with heap := midHeap s.heap a vs })
    (h : ∀ out : List Value, out.Perm vs → out.Pairwise (fun x y => ltv y x = false) → P (.done (.ret .none)) { s with heap := sortedHeap s.heap a vs out.toArray }) :
    wpAny (model prog w) A (Builtin.«list.sort» ⟨[.ref a], []⟩) P E s := by
  rw [list_sort_plain]
  have ha : a < s.heap.objs.size := Heap.lt_size ho
  have hl : vs.length ≤ sizeLine := by rw [sizeLine_eq]; omega
  refine wpAny_bind (listItems_at ho rfl ?_)
  refine wpAny_bind (listUpdate_at ho rfl ?_ (by rw [List.size_toArray]; exact hl) (Nat.zero_le _))
  obtain ⟨e1, ho1⟩ : ∃ e1, (s.heap.update a (Obj.mapSeq fun _ => #[])).get? a = some (seqObj "list" #[] e1) := ⟨_, get?_update_seq ho (fun _ => #[])⟩
  refine wpAny_bind (seqEpoch_at ho1 rfl ?_)
  refine wpAny_bind (wpAny_newTuple ?_ (by show vs.length ≤ _; exact hl))
  refine wpAny_bind (wpAny_newList ?_ (Nat.zero_le _))
  refine wpAny_holding ?_
  have ho6 : (midHeap s.heap a vs).get? a = some (seqObj "list" #[] e1) := by
    unfold midHeap
    rw [Heap.get?_push_ne _ _ _ (by rw [size_push', Heap.size_update]; exact Nat.ne_of_lt (Nat.lt_succ_of_lt ha)), Heap.get?_push_ne _ _ _ (by rw [Heap.size_update]; exact Nat.ne_of_lt ha)]
    exact ho1
  show wpAny (model prog w) A _ P E { s with heap := midHeap s.heap a vs }
  dsimp only
  have hsz : vs.toArray.size = vs.length := by simp
  have zip2 : ∀ st' : SortSt, (arrOf st').toList.Perm (vs.zip vs) → ((arrOf st').map (·.2)).toList.Perm vs ∧ ((arrOf st').map (·.2)).toList = (arrOf st').toList.map (·.1) := fun st' hp => by
    have hm : ∀ p ∈ (arrOf st').toList, p.1 = p.2 := fun p hp' => (mem_zip_self (hp.mem_iff.mp hp')).1
    refine ⟨?_, ?_⟩
    · rw [Array.toList_map]
      have := hp.map (·.2)
      rwa [List.map_snd_zip (Nat.le_refl _)] at this
    · rw [Array.toList_map]
      exact List.map_congr_left fun p hp' => (hm p hp').symm
  have fin : ∀ st' : SortSt, (arrOf st').toList.Perm (vs.zip vs) → Srt (ltK ltv) (arrOf st').toList → P (.done (.ret .none)) { s with heap := sortedHeap s.heap a vs ((arrOf st').map (·.2)) } := by
    intro st' hp hs
    obtain ⟨z1, z2⟩ := zip2 st' hp
    have := h _ z1 (by rw [z2]; exact List.pairwise_map.mpr hs)
    rwa [Array.toArray_toList] at this
  by_cases h2 : vs.toArray.size < 2
  · rw [if_pos h2, if_pos h2]
    refine wpAny_bind (wpAny_pure ?_)
    rw [StateT.run_pure]
    refine wpAny_bind (wpAny_pure ?_)
    dsimp only
    refine wpAny_bind (seqEpoch_at ho6 rfl ?_)
    refine wpAny_bind (listUpdate_at ho6 rfl ?_ (Nat.zero_le _) (by rw [Array.size_map]; show (pairsOf vs).size ≤ _; rw [pairsOf_size]; exact Nat.le_succ_of_le hl))
    simp only [bne_self_eq_false, Bool.false_eq_true, if_false]
    refine wpAny_pure (fin (SortSt.mk' general' (vs.toArray.zip vs.toArray) #[] 7 none) ?_ ?_)
    · show (pairsOf vs).toList.Perm _
      rw [pairsOf_toList]
    · show Srt _ (pairsOf vs).toList
      rw [pairsOf_toList]
      have : (vs.zip vs).length < 2 := by
        rw [List.length_zip]
        omega
      match vs.zip vs, this with
      | [], _ => exact srt_nil
      | [x], _ => exact srt_one x
  · rw [if_neg h2, if_neg h2]
    refine wpAny_bind (wpAny_mono (hk (by omega)) (fun κ s' hc => ?_) fun _ _ e => e)
    obtain ⟨rfl, C⟩ := hc
    refine wpAny_bind (wpAny_mono (wpS_sortG C (st := SortSt.mk' κ (vs.toArray.zip vs.toArray) #[] 7 none) (Q := fun _ st' => (arrOf st').toList.Perm (vs.zip vs) ∧ failedOf st' = none ∧ Srt (ltK ltv) (arrOf st').toList) rfl ?_ rfl rfl fun st' a1 a2 a3 => ⟨?_, a2, a3⟩) ?_ fun _ _ e => e)
    · intro p hp
      have hp' : p ∈ vs.zip vs := by
        have : p ∈ (pairsOf vs).toList := hp
        rwa [pairsOf_toList] at this
      exact mem_zip_self hp'
    · have : (arrOf st').toList.Perm (pairsOf vs).toList := a1
      rwa [pairsOf_toList] at this
    rintro ⟨⟨⟩, st'⟩ s' ⟨rfl, hp, hf, hs⟩
    dsimp only
    have hlen : ((arrOf st').map (·.2)).size = vs.length := by
      have := (zip2 st' hp).1.length_eq
      rwa [Array.length_toList] at this
    refine wpAny_bind (seqEpoch_at ho6 rfl ?_)
    refine wpAny_bind (listUpdate_at ho6 rfl ?_ (Nat.zero_le _) (Nat.le_trans (Nat.le_of_eq hlen) (Nat.le_succ_of_le hl)))
    rw [hf]
    simp only [bne_self_eq_false, Bool.false_eq_true, if_false]
    exact wpAny_pure (fin st' hp hs)
theorem sorted_G {l : Addr} {vs : List Value} {Q : Value → Shared → Prop} (hl : s.heap.IsList l vs.toArray) (hz : vs.length ≤ 100000)
    (hk : 2 ≤ vs.length → ∀ h' : Heap, (∀ b o, s.heap.get? b = some o → h'.get? b = some o) → wpAny (model prog w) A.in1.in1 (keyKind' vs.toArray) (fun κ s' => s' = { s with heap := h' } ∧ Cmp prog w A.in1.in1 { s with heap := h' } κ (Of vs) (ltK ltv)) E { s with heap := h' })
    (h : ∀ out : List Value, out.Perm vs → out.Pairwise (fun x y => ltv y x = false) → Q (.ref (s.heap.objs.size + 1)) { s with heap := sortedAll s.heap vs out.toArray }) :
    wpAny (model prog w) A (call (.builtin "sorted") [.ref l]) Q E s := by
  have hls : vs.length ≤ sizeLine := by rw [sizeLine_eq]; omega
  refine Calls.call_function_entry kind_sorted plain_sorted entry_sorted (args_sorted1 _) ?_
  unfold Builtin.«sorted»
  refine wpAny_bind (m := checkCount "sorted" 1 1 _) (wpAny_pure ?_)
  refine wpAny_bind (collect_list hl ?_ hls)
  refine wpAny_bind (wpAny_newList ?_ hls)
  have hsz : ((s.heap.push (seqObj "list" #[] 0)).update s.heap.objs.size (Obj.mapSeq (· ++ vs.toArray))).objs.size = s.heap.objs.size + 1 := by
    rw [Heap.size_update, size_push']
  have hoL : (((s.heap.push (seqObj "list" #[] 0)).update s.heap.objs.size (Obj.mapSeq (· ++ vs.toArray))).push (seqObj "list" vs.toArray 0)).get? (s.heap.objs.size + 1) = some (seqObj "list" vs.toArray 0) := by
    rw [← hsz]; exact Heap.get?_push_size _ rfl
  have keep : ∀ b o, s.heap.get? b = some o → (((s.heap.push (seqObj "list" #[] 0)).update s.heap.objs.size (Obj.mapSeq (· ++ vs.toArray))).push (seqObj "list" vs.toArray 0)).get? b = some o := fun b o q => by
    have hlt : b < s.heap.objs.size := Heap.lt_size q
    rw [Heap.get?_push_ne _ _ _ (by rw [hsz]; exact Nat.ne_of_lt (Nat.lt_succ_of_lt hlt)), Heap.get?_update_ne _ _ _ _ (Nat.ne_of_lt hlt), Heap.get?_push_ne _ _ _ (Nat.ne_of_lt hlt)]
    exact q
  show wpAny _ _ _ _ _ { s with heap := ((s.heap.push (seqObj "list" #[] 0)).update s.heap.objs.size (Obj.mapSeq (· ++ vs.toArray))).push (seqObj "list" vs.toArray 0) }
  rw [hsz]
  refine wpAny_bind (wpAny_holding (wpAny_call_entry slot_list_sort ⟨_, hoL, rfl⟩ entry_list_sort (sort_tree (ltv := ltv) hoL hz (fun h2 => ?_) fun out a1 a2 => ⟨_, rfl, ?_⟩) (args_list_sort _)))
  · exact hk h2 _ fun b o q => midHeap_old (Nat.ne_of_lt (Nat.lt_succ_of_lt (Heap.lt_size q))) (keep b o q)
  · exact wpAny_pure ⟨_, rfl, h out a1 a2⟩
end
/-! ### whole numbers -/
section
variable {prog : Program} {w : World} {A : Around} {E : Value → Shared → Prop} {s : Shared}
end
end TS

end

section
-- KcTs9
set_option linter.all false
set_option autoImplicit false
set_option maxRecDepth 100000
set_option maxHeartbeats 4000000
namespace TS
open PySem PyProof.Rows PySem.W
/-! ### rows of whole numbers, as tuples are sorted -/
theorem lex_asym : ∀ a b : List Int, HT.lexLt a b = true → HT.lexLt b a = false
  | [], [], h => by cases h
  | [], _ :: _, _ => rfl
  | _ :: _, [], h => by cases h
  | x :: xs, y :: ys, h => by
    rw [HT.lexLt_cons] at h ⊢
    by_cases e : x = y
    · subst e
      rw [if_pos rfl] at h ⊢
      exact lex_asym xs ys h
    · rw [if_neg e] at h
      rw [if_neg (Ne.symm e)]
      have := of_decide_eq_true h
      exact decide_eq_false (by omega)
theorem lex_tr : ∀ a b c : List Int, HT.lexLt b a = false → HT.lexLt c b = false → HT.lexLt c a = false
  | [], _, [], _, _ => rfl
  | [], _, _ :: _, _, _ => rfl
  | _ :: _, [], _, h, _ => by cases h
  | _ :: _, _ :: _, [], _, h => by cases h
  | x :: xs, y :: ys, z :: zs, h1, h2 => by
    rw [HT.lexLt_cons] at h1 h2 ⊢
    by_cases e1 : y = x
    · subst e1
      rw [if_pos rfl] at h1
      by_cases e2 : z = y
      · subst e2
        rw [if_pos rfl] at h2 ⊢
        exact lex_tr xs ys zs h1 h2
      · rw [if_neg e2] at h2 ⊢
        exact h2
    · rw [if_neg e1] at h1
      have l1 := of_decide_eq_false h1
      by_cases e2 : z = y
      · subst e2
        rw [if_neg e1]
        exact h1
      · rw [if_neg e2] at h2
        have l2 := of_decide_eq_false h2
        rw [if_neg (by omega)]
        exact decide_eq_false (by omega)
theorem ord_lex (kf : Value → List Int) : Ord (ltK fun x y => HT.lexLt (kf x) (kf y)) := ⟨fun _ _ => lex_asym _ _, fun _ _ _ => lex_tr _ _ _⟩
noncomputable def TupI (h : Heap) (v : Value) (ns : List Int) : Prop := ∃ (a : Addr) (o : Obj) (xs : Array Value) (n : Nat), v = .ref a ∧ h.get? a = some o ∧ o.cls = .type "tuple" ∧ o.data = .seq xs n ∧ IntsAre xs.toList ns
section
variable {prog : Program} {w : World} {A : Around} {E : Value → Shared → Prop} {s : Shared}
theorem lex_walk {Q : Bool → Shared → Prop} {fin : Bool} : ∀ {xs ys : List Value} {ns ms : List Int} {i : Nat}, IntsAre xs ns → IntsAre ys ms → (fin = decide (ns.length < ms.length) ∨ ∃ k, fin = decide (ns.length + k < ms.length + k)) → Q (HT.lexLt ns ms) s → KatLex prog w A true fin Q (xs.zip ys) i s
  | _, _, _, _, i, .nil, .nil, hf, h => by
    have e : fin = false := by
      rcases hf with rfl | ⟨k, rfl⟩ <;> simp
    rw [e]
    exact kat_nil h
  | _, _, _, _, i, .nil, .cons m u hm, hf, h => by
    have e : fin = true := by
      rcases hf with rfl | ⟨k, rfl⟩ <;> simp
    rw [e, List.zip_nil_left]
    exact kat_nil h
  | _, _, _, _, i, .cons n t hn, .nil, hf, h => by
    have e : fin = false := by
      rcases hf with rfl | ⟨k, rfl⟩ <;> simp <;> omega
    rw [e, List.zip_nil_right]
    exact kat_nil h
  | _, _, _, _, i, .cons n t hn, .cons m u hm, hf, h => by
    rw [List.zip_cons_cons]
    refine kat_cons (wpAny_eqBool_int ?_)
    rw [HT.lexLt_cons] at h
    by_cases e : n = m
    · subst e
      rw [if_pos rfl] at h
      rw [beq_self_eq_true]
      refine kat_yes (lex_walk hn hm ?_ h)
      rcases hf with rfl | ⟨k, rfl⟩
      · exact .inl (by simp)
      · exact .inl (by simp)
    · rw [if_neg e] at h
      rw [beq_eq_false_iff_ne.mpr e]
      refine kat_no ?_
      cases q : (true && i == 0) with
      | true => exact oneLt_int h
      | false => exact kat_one _ _ (lt_int h)
theorem kind_tup {vs : List Value} {kf : Value → List Int} (h2 : 2 ≤ vs.length) (ht : ∀ v ∈ vs, TupI s.heap v (kf v)) (hne : ∀ v ∈ vs, kf v ≠ []) :
    wpAny (model prog w) A (keyKind' vs.toArray) (fun κ s' => s' = s ∧ Cmp prog w A s κ (Of vs) (ltK fun x y => HT.lexLt (kf x) (kf y))) E s := by
  have go : ∀ us : List Value, (∀ v ∈ us, v ∈ vs) → ∃ fs, KatTups s.heap us fs ∧ fs.length = us.length ∧ ∀ f ∈ fs, ∃ n t, f = Value.int n t := by
    intro us
    induction us with
    | nil => exact fun _ => ⟨[], trivial, rfl, fun _ z => (nomatch z)⟩
    | cons v us ih =>
      intro hu
      obtain ⟨fs, f1, f2, f3⟩ := ih fun u hu' => hu u (List.mem_cons_of_mem _ hu')
      have hv := hu v List.mem_cons_self
      obtain ⟨a, o, xs, n, rfl, ho, hc, hd, hI⟩ := ht v hv
      have h0 := hne _ hv
      generalize kf (.ref a) = ns at hI h0
      generalize hx : xs.toList = l at hI
      cases hI with
      | nil => exact absurd rfl h0
      | cons k t hr =>
        refine ⟨.int k t :: fs, KatTups.cons ho hc hd ?_ f1, by simp [f2], fun f hf => ?_⟩
        · rw [← Array.getElem?_toList, hx]
          rfl
        · rcases List.mem_cons.mp hf with rfl | hf
          · exact ⟨k, t, rfl⟩
          · exact f3 f hf
  obtain ⟨fs, f1, f2, f3⟩ := go vs fun _ z => z
  refine kat_kind (T := .type "int") f1 (by omega) (fun f hf => ?_) (by decide) ⟨rfl, ord_lex kf, fun x y sx sy Q E' h => ?_⟩
  · obtain ⟨n, t, rfl⟩ := f3 f hf
    exact Looks.now
  · obtain ⟨a, o, xs, n, e1, ho, hc, hd, hI⟩ := ht _ sx.2
    obtain ⟨b, o', ys, m, e2, ho', hc', hd', hJ⟩ := ht _ sy.2
    have h' : Q (HT.lexLt (kf x.1) (kf y.1)) s := h
    rw [show (Value.type "int" != Value.type "tuple") = true by decide]
    generalize kf x.1 = kx at hI h'
    generalize kf y.1 = ky at hJ h'
    rw [e1, e2]
    refine kat_lt ho hd ho' hd' (lex_walk hI hJ (.inl ?_) h')
    have l1 := hI.length
    have l2 := hJ.length
    rw [Array.length_toList] at l1 l2
    rw [l1, l2]
theorem TupI.keeps {h h' : Heap} {v : Value} {ns : List Int} (t : TupI h v ns) (k : ∀ b o, h.get? b = some o → h'.get? b = some o) : TupI h' v ns := by
  obtain ⟨a, o, xs, n, e, ho, r⟩ := t
  exact ⟨a, o, xs, n, e, k _ _ ho, r⟩
end
end TS

end

section
-- KcTsE
set_option linter.all false
set_option autoImplicit false
set_option maxRecDepth 100000
set_option maxHeartbeats 4000000
namespace TS
open PySem PyProof.Rows PySem.W
section
variable {prog : Program} {w : World} {A : Around} {E : Value → Shared → Prop} {s : Shared}
/-! ### tuples of whole numbers, some of them empty -/
theorem first_of {v : Value} {ns : List Int} {Q : Option Value → Shared → Prop} (t : TupI s.heap v ns) (h : ∀ f : Option Value, f.isSome = !ns.isEmpty → Q f s) : wpAny (model prog w) A (firstOfTuple' v) Q E s := by
  obtain ⟨a, o, xs, n, rfl, ho, hc, hd, hI⟩ := t
  rw [kas_first_eq]
  refine wpAny_bind (Looks.here (show Looks (model prog w) s.heap (typeOf (.ref a)) o.cls from (Looks.ld ho).andThen .now) ?_)
  rw [hc, if_neg (by first | decide | simp)]
  refine wpAny_bind (listItems_at ho hd (wpAny_pure ?_))
  refine h _ ?_
  rw [← Array.getElem?_toList]
  generalize xs.toList = l at hI
  cases hI with
  | nil => rfl
  | cons k t hr => rfl
theorem firsts_of {kf : Value → List Int} : ∀ (vs : List Value) {Q : List (Option Value) → Shared → Prop}, (∀ v ∈ vs, TupI s.heap v (kf v)) → (∀ fs : List (Option Value), fs.map Option.isSome = vs.map (fun v => !(kf v).isEmpty) → Q fs s) → wpAny (model prog w) A (vs.mapM firstOfTuple') Q E s
  | [], _, _, h => by rw [List.mapM_nil]; exact wpAny_pure (h [] rfl)
  | v :: vs, Q, ht, h => by
    rw [List.mapM_cons]
    refine wpAny_bind (first_of (ht v List.mem_cons_self) fun f hf => ?_)
    exact wpAny_bind (firsts_of vs (Q := fun bs s' => wpAny (model prog w) A (pure (f :: bs)) Q E s') (fun u hu => ht u (List.mem_cons_of_mem _ hu)) fun fs hfs => wpAny_pure (h _ (by rw [List.map_cons, List.map_cons, hf, hfs])))
theorem tup_type {v : Value} {ns : List Int} (t : TupI s.heap v ns) : Looks (model prog w) s.heap (typeOf v) (.type "tuple") := by
  obtain ⟨a, o, xs, n, rfl, ho, hc, hd, hI⟩ := t
  rw [← hc]
  exact (Looks.ld ho).andThen .now
theorem lt_tups {x y : Value} {ns ms : List Int} {Q : Value → Shared → Prop} (t : TupI s.heap x ns) (u : TupI s.heap y ms) (hu : A.units < cLine) (h : Q (.bool (HT.lexLt ns ms)) s) : wpAny (model prog w) A (compareOp .Lt x y) Q E s := by
  obtain ⟨a, o, xs, n, rfl, ho, hc, hd, hI⟩ := t
  obtain ⟨b, o', ys, m, rfl, ho', hc', hd', hJ⟩ := u
  exact HT.lt_tupInts ⟨o, ho, hc, n, hd⟩ ⟨o', ho', hc', m, hd'⟩ hI hJ hu h
theorem one_tups {x y : Value} {ns ms : List Int} {Q : Bool → Shared → Prop} (t : TupI s.heap x ns) (u : TupI s.heap y ms) (hu : A.units < cLine) (h : Q (HT.lexLt ns ms) s) : wpAny (model prog w) A (oneLt' true x y) Q E s := by
  obtain ⟨a, o, xs, n, rfl, ho, hc, hd, hI⟩ := t
  obtain ⟨b, o', ys, m, rfl, ho', hc', hd', hJ⟩ := u
  obtain ⟨cls, dd, data, sl⟩ := o
  obtain ⟨cls2, dd2, data2, sl2⟩ := o'
  simp only at hc hd hc' hd'
  subst hc hd hc' hd'
  rw [oneLt'_eq]
  simp only [if_true]
  refine wpAny_bind (wpAny_cRoomFor hu ?_)
  refine wpAny_bind (wpAny_callSpecialIfBound?_slot (T := "tuple") ⟨_, ho, rfl⟩ PySem.F.slot_tuple_lt (call_meets PySem.F.slot_tuple_lt ⟨_, ho, rfl⟩ PySem.F.entry_tuple_lt (PySem.F.args_tuple_lt_2 _ _) (HT.tuple_lt_ints a b xs ys n m dd dd2 sl sl2 ns ms hI hJ) ⟨ho, ho', ?_⟩))
  exact wpAny_truthy_bool h
theorem kind_tupE {vs : List Value} {kf : Value → List Int} (hu : A.units < cLine) (h2 : 2 ≤ vs.length) (ht : ∀ v ∈ vs, TupI s.heap v (kf v)) :
    wpAny (model prog w) A (keyKind' vs.toArray) (fun κ s' => s' = s ∧ Cmp prog w A s κ (Of vs) (ltK fun x y => HT.lexLt (kf x) (kf y))) E s := by
  by_cases hne : ∀ v ∈ vs, kf v ≠ []
  · exact kind_tup h2 ht hne
  · have hlen : ∀ {fs : List (Option Value)}, fs.map Option.isSome = vs.map (fun v => !(kf v).isEmpty) → fs.length = vs.length := fun {fs} e => by
      have := congrArg List.length e
      rwa [List.length_map, List.length_map] at this
    rw [kat_kind_eq, List.mapM_toArray, map_eq_pure_bind]
    refine wpAny_bind (wpAny_bind (firsts_of vs ht fun fs hfs => wpAny_pure ?_))
    have hno : ¬ (fs.toArray.all fun x => x.isSome) = true := by
      intro h
      refine hne fun v hv e => ?_
      rw [List.all_toArray] at h
      have : ((vs.map fun v => !(kf v).isEmpty).all id) = true := by
        rw [← hfs, List.all_map]
        exact h
      rw [List.all_map] at this
      have := List.all_eq_true.mp this v hv
      simp [e] at this
    rw [if_neg hno]
    have gen : Cmp prog w A s general' (Of vs) (ltK fun x y => HT.lexLt (kf x) (kf y)) := ⟨ord_lex kf, fun x y sx sy Q E' h => by
      show wpAny (model prog w) A (oneLt' false x.1 y.1) Q E' s
      exact kat_one _ _ (lt_tups (ht _ sx.2) (ht _ sy.2) hu h)⟩
    by_cases h0 : (fs.toArray[0]?.bind id).isSome = true
    · rw [if_pos h0]
      exact wpAny_pure ⟨rfl, gen⟩
    · rw [if_neg h0]
      rw [oneTypeOnly'_eq, List.mapM_toArray, map_eq_pure_bind]
      refine wpAny_bind (wpAny_bind (wpAny_bind (kas_mapM (r := Value.type "tuple") _ (fun v hv Q' hq => (tup_type (ht v hv)).here hq) (wpAny_pure ?_))))
      obtain ⟨v₁, vr, rfl⟩ : ∃ v₁ vr, vs = v₁ :: vr := by
        match vs, h2 with
        | v₁ :: vr, _ => exact ⟨v₁, vr, rfl⟩
      have hall : ((List.map (fun _ => Value.type "tuple") (v₁ :: vr)).toArray.all fun x => x == Value.type "tuple") = true := by
        simp only [List.all_toArray, List.all_map, List.all_eq_true]
        intro _ _
        show (Value.type "tuple" == Value.type "tuple") = true
        decide
      have hz : (List.map (fun _ => Value.type "tuple") (v₁ :: vr)).toArray[0]? = some (Value.type "tuple") := by simp
      rw [hz]
      simp only [hall, if_true]
      refine wpAny_pure (wpAny_pure ⟨rfl, ord_lex kf, fun x y sx sy Q E' h => ?_⟩)
      rw [show (some (Value.type "tuple")).isSome = true from rfl, if_pos rfl, keyLt'_oneType]
      exact one_tups (ht _ sx.2) (ht _ sy.2) hu h
theorem sorted_E {l : Addr} {vs : List Value} {kf : Value → List Int} {Q : Value → Shared → Prop} (hu : A.units + 64 < cLine) (hl : s.heap.IsList l vs.toArray) (hz : vs.length ≤ 100000) (ht : ∀ v ∈ vs, TupI s.heap v (kf v))
    (h : ∀ out : List Value, out.Perm vs → out.Pairwise (fun x y => HT.lexLt (kf y) (kf x) = false) → Q (.ref (s.heap.objs.size + 1)) { s with heap := sortedAll s.heap vs out.toArray }) :
    wpAny (model prog w) A (call (.builtin "sorted") [.ref l]) Q E s :=
  sorted_G (ltv := fun x y => HT.lexLt (kf x) (kf y)) hl hz (fun h2 h' k => kind_tupE (s := { s with heap := h' }) (show A.units + 2 < cLine by omega) h2 (fun v hv => (ht v hv).keeps k)) h
end
end TS

end

section
-- KcNew
set_option Elab.async false
set_option linter.all false
set_option maxRecDepth 100000
set_option maxHeartbeats 4000000
namespace L2
open PySem PySem.Spec PyProof.Rows
theorem Room.units64 {k : Nat} {A : Around} (r : Room k A) : A.units + 64 < cLine := by have := r.un; omega
section
variable {X : Cx}
theorem OpR.weak {f : Value → Value → Sem Value} {r r' : R2} (h : OpR X f r) (w : ∀ x y H Q, r' x y H Q → r x y H Q) : OpR X f r' := fun pins s σ H x y v u Q I rx ry q => h pins s σ H x y v u Q I rx ry (w x y H Q q)
theorem CallR.weak {f : Value} {r r' : List V → Hp → VK → Prop} (h : CallR X f r) (w : ∀ xs H Q, r' xs H Q → r xs H Q) : CallR X f r' := fun pins s σ H xs us Q I rx q => h pins s σ H xs us Q I rx (w xs H Q q)
theorem om_cat : OpR X (binaryOp .Add) mCat := op_cat.weak fun _ _ _ _ ⟨l, b, xs, zs, e1, e2, h1, h2, hz, q⟩ => ⟨l, b, xs, zs, e1, e2, h1, h2, hz, q.upd⟩
theorem om_catT : OpR X (binaryOp .Add) (mCatT X.K) := op_catG.weak fun _ _ _ _ h => mCatT_G h
theorem cm_list : CallR X (.type "list") (mCList X.K) := call_list_of.weak fun _ _ _ ⟨p, ys, e, h, q⟩ => ⟨p, ys, e, h, q.upd⟩
theorem cm_tuple : CallR X (.type "tuple") (mCTuple X.K) := call_tuple_of.weak fun _ _ _ ⟨p, ys, e, h, q⟩ => ⟨p, ys, e, .inl ⟨h, q.upd⟩⟩
theorem sm_list : SlR X (mSlL X.K) := fun pins s σ H x v vl vu lo hi sl Q I rx hs pl pu ⟨a, xs, e, h, q⟩ => sl_list pins s σ H x v vl vu lo hi sl Q I rx hs pl pu ⟨a, xs, e, h, q.upd⟩
end
section
variable {X : Cx} {es : List Expr} {t : TA} {pos : Pos}
theorem pm_tup {x1} (h : PA X es t) : PE X (.Tuple es x1 pos) (mTup t) := by
  intro pins s σ H Q I hq
  refine wpAny_Tuple_spliced (thn (h pos pins s σ H _ I hq) fun us s1 ⟨xs, H1, I1, r, z, q⟩ => ⟨by rw [← r.length]; exact z, ?_⟩)
  have hf : H1 s1.heap.objs.size = none := I1.hok.fresh (Nat.le_refl _)
  refine ⟨.ref s1.heap.objs.size, upd H1 s1.heap.objs.size (.tup xs), I1.laid (t' := s1.toks) (fun b u e => Heap.get?_push_of_some _ e) (Nat.le_refl _) ?_, rfl, q.upd _ hf⟩
  exact ⟨z, us, r, IsTupD.new _ _⟩
theorem pm_lst (h : PA X es t) : PE X (.List es pos) (mLst t) := by
  intro pins s σ H Q I hq
  refine wpAny_List_spliced (thn (h pos pins s σ H _ I hq) fun us s1 ⟨xs, H1, I1, r, z, q⟩ => ⟨by rw [← r.length]; exact z, ?_⟩)
  have hf : H1 s1.heap.objs.size = none := I1.hok.fresh (Nat.le_refl _)
  refine ⟨.ref s1.heap.objs.size, upd H1 s1.heap.objs.size (.lst xs), I1.laid (t' := s1.toks) (fun b u e => Heap.get?_push_of_some _ e) (Nat.le_refl _) ?_, rfl, q.upd _ hf⟩
  exact ⟨z, us, 0, r, Heap.get?_push_size _ rfl⟩
end
/-! ### arguments, names: what is read off the text once -/
section
variable {X : Cx} {es : List Expr} {te : TE} {t : TA}
theorem pac_Constant {v : Const} {j : Nat} {p : Pos} (ha : PE X (.Constant v j p) te) (hr : PA X es t) : PA X (.Constant v j p :: es) (tCons te t) := pa_cons ha hr rfl
theorem pac_Name {x : Str} {p : Pos} (ha : PE X (.Name x p) te) (hr : PA X es t) : PA X (.Name x p :: es) (tCons te t) := pa_cons ha hr rfl
theorem pac_BinOp {a b : Expr} {o : Operator} {p : Pos} (ha : PE X (.BinOp a o b p) te) (hr : PA X es t) : PA X (.BinOp a o b p :: es) (tCons te t) := pa_cons ha hr rfl
theorem pac_Call {f : Expr} {as : List Expr} {ks : List Keyword} {p : Pos} (ha : PE X (.Call f as ks p) te) (hr : PA X es t) : PA X (.Call f as ks p :: es) (tCons te t) := pa_cons ha hr rfl
theorem pac_Tuple {as : List Expr} {k : Nat} {p : Pos} (ha : PE X (.Tuple as k p) te) (hr : PA X es t) : PA X (.Tuple as k p :: es) (tCons te t) := pa_cons ha hr rfl
theorem pac_List {as : List Expr} {p : Pos} (ha : PE X (.List as p) te) (hr : PA X es t) : PA X (.List as p :: es) (tCons te t) := pa_cons ha hr rfl
theorem pac_Subscript {a b : Expr} {p : Pos} (ha : PE X (.Subscript a b p) te) (hr : PA X es t) : PA X (.Subscript a b p :: es) (tCons te t) := pa_cons ha hr rfl
theorem pac_Compare {a : Expr} {os : List CmpOp} {bs : List Expr} {p : Pos} (ha : PE X (.Compare a os bs p) te) (hr : PA X es t) : PA X (.Compare a os bs p :: es) (tCons te t) := pa_cons ha hr rfl
theorem pac_ListComp {e : Expr} (ha : PE X e te) (hr : PA X es t) (hs : starEach (e :: es) X.env = (false, eval e X.env) :: starEach es X.env := by rfl) : PA X (e :: es) (tCons te t) := pa_cons ha hr hs
structure VarAt (N : List Str) (sc : Scope) (i : Nat) (x : Str) : Prop where
  n : N[i]? = some x
  v : Vis sc x
  d : (x == ("__debug__" : Str)) = false
  c : (x == ("__classdict__" : Str)) = false
theorem pvQ {N : List Str} {sc : Scope} {i : Nat} {x : Str} {pos : Pos} (h : VarAt N sc i x) (hN : X.N = N) (hS : X.env.scope = sc) : PE X (.Name x pos) (tVar i) := by
  subst hN hS
  exact pe_var h.n h.v h.d h.c
end
end L2

end

section
-- KcIsR
set_option Elab.async false
set_option linter.all false
set_option maxRecDepth 100000
set_option maxHeartbeats 4000000
namespace L2
open PySem PyProof.Rows
/-! ### is None, is not None -/
/-! ### (x,) * n -/
/-! ### len(set(xs)), min(xs), min(xs, default=None), of whole numbers -/
/-! ### range(a, -1, -1) -/
end L2

end

section
-- KcForms
set_option Elab.async false
set_option linter.all false
set_option maxRecDepth 100000
set_option maxHeartbeats 4000000
namespace L2
open PySem PySem.Spec PyProof.Rows
theorem sm_tup {X : Cx} : SlR X (mSlT X.K) := fun pins s σ H x v vl vu lo hi sl Q I rx hs pl pu ⟨a, xs, e, h, n, q⟩ => sl_tup pins s σ H x v vl vu lo hi sl Q I rx hs pl pu ⟨a, xs, e, h, n, q.upd⟩
/-! ### a dict of the module's own -/
noncomputable def KDict (P : Program) (w : World) (K : PySem.W.Frag) (a : Addr) (kvs : List (Str × V)) : Prop :=
  (a == sysModules) = false ∧ ∃ (o : Obj) (es : Array DictEntry) (ep : Nat) (vs : List (Key × Value)), K.lookup a = some o ∧ o.ExactDict ∧ o.data = .dict es ep ∧ KeysOf (mixKind P w) es ∧ Pairs (mixKind P w) es.toList vs ∧ (vs.map (·.1)).Nodup ∧
    Paired (fun (p : Str × V) (q : Key × Value) => q.1 = .inr p.1 ∧ RelV p.2 q.2) kvs vs
section
variable {X : Cx} {o i : Expr} {pos : Pos} {td ty : TE} {a : Addr} {kvs : List (Str × V)}
theorem KDict.of {pins : List (Addr × Obj)} {σ : St} {H : Hp} {s : Shared} (D : KDict X.prog X.w X.K a kvs) (I : Inv X pins σ H s) : ∃ vs, s.heap.DictOf (mixKind X.prog X.w) a vs ∧ Paired (fun (p : Str × V) (q : Key × Value) => q.1 = .inr p.1 ∧ RelV p.2 q.2) kvs vs := by
  obtain ⟨_, o, es, ep, vs, lk, ex, hd, hk, hp, nd, rel⟩ := D
  exact ⟨vs, ⟨o, es, ep, I.kIn a o lk, ex, hd, hk, hp, nd⟩, rel⟩
end
end L2

end

section
-- KcIsN
set_option Elab.async false
set_option linter.all false
set_option maxRecDepth 100000
set_option maxHeartbeats 4000000
namespace L2
open PySem PySem.Spec PyProof.Rows
section
variable {X : Cx}
end
end L2

end

section
-- KcRuleA
set_option Elab.async false
set_option linter.all false
set_option maxRecDepth 100000
set_option maxHeartbeats 4000000
namespace L2
open PySem PySem.Spec PyProof.Rows
/-! ### (x,) * n -/
/-! ### min(xs, default=None) -/
section
variable {prog : Program} {w : World} {A : Around} {R : Result → Shared → Prop} {I : Addr} {fp wr : List Addr} {n : Nat} {P : Nat → Value → Prop} {St : Nat → Heap → Prop} {kw : List (Str × Value)}
end
end L2

end

section
-- KcRuleB
set_option Elab.async false
set_option linter.all false
set_option maxRecDepth 100000
set_option maxHeartbeats 4000000
namespace L2
open PySem PySem.Spec PyProof.Rows
section
variable {prog : Program} {w : World} {A : Around} {E : Value → Shared → Prop} {s : Shared}
end
end L2

end

section
-- KcSetN
set_option Elab.async false
set_option linter.all false
set_option maxRecDepth 100000
set_option maxHeartbeats 4000000
namespace L2
open PySem PySem.Spec PyProof.Rows
section
variable {X : Cx}
end
end L2

end

section
-- KcEq
set_option Elab.async false
set_option linter.all false
set_option maxRecDepth 100000
set_option maxHeartbeats 4000000
namespace L2
open PySem PySem.Spec PyProof.Rows
/-! ### data behind a value: lists and tuples to any depth -/
mutual
inductive Dat (K : PySem.W.Frag) (H : Hp) : V → PyData → Prop where
  | non : Dat K H .non .none
  | bl (b : Bool) : Dat K H (.bl b) (.bool b)
  | int (i : Int) : Dat K H (.int i) (.int i)
  | str (x : Str) : Dat K H (.str x) (.str x)
  | lst {a : Addr} {xs : List V} {ds : List PyData} (e : SqL K H a xs) (h : Dats K H xs ds) : Dat K H (.ref a) (.list ds)
  | tup {a : Addr} {xs : List V} {ds : List PyData} (e : SqT K H a xs) (h : Dats K H xs ds) : Dat K H (.ref a) (.tuple ds)
inductive Dats (K : PySem.W.Frag) (H : Hp) : List V → List PyData → Prop where
  | nil : Dats K H [] []
  | cons {x : V} {xs : List V} {d : PyData} {ds : List PyData} (h : Dat K H x d) (t : Dats K H xs ds) : Dats K H (x :: xs) (d :: ds)
end
section
variable {X : Cx} {pins : List (Addr × Obj)} {σ : St} {H : Hp} {s : Shared}
mutual
theorem Dat.reads (I : Inv X pins σ H s) : ∀ {x : V} {d : PyData} {u : Value}, Dat X.K H x d → RelV x u → ∃ as, Reads s.heap u d as
  | _, _, _, .non, r => by cases r; exact ⟨_, .none⟩
  | _, _, _, .bl b, r => by cases r; exact ⟨_, .bool b⟩
  | _, _, _, .int i, r => by obtain ⟨t, rfl⟩ := r; exact ⟨_, .int i t⟩
  | _, _, _, .str x, r => by obtain ⟨t, rfl⟩ := r; exact ⟨_, .str x t⟩
  | _, _, _, .lst e h, r => by
    cases r
    obtain ⟨its, rv, ⟨o, n, h1, h2, h3, h4⟩, _⟩ := I.list e
    obtain ⟨as, ra⟩ := Dats.reads I h rv
    exact ⟨_, .list h1 h2 h4 (by simpa using ra)⟩
  | _, _, _, .tup e h, r => by
    cases r
    obtain ⟨its, rv, ⟨o, h1, h2, n, h3⟩, _⟩ := I.tuple e
    obtain ⟨as, ra⟩ := Dats.reads I h rv
    exact ⟨_, .tuple h1 h2 h3 (by simpa using ra)⟩
theorem Dats.reads (I : Inv X pins σ H s) : ∀ {xs : List V} {ds : List PyData} {us : List Value}, Dats X.K H xs ds → Vals xs us → ∃ as, ReadsAll s.heap us ds as
  | _, _, _, .nil, .nil => ⟨_, .nil⟩
  | _, _, _, .cons h t, .cons r q => by
    obtain ⟨as, ra⟩ := Dat.reads I h r
    obtain ⟨bs, rb⟩ := Dats.reads I t q
    exact ⟨_, .cons ra rb⟩
end
end
noncomputable def rEqD (K : PySem.W.Frag) (neg : Bool) : R2 := fun x y H Q => ∃ d e, Dat K H x d ∧ Dat K H y e ∧ SeqAt.shaped d = true ∧ SeqAt.shaped e = true ∧ Q (.bl (if neg then !PyData.eqv d e else PyData.eqv d e)) H
section
variable {X : Cx}
theorem op_eqD (hu : X.A.units + 64 < cLine) : OpR X (compareOp .Eq) (rEqD X.K false) := by
  intro pins s σ H x y v u Q I rx ry h
  obtain ⟨d, e, hd, he, sd, se, q⟩ := h
  obtain ⟨as, ra⟩ := hd.reads I rx
  obtain ⟨bs, rb⟩ := he.reads I ry
  exact eq_dataH ra rb sd se hu ⟨.bl (PyData.eqv d e), H, I, rfl, q⟩
end
end L2

end

section
-- KcSameN
set_option Elab.async false
set_option linter.all false
set_option maxRecDepth 100000
set_option maxHeartbeats 4000000
namespace L2
open PySem PySem.Spec PyProof.Rows
mutual
theorem datD {K : PySem.W.Frag} {H : Hp} : ∀ {n : Nat} {x y : V}, SameD K H n x y → ∃ d, Dat K H x d ∧ Dat K H y d ∧ d.canLay0 = true ∧ d.depth ≤ n
  | n, x, _, .flat h => by
    cases x with
    | non => exact ⟨_, .non, .non, rfl, Nat.zero_le _⟩
    | bl b => exact ⟨_, .bl b, .bl b, rfl, Nat.zero_le _⟩
    | int i => exact ⟨_, .int i, .int i, rfl, Nat.zero_le _⟩
    | _ => cases h
  | _, _, _, .lst (xs := xs) (ys := ys) e1 e2 hl h => by
    obtain ⟨ds, h1, h2, h3, h4⟩ := datsD xs ys hl h
    exact ⟨_, .lst e1 h1, .lst e2 h2, h3, Nat.succ_le_succ h4⟩
  | _, _, _, .tup (xs := xs) (ys := ys) e1 e2 hl h => by
    obtain ⟨ds, h1, h2, h3, h4⟩ := datsD xs ys hl h
    exact ⟨_, .tup e1 h1, .tup e2 h2, h3, Nat.succ_le_succ h4⟩
theorem datsD {K : PySem.W.Frag} {H : Hp} {n : Nat} : ∀ (xs ys : List V), xs.length = ys.length → (∀ (i : Nat) (x y : V), xs[i]? = some x → ys[i]? = some y → SameD K H n x y) → ∃ ds, Dats K H xs ds ∧ Dats K H ys ds ∧ PyData.canLayAll0 ds = true ∧ PyData.depthAll ds ≤ n
  | [], [], _, _ => ⟨[], .nil, .nil, rfl, Nat.zero_le _⟩
  | x :: xs, y :: ys, hl, h => by
    obtain ⟨d, a1, a2, a3, a4⟩ := datD (h 0 x y rfl rfl)
    obtain ⟨ds, b1, b2, b3, b4⟩ := datsD xs ys (by simpa using hl) (fun i x y hx hy => h (i + 1) x y hx hy)
    refine ⟨d :: ds, .cons a1 b1, .cons a2 b2, ?_, ?_⟩
    · show (d.canLay0 && PyData.canLayAll0 ds) = true
      rw [a3, b3]; rfl
    · show max d.depth (PyData.depthAll ds) ≤ n
      omega
  | [], _ :: _, hl, _ => by simp at hl
  | _ :: _, [], hl, _ => by simp at hl
end
section
variable {X : Cx}
theorem op_sameE (hu : X.A.units + 64 < cLine) : OpR X (compareOp .Eq) (rSameD X.K false) := by
  intro pins s σ H x y v u Q I rx ry h
  obtain ⟨n, hn, hd, q⟩ := h
  obtain ⟨d, h1, h2, h3, h4⟩ := datD hd
  obtain ⟨as, ra⟩ := h1.reads I rx
  obtain ⟨bs, rb⟩ := h2.reads I ry
  have sh : SeqAt.shaped d = true := by unfold SeqAt.shaped; rw [h3, decide_eq_true (by omega)]; rfl
  refine eq_dataH ra rb sh sh hu ⟨.bl true, H, I, ?_, q⟩
  rw [SeqAt.eqv_refl d h3]; rfl
end
end L2

end

section
-- KcSrt
set_option Elab.async false
set_option linter.all false
set_option maxRecDepth 100000
set_option maxHeartbeats 4000000
namespace L2
open PySem PySem.Calls PyProof.Rows
section
variable {X : Cx}
end
end L2

end

section
-- KcSo
set_option Elab.async false
set_option linter.all false
set_option maxRecDepth 100000
set_option maxHeartbeats 4000000
namespace L2
open PySem PySem.Calls PyProof.Rows
section
variable {X : Cx}
noncomputable def numsOf : List V → List Int := List.map fun v => match v with | .int n => n | _ => 0
theorem numsOf_ints (ns : List Int) : numsOf (ns.map V.int) = ns := by
  unfold numsOf
  rw [List.map_map]
  exact List.map_id _
noncomputable def keyAt (H : Hp) : Value → List Int
  | .ref a => match H a with | some (.tup xs) => numsOf xs | _ => []
  | _ => []
theorem keyAt_tup {H : Hp} {a : Addr} {w : List Int} (e : H a = some (.tup (w.map V.int))) : keyAt H (.ref a) = w := by
  show (match H a with | some (.tup xs) => numsOf xs | _ => []) = w
  rw [e]
  exact numsOf_ints w
theorem vals_refs : ∀ {rs : List Addr} {its : List Value}, Vals (rs.map V.ref) its → its = rs.map Value.ref
  | [], _, .nil => rfl
  | r :: rs, _, .cons h t => by
    cases (show _ = Value.ref r from h)
    rw [vals_refs t]
    rfl
theorem refs_vals : ∀ (rs : List Addr), Vals (rs.map V.ref) (rs.map Value.ref)
  | [] => .nil
  | r :: rs => .cons rfl (refs_vals rs)
theorem tups_keys {H : Hp} : ∀ {rs : List Addr} {ws : List (List Int)}, TupsAt H rs ws → ws = rs.map fun a => keyAt H (.ref a)
  | _, _, .nil => rfl
  | _, _, .cons h t => by rw [List.map_cons, keyAt_tup h, ← tups_keys t]
theorem tups_mem {H : Hp} : ∀ {rs : List Addr} {ws : List (List Int)}, TupsAt H rs ws → ∀ a ∈ rs, H a = some (.tup ((keyAt H (.ref a)).map V.int))
  | _, _, .nil, _, z => nomatch z
  | _, _, .cons h t, a, z => by
    rcases List.mem_cons.mp z with rfl | z
    · rw [keyAt_tup h]
      exact h
    · exact tups_mem t a z
theorem tups_of {H : Hp} : ∀ {rs : List Addr}, (∀ a ∈ rs, H a = some (.tup ((keyAt H (.ref a)).map V.int))) → TupsAt H rs (rs.map fun a => keyAt H (.ref a))
  | [], _ => .nil
  | _ :: _, h => .cons (h _ List.mem_cons_self) (tups_of fun a ha => h a (List.mem_cons_of_mem _ ha))
end
end L2

end

section
-- KcMap
set_option Elab.async false
set_option linter.all false
set_option maxRecDepth 100000
set_option maxHeartbeats 4000000
namespace L2
open PySem PySem.Spec PyProof.Rows
/-! ### the object's rules -/
theorem DA.stay {a : Addr} {kvs : List (IA × V)} {h1 h2 : Heap} (d : DA a kvs h1) (k : ∀ o, h1.get? a = some o → h2.get? a = some o) : DA a kvs h2 := by
  obtain ⟨z, y, P, w, vs, r, o, es, ep, e, c⟩ := d
  exact ⟨z, y, P, w, vs, r, o, es, ep, k _ e, c⟩
theorem DB.stay {a : Addr} {zs : List (List IK × Addr × V)} {h1 h2 : Heap} (d : DB a zs h1) (k : ∀ o, h1.get? a = some o → h2.get? a = some o) : DB a zs h2 := by
  obtain ⟨z, y, xs, r, o, es, ep, e, c⟩ := d
  exact ⟨z, y, xs, r, o, es, ep, k _ e, c⟩
theorem DA.ok {P : Program} {w : World} {H : Hp} {h : Heap} {a : Addr} {kvs : List (IA × V)} (d : DA a kvs h) : ObjOk P w H h a (dA a kvs) := by
  obtain ⟨_, _, _, _, _, _, o, _, _, e, _⟩ := id d
  exact ⟨d, ⟨o, e⟩, fun _ _ d k => d.stay k⟩
theorem DB.ok {P : Program} {w : World} {H : Hp} {h : Heap} {a : Addr} {zs : List (List IK × Addr × V)} (d : DB a zs h) : ObjOk P w H h a (dB a zs) := by
  obtain ⟨_, _, _, _, o, _, _, e, _⟩ := id d
  exact ⟨d, ⟨o, e⟩, fun _ _ d k => d.stay k⟩
theorem ZX.length {zs : List (List IK × Addr × V)} {xs : List (List IK × Addr × Value)} (r : ZX zs xs) : zs.length = xs.length := Paired.length r
theorem ZX.val {zs : List (List IK × Addr × V)} {xs : List (List IK × Addr × Value)} (r : ZX zs xs) (k : List IK) : RelO (atZ zs k) ((atKey xs k).map (·.2)) := by
  unfold ZX at r
  induction r with
  | nil => exact True.intro
  | @cons p q ps qs h t ih =>
    obtain ⟨h1, _, h2⟩ := h
    by_cases e : p.1 = k
    · have e' : q.1 = k := h1.symm.trans e
      have b : atKey (q :: qs) k = some q.2 := by simp [atKey, List.find?_cons, e']
      have c : atZ (p :: ps) k = some p.2.2 := by simp [atZ, List.find?_cons, e]
      rw [c, b]; exact h2
    · have e' : ¬ q.1 = k := fun z => e (h1.trans z)
      have b : atKey (q :: qs) k = atKey qs k := by simp [atKey, List.find?_cons, e']
      have c : atZ (p :: ps) k = atZ ps k := by simp [atZ, List.find?_cons, e]
      rw [c, b]; exact ih
noncomputable def putZ (zs : List (List IK × Addr × V)) (k : List IK) (b : Addr) (v : V) : List (List IK × Addr × V) :=
  if (atZ zs k).isSome then zs.map (fun x => if x.1 = k then (x.1, x.2.1, v) else x) else zs ++ [(k, b, v)]
theorem ZX.repl {zs : List (List IK × Addr × V)} {xs : List (List IK × Addr × Value)} (r : ZX zs xs) (k : List IK) {v : V} {u : Value} (rv : RelV v u) : ZX (zs.map fun x => if x.1 = k then (x.1, x.2.1, v) else x) (xs.map (putAt k u)) := by
  unfold ZX at r ⊢
  induction r with
  | nil => exact .nil
  | @cons p q ps qs h t ih =>
    rw [List.map_cons, List.map_cons]
    refine .cons ?_ ih
    obtain ⟨h1, h2, h3⟩ := h
    unfold putAt
    by_cases e : p.1 = k
    · rw [if_pos e, if_pos (h1.symm.trans e)]; exact ⟨h1, h2, rv⟩
    · rw [if_neg e, if_neg (fun z => e (h1.trans z))]; exact ⟨h1, h2, h3⟩
theorem ZX.put {zs : List (List IK × Addr × V)} {xs : List (List IK × Addr × Value)} (r : ZX zs xs) (k : List IK) {b : Addr} {v : V} {u : Value} (rv : RelV v u) : ZX (putZ zs k b v) (storedH xs k b u) := by
  have e : (atZ zs k).isSome = (atKey xs k).isSome := by
    rw [(r.val k).isSome_eq, Option.isSome_map]
  unfold putZ storedH
  rw [e]
  by_cases q : (atKey xs k).isSome = true
  · rw [if_pos q, if_pos q]; exact r.repl k rv
  · rw [if_neg q, if_neg q]; exact Paired.snoc r ⟨rfl, rfl, rv⟩
theorem atZ_put (zs : List (List IK × Addr × V)) (k j : List IK) (b : Addr) (v : V) : atZ (putZ zs k b v) j = if j = k then some v else atZ zs j := by
  have hm : ∀ ys : List (List IK × Addr × V), atZ (ys.map fun x => if x.1 = k then (x.1, x.2.1, v) else x) j = (atZ ys j).map fun y => if j = k then v else y := by
    intro ys
    induction ys with
    | nil => rfl
    | cons p r ih =>
      rw [List.map_cons]
      unfold atZ at ih ⊢
      by_cases h : p.1 = k
      · rw [if_pos h]
        by_cases e : p.1 = j
        · simp [List.find?_cons, e, e.symm.trans h]
        · simp [List.find?_cons, e]; simpa using ih
      · rw [if_neg h]
        by_cases e : p.1 = j
        · have : ¬ j = k := fun z => h (e.trans z)
          simp [List.find?_cons, e, this]
        · simp [List.find?_cons, e]; simpa using ih
  have ha : ∀ ys : List (List IK × Addr × V), atZ ys k = none → atZ (ys ++ [(k, b, v)]) j = if j = k then some v else atZ ys j := by
    intro ys
    induction ys with
    | nil =>
      intro _
      by_cases e : k = j
      · simp [atZ, List.find?_cons, e]
      · have : ¬ j = k := fun z => e z.symm
        simp [atZ, List.find?_cons, e, this]
    | cons p r ih =>
      intro hn
      have hk : ¬ p.1 = k := fun z => by simp [atZ, List.find?_cons, z] at hn
      have hn' : atZ r k = none := by simpa [atZ, List.find?_cons, hk] using hn
      have ih' := ih hn'
      by_cases e : p.1 = j
      · have : ¬ j = k := fun z => hk (e.trans z)
        simp [atZ, List.find?_cons, e, this]
      · have c : atZ (p :: (r ++ [(k, b, v)])) j = atZ (r ++ [(k, b, v)]) j := by simp [atZ, List.find?_cons, e]
        have c' : atZ (p :: r) j = atZ r j := by simp [atZ, List.find?_cons, e]
        rw [List.cons_append, c, c', ih']
  unfold putZ
  cases q : atZ zs k with
  | some y =>
    rw [if_pos (show (some y).isSome = true from rfl), hm]
    by_cases e : j = k
    · subst e; rw [q, if_pos rfl]; simp
    · rw [if_neg e]; cases atZ zs j <;> simp [e]
  | none => rw [if_neg (show ¬ (none : Option V).isSome = true by decide)]; exact ha zs q
theorem length_putZ (zs : List (List IK × Addr × V)) (k : List IK) (b : Addr) (v : V) : (putZ zs k b v).length ≤ zs.length + 1 := by
  unfold putZ
  split
  · rw [List.length_map]; omega
  · rw [List.length_append, List.length_cons, List.length_nil]; omega
theorem mem_putZ {zs : List (List IK × Addr × V)} {k : List IK} {b : Addr} {v : V} {z : List IK × Addr × V} (h : z ∈ putZ zs k b v) : (∃ z0 ∈ zs, z.1 = z0.1 ∧ z.2.1 = z0.2.1) ∨ (z.1 = k ∧ z.2.1 = b) := by
  unfold putZ at h
  split at h
  · obtain ⟨z0, h0, rfl⟩ := List.mem_map.mp h
    refine .inl ⟨z0, h0, ?_⟩
    split <;> exact ⟨rfl, rfl⟩
  · rcases List.mem_append.mp h with h | h
    · exact .inl ⟨z, h, rfl, rfl⟩
    · rw [List.mem_singleton.mp h]; exact .inr ⟨rfl, rfl⟩
section
variable {X : Cx} {pins : List (Addr × Obj)} {σ : St} {H : Hp} {s : Shared} {a : Addr} {y v : V} {u r : Value} {A : Around} {E : Value → Shared → Prop} {srt : Bool} {f : MK → Option V} {n : Nat} {k : MK}
theorem ia_is {k : IA} (h : iaV y = some k) (ry : RelV y u) : iaIs k u = true := by
  cases y with
  | non => cases h; cases ry; rfl
  | bl b => cases h; cases ry; simp [iaIs]
  | int i => cases h; obtain ⟨t, rfl⟩ := ry; simp [iaIs]
  | _ => cases h
theorem ias_are {P : Program} {w : World} : ∀ {ks : List IA} {ys : List V} {us : List Value}, ys.map iaV = ks.map some → Vals ys us → ItemsAre (iaKind P w) ks us
  | [], [], _, _, .nil => .nil
  | k :: ks, y :: ys, _, e, .cons h t => by
    rw [List.map_cons, List.map_cons] at e
    injection e with e1 e2
    exact .cons (ia_is e1 h) (ias_are e2 t)
  | [], _ :: _, _, e, _ => by simp at e
  | _ :: _, [], _, e, _ => by simp at e
theorem tup_at (ok : HOk X.prog X.w H s.heap) {c : Addr} {xs : List V} (e : H c = some (.tup xs)) : ∃ its, Vals xs its ∧ ∃ o n, s.heap.get? c = some o ∧ o.cls = .type "tuple" ∧ o.data = .seq its.toArray n := by
  obtain ⟨_, its, r, o, h1, h2, ⟨n, h3⟩, _⟩ := (show ObjOk X.prog X.w H s.heap c (.tup xs) from ok c _ e)
  exact ⟨its, r, o, n, h1, h2, h3⟩
theorem item_is (ok : HOk X.prog X.w H s.heap) {k : IK} (h : ItemV H y k) (ry : RelV y u) : ItemIs X.prog X.w s.heap k u := by
  cases k with
  | inl a => exact ia_is h ry
  | inr as =>
    obtain ⟨c, ys, rfl, e, q⟩ := h
    cases ry
    obtain ⟨its, rv, o, n, h1, h2, h3⟩ := tup_at ok e
    exact ⟨c, rfl, o, its.toArray, n, h1, h2, h3, by simpa using ias_are q rv⟩
theorem items_is (ok : HOk X.prog X.w H s.heap) {xs : List V} {ks : List IK} {us : List Value} (p : Paired (ItemV H) xs ks) : Vals xs us → Paired (ItemIs X.prog X.w s.heap) ks us := by
  induction p generalizing us with
  | nil => intro q; cases q; exact .nil
  | cons h t ih => intro q; cases q with
    | cons r q => exact .cons (item_is ok h r) (ih q)
theorem tk_is (ok : HOk X.prog X.w H s.heap) {c : Addr} {ks : List IK} (h : KeyV H (.ref c) (.inr ks)) : IsTk X.prog X.w s.heap ks c := by
  obtain ⟨c', xs, e, ec, q⟩ := h
  cases e
  obtain ⟨its, rv, o, n, h1, h2, h3⟩ := tup_at ok ec
  exact ⟨o, its.toArray, n, h1, h2, h3, by simpa using items_is ok q rv⟩
theorem key_ref (h : KeyV H y k) (hs : kSort k = true) : ∃ c ks, y = .ref c ∧ k = .inr ks := by
  cases k with
  | inl _ => cases hs
  | inr ks => obtain ⟨c, xs, e, _⟩ := h; exact ⟨c, ks, e, rfl⟩
theorem pairs_any {P P' : Program} {w w' : World} {es : List DictEntry} {vs : List (IA × Value)} (h : Pairs (iaKind P w) es vs) : Pairs (iaKind P' w') es vs := by
  induction h with
  | nil => exact .nil
  | cons a b _ ih => exact .cons a b ih
theorem da_of {kvs : List (IA × V)} (ok : HOk X.prog X.w H s.heap) (e : H a = some (dA a kvs)) : kvs.length ≤ sizeLine ∧ (a == sysModules) = false ∧ ∃ vs, KV kvs vs ∧ s.heap.DictOf (iaKind X.prog X.w) a vs := by
  obtain ⟨⟨z, y, P, w, vs, r, o, es, ep, h1, h2, h3, h4, h5, h6⟩, _⟩ := (show ObjOk X.prog X.w H s.heap a (dA a kvs) from ok a _ e)
  exact ⟨z, y, vs, r, o, es, ep, h1, h2, h3, h4, pairs_any h5, h6⟩
theorem db_of {zs : List (List IK × Addr × V)} (ok : HOk X.prog X.w H s.heap) (e : H a = some (dB a zs)) (hk : ∀ z ∈ zs, KeyV H (.ref z.2.1) (.inr z.1)) : zs.length ≤ sizeLine ∧ (a == sysModules) = false ∧ ∃ xs, ZX zs xs ∧ s.heap.DictOfH (tkKind X.prog X.w) a xs := by
  obtain ⟨⟨z, y, xs, r, o, es, ep, h1, h2, h3, h4, h5⟩, _⟩ := (show ObjOk X.prog X.w H s.heap a (dB a zs) from ok a _ e)
  refine ⟨z, y, xs, r, o, es, ep, h1, h2, h3, h4, ?_, h5⟩
  have all : ∀ {l : List (List IK × Addr × V)} {m : List (List IK × Addr × Value)}, ZX l m → (∀ z ∈ l, KeyV H (.ref z.2.1) (.inr z.1)) → ∀ x ∈ m, (tkKind X.prog X.w).is s.heap x.1 x.2.1 := by
    intro l m q
    unfold ZX at q
    induction q with
    | nil => intro _ x hx; exact nomatch hx
    | @cons p q ps qs hq t ih =>
      intro hk x hx
      rcases List.mem_cons.mp hx with e | hx
      · subst e
        have := hk p (List.mem_cons_self ..)
        rw [hq.1, hq.2.1] at this
        exact tk_is ok this
      · exact ih (fun z hz => hk z (List.mem_cons_of_mem _ hz)) x hx
  exact all r hk
theorem off_upd' {o : HO} : Off a H (upd H a o) := fun b hb => upd_ne hb
theorem da_new {h' : Heap} {t' : Nat} {kvs kvs' : List (IA × V)} {vs' : List (IA × Value)} (I : Inv X pins σ H s) (e : H a = some (dA a kvs)) (hs : Heap.SameBut a s.heap h') (z : kvs'.length ≤ sizeLine) (hd : (a == sysModules) = false) (rel : KV kvs' vs') (dd : h'.DictOf (iaKind X.prog X.w) a vs') :
    Inv X pins σ (upd H a (dA a kvs')) { s with heap := h', toks := t' } := by
  have he : ∃ q, h'.get? a = some q := let ⟨q, _, _, hq, _⟩ := dd; ⟨q, hq⟩
  exact d_write I (by rw [e]; exact True.intro) hs he (DA.ok ⟨z, hd, X.prog, X.w, vs', rel, dd⟩)
theorem db_new {h' : Heap} {t' : Nat} {zs zs' : List (List IK × Addr × V)} {xs' : List (List IK × Addr × Value)} (I : Inv X pins σ H s) (e : H a = some (dB a zs)) (hs : Heap.SameBut a s.heap h') (z : zs'.length ≤ sizeLine) (hd : (a == sysModules) = false) (rel : ZX zs' xs') (dd : h'.DictOfH (tkKind X.prog X.w) a xs') :
    Inv X pins σ (upd H a (dB a zs')) { s with heap := h', toks := t' } := by
  obtain ⟨o, es, ep, h1, h2, h3, h4, _, h5⟩ := dd
  exact d_write I (by rw [e]; exact True.intro) hs ⟨o, h1⟩ (DB.ok ⟨z, hd, xs', rel, o, es, ep, h1, h2, h3, h4, h5⟩)
theorem dx_putA {kvs : List (IA × V)} {k : IA} (e : H a = some (dA a kvs)) (hf : ∀ k, valV kvs k = f (.inl k)) (hn : kvs.length ≤ n) : Dx (upd H a (dA a (putK kvs k v))) a false (putF_ f (.inl k) v) (n + 1) := by
  refine .inl ⟨rfl, _, upd_same, fun j => ?_, ?_⟩
  · rw [valV_put]
    unfold putF_
    by_cases q : j = k
    · rw [if_pos q, if_pos (by rw [q])]
    · rw [if_neg q, if_neg (fun z => q (Sum.inl.inj z)), hf j]
  · have := length_putK kvs k v; omega
theorem dx_putB {zs : List (List IK × Addr × V)} {k : List IK} {c : Addr} (e : H a = some (dB a zs)) (hz : ∀ z ∈ zs, KeyV H (.ref z.2.1) (.inr z.1)) (hk : KeyV H (.ref c) (.inr k)) (hf : ∀ k, atZ zs k = f (.inr k)) (hn : zs.length ≤ n) :
    Dx (upd H a (dB a (putZ zs k c v))) a true (putF_ f (.inr k) v) (n + 1) := by
  have kp : Keep H (upd H a (dB a (putZ zs k c v))) := off_upd'.keepD fun xs q => by rw [e] at q; cases q
  refine .inr ⟨rfl, _, upd_same, fun z h => ?_, fun j => ?_, ?_⟩
  · rcases mem_putZ h with ⟨z0, h0, e1, e2⟩ | ⟨e1, e2⟩
    · rw [e1, e2]; exact (hz z0 h0).keep kp
    · rw [e1, e2]; exact hk.keep kp
  · rw [atZ_put]
    unfold putF_
    by_cases q : j = k
    · rw [if_pos q, if_pos (by rw [q])]
    · rw [if_neg q, if_neg (fun z => q (Sum.inr.inj z)), hf j]
  · have := length_putZ zs k c v; omega
theorem x_set {Q : Unit → Shared → Prop} (hu : A.units + 2 < cLine) (I : Inv X pins σ H s) (d : Dx H a srt f n) (hk : KeyV H y k) (hs : kSort k = srt) (hn : n < sizeLine) (ry : RelV y u) (rv : RelV v r)
    (h : ∀ H' s', Off a H H' → Dx H' a srt (putF_ f k v) (n + 1) → Inv X pins σ H' s' → Q () s') : wpAny (model X.prog X.w) A (setItem (.ref a) u r) Q E s := by
  rcases d with ⟨rfl, kvs, e, hf, hl⟩ | ⟨rfl, zs, e, hz, hf, hl⟩
  · cases k with
    | inr _ => cases hs
    | inl k =>
      obtain ⟨z, hd, vs, rel, dd⟩ := da_of I.hok e
      have hvz : vs.length ≤ sizeLine := by rw [← rel.length]; exact z
      have hl' : (putK kvs k v).length ≤ sizeLine := by have := length_putK kvs k v; omega
      refine wpAny_setItem_pairs (knd := iaKind X.prog X.w) (hsz := hvz) (ia_is hk ry) dd fun h' dd' hs' => h _ _ off_upd' (dx_putA e hf hl) ?_
      exact da_new I e hs' hl' hd (rel.put k rv) dd'
  · obtain ⟨c, ks, rfl, rfl⟩ := key_ref hk hs
    cases ry
    obtain ⟨z, hd, xs, rel, dd⟩ := db_of I.hok e hz
    have hvz : xs.length ≤ sizeLine := by rw [← rel.length]; exact z
    have hl' : (putZ zs ks c v).length ≤ sizeLine := by have := length_putZ zs ks c v; omega
    refine wpAny_setItem_heap (knd := tkKind X.prog X.w) (hsz := hvz) hu (tk_is I.hok hk) dd fun h' dd' hs' => h _ _ off_upd' (dx_putB (c := c) e hz hk hf hl) ?_
    exact db_new I e hs' hl' hd (rel.put ks rv) dd'
theorem x_type (I : Inv X pins σ H s) (d : Dx H a srt f n) : s.TypeIs (.ref a) "dict" ∧ ∀ b, Value.ref a = .ref b → ∃ ob, s.heap.get? b = some ob ∧ ob.dict = none := by
  rcases d with ⟨_, kvs, e, _, _⟩ | ⟨_, zs, e, hz, _, _⟩
  · obtain ⟨_, _, vs, _, dd⟩ := da_of I.hok e
    refine ⟨dd.typeIs, fun b q => ?_⟩
    cases q
    obtain ⟨ob, _, _, h1, h2, _⟩ := dd
    exact ⟨ob, h1, h2.2.1⟩
  · obtain ⟨_, _, xs, _, dd⟩ := db_of I.hok e hz
    refine ⟨dd.typeIs, fun b q => ?_⟩
    cases q
    obtain ⟨ob, _, _, h1, h2, _⟩ := dd
    exact ⟨ob, h1, h2.2.1⟩
end
/-! ### the rules -/
section
variable {X : Cx}
theorem set_X (hu : X.A.units + 64 < cLine) : PSet X rXSet := by
  intro pins s σ H o i v ov iv u Q I ro ri rv h
  obtain ⟨a, srt, f, n, k, rfl, d, hk, hs, hn, q⟩ := h
  cases ro
  exact x_set (by omega) I d hk hs hn ri rv fun H' s' o' d' I' => ⟨H', I', q H' o' d'⟩
theorem pm_dnewX {pos : Pos} : PE X (.Dict [] [] pos) mDnewX := fun pins s σ H Q I h => by
  obtain ⟨srt, h⟩ := h
  have hd : (s.heap.objs.size == sysModules) = false := beq_eq_false_iff_ne.mpr (Ne.symm (Nat.ne_of_lt I.big))
  have hp := I.hok.fresh (Nat.le_refl s.heap.objs.size)
  cases srt with
  | false =>
    refine wpAny_Dict_empty ⟨.ref s.heap.objs.size, _, I.laid (a := s.heap.objs.size) (o := dA s.heap.objs.size []) (t' := s.toks) (fun _ _ q => Heap.get?_push_of_some _ q) (Nat.le_refl _) (DA.ok ⟨Nat.zero_le _, hd, X.prog, X.w, [], .nil, Heap.DictOf.new s.heap⟩), rfl, ?_⟩
    exact h _ _ hp (same_new hp _) (.inl ⟨rfl, [], upd_same, fun _ => rfl, Nat.le_refl _⟩)
  | true =>
    refine wpAny_Dict_empty ⟨.ref s.heap.objs.size, _, I.laid (a := s.heap.objs.size) (o := dB s.heap.objs.size []) (t' := s.toks) (fun _ _ q => Heap.get?_push_of_some _ q) (Nat.le_refl _) (DB.ok ⟨Nat.zero_le _, hd, [], .nil, _, #[], 0, Heap.get?_push_size _ rfl, ⟨rfl, rfl, rfl⟩, rfl, rfl, List.nodup_nil⟩), rfl, ?_⟩
    exact h _ _ hp (same_new hp _) (.inr ⟨rfl, [], upd_same, fun z hz => (nomatch hz), fun _ => rfl, Nat.le_refl _⟩)
noncomputable def MtX (X : Cx) (id : String) (r : V → List V → Hp → VK → Prop) : Prop :=
  ∀ (pins : List (Addr × Obj)) (s : Shared) (σ : St) (H : Hp) (x : V) (ys : List V) (u : Value) (us : List Value) (Q : VK), Inv X pins σ H s → RelV x u → Vals ys us → r x ys H Q →
    wpAny (model X.prog X.w) X.A (call (.builtin id) (u :: us)) (EP X pins σ Q) X.xe s
theorem pe_xm {o e : Expr} {es : List Expr} {name : Str} {id : String} {r : V → List V → Hp → VK → Prop} {to : TE} {t : TA} {apos cpos : Pos} (slot : Slot "dict" name id) (hty : typeOf (.builtin id) = pure (.type "method_descriptor")) (hm : MtX X id r) (ho : PE X o to) (ha : PA X (e :: es) t)
    (hbase : attributeBase o name X.env (eval o X.env) = eval o X.env := by rfl)
    (hfew : ((backTo cpos (starEach (e :: es) X.env)).all (fun x => !x.1) && (backToKw cpos (keywordEach [] X.env)).all (fun x => x.1.isSome)
      && decide ((e :: es).length + ([] : List Keyword).length + (if ([] : List Keyword).isEmpty then 0 else 1) < 30)) = true := by rfl)
    (hline : (apos.endLine == cpos.line) = true := by rfl) (hs : starEach (e :: es) X.env = (false, eval e X.env) :: starEach es X.env := by rfl) (hplain : (backTo cpos (starEach es X.env)).any (·.1) = false := by rfl) :
    PE X (.Call (.Attribute o name apos) (e :: es) [] cpos) (tXM r to t) := by
  intro pins s σ H Q I h
  refine wpAny_Call_method_late hbase hfew hline rfl (thn (ho pins s σ H _ I h) fun v s1 ⟨x, H1, I1, r1, ⟨a, srt, f, n, ex, d⟩, q1⟩ => ?_)
  subst ex
  obtain rfl : v = Value.ref a := r1
  obtain ⟨h1, h2⟩ := x_type I1 d
  refine ⟨"dict", id, PySem.F.plainAttrs_dict, slot, hty, h1, h2, ?_⟩
  have hA := ha cpos pins s1 σ H1 _ I1 q1
  rw [hs] at hA ⊢
  refine Calls.callWith_builtin (by show (false || (backTo cpos (starEach es X.env)).any (·.1)) = false; rw [hplain] <;> rfl) (Calls.evalArgs_plain ?_)
  exact thn hA fun us s2 ⟨vs, H2, I2, r2, q2⟩ => hm pins s2 σ H2 (.ref a) vs (.ref a) us Q I2 rfl r2 q2
end
end L2

end

section
-- KcVa
set_option Elab.async false
set_option linter.all false
set_option maxRecDepth 100000
set_option maxHeartbeats 4000000
namespace HT
open PySem PySem.Spec PyProof.Rows
section
variable {prog : Program} {w : World} {A : Around} {E : Value → Shared → Prop} {s : Shared}
theorem adjust_rev (n : Nat) : Builtin.Slice.sliceAdjust none none (-1) (n : Int) = ((n : Int) - 1, -1) := rfl
theorem places_rev (n : Nat) : Builtin.Slice.slicePlaces ((n : Int) - 1) (-1) (-1) = n := by
  unfold Builtin.Slice.slicePlaces
  rw [if_neg (by decide)]
  by_cases h : (n : Int) - 1 > -1
  · rw [if_pos h, show (- -1 : Int) = 1 by decide, Int.ediv_one]
    omega
  · rw [if_neg h]
    omega
theorem fm_congr {α β : Type} {f g : α → Option β} : ∀ {l : List α}, (∀ x ∈ l, f x = g x) → l.filterMap f = l.filterMap g
  | [], _ => rfl
  | a :: l, h => by rw [List.filterMap_cons, List.filterMap_cons, h a List.mem_cons_self, fm_congr fun x hx => h x (List.mem_cons_of_mem _ hx)]
theorem pick_rev (xs : Array Value) : ((List.range xs.size).filterMap fun (m : Nat) => xs[(((xs.size : Int) - 1) + (m : Int) * (-1)).toNat]?).toArray = xs.toList.reverse.toArray := by
  have e : ((List.range xs.size).filterMap fun (m : Nat) => xs[(((xs.size : Int) - 1) + (m : Int) * (-1)).toNat]?) = ((List.range xs.size).map fun k => xs.size - 1 - k).filterMap (xs[·]?) := by
    rw [List.filterMap_map]
    refine fm_congr fun m hm => ?_
    have := List.mem_range.mp hm
    show xs[(((xs.size : Int) - 1) + (m : Int) * (-1)).toNat]? = xs[xs.size - 1 - m]?
    rw [show (((xs.size : Int) - 1) + (m : Int) * (-1)).toNat = xs.size - 1 - m by omega]
  rw [e, PySem.W.krv_range, List.filterMap_reverse, PySem.W.krv_all]
theorem getItem_tuple_rev {t sl : Addr} {items : Array Value} {vs : Value} {Q : Value → Shared → Prop} (ht : IsTup s.heap t items) (hs : s.heap.IsSliceOf sl .none .none vs) (ps : IsPart vs (some (-1)))
    (h : Q (.ref s.heap.objs.size) { s with heap := s.heap.push { cls := .type "tuple", data := .seq items.toList.reverse.toArray } })
    (hsz : items.size ≤ sizeLine) : wpAny (model prog w) A (getItem (.ref t) (.ref sl)) Q E s := by
  have htake : sizeOk (.seq items.toList.reverse.toArray) := by
    show items.toList.reverse.toArray.size ≤ sizeLine
    rw [List.size_toArray, List.length_reverse, Array.length_toList]
    exact hsz
  obtain ⟨os, hos, hcs, hds⟩ := id hs
  have hTs : s.TypeIs (.ref sl) "slice" := ⟨os, hos, hcs⟩
  unfold getItem
  try with_reducible refine wpAny_holding ?_
  first | refine wpAny_bind (wpAny_pure ?_) | skip
  refine wpAny_bind (wpAny_sequenceKey ht.typeIs (by decide) ?_)
  refine wpAny_bind (wpAny_callSpecial?_slot (name := Str.ofString "__getitem__") ht.typeIs PyProof.Rows.slot_tuple_getitem
    (wpAny_call_entry PyProof.Rows.slot_tuple_getitem ht.typeIs entry_tuple_getitem ?_ (args_tuple_getitem _ _)))
  show wpAny _ _ (Builtin.Tuple.tupleItemsOf (.ref t) >>= _) _ _ s
  refine wpAny_bind (tupleItemsOf_ ht ?_)
  refine wpAny_bind (wpAny_typeOf hTs ?_)
  rw [if_pos (by decide)]
  have happ : ∀ (Q' : Int × Int × Nat → Shared → Prop) (E' : Value → Shared → Prop), Q' ((items.size : Int) - 1, -1, items.size) s → wpAny (model prog w) A.in1 (Builtin.Slice.sliceApplied (.ref sl) (pure (items.size : Int))) Q' E' s := fun Q' E' hq => by
    unfold Builtin.Slice.sliceApplied Builtin.Slice.sliceFields
    refine wpAny_bind (wpAny_bind (wpAny_field hos hds (x := .none) rfl (wpAny_bind (wpAny_field hos hds (x := .none) rfl (wpAny_bind (wpAny_field hos hds (x := vs) rfl (wpAny_pure ?_)))))))
    refine wpAny_bind (slicePart_ ps ?_)
    show wpAny _ _ (if ((-1 : Int) == 0) = true then _ else _) _ _ s
    rw [if_neg (by decide)]
    refine wpAny_bind (slicePart_none (wpAny_bind (slicePart_none (wpAny_bind (wpAny_pure ?_)))))
    show wpAny _ _ (match Builtin.Slice.sliceAdjust none none (-1) (items.size : Int) with | (lo, hi) => pure (lo, (-1 : Int), Builtin.Slice.slicePlaces lo hi (-1))) _ _ s
    rw [adjust_rev]
    show wpAny _ _ (pure ((items.size : Int) - 1, (-1 : Int), Builtin.Slice.slicePlaces ((items.size : Int) - 1) (-1) (-1))) _ _ s
    rw [places_rev]
    exact wpAny_pure hq
  refine wpAny_bind (happ _ _ ?_)
  show wpAny _ _ (if (((items.size : Int) - 1) == 0 && (-1 : Int) == 1 && items.size == items.size) = true then _ else _) _ _ s
  rw [if_neg (by rw [show ((-1 : Int) == 1) = false from rfl, Bool.and_false, Bool.false_and]; exact Bool.false_ne_true), pick_rev]
  first
    | exact wpAny_bind (m := Builtin.Tuple.tupleExact _) (wpAny_newObj_type (wpAny_pure ⟨_, rfl, wpAny_pure h⟩) htake)
    | exact wpAny_bind (m := Builtin.Tuple.tupleExact _) (wpAny_newObj_type (wpAny_bind (wpAny_pure (wpAny_pure ⟨_, rfl, wpAny_pure h⟩))) htake)
    | exact wpAny_bind (wpAny_bind (m := Builtin.Tuple.tupleExact _) (wpAny_newObj_type (wpAny_pure (wpAny_pure ⟨_, rfl, wpAny_pure h⟩)) htake))
    | exact wpAny_bind (wpAny_bind (m := Builtin.Tuple.tupleExact _) (wpAny_newObj_type (wpAny_pure ⟨_, rfl, wpAny_pure h⟩) htake))
end
end HT
namespace L2
open PySem PySem.Spec PySem.Calls PyProof.Rows
section
variable {X : Cx}
theorem call_sortE (hu : X.A.units + 64 < cLine) : CallR X (.builtin "sorted") (cSortE X.K) := by
  intro pins s σ H xs us Q I r h
  obtain ⟨p, rs, ws, rfl, hq, tp, hl, q⟩ := h
  obtain ⟨u, rfl, rx⟩ := r.one
  cases rx
  obtain ⟨its, rv, pl, hz⟩ := I.list hq
  obtain rfl := vals_refs rv
  have hws := tups_keys tp
  have hlen : rs.length = ws.length := by rw [hws, List.length_map]
  have hm := tups_mem tp
  refine TS.sorted_E (kf := keyAt H) hu pl.isList (by rw [List.length_map]; omega) (fun v hv => ?_) fun out pm pw => ?_
  · obtain ⟨a, ha, rfl⟩ := List.mem_map.mp hv
    obtain ⟨_, it, r2, o, e1, e2, ⟨n, e3⟩, _⟩ := I.hok _ _ (hm a ha)
    exact ⟨a, o, it.toArray, n, rfl, e1, e2, e3, by simpa using intsAre_of r2⟩
  · obtain ⟨rs', rfl, pr⟩ : ∃ rs' : List Addr, out = rs'.map Value.ref ∧ rs'.Perm rs := by
      have e : ∀ l : List Value, (∀ v ∈ l, ∃ a, v = Value.ref a) → ∃ l' : List Addr, l = l'.map Value.ref := by
        intro l
        induction l with
        | nil => exact fun _ => ⟨[], rfl⟩
        | cons v l ih =>
          intro hv
          obtain ⟨a, rfl⟩ := hv v List.mem_cons_self
          obtain ⟨l', rfl⟩ := ih fun u hu => hv u (List.mem_cons_of_mem _ hu)
          exact ⟨a :: l', rfl⟩
      obtain ⟨rs', rfl⟩ := e out fun v hv => by
        obtain ⟨a, _, rfl⟩ := List.mem_map.mp (pm.mem_iff.mp hv)
        exact ⟨a, rfl⟩
      refine ⟨rs', rfl, ?_⟩
      have := pm.map fun v => match v with | .ref a => a | _ => 0
      rwa [List.map_map, List.map_map, show ((fun v : Value => match v with | .ref a => a | _ => 0) ∘ Value.ref) = id from rfl, List.map_id, List.map_id] at this
    obtain ⟨e, he⟩ := sortedAll_at s.heap (rs.map Value.ref) (rs'.map Value.ref).toArray
    have hf : H (s.heap.objs.size + 1) = none := I.hok.fresh (Nat.le_succ _)
    have sm := same_new hf (.lst (rs'.map V.ref))
    refine ⟨.ref (s.heap.objs.size + 1), _, I.laid (t' := s.toks) (o := .lst (rs'.map V.ref)) (fun b ob q => sortedAll_old q) (Nat.le_succ _) ?_, rfl, q _ _ rs' (rs'.map fun a => keyAt H (.ref a)) hf sm upd_same ?_ ?_ ?_⟩
    · exact ⟨by rw [List.length_map, pr.length_eq, sizeLine_eq]; omega, rs'.map Value.ref, e, refs_vals rs', he⟩
    · exact (tups_of fun a ha => hm a (pr.mem_iff.mp ha)).same sm
    · rw [hws]
      exact pr.map _
    · have pw' := List.pairwise_map.mp pw
      exact List.pairwise_map.mpr (pw'.imp fun {_ _} z => z)
theorem mt_xget2 (hu : X.A.units + 64 < cLine) : MtX X "dict.get" rXGet2 := by
  intro pins s σ H x ys u us Q I rx rys h
  obtain ⟨a, f, n, k, y, v, rfl, rfl, d, hk, hs, q⟩ := h
  cases rx
  cases rys with
  | cons r1 t1 =>
    cases t1 with
    | cons r2 t2 =>
      cases t2
      rcases d with ⟨z, _⟩ | ⟨_, zs, e, hz, hf, _⟩
      · cases z
      · obtain ⟨c, ks, rfl, rfl⟩ := key_ref hk hs
        cases r1
        obtain ⟨z, hd, xs, rel, dd⟩ := db_of I.hok e hz
        refine call_meetsIn PySem.F.slot_dict_get dd.typeIs PySem.F.entry_dict_get (PySem.F.args_dict_get_3 _ _ _) (meetsH_dict_get_default (tkKind X.prog X.w) a c hd _) ⟨show X.A.units + 2 < cLine by omega, ks, xs, tk_is I.hok hk, dd, ⟨_, H, I.tok _, ?_, q⟩⟩
        rw [← hf ks]
        exact (rel.val ks).getD r2
theorem vals_at {zs : List (List IK × Addr × V)} {xs : List (List IK × Addr × Value)} (r : ZX zs xs) {i : Nat} {x : List IK × Addr × Value} (h : xs[i]? = some x) : ∃ z, zs[i]? = some z ∧ RelV z.2.2 x.2.2 := by
  unfold ZX at r
  induction r generalizing i with
  | nil => cases h
  | cons q _ ih =>
    cases i with
    | zero => cases h; exact ⟨_, rfl, q.2.2⟩
    | succ i => exact ih h
theorem zx_keys {zs : List (List IK × Addr × V)} {xs : List (List IK × Addr × Value)} (r : ZX zs xs) : zs.map (·.1) = xs.map (·.1) := by
  unfold ZX at r
  induction r with
  | nil => rfl
  | cons q _ ih => rw [List.map_cons, List.map_cons, q.1, ih]
theorem turn_vals {P : Program} {w : World} {K : PySem.W.Frag} {tg : Expr} (it a : Addr) (o : Obj) (zs : List (List IK × Addr × V)) (xs : List (List IK × Addr × Value)) (es : Array DictEntry) (ep : Nat) (rel : ZX zs xs) (h2 : o.data = .dict es ep) (h3 : es.toList = xs.map (fun x => ⟨hashT x.1, .ref x.2.1, x.2.2⟩)) :
    Turn P w K tg (Itx a (.frz o (dB a zs)) (zs.map (·.2.2))) [it] it (fun i h => h.IsValIter it a i es.size ep) where
  mem := by simp
  obj := fun i h st b hb => by
    have e : b = it := by simpa using hb
    subst e
    obtain ⟨ob, e, c, d⟩ := st
    exact ⟨ob, e, fun v z => by rw [d] at z; cases z⟩
  keep := fun i h h' st k => st.at fun ob e => k it (by simp) ob e
  item := by
    intro X hP hw hK hc i pins s σ H E I hf st hg
    subst hP hw hK
    obtain ⟨f0, f1, f2, f3, f4, f5⟩ := hf it (by simp)
    obtain ⟨hi, hfr⟩ := hg
    have ho : s.heap.get? a = some o := (I.hok a _ hfr).1
    have hlen : zs.length = xs.length := ZX.length rel
    rw [List.length_map] at hi
    obtain ⟨x, hx⟩ : ∃ x, xs[i]? = some x := ⟨xs[i]'(by omega), List.getElem?_eq_getElem _⟩
    obtain ⟨z, hz, rz⟩ := vals_at rel hx
    have he : es[i]? = some ⟨hashT x.1, .ref x.2.1, x.2.2⟩ := by
      rw [← Array.getElem?_toList, h3, List.getElem?_map, hx]
      rfl
    refine nextV_item st ho h2 he fun h' st' sb => ?_
    have I1 : Inv X pins σ H { s with heap := h' } := I.turned (t' := s.toks) (fun b ob hb e => (sb.2 b hb).trans e) f0 f1 f3 f4 f5
    obtain ⟨ob, hob, hcl, hdt⟩ := id st'
    exact ⟨_, rfl, go_of (s := { s with heap := h' }) (n := "dict_valueiterator") hob hcl hdt (by decide) ⟨z.2.2, H, I1, rz, ⟨rfl, by rw [List.getElem?_map, hz]; rfl⟩, st', fun b hb => (hf b hb).1⟩⟩
  done := by
    intro X hP hw hK hc i pins s σ H E I hf st hg
    subst hP hw hK
    obtain ⟨f0, f1, f2, f3, f4, f5⟩ := hf it (by simp)
    obtain ⟨hi, hfr⟩ := hg
    have ho : s.heap.get? a = some o := (I.hok a _ hfr).1
    have hlen : zs.length = xs.length := ZX.length rel
    rw [List.length_map] at hi
    have hsz : es.size = xs.length := by rw [← Array.length_toList, h3, List.length_map]
    exact nextV_end (I.ok.hd hc) st ho h2 (Array.getElem?_eq_none (by omega)) fun h' eb => ⟨rfl, I.turned (t' := s.toks) (fun b ob hb e => eb b ob hb e) f0 f1 f3 f4 f5⟩
  self := fun _ _ _ _ _ st h => wpAny_pyIter_valiter st h
theorem atZ_vals : ∀ {zs : List (List IK × Addr × V)}, (zs.map (·.1)).Nodup → (zs.map (·.2.2)).map some = (zs.map (·.1)).map (atZ zs)
  | [], _ => rfl
  | z :: zs, nd => by
    obtain ⟨h1, h2⟩ := List.nodup_cons.mp nd
    have ih := atZ_vals h2
    rw [List.map_cons, List.map_cons, List.map_cons, List.map_cons, ih]
    congr 1
    · unfold atZ
      rw [List.find?_cons, decide_eq_true rfl]
      rfl
    · refine List.map_congr_left fun k hk => ?_
      unfold atZ
      rw [List.find?_cons, decide_eq_false (fun e => h1 (show z.1 ∈ _ by rw [e]; exact hk))]
theorem atZ_some {zs : List (List IK × Addr × V)} {k : List IK} : k ∈ zs.map (·.1) ↔ (atZ zs k).isSome = true := by
  unfold atZ
  rw [Option.isSome_map, List.find?_isSome, List.mem_map]
  constructor
  · rintro ⟨z, h1, h2⟩
    exact ⟨z, h1, decide_eq_true h2⟩
  · rintro ⟨z, h1, h2⟩
    exact ⟨z, h1, of_decide_eq_true h2⟩
theorem pi_valsX {o tg : Expr} {apos cpos : Pos} {to : TE} (ho : PE X o to) (hbase : attributeBase o "values" X.env (eval o X.env) = eval o X.env := by rfl) (hline : (apos.endLine == cpos.line) = true := by rfl) : PI X tg (.Call (.Attribute o "values" apos) [] [] cpos) (iValsX to) := by
  intro pins s σ H R I h
  refine wpAny_Call_method0_late hbase hline (thn (ho pins s σ H _ I h) fun v s1 ⟨x, H1, I1, r1, a, f, n, ex, D, hn, q⟩ => ?_)
  subst ex
  obtain rfl : v = Value.ref a := r1
  obtain ⟨t1, t2⟩ := x_type I1 D
  rcases D with ⟨z, _⟩ | ⟨_, zs, ez, hkeys, hf, hzl⟩
  · cases z
  obtain ⟨⟨z, y, xs, rel, ob, es, ep, g1, g2, g3, g4, g5⟩, g6⟩ := (show ObjOk X.prog X.w H1 s1.heap a (dB a zs) from I1.hok a _ ez)
  refine ⟨"dict", "dict.values", PySem.F.plainAttrs_dict, PySem.F.slot_dict_values, PySem.F.type_dict_values, t1, t2, Calls.callWith_builtin rfl (PySem.evalArgs_none (callV y g1 g2 g3 ?_))⟩
  have g1' : (s1.heap.push { cls := .type "dict_values", data := .fields #[.ref a] }).get? a = some ob := Heap.get?_push_of_some _ g1
  refine iterV (s := { s1 with heap := s1.heap.push { cls := .type "dict_values", data := .fields #[.ref a] } }) ⟨_, Heap.get?_push_size _ rfl, rfl, rfl⟩ g1' g3 ?_
  have I2 : Inv X pins σ (upd H1 a (.frz ob (dB a zs))) s1 := Inv.write (x := a) (e := a) (o := .frz ob (dB a zs)) (h' := s1.heap) (t' := s1.toks) I1 (by rw [ez]; exact True.intro) (.inl rfl) (fun b u _ h => h) ⟨ob, g1⟩ ⟨g1, DB.ok ⟨z, y, xs, rel, ob, es, ep, g1, g2, g3, g4, g5⟩⟩
  have I3 : Inv X pins σ (upd H1 a (.frz ob (dB a zs))) { s1 with heap := s1.heap.push { cls := .type "dict_values", data := .fields #[.ref a] } } := I2.kept (t' := s1.toks) fun b o e => Heap.get?_push_of_some _ e
  have nd : (zs.map (·.1)).Nodup := by rw [zx_keys rel]; exact g5
  refine ⟨_, [_], _, _, _, rfl, I3.kept (t' := s1.toks) fun b ob e => Heap.get?_push_of_some _ e, turn_vals _ a ob zs xs es ep rel g3 g4, ⟨_, Heap.get?_push_size _ rfl, rfl, rfl⟩, fun b hb => ?_, q (zs.map (·.1)) (zs.map (·.2.2)) (.frz ob (dB a zs)) (fun k => by rw [← hf k]; exact atZ_some) ?_ ?_⟩
  · have e := List.mem_singleton.mp hb
    subst e
    exact I3.fpOk (Nat.le_refl _) (I3.hok.fresh (Nat.le_refl _))
  · rw [atZ_vals nd]
    exact List.map_congr_left fun k _ => hf k
  · rw [List.length_map]
    exact hzl
theorem pe_revT {e st : Expr} {te : TE} {ts : TO} {p2 pos : Pos} (he : PE X e te) (hs : PO X (some st) ts) : PE X (.Subscript e (.Slice none none (some st) p2) pos) (mRevT te ts) := by
  intro pins s σ H Q I h
  refine Subscript_ (thn (he pins s σ H _ I h) fun v s1 ⟨x, H1, I1, r1, q1⟩ => ?_)
  refine wpAny_Slice ?_
  rw [evalPart_none]
  refine wpAny_pure ?_
  refine wpAny_pure ?_
  refine thn (hs pins s1 σ H1 _ I1 q1) fun vk s3 ⟨k, H3, I3, pk, q3⟩ => ?_
  obtain ⟨a, xs, rfl, rfl, hx, hl, q⟩ := q3
  cases r1
  have I4 : Inv X pins σ H3 { s3 with heap := s3.heap.push { cls := .type "slice", data := .fields #[.none, .none, vk] } } := I3.kept (t' := s3.toks) fun b ob q => Heap.get?_push_of_some _ q
  obtain ⟨its, r, ht, hz⟩ := I4.tuple (SqT.of hx)
  have hlen := r.length
  show wpAny (model X.prog X.w) X.A (subscriptTail e (.Slice none none (some st) p2) (.ref a) (.ref s3.heap.objs.size)) (EP X pins σ Q) X.xe { s3 with heap := s3.heap.push { cls := .type "slice", data := .fields #[.none, .none, vk] } }
  refine tail_any (ops := [.ref a, .ref s3.heap.objs.size]) ht.typeIs PyProof.Rows.slot_tuple_getitem.lookup ?_ (by with_unfolding_all rfl)
  refine HT.getItem_tuple_rev ht (Heap.IsSliceOf.new ..) pk ?_ (by rw [List.size_toArray] <;> omega)
  have hf : H3 (s3.heap.push { cls := .type "slice", data := .fields #[.none, .none, vk] }).objs.size = none := I4.hok.fresh (Nat.le_refl _)
  refine ⟨.ref _, _, I4.laid (t' := s3.toks) (o := .tup xs.reverse) (fun b ob q => Heap.get?_push_of_some _ q) (Nat.le_refl _) ?_, rfl, q _ _ (same_new hf _) upd_same⟩
  exact ⟨by rw [List.length_reverse]; exact hz, _, r.reverse, IsTupD.new _ _⟩
noncomputable def rowD (w : List Int) : PyData := .tuple (w.map PyData.int)
theorem dats_ints (K : PySem.W.Frag) (H : Hp) : ∀ w : List Int, Dats K H (w.map V.int) (w.map PyData.int)
  | [] => .nil
  | i :: w => .cons (.int i) (dats_ints K H w)
theorem dats_rows {K : PySem.W.Frag} {H : Hp} : ∀ {rs : List Addr} {ws : List (List Int)}, TupsAt H rs ws → Dats K H (rs.map V.ref) (ws.map rowD)
  | _, _, .nil => .nil
  | _, _, .cons h t => .cons (.tup (SqT.of h) (dats_ints K H _)) (dats_rows t)
theorem eqv_ints5 : ∀ v w : List Int, PyData.eqvAll (v.map PyData.int) (w.map PyData.int) = decide (v = w)
  | [], [] => rfl
  | [], _ :: _ => rfl
  | _ :: _, [] => rfl
  | a :: v, b :: w => by
    rw [List.map_cons, List.map_cons, PyData.eqvAll, eqv_ints5 v w]
    have : PyData.eqv (.int a) (.int b) = decide (a = b) := by
      rw [PyData.eqv]
      rfl
    rw [this, Bool.eq_iff_iff, Bool.and_eq_true, decide_eq_true_iff, decide_eq_true_iff, decide_eq_true_iff, List.cons.injEq]
theorem eqv_rows : ∀ v w : List (List Int), PyData.eqvAll (v.map rowD) (w.map rowD) = decide (v = w)
  | [], [] => rfl
  | [], _ :: _ => rfl
  | _ :: _, [] => rfl
  | a :: v, b :: w => by
    rw [List.map_cons, List.map_cons, PyData.eqvAll, eqv_rows v w]
    have : PyData.eqv (rowD a) (rowD b) = decide (a = b) := by
      unfold rowD
      rw [PyData.eqv]
      exact eqv_ints5 a b
    rw [this, Bool.eq_iff_iff, Bool.and_eq_true, decide_eq_true_iff, decide_eq_true_iff, decide_eq_true_iff, List.cons.injEq]
theorem lay_ints5 : ∀ w : List Int, PyData.canLayAll0 (w.map PyData.int) = true
  | [] => rfl
  | k :: g => by show (true && PyData.canLayAll0 _) = true; rw [lay_ints5 g]; rfl
theorem lay_rows5 : ∀ w : List (List Int), PyData.canLayAll0 (w.map rowD) = true
  | [] => rfl
  | k :: g => by show (PyData.canLayAll0 (k.map PyData.int) && PyData.canLayAll0 _) = true; rw [lay_ints5 k, lay_rows5 g]; rfl
theorem deep_ints5 : ∀ g : List Int, PyData.depthAll (g.map PyData.int) = 0
  | [] => rfl
  | k :: g => by show max 0 (PyData.depthAll _) = 0; rw [deep_ints5 g]; rfl
theorem deep_rows5 : ∀ g : List (List Int), PyData.depthAll (g.map rowD) ≤ 1
  | [] => Nat.zero_le _
  | k :: g => by
    show max (PyData.depthAll (k.map PyData.int) + 1) (PyData.depthAll _) ≤ 1
    rw [deep_ints5 k]
    have := deep_rows5 g
    omega
theorem shaped_rows (g : List (List Int)) : SeqAt.shaped (.list (g.map rowD)) = true := by
  unfold SeqAt.shaped
  rw [show PyData.canLay0 (.list (g.map rowD)) = PyData.canLayAll0 (g.map rowD) from rfl, lay_rows5 g, decide_eq_true ?_]
  · rfl
  · show PyData.depthAll (g.map rowD) + 1 ≤ 64
    have := deep_rows5 g
    omega
theorem op_eqR (hu : X.A.units + 64 < cLine) : OpR X (compareOp .Eq) rEqR := by
  intro pins s σ H x y v u Q I rx ry h
  obtain ⟨a, b, ws, vs, rfl, rfl, ⟨rs, e1, t1⟩, ⟨rs2, e2, t2⟩, q⟩ := h
  refine op_eqD hu pins s σ H _ _ _ _ Q I rx ry ⟨.list (ws.map rowD), .list (vs.map rowD), .lst (SqL.of e1) (dats_rows t1), .lst (SqL.of e2) (dats_rows t2), shaped_rows ws, shaped_rows vs, ?_⟩
  rw [if_neg Bool.false_ne_true, show PyData.eqv (.list (ws.map rowD)) (.list (vs.map rowD)) = PyData.eqvAll (ws.map rowD) (vs.map rowD) by rw [PyData.eqv], eqv_rows]
  exact q
end
end L2

end

section
-- KcSumT
set_option Elab.async false
set_option linter.all false
set_option maxRecDepth 100000
set_option maxHeartbeats 4000000
namespace L2
open PySem PySem.Spec PyProof.Rows
section
variable {X : Cx}
theorem call_sumT (hc : X.calm = true) : CallR X (.builtin "sum") (fun xs H Q => ∃ (p : Addr) (ns : List Int), xs = [.ref p] ∧ SqT X.K H p (ns.map V.int) ∧ Q (.int ns.sum) H) := by
  intro pins s σ H xs us Q I r h
  obtain ⟨p, ns, rfl, hq, q⟩ := h
  obtain ⟨u, rfl, rx⟩ := r.one
  cases rx
  obtain ⟨its, rv, pl, hz⟩ := I.tuple hq
  have hlen : ns.length = its.length := by have := rv.length; simpa using this
  have ia := intsAre_of rv
  refine call_sum_walkG (wpAny_pyIter_tuple pl ⟨s.heap.objs.size, _, _, _, _, _, fun i => ns.getD i 0, rfl, Walks.tuple (show X.A.in1.handled = none from I.ok.hd hc) _ p (by obtain ⟨o, ho, _⟩ := pl; exact Nat.ne_of_lt (Heap.lt_size ho)) its.toArray,
    ⟨⟨_, Heap.get?_push_size _ rfl, rfl, rfl⟩, (let ⟨o, ho, hcc, hdd⟩ := pl; ⟨o, Heap.get?_push_of_some _ ho, hcc, hdd⟩)⟩, fun b hb => ?_, ?_, fun h' tk t' hk => ?_⟩)
  · have hp : p < s.heap.objs.size := by
      obtain ⟨o, ho, _⟩ := pl
      exact Heap.lt_size ho
    show b < (s.heap.push _).objs.size
    rw [Heap.size_push]
    rcases List.mem_cons.mp hb with rfl | hb
    · exact Nat.lt_succ_self _
    · obtain rfl := List.mem_singleton.mp hb
      exact Nat.lt_succ_of_lt hp
  · intro i v hP
    have hP' : its[i]? = some v := by simpa using hP
    have hlt : i < ns.length := by
      have := (List.getElem?_eq_some_iff.mp hP').1
      omega
    obtain ⟨u', hu', ru'⟩ := rv.get (x := .int ns[i]) (i := i) (by rw [List.getElem?_map, List.getElem?_eq_getElem hlt] <;> rfl)
    rw [hP'] at hu'
    cases hu'
    obtain ⟨t, e⟩ := (show ∃ t, v = Value.int ns[i] t from ru')
    refine ⟨t, ?_⟩
    show v = Value.int (ns.getD i 0) t
    rw [e, List.getD_eq_getElem?_getD, List.getElem?_eq_getElem hlt]
    rfl
  · refine ⟨.int ns.sum, H, I.walked hk, ⟨t', ?_⟩, q⟩
    rw [show its.toArray.size = ns.length by simp; omega, preSum_list ns _ (Nat.le_refl _), List.take_length]

end
end L2

end

section
-- KcListN
set_option Elab.async false
set_option linter.all false
set_option maxRecDepth 100000
set_option maxHeartbeats 4000000
namespace L2
open PySem PySem.Spec PyProof.Rows
section
variable {X : Cx}
end
end L2

end

section
-- KcNest
set_option Elab.async false
set_option linter.all false
namespace L2
open PySem PySem.Spec PyProof.Rows
/-! ### a comprehension within a comprehension: what is free in the inner one -/
end L2

end

section
-- KcCellC
set_option Elab.async false
set_option linter.all false
set_option maxRecDepth 100000
set_option maxHeartbeats 4000000
namespace L2
open PySem PySem.Spec PyProof.Rows
/-! ### a comprehension whose own name is a cell (another one within it reads it) -/
structure CompScopeO (sc scope : Scope) (NX N : List Str) (ix : List (Option Nat)) (x : Str) : Prop where
  kind : scope.kind = .function
  own : ∀ y ∈ scope.names, y.2 = .cell → y.1 = x
  ownx : scope.names.lookup x = some .cell
  cells : ∀ n acc, cellsFrom n scope.names acc = (x, n) :: acc
  push : ∀ h : Heap, pushCells h scope.names = h.push { cls := .type "cell", data := .cell none }
  names : ∀ y ∈ scope.names, y.2 = .local → scope.names.lookup y.1 = some .local
  free : ∀ y ∈ scope.names, y.2 = .free → y.1 ≠ x ∧ (sc.names.lookup y.1 = some .cell ∨ sc.names.lookup y.1 = some .free)
  nd : N.Nodup
  len : ix.length = N.length
  at_ : ∀ p ∈ N.zip ix, ∀ i ∈ p.2, NX[i]? = some p.1 ∧ scope.names.lookup p.1 = some .free
section
variable {X : Cx} {elt tg iter : Expr} {ifs : List Expr} {scope sc : Scope} {pos : Pos} {NX N : List Str} {ix : List (Option Nat)} {own : Str} {wi : TI} {g : CF TG} {tt : CF TT} {te : CF TE}
end

end L2

end

section
-- KcDkN
set_option Elab.async false
set_option linter.all false
set_option maxRecDepth 100000
set_option maxHeartbeats 4000000
namespace L2
open PySem PySem.Spec PyProof.Rows
section
variable {X : Cx}
end
end L2

end

section
-- KcLenN
set_option Elab.async false
set_option linter.all false
set_option maxRecDepth 100000
set_option maxHeartbeats 4000000
namespace L2
open PySem PySem.Spec PyProof.Rows
section
variable {X : Cx}
theorem mt_insert : MtM X "list.insert" rInsert := by
  intro pins s σ H x vs v us Q I rx rv h
  obtain ⟨l, xs, k, y, rfl, rfl, hH, hz, hk, q⟩ := h
  cases rx
  obtain ⟨u, w, rfl, ru, rw'⟩ : ∃ u w, us = [u, w] ∧ RelV (.int (k : Int)) u ∧ RelV y w := by
    cases rv with
    | cons ru rv => cases rv with
      | cons rw' rv => cases rv with
        | nil => exact ⟨_, _, rfl, ru, rw'⟩
  obtain ⟨t, rfl⟩ := ru
  obtain ⟨z, its, n, r, hl, e⟩ := I.lstM hH
  have hz' := hz
  rw [sizeLine_eq] at hz'
  have hf : ¬ (!Builtin.List.listFitsIndex (k : Int)) = true := by rw [fitsIndex_both (Int.le_trans (by decide) (Int.natCast_nonneg k)) (Int.lt_of_le_of_lt (show (k : Int) ≤ 16777216 by omega) (by decide))]; simp
  generalize hx : (k : Int) = x at *
  have M2 := AutoSeq1.list_insert_list_int_val_1 l its.toArray n x t w hf (by rw [List.size_toArray]; omega)
  refine call_meets F.slot_list_insert ⟨_, e, rfl⟩ F.entry_list_insert (F.args_list_insert_3 _ _ _) M2 ⟨e, ?_⟩
  refine ⟨.non, _, I.lset (its' := its.take k ++ w :: its.drop k) (ys := xs.take k ++ y :: xs.drop k) hH e ?_ ?_ ?_, rfl, q⟩
  · have hk' : (if x < 0 then (x + (its.toArray.size : Int)).toNat else min (x.toNat) its.toArray.size) = k := by
      rw [← hx, if_neg (by omega), Int.toNat_natCast, List.size_toArray]
      omega
    show (its.toArray.extract 0 _).push w ++ its.toArray.extract _ = _
    rw [hk']
    apply Array.ext'
    simp
    exact List.take_of_length_le (by rw [List.length_drop]; exact Nat.le_refl _)
  · exact Vals.append (r.take k) (.cons rw' (r.drop k))
  · rw [List.length_append, List.length_cons, List.length_take, List.length_drop]
    omega
end
end L2

end

section
-- KcSame
set_option Elab.async false
set_option linter.all false
set_option maxRecDepth 100000
set_option maxHeartbeats 4000000
namespace L2
open PySem PySem.Spec PyProof.Rows
section
variable {X : Cx}
end
end L2

end

section
-- KcSlw
set_option Elab.async false
set_option linter.all false
set_option maxRecDepth 100000
set_option maxHeartbeats 4000000
namespace HT
open PySem PySem.Spec PyProof.Rows
section
variable {prog : Program} {w : World} {A : Around} {E : Value → Shared → Prop} {s : Shared}
theorem getItem_tuple_all {t sl : Addr} {items : Array Value} {vl vu : Value} {lo hi : Option Int} {Q : Value → Shared → Prop} (ht : IsTup s.heap t items) (hs : s.heap.IsSliceOf sl vl vu .none) (pl : IsPart vl lo) (pu : IsPart vu hi)
    (hw : sIx items.size 0 lo = 0 ∧ sIx items.size items.size hi = items.size) (h : Q (.ref t) s) : wpAny (model prog w) A (getItem (.ref t) (.ref sl)) Q E s := by
  obtain ⟨os, hos, hcs, hds⟩ := id hs
  have hTs : s.TypeIs (.ref sl) "slice" := ⟨os, hos, hcs⟩
  unfold getItem
  try with_reducible refine wpAny_holding ?_
  first | refine wpAny_bind (wpAny_pure ?_) | skip
  refine wpAny_bind (wpAny_sequenceKey ht.typeIs (by decide) ?_)
  refine wpAny_bind (wpAny_callSpecial?_slot (name := Str.ofString "__getitem__") ht.typeIs PyProof.Rows.slot_tuple_getitem
    (wpAny_call_entry PyProof.Rows.slot_tuple_getitem ht.typeIs entry_tuple_getitem ?_ (args_tuple_getitem _ _)))
  show wpAny _ _ (Builtin.Tuple.tupleItemsOf (.ref t) >>= _) _ _ s
  refine wpAny_bind (tupleItemsOf_ ht ?_)
  refine wpAny_bind (wpAny_typeOf hTs ?_)
  rw [if_pos (by decide)]
  refine wpAny_bind (sliceApplied_gen hs pl pu ?_)
  have hyes : ((((sIx items.size 0 lo : Nat) : Int) == 0 && (1 : Int) == 1 && (sIx items.size items.size hi - sIx items.size 0 lo) == items.size) = true) := by
    rw [hw.1, hw.2]
    simp
  show wpAny _ _ (if (((sIx items.size 0 lo : Nat) : Int) == 0 && (1 : Int) == 1 && (sIx items.size items.size hi - sIx items.size 0 lo) == items.size) = true then _ else _) _ _ s
  rw [if_pos hyes]
  refine wpAny_bind (m := Builtin.Tuple.tupleIsExact _) ?_
  unfold Builtin.Tuple.tupleIsExact
  refine wpAny_bind (wpAny_typeOf ht.typeIs (wpAny_pure ?_))
  rw [if_pos (by decide)]
  first
    | exact wpAny_bind (wpAny_rule (wpAny_pure ⟨_, rfl, wpAny_pure h⟩))
    | exact wpAny_bind (wpAny_rule (wpAny_bind (wpAny_pure (wpAny_pure ⟨_, rfl, wpAny_pure h⟩))))
end
end HT
namespace L2
open PySem PySem.Spec PyProof.Rows
section
variable {X : Cx}
theorem cut_all {xs : List V} {lo hi : Option Int} (h : HT.sIx xs.length 0 lo = 0 ∧ HT.sIx xs.length xs.length hi = xs.length) : cutV xs lo hi = xs := by
  unfold cutV
  rw [h.1, h.2]
  simp
theorem sm_tupW : SlR X (mSlW X.K) := by
  intro pins s σ H x v vl vu lo hi sl Q I rx hs pl pu h
  obtain ⟨a, xs, e, h, q⟩ := h
  by_cases hw : HT.sIx xs.length 0 lo = 0 ∧ HT.sIx xs.length xs.length hi = xs.length
  · subst e
    cases rx
    obtain ⟨its, r, ht, hz⟩ := I.tuple (SqT.of h)
    have hlen : its.toArray.size = xs.length := by rw [List.size_toArray]; exact r.length.symm
    refine ⟨"tuple", _, PyProof.Rows.slot_tuple_getitem.lookup, ht.typeIs, ?_⟩
    refine HT.getItem_tuple_all ht hs pl pu (by rw [hlen]; exact hw) ⟨.ref a, H, I, rfl, q a H (Same.refl H) ?_⟩
    rw [cut_all hw]
    exact h
  · exact sm_tup pins s σ H x v vl vu lo hi sl Q I rx hs pl pu ⟨a, xs, e, SqT.of h, hw, fun p H' hp s' e' => q p H' s' e'⟩
end
end L2

end

section
-- KcXg
set_option Elab.async false
set_option linter.all false
set_option maxRecDepth 100000
set_option maxHeartbeats 4000000
namespace L2
open PySem PySem.Spec PyProof.Rows
section
variable {X : Cx}
end
end L2

end

set_option Elab.async false
set_option linter.all false
set_option maxRecDepth 100000
set_option maxHeartbeats 4000000
namespace Kc_k53
open PySem L2 PyProof.Rows
seal L2.PE L2.PA L2.PS L2.PSs L2.PT L2.PW L2.PI L2.PG L2.PGs L2.PO L2.PTL L2.OpR L2.UnR L2.CallR L2.SlR L2.IxR L2.PSet
noncomputable def top (i : Nat) : Stmt := PySem.Challenge.pw_knowcards_k53_what_is_a_code.main.body.getD i (.Pass ⟨0, 0, 0, 0⟩)
noncomputable abbrev S_is_whole : Stmt := top 1
theorem sc_is_whole : FnScope ["thing"] ["thing"] (defScope S_is_whole) := ⟨rfl, rfl, rfl, by decide +kernel, rfl, by decide +kernel, by decide +kernel⟩
theorem v_is_whole_0 : VarAt ["thing"] (defScope S_is_whole) 0 "thing" := ⟨rfl, by first | exact Or.inl rfl | exact Or.inr (Or.inl rfl) | exact Or.inr (Or.inr rfl), by decide, by decide⟩
noncomputable abbrev S_is_within : Stmt := top 2
theorem sc_is_within : FnScope ["thing", "least", "most"] ["thing", "least", "most"] (defScope S_is_within) := ⟨rfl, rfl, rfl, by decide +kernel, rfl, by decide +kernel, by decide +kernel⟩
theorem v_is_within_0 : VarAt ["thing", "least", "most"] (defScope S_is_within) 0 "thing" := ⟨rfl, by first | exact Or.inl rfl | exact Or.inr (Or.inl rfl) | exact Or.inr (Or.inr rfl), by decide, by decide⟩
theorem v_is_within_1 : VarAt ["thing", "least", "most"] (defScope S_is_within) 1 "least" := ⟨rfl, by first | exact Or.inl rfl | exact Or.inr (Or.inl rfl) | exact Or.inr (Or.inr rfl), by decide, by decide⟩
theorem v_is_within_2 : VarAt ["thing", "least", "most"] (defScope S_is_within) 2 "most" := ⟨rfl, by first | exact Or.inl rfl | exact Or.inr (Or.inl rfl) | exact Or.inr (Or.inr rfl), by decide, by decide⟩
noncomputable abbrev S_is_pack : Stmt := top 11
theorem sc_is_pack : FnScope ["cards", "sizes"] ["cards", "sizes"] (defScope S_is_pack) := ⟨rfl, rfl, rfl, by decide +kernel, rfl, by decide +kernel, by decide +kernel⟩
theorem v_is_pack_0 : VarAt ["cards", "sizes"] (defScope S_is_pack) 0 "cards" := ⟨rfl, by first | exact Or.inl rfl | exact Or.inr (Or.inl rfl) | exact Or.inr (Or.inr rfl), by decide, by decide⟩
theorem v_is_pack_1 : VarAt ["cards", "sizes"] (defScope S_is_pack) 1 "sizes" := ⟨rfl, by first | exact Or.inl rfl | exact Or.inr (Or.inl rfl) | exact Or.inr (Or.inr rfl), by decide, by decide⟩
noncomputable abbrev S_how_many : Stmt := top 12
theorem sc_how_many : FnScope ["cards", "sizes", "many", "left", "size"] ["cards", "sizes"] (defScope S_how_many) := ⟨rfl, rfl, rfl, by decide +kernel, rfl, by decide +kernel, by decide +kernel⟩
theorem v_how_many_0 : VarAt ["cards", "sizes", "many", "left", "size"] (defScope S_how_many) 0 "cards" := ⟨rfl, by first | exact Or.inl rfl | exact Or.inr (Or.inl rfl) | exact Or.inr (Or.inr rfl), by decide, by decide⟩
theorem v_how_many_1 : VarAt ["cards", "sizes", "many", "left", "size"] (defScope S_how_many) 1 "sizes" := ⟨rfl, by first | exact Or.inl rfl | exact Or.inr (Or.inl rfl) | exact Or.inr (Or.inr rfl), by decide, by decide⟩
theorem v_how_many_2 : VarAt ["cards", "sizes", "many", "left", "size"] (defScope S_how_many) 2 "many" := ⟨rfl, by first | exact Or.inl rfl | exact Or.inr (Or.inl rfl) | exact Or.inr (Or.inr rfl), by decide, by decide⟩
theorem v_how_many_3 : VarAt ["cards", "sizes", "many", "left", "size"] (defScope S_how_many) 3 "left" := ⟨rfl, by first | exact Or.inl rfl | exact Or.inr (Or.inl rfl) | exact Or.inr (Or.inr rfl), by decide, by decide⟩
theorem v_how_many_4 : VarAt ["cards", "sizes", "many", "left", "size"] (defScope S_how_many) 4 "size" := ⟨rfl, by first | exact Or.inl rfl | exact Or.inr (Or.inl rfl) | exact Or.inr (Or.inr rfl), by decide, by decide⟩
noncomputable abbrev S_choices : Stmt := top 13
theorem sc_choices : FnScope ["many", "taken", "ways", "step"] ["many", "taken"] (defScope S_choices) := ⟨rfl, rfl, rfl, by decide +kernel, rfl, by decide +kernel, by decide +kernel⟩
theorem v_choices_0 : VarAt ["many", "taken", "ways", "step"] (defScope S_choices) 0 "many" := ⟨rfl, by first | exact Or.inl rfl | exact Or.inr (Or.inl rfl) | exact Or.inr (Or.inr rfl), by decide, by decide⟩
theorem v_choices_1 : VarAt ["many", "taken", "ways", "step"] (defScope S_choices) 1 "taken" := ⟨rfl, by first | exact Or.inl rfl | exact Or.inr (Or.inl rfl) | exact Or.inr (Or.inr rfl), by decide, by decide⟩
theorem v_choices_2 : VarAt ["many", "taken", "ways", "step"] (defScope S_choices) 2 "ways" := ⟨rfl, by first | exact Or.inl rfl | exact Or.inr (Or.inl rfl) | exact Or.inr (Or.inr rfl), by decide, by decide⟩
theorem v_choices_3 : VarAt ["many", "taken", "ways", "step"] (defScope S_choices) 3 "step" := ⟨rfl, by first | exact Or.inl rfl | exact Or.inr (Or.inl rfl) | exact Or.inr (Or.inr rfl), by decide, by decide⟩
noncomputable abbrev S_deals_of : Stmt := top 14
theorem sc_deals_of : FnScope ["cards", "sizes", "room", "begun", "card"] ["cards", "sizes"] (defScope S_deals_of) := ⟨rfl, rfl, rfl, by decide +kernel, rfl, by decide +kernel, by decide +kernel⟩
theorem v_deals_of_0 : VarAt ["cards", "sizes", "room", "begun", "card"] (defScope S_deals_of) 0 "cards" := ⟨rfl, by first | exact Or.inl rfl | exact Or.inr (Or.inl rfl) | exact Or.inr (Or.inr rfl), by decide, by decide⟩
theorem v_deals_of_1 : VarAt ["cards", "sizes", "room", "begun", "card"] (defScope S_deals_of) 1 "sizes" := ⟨rfl, by first | exact Or.inl rfl | exact Or.inr (Or.inl rfl) | exact Or.inr (Or.inr rfl), by decide, by decide⟩
theorem v_deals_of_2 : VarAt ["cards", "sizes", "room", "begun", "card"] (defScope S_deals_of) 2 "room" := ⟨rfl, by first | exact Or.inl rfl | exact Or.inr (Or.inl rfl) | exact Or.inr (Or.inr rfl), by decide, by decide⟩
theorem v_deals_of_3 : VarAt ["cards", "sizes", "room", "begun", "card"] (defScope S_deals_of) 3 "begun" := ⟨rfl, by first | exact Or.inl rfl | exact Or.inr (Or.inl rfl) | exact Or.inr (Or.inr rfl), by decide, by decide⟩
noncomputable abbrev S_with_one_more : Stmt := top 15
theorem sc_with_one_more : FnScope ["begun", "room", "longer", "deal", "who", "most"] ["begun", "room"] (defScope S_with_one_more) := ⟨rfl, rfl, rfl, by decide +kernel, rfl, by decide +kernel, by decide +kernel⟩
theorem v_with_one_more_0 : VarAt ["begun", "room", "longer", "deal", "who", "most"] (defScope S_with_one_more) 0 "begun" := ⟨rfl, by first | exact Or.inl rfl | exact Or.inr (Or.inl rfl) | exact Or.inr (Or.inr rfl), by decide, by decide⟩
theorem v_with_one_more_1 : VarAt ["begun", "room", "longer", "deal", "who", "most"] (defScope S_with_one_more) 1 "room" := ⟨rfl, by first | exact Or.inl rfl | exact Or.inr (Or.inl rfl) | exact Or.inr (Or.inr rfl), by decide, by decide⟩
theorem v_with_one_more_2 : VarAt ["begun", "room", "longer", "deal", "who", "most"] (defScope S_with_one_more) 2 "longer" := ⟨rfl, by first | exact Or.inl rfl | exact Or.inr (Or.inl rfl) | exact Or.inr (Or.inr rfl), by decide, by decide⟩
theorem v_with_one_more_3 : VarAt ["begun", "room", "longer", "deal", "who", "most"] (defScope S_with_one_more) 3 "deal" := ⟨rfl, by first | exact Or.inl rfl | exact Or.inr (Or.inl rfl) | exact Or.inr (Or.inr rfl), by decide, by decide⟩
theorem v_with_one_more_4 : VarAt ["begun", "room", "longer", "deal", "who", "most"] (defScope S_with_one_more) 4 "who" := ⟨rfl, by first | exact Or.inl rfl | exact Or.inr (Or.inl rfl) | exact Or.inr (Or.inr rfl), by decide, by decide⟩
theorem v_with_one_more_5 : VarAt ["begun", "room", "longer", "deal", "who", "most"] (defScope S_with_one_more) 5 "most" := ⟨rfl, by first | exact Or.inl rfl | exact Or.inr (Or.inl rfl) | exact Or.inr (Or.inr rfl), by decide, by decide⟩
noncomputable abbrev S_cards_of : Stmt := top 16
theorem sc_cards_of : FnScope ["deal", "who"] ["deal", "who"] (defScope S_cards_of) := ⟨rfl, rfl, rfl, by decide +kernel, rfl, by decide +kernel, by decide +kernel⟩
theorem v_cards_of_0 : VarAt ["deal", "who"] (defScope S_cards_of) 0 "deal" := ⟨rfl, by first | exact Or.inl rfl | exact Or.inr (Or.inl rfl) | exact Or.inr (Or.inr rfl), by decide, by decide⟩
noncomputable abbrev S_is_code : Stmt := top 18
theorem sc_is_code : FnScope ["cards", "sizes", "hand", "words", "said", "word"] ["cards", "sizes", "hand", "words"] (defScope S_is_code) := ⟨rfl, rfl, rfl, by decide +kernel, rfl, by decide +kernel, by decide +kernel⟩
theorem v_is_code_0 : VarAt ["cards", "sizes", "hand", "words", "said", "word"] (defScope S_is_code) 0 "cards" := ⟨rfl, by first | exact Or.inl rfl | exact Or.inr (Or.inl rfl) | exact Or.inr (Or.inr rfl), by decide, by decide⟩
theorem v_is_code_1 : VarAt ["cards", "sizes", "hand", "words", "said", "word"] (defScope S_is_code) 1 "sizes" := ⟨rfl, by first | exact Or.inl rfl | exact Or.inr (Or.inl rfl) | exact Or.inr (Or.inr rfl), by decide, by decide⟩
theorem v_is_code_2 : VarAt ["cards", "sizes", "hand", "words", "said", "word"] (defScope S_is_code) 2 "hand" := ⟨rfl, by first | exact Or.inl rfl | exact Or.inr (Or.inl rfl) | exact Or.inr (Or.inr rfl), by decide, by decide⟩
theorem v_is_code_3 : VarAt ["cards", "sizes", "hand", "words", "said", "word"] (defScope S_is_code) 3 "words" := ⟨rfl, by first | exact Or.inl rfl | exact Or.inr (Or.inl rfl) | exact Or.inr (Or.inr rfl), by decide, by decide⟩
theorem v_is_code_4 : VarAt ["cards", "sizes", "hand", "words", "said", "word"] (defScope S_is_code) 4 "said" := ⟨rfl, by first | exact Or.inl rfl | exact Or.inr (Or.inl rfl) | exact Or.inr (Or.inr rfl), by decide, by decide⟩
theorem v_is_code_5 : VarAt ["cards", "sizes", "hand", "words", "said", "word"] (defScope S_is_code) 5 "word" := ⟨rfl, by first | exact Or.inl rfl | exact Or.inr (Or.inl rfl) | exact Or.inr (Or.inr rfl), by decide, by decide⟩
noncomputable abbrev S_is_list_of_tuples : Stmt := top 19
theorem sc_is_list_of_tuples : FnScope ["thing"] ["thing"] (defScope S_is_list_of_tuples) := ⟨rfl, rfl, rfl, by decide +kernel, rfl, by decide +kernel, by decide +kernel⟩
theorem v_is_list_of_tuples_0 : VarAt ["thing"] (defScope S_is_list_of_tuples) 0 "thing" := ⟨rfl, by first | exact Or.inl rfl | exact Or.inr (Or.inl rfl) | exact Or.inr (Or.inr rfl), by decide, by decide⟩
noncomputable abbrev S_is_tuple_of_numbers : Stmt := top 20
theorem sc_is_tuple_of_numbers : FnScope ["thing"] ["thing"] (defScope S_is_tuple_of_numbers) := ⟨rfl, rfl, rfl, by decide +kernel, rfl, by decide +kernel, by decide +kernel⟩
theorem v_is_tuple_of_numbers_0 : VarAt ["thing"] (defScope S_is_tuple_of_numbers) 0 "thing" := ⟨rfl, by first | exact Or.inl rfl | exact Or.inr (Or.inl rfl) | exact Or.inr (Or.inr rfl), by decide, by decide⟩
noncomputable abbrev S_holdings_of : Stmt := top 21
theorem sc_holdings_of : FnScope ["cards", "sizes", "hand"] ["cards", "sizes", "hand"] (defScope S_holdings_of) := ⟨rfl, rfl, rfl, by decide +kernel, rfl, by decide +kernel, by decide +kernel⟩
theorem v_holdings_of_0 : VarAt ["cards", "sizes", "hand"] (defScope S_holdings_of) 0 "cards" := ⟨rfl, by first | exact Or.inl rfl | exact Or.inr (Or.inl rfl) | exact Or.inr (Or.inr rfl), by decide, by decide⟩
theorem v_holdings_of_1 : VarAt ["cards", "sizes", "hand"] (defScope S_holdings_of) 1 "sizes" := ⟨rfl, by first | exact Or.inl rfl | exact Or.inr (Or.inl rfl) | exact Or.inr (Or.inr rfl), by decide, by decide⟩
theorem v_holdings_of_2 : VarAt ["cards", "sizes", "hand"] (defScope S_holdings_of) 2 "hand" := ⟨rfl, by first | exact Or.inl rfl | exact Or.inr (Or.inl rfl) | exact Or.inr (Or.inr rfl), by decide, by decide⟩
noncomputable abbrev S__law_cell : Stmt := top 23
theorem sc__law_cell : FnScope ["_law_script", "_law_k", "_law_number"] ["_law_script", "_law_k"] (defScope S__law_cell) := ⟨rfl, rfl, rfl, by decide +kernel, rfl, by decide +kernel, by decide +kernel⟩
theorem v__law_cell_0 : VarAt ["_law_script", "_law_k", "_law_number"] (defScope S__law_cell) 0 "_law_script" := ⟨rfl, by first | exact Or.inl rfl | exact Or.inr (Or.inl rfl) | exact Or.inr (Or.inr rfl), by decide, by decide⟩
theorem v__law_cell_1 : VarAt ["_law_script", "_law_k", "_law_number"] (defScope S__law_cell) 1 "_law_k" := ⟨rfl, by first | exact Or.inl rfl | exact Or.inr (Or.inl rfl) | exact Or.inr (Or.inr rfl), by decide, by decide⟩
theorem v__law_cell_2 : VarAt ["_law_script", "_law_k", "_law_number"] (defScope S__law_cell) 2 "_law_number" := ⟨rfl, by first | exact Or.inl rfl | exact Or.inr (Or.inl rfl) | exact Or.inr (Or.inr rfl), by decide, by decide⟩
noncomputable abbrev S__law_mixed : Stmt := top 24
theorem sc__law_mixed : FnScope ["_law_cell_here", "_law_k", "_law_number"] ["_law_cell_here", "_law_k"] (defScope S__law_mixed) := ⟨rfl, rfl, rfl, by decide +kernel, rfl, by decide +kernel, by decide +kernel⟩
theorem v__law_mixed_0 : VarAt ["_law_cell_here", "_law_k", "_law_number"] (defScope S__law_mixed) 0 "_law_cell_here" := ⟨rfl, by first | exact Or.inl rfl | exact Or.inr (Or.inl rfl) | exact Or.inr (Or.inr rfl), by decide, by decide⟩
theorem v__law_mixed_1 : VarAt ["_law_cell_here", "_law_k", "_law_number"] (defScope S__law_mixed) 1 "_law_k" := ⟨rfl, by first | exact Or.inl rfl | exact Or.inr (Or.inl rfl) | exact Or.inr (Or.inr rfl), by decide, by decide⟩
theorem v__law_mixed_2 : VarAt ["_law_cell_here", "_law_k", "_law_number"] (defScope S__law_mixed) 2 "_law_number" := ⟨rfl, by first | exact Or.inl rfl | exact Or.inr (Or.inl rfl) | exact Or.inr (Or.inr rfl), by decide, by decide⟩
noncomputable abbrev S__law_pack : Stmt := top 25
theorem sc__law_pack : FnScope ["_law_cell_here", "_law_some"] ["_law_cell_here"] (defScope S__law_pack) := ⟨rfl, rfl, rfl, by decide +kernel, rfl, by decide +kernel, by decide +kernel⟩
theorem v__law_pack_0 : VarAt ["_law_cell_here", "_law_some"] (defScope S__law_pack) 0 "_law_cell_here" := ⟨rfl, by first | exact Or.inl rfl | exact Or.inr (Or.inl rfl) | exact Or.inr (Or.inr rfl), by decide, by decide⟩
theorem v__law_pack_1 : VarAt ["_law_cell_here", "_law_some"] (defScope S__law_pack) 1 "_law_some" := ⟨rfl, by first | exact Or.inl rfl | exact Or.inr (Or.inl rfl) | exact Or.inr (Or.inr rfl), by decide, by decide⟩
noncomputable abbrev S__law_holdings : Stmt := top 26
theorem sc__law_holdings : FnScope ["_law_cards", "_law_size", "_law_found", "_law_bits", "_law_held"] ["_law_cards", "_law_size"] (defScope S__law_holdings) := ⟨rfl, rfl, rfl, by decide +kernel, rfl, by decide +kernel, by decide +kernel⟩
theorem v__law_holdings_0 : VarAt ["_law_cards", "_law_size", "_law_found", "_law_bits", "_law_held"] (defScope S__law_holdings) 0 "_law_cards" := ⟨rfl, by first | exact Or.inl rfl | exact Or.inr (Or.inl rfl) | exact Or.inr (Or.inr rfl), by decide, by decide⟩
theorem v__law_holdings_1 : VarAt ["_law_cards", "_law_size", "_law_found", "_law_bits", "_law_held"] (defScope S__law_holdings) 1 "_law_size" := ⟨rfl, by first | exact Or.inl rfl | exact Or.inr (Or.inl rfl) | exact Or.inr (Or.inr rfl), by decide, by decide⟩
theorem v__law_holdings_2 : VarAt ["_law_cards", "_law_size", "_law_found", "_law_bits", "_law_held"] (defScope S__law_holdings) 2 "_law_found" := ⟨rfl, by first | exact Or.inl rfl | exact Or.inr (Or.inl rfl) | exact Or.inr (Or.inr rfl), by decide, by decide⟩
theorem v__law_holdings_4 : VarAt ["_law_cards", "_law_size", "_law_found", "_law_bits", "_law_held"] (defScope S__law_holdings) 4 "_law_held" := ⟨rfl, by first | exact Or.inl rfl | exact Or.inr (Or.inl rfl) | exact Or.inr (Or.inr rfl), by decide, by decide⟩
noncomputable abbrev S__law_lists : Stmt := top 27
theorem sc__law_lists : FnScope ["_law_cell_here", "_law_holdings_here", "_law_many", "_law_made", "_law_k", "_law_number"] ["_law_cell_here", "_law_holdings_here"] (defScope S__law_lists) := ⟨rfl, rfl, rfl, by decide +kernel, rfl, by decide +kernel, by decide +kernel⟩
theorem v__law_lists_0 : VarAt ["_law_cell_here", "_law_holdings_here", "_law_many", "_law_made", "_law_k", "_law_number"] (defScope S__law_lists) 0 "_law_cell_here" := ⟨rfl, by first | exact Or.inl rfl | exact Or.inr (Or.inl rfl) | exact Or.inr (Or.inr rfl), by decide, by decide⟩
theorem v__law_lists_1 : VarAt ["_law_cell_here", "_law_holdings_here", "_law_many", "_law_made", "_law_k", "_law_number"] (defScope S__law_lists) 1 "_law_holdings_here" := ⟨rfl, by first | exact Or.inl rfl | exact Or.inr (Or.inl rfl) | exact Or.inr (Or.inr rfl), by decide, by decide⟩
theorem v__law_lists_2 : VarAt ["_law_cell_here", "_law_holdings_here", "_law_many", "_law_made", "_law_k", "_law_number"] (defScope S__law_lists) 2 "_law_many" := ⟨rfl, by first | exact Or.inl rfl | exact Or.inr (Or.inl rfl) | exact Or.inr (Or.inr rfl), by decide, by decide⟩
theorem v__law_lists_3 : VarAt ["_law_cell_here", "_law_holdings_here", "_law_many", "_law_made", "_law_k", "_law_number"] (defScope S__law_lists) 3 "_law_made" := ⟨rfl, by first | exact Or.inl rfl | exact Or.inr (Or.inl rfl) | exact Or.inr (Or.inr rfl), by decide, by decide⟩
theorem v__law_lists_4 : VarAt ["_law_cell_here", "_law_holdings_here", "_law_many", "_law_made", "_law_k", "_law_number"] (defScope S__law_lists) 4 "_law_k" := ⟨rfl, by first | exact Or.inl rfl | exact Or.inr (Or.inl rfl) | exact Or.inr (Or.inr rfl), by decide, by decide⟩
theorem v__law_lists_5 : VarAt ["_law_cell_here", "_law_holdings_here", "_law_many", "_law_made", "_law_k", "_law_number"] (defScope S__law_lists) 5 "_law_number" := ⟨rfl, by first | exact Or.inl rfl | exact Or.inr (Or.inl rfl) | exact Or.inr (Or.inr rfl), by decide, by decide⟩
noncomputable abbrev S__law_otherwise : Stmt := top 28
theorem sc__law_otherwise : FnScope ["_law_lists_here", "_law_cell_here", "_law_cards", "_law_made", "_law_full", "_law_at", "_law_spot", "_law_held", "_law_way", "_law_last"] ["_law_lists_here", "_law_cell_here", "_law_cards"] (defScope S__law_otherwise) := ⟨rfl, rfl, rfl, by decide +kernel, rfl, by decide +kernel, by decide +kernel⟩
theorem v__law_otherwise_0 : VarAt ["_law_lists_here", "_law_cell_here", "_law_cards", "_law_made", "_law_full", "_law_at", "_law_spot", "_law_held", "_law_way", "_law_last"] (defScope S__law_otherwise) 0 "_law_lists_here" := ⟨rfl, by first | exact Or.inl rfl | exact Or.inr (Or.inl rfl) | exact Or.inr (Or.inr rfl), by decide, by decide⟩
theorem v__law_otherwise_1 : VarAt ["_law_lists_here", "_law_cell_here", "_law_cards", "_law_made", "_law_full", "_law_at", "_law_spot", "_law_held", "_law_way", "_law_last"] (defScope S__law_otherwise) 1 "_law_cell_here" := ⟨rfl, by first | exact Or.inl rfl | exact Or.inr (Or.inl rfl) | exact Or.inr (Or.inr rfl), by decide, by decide⟩
theorem v__law_otherwise_2 : VarAt ["_law_lists_here", "_law_cell_here", "_law_cards", "_law_made", "_law_full", "_law_at", "_law_spot", "_law_held", "_law_way", "_law_last"] (defScope S__law_otherwise) 2 "_law_cards" := ⟨rfl, by first | exact Or.inl rfl | exact Or.inr (Or.inl rfl) | exact Or.inr (Or.inr rfl), by decide, by decide⟩
theorem v__law_otherwise_3 : VarAt ["_law_lists_here", "_law_cell_here", "_law_cards", "_law_made", "_law_full", "_law_at", "_law_spot", "_law_held", "_law_way", "_law_last"] (defScope S__law_otherwise) 3 "_law_made" := ⟨rfl, by first | exact Or.inl rfl | exact Or.inr (Or.inl rfl) | exact Or.inr (Or.inr rfl), by decide, by decide⟩
theorem v__law_otherwise_4 : VarAt ["_law_lists_here", "_law_cell_here", "_law_cards", "_law_made", "_law_full", "_law_at", "_law_spot", "_law_held", "_law_way", "_law_last"] (defScope S__law_otherwise) 4 "_law_full" := ⟨rfl, by first | exact Or.inl rfl | exact Or.inr (Or.inl rfl) | exact Or.inr (Or.inr rfl), by decide, by decide⟩
theorem v__law_otherwise_5 : VarAt ["_law_lists_here", "_law_cell_here", "_law_cards", "_law_made", "_law_full", "_law_at", "_law_spot", "_law_held", "_law_way", "_law_last"] (defScope S__law_otherwise) 5 "_law_at" := ⟨rfl, by first | exact Or.inl rfl | exact Or.inr (Or.inl rfl) | exact Or.inr (Or.inr rfl), by decide, by decide⟩
theorem v__law_otherwise_6 : VarAt ["_law_lists_here", "_law_cell_here", "_law_cards", "_law_made", "_law_full", "_law_at", "_law_spot", "_law_held", "_law_way", "_law_last"] (defScope S__law_otherwise) 6 "_law_spot" := ⟨rfl, by first | exact Or.inl rfl | exact Or.inr (Or.inl rfl) | exact Or.inr (Or.inr rfl), by decide, by decide⟩
theorem v__law_otherwise_7 : VarAt ["_law_lists_here", "_law_cell_here", "_law_cards", "_law_made", "_law_full", "_law_at", "_law_spot", "_law_held", "_law_way", "_law_last"] (defScope S__law_otherwise) 7 "_law_held" := ⟨rfl, by first | exact Or.inl rfl | exact Or.inr (Or.inl rfl) | exact Or.inr (Or.inr rfl), by decide, by decide⟩
theorem v__law_otherwise_8 : VarAt ["_law_lists_here", "_law_cell_here", "_law_cards", "_law_made", "_law_full", "_law_at", "_law_spot", "_law_held", "_law_way", "_law_last"] (defScope S__law_otherwise) 8 "_law_way" := ⟨rfl, by first | exact Or.inl rfl | exact Or.inr (Or.inl rfl) | exact Or.inr (Or.inr rfl), by decide, by decide⟩
theorem v__law_otherwise_9 : VarAt ["_law_lists_here", "_law_cell_here", "_law_cards", "_law_made", "_law_full", "_law_at", "_law_spot", "_law_held", "_law_way", "_law_last"] (defScope S__law_otherwise) 9 "_law_last" := ⟨rfl, by first | exact Or.inl rfl | exact Or.inr (Or.inl rfl) | exact Or.inr (Or.inr rfl), by decide, by decide⟩
noncomputable abbrev S__law_due : Stmt := top 29
theorem sc__law_due : FnScope ["_law_lists_here", "_law_holdings_here", "_law_left", "_law_held", "_law_some"] ["_law_lists_here", "_law_holdings_here"] (defScope S__law_due) := ⟨rfl, rfl, rfl, by decide +kernel, rfl, by decide +kernel, by decide +kernel⟩
theorem v__law_due_0 : VarAt ["_law_lists_here", "_law_holdings_here", "_law_left", "_law_held", "_law_some"] (defScope S__law_due) 0 "_law_lists_here" := ⟨rfl, by first | exact Or.inl rfl | exact Or.inr (Or.inl rfl) | exact Or.inr (Or.inr rfl), by decide, by decide⟩
theorem v__law_due_1 : VarAt ["_law_lists_here", "_law_holdings_here", "_law_left", "_law_held", "_law_some"] (defScope S__law_due) 1 "_law_holdings_here" := ⟨rfl, by first | exact Or.inl rfl | exact Or.inr (Or.inl rfl) | exact Or.inr (Or.inr rfl), by decide, by decide⟩
theorem v__law_due_2 : VarAt ["_law_lists_here", "_law_holdings_here", "_law_left", "_law_held", "_law_some"] (defScope S__law_due) 2 "_law_left" := ⟨rfl, by first | exact Or.inl rfl | exact Or.inr (Or.inl rfl) | exact Or.inr (Or.inr rfl), by decide, by decide⟩
theorem v__law_due_3 : VarAt ["_law_lists_here", "_law_holdings_here", "_law_left", "_law_held", "_law_some"] (defScope S__law_due) 3 "_law_held" := ⟨rfl, by first | exact Or.inl rfl | exact Or.inr (Or.inl rfl) | exact Or.inr (Or.inr rfl), by decide, by decide⟩
theorem v__law_due_4 : VarAt ["_law_lists_here", "_law_holdings_here", "_law_left", "_law_held", "_law_some"] (defScope S__law_due) 4 "_law_some" := ⟨rfl, by first | exact Or.inl rfl | exact Or.inr (Or.inl rfl) | exact Or.inr (Or.inr rfl), by decide, by decide⟩
noncomputable abbrev S__law_told : Stmt := top 30
theorem sc__law_told : FnScope ["_law_cards", "_law_sizes", "_law_hand", "_law_lists_here", "_law_due_here", "_law_handed", "_law_found"] ["_law_cards", "_law_sizes", "_law_hand", "_law_lists_here", "_law_due_here"] (defScope S__law_told) := ⟨rfl, rfl, rfl, by decide +kernel, rfl, by decide +kernel, by decide +kernel⟩
theorem v__law_told_0 : VarAt ["_law_cards", "_law_sizes", "_law_hand", "_law_lists_here", "_law_due_here", "_law_handed", "_law_found"] (defScope S__law_told) 0 "_law_cards" := ⟨rfl, by first | exact Or.inl rfl | exact Or.inr (Or.inl rfl) | exact Or.inr (Or.inr rfl), by decide, by decide⟩
theorem v__law_told_1 : VarAt ["_law_cards", "_law_sizes", "_law_hand", "_law_lists_here", "_law_due_here", "_law_handed", "_law_found"] (defScope S__law_told) 1 "_law_sizes" := ⟨rfl, by first | exact Or.inl rfl | exact Or.inr (Or.inl rfl) | exact Or.inr (Or.inr rfl), by decide, by decide⟩
theorem v__law_told_2 : VarAt ["_law_cards", "_law_sizes", "_law_hand", "_law_lists_here", "_law_due_here", "_law_handed", "_law_found"] (defScope S__law_told) 2 "_law_hand" := ⟨rfl, by first | exact Or.inl rfl | exact Or.inr (Or.inl rfl) | exact Or.inr (Or.inr rfl), by decide, by decide⟩
theorem v__law_told_3 : VarAt ["_law_cards", "_law_sizes", "_law_hand", "_law_lists_here", "_law_due_here", "_law_handed", "_law_found"] (defScope S__law_told) 3 "_law_lists_here" := ⟨rfl, by first | exact Or.inl rfl | exact Or.inr (Or.inl rfl) | exact Or.inr (Or.inr rfl), by decide, by decide⟩
theorem v__law_told_4 : VarAt ["_law_cards", "_law_sizes", "_law_hand", "_law_lists_here", "_law_due_here", "_law_handed", "_law_found"] (defScope S__law_told) 4 "_law_due_here" := ⟨rfl, by first | exact Or.inl rfl | exact Or.inr (Or.inl rfl) | exact Or.inr (Or.inr rfl), by decide, by decide⟩
theorem v__law_told_5 : VarAt ["_law_cards", "_law_sizes", "_law_hand", "_law_lists_here", "_law_due_here", "_law_handed", "_law_found"] (defScope S__law_told) 5 "_law_handed" := ⟨rfl, by first | exact Or.inl rfl | exact Or.inr (Or.inl rfl) | exact Or.inr (Or.inr rfl), by decide, by decide⟩
theorem v__law_told_6 : VarAt ["_law_cards", "_law_sizes", "_law_hand", "_law_lists_here", "_law_due_here", "_law_handed", "_law_found"] (defScope S__law_told) 6 "_law_found" := ⟨rfl, by first | exact Or.inl rfl | exact Or.inr (Or.inl rfl) | exact Or.inr (Or.inr rfl), by decide, by decide⟩
noncomputable abbrev S_law : Stmt := top 31
theorem sc_law : FnScope ["_law_script", "_law_cards", "_law_sizes", "_law_hand", "_law_holdings_here", "_law_lists_here", "_law_many", "_law_cell_here", "_law_other"] ["_law_script"] (defScope S_law) := ⟨rfl, rfl, rfl, by decide +kernel, rfl, by decide +kernel, by decide +kernel⟩
theorem v_law_0 : VarAt ["_law_script", "_law_cards", "_law_sizes", "_law_hand", "_law_holdings_here", "_law_lists_here", "_law_many", "_law_cell_here", "_law_other"] (defScope S_law) 0 "_law_script" := ⟨rfl, by first | exact Or.inl rfl | exact Or.inr (Or.inl rfl) | exact Or.inr (Or.inr rfl), by decide, by decide⟩
theorem v_law_1 : VarAt ["_law_script", "_law_cards", "_law_sizes", "_law_hand", "_law_holdings_here", "_law_lists_here", "_law_many", "_law_cell_here", "_law_other"] (defScope S_law) 1 "_law_cards" := ⟨rfl, by first | exact Or.inl rfl | exact Or.inr (Or.inl rfl) | exact Or.inr (Or.inr rfl), by decide, by decide⟩
theorem v_law_2 : VarAt ["_law_script", "_law_cards", "_law_sizes", "_law_hand", "_law_holdings_here", "_law_lists_here", "_law_many", "_law_cell_here", "_law_other"] (defScope S_law) 2 "_law_sizes" := ⟨rfl, by first | exact Or.inl rfl | exact Or.inr (Or.inl rfl) | exact Or.inr (Or.inr rfl), by decide, by decide⟩
theorem v_law_3 : VarAt ["_law_script", "_law_cards", "_law_sizes", "_law_hand", "_law_holdings_here", "_law_lists_here", "_law_many", "_law_cell_here", "_law_other"] (defScope S_law) 3 "_law_hand" := ⟨rfl, by first | exact Or.inl rfl | exact Or.inr (Or.inl rfl) | exact Or.inr (Or.inr rfl), by decide, by decide⟩
theorem v_law_4 : VarAt ["_law_script", "_law_cards", "_law_sizes", "_law_hand", "_law_holdings_here", "_law_lists_here", "_law_many", "_law_cell_here", "_law_other"] (defScope S_law) 4 "_law_holdings_here" := ⟨rfl, by first | exact Or.inl rfl | exact Or.inr (Or.inl rfl) | exact Or.inr (Or.inr rfl), by decide, by decide⟩
theorem v_law_5 : VarAt ["_law_script", "_law_cards", "_law_sizes", "_law_hand", "_law_holdings_here", "_law_lists_here", "_law_many", "_law_cell_here", "_law_other"] (defScope S_law) 5 "_law_lists_here" := ⟨rfl, by first | exact Or.inl rfl | exact Or.inr (Or.inl rfl) | exact Or.inr (Or.inr rfl), by decide, by decide⟩
theorem v_law_6 : VarAt ["_law_script", "_law_cards", "_law_sizes", "_law_hand", "_law_holdings_here", "_law_lists_here", "_law_many", "_law_cell_here", "_law_other"] (defScope S_law) 6 "_law_many" := ⟨rfl, by first | exact Or.inl rfl | exact Or.inr (Or.inl rfl) | exact Or.inr (Or.inr rfl), by decide, by decide⟩
theorem v_law_7 : VarAt ["_law_script", "_law_cards", "_law_sizes", "_law_hand", "_law_holdings_here", "_law_lists_here", "_law_many", "_law_cell_here", "_law_other"] (defScope S_law) 7 "_law_cell_here" := ⟨rfl, by first | exact Or.inl rfl | exact Or.inr (Or.inl rfl) | exact Or.inr (Or.inr rfl), by decide, by decide⟩
theorem v_law_8 : VarAt ["_law_script", "_law_cards", "_law_sizes", "_law_hand", "_law_holdings_here", "_law_lists_here", "_law_many", "_law_cell_here", "_law_other"] (defScope S_law) 8 "_law_other" := ⟨rfl, by first | exact Or.inl rfl | exact Or.inr (Or.inl rfl) | exact Or.inr (Or.inr rfl), by decide, by decide⟩
section
variable {P : Program} {w : World} {K : PySem.W.Frag} {mg : Str → Option Value} {base : Heap}
theorem ok_is_whole {f : Addr} {fd : FuncData} (D : Def K mg "is_whole" S_is_whole ["thing"] f fd) (B : Blt mg) : FnB P w K mg base 1 "is_whole" ["thing"] (sp_is_whole K) := by
  refine D.ok sc_is_whole (fun vs H Q E h => len_is_whole h) (fun cdv A outer s H vs Q E hr h => ?_)
  have hu := hr.units0
  have hux := hr.units64
  exact ⟨t_is_whole K, (pss_one (ps_ret (pe_and (pe_callB call_isi rfl B.isinstance boot_isinstance (pac_Name (pvQ v_is_whole_0 rfl rfl) (pac_Name (pe_bltn (v := .ty "int") rfl B.int boot_int rfl) pa_nil))) (pe_one (pe_not (pe_callB call_isi rfl B.isinstance boot_isinstance (pac_Name (pvQ v_is_whole_0 rfl rfl) (pac_Name (pe_bltn (v := .ty "bool") rfl B.bool boot_bool rfl) pa_nil)))))))), rd_is_whole h⟩
theorem ok_is_within {f : Addr} {fd : FuncData} (D : Def K mg "is_within" S_is_within ["thing", "least", "most"] f fd) (B : Blt mg) (F_is_whole : FnB P w K mg base 1 "is_whole" ["thing"] (sp_is_whole K)) : FnB P w K mg base 2 "is_within" ["thing", "least", "most"] (sp_is_within K) := by
  refine D.ok sc_is_within (fun vs H Q E h => len_is_within h) (fun cdv A outer s H vs Q E hr h => ?_)
  have hu := hr.units0
  have hux := hr.units64
  exact ⟨t_is_within K, (pss_one (ps_ret (pe_and (pe_callF F_is_whole (hr.mono (by decide)) (pac_Name (pvQ v_is_within_0 rfl rfl) pa_nil)) (pe_one (pe_chain op_le op_le (pvQ v_is_within_1 rfl rfl) (pvQ v_is_within_0 rfl rfl) (pvQ v_is_within_2 rfl rfl)))))), rd_is_within h⟩
theorem ok_is_pack {f : Addr} {fd : FuncData} (D : Def K mg "is_pack" S_is_pack ["cards", "sizes"] f fd) (B : Blt mg) {t_MOST_CARDS : Tok} (m_MOST_CARDS : mg "MOST_CARDS" = some (.int 12 t_MOST_CARDS)) {t_MOST_HANDS : Tok} (m_MOST_HANDS : mg "MOST_HANDS" = some (.int 5 t_MOST_HANDS)) (F_is_within : FnB P w K mg base 2 "is_within" ["thing", "least", "most"] (sp_is_within K)) : FnB P w K mg base 3 "is_pack" ["cards", "sizes"] (sp_is_pack K) := by
  refine D.ok sc_is_pack (fun vs H Q E h => len_is_pack h) (fun cdv A outer s H vs Q E hr h => ?_)
  have hu := hr.units0
  have hux := hr.units64
  exact ⟨t_is_pack K, (pss_cons (ps_if (pt_not (pt_val (pe_callF F_is_within (hr.mono (by decide)) (pac_Name (pvQ v_is_pack_0 rfl rfl) (pac_Constant pe_int (pac_Name (pe_glob (v := (.int 12)) rfl m_MOST_CARDS ⟨_, rfl⟩) pa_nil)))))) (pss_one (ps_ret pe_bl)) pss_nil)
    (pss_cons (ps_if (PW.pt (pw_or (pt_not (pt_val (pe_callB call_isi rfl B.isinstance boot_isinstance (pac_Name (pvQ v_is_pack_1 rfl rfl) (pac_Name (pe_bltn (v := .ty "list") rfl B.list boot_list rfl) pa_nil))))) (pw_or1 (pt_not (pt_val (pe_callF F_is_within (hr.mono (by decide)) (pac_Call (pe_callB call_len_seq rfl B.len boot_len (pac_Name (pvQ v_is_pack_1 rfl rfl) pa_nil)) (pac_Constant pe_int (pac_Name (pe_glob (v := (.int 5)) rfl m_MOST_HANDS ⟨_, rfl⟩) pa_nil))))))))) (pss_one (ps_ret pe_bl)) pss_nil)
    (pss_one (ps_ret (pe_and (pe_callB (call_allL rfl) rfl B.all boot_all (pac_ListComp (pe_comp (sc := (defScope S_is_pack)) (NX := ["cards", "sizes"]) (N := ["size", "cards"]) (ix := [none, some 0]) rfl (by refine ⟨rfl, ?_, ?_, ?_, ?_, rfl, ?_⟩ <;> decide +kernel) (pi_list (pvQ v_is_pack_1 rfl rfl)) (by intros; exact (pg_name (i := 0) (show (["size", "cards"] : List Str).Nodup by decide +kernel) rfl (Or.inl rfl))) (by intros; exact ptl_nil) (by intros; exact (pe_callF F_is_within (hr.mono (by decide)) (pac_Name (pv 0) (pac_Constant pe_int (pac_Name (pv 1) pa_nil)))))) pa_nil)) (pe_one (pe_cmpR op_le (pe_callB (call_sumL rfl) rfl B.sum boot_sum (pac_Name (pvQ v_is_pack_1 rfl rfl) pa_nil)) (pvQ v_is_pack_0 rfl rfl) (nomark _)))))))), rd_is_pack h⟩
theorem ok_how_many {f : Addr} {fd : FuncData} (D : Def K mg "how_many" S_how_many ["cards", "sizes"] f fd) (B : Blt mg) (F_choices : FnB P w K mg base 1 "choices" ["many", "taken"] (sp_choices K)) (F_is_pack : FnB P w K mg base 3 "is_pack" ["cards", "sizes"] (sp_is_pack K)) : FnB P w K mg base 4 "how_many" ["cards", "sizes"] (sp_how_many K) := by
  refine D.ok sc_how_many (fun vs H Q E h => len_how_many h) (fun cdv A outer s H vs Q E hr h => ?_)
  have hu := hr.units0
  have hux := hr.units64
  exact ⟨t_how_many K, (pss_cons (ps_if (pt_not (pt_val (pe_callF F_is_pack (hr.mono (by decide)) (pac_Name (pvQ v_how_many_0 rfl rfl) (pac_Name (pvQ v_how_many_1 rfl rfl) pa_nil))))) (pss_one ps_never) pss_nil)
    (pss_cons (ps_set (i := 2) sc_how_many.nd rfl (Or.inl rfl) pe_int)
    (pss_cons (ps_set (i := 3) sc_how_many.nd rfl (Or.inl rfl) (pvQ v_how_many_0 rfl rfl))
    (pss_cons (ps_for PassesOwn.never rfl (pi_list (pvQ v_how_many_1 rfl rfl)) (pg_name (i := 4) sc_how_many.nd rfl (Or.inl rfl)) (pss_cons (ps_set (i := 2) sc_how_many.nd rfl (Or.inl rfl) (pe_op op_mulB (pvQ v_how_many_2 rfl rfl) (pe_callF F_choices (hr.mono (by decide)) (pac_Name (pvQ v_how_many_3 rfl rfl) (pac_Name (pvQ v_how_many_4 rfl rfl) pa_nil)))))
    (pss_one (ps_set (i := 3) sc_how_many.nd rfl (Or.inl rfl) (pe_op op_sub (pvQ v_how_many_3 rfl rfl) (pvQ v_how_many_4 rfl rfl))))))
    (pss_one (ps_ret (pvQ v_how_many_2 rfl rfl))))))), rd_how_many h⟩
theorem ok_choices {f : Addr} {fd : FuncData} (D : Def K mg "choices" S_choices ["many", "taken"] f fd) (B : Blt mg) : FnB P w K mg base 1 "choices" ["many", "taken"] (sp_choices K) := by
  refine D.ok sc_choices (fun vs H Q E h => len_choices h) (fun cdv A outer s H vs Q E hr h => ?_)
  have hu := hr.units0
  have hux := hr.units64
  exact ⟨t_choices K, (pss_cons (ps_set (i := 2) sc_choices.nd rfl (Or.inl rfl) pe_int)
    (pss_cons (ps_for PassesOwn.never rfl (pi_range1 rfl B.range (pac_Name (pvQ v_choices_1 rfl rfl) pa_nil)) (pg_name (i := 3) sc_choices.nd rfl (Or.inl rfl)) (pss_one (ps_set (i := 2) sc_choices.nd rfl (Or.inl rfl) (pe_op op_fdiv (pe_op op_mulB (pvQ v_choices_2 rfl rfl) (pe_op op_sub (pvQ v_choices_0 rfl rfl) (pvQ v_choices_3 rfl rfl))) (pe_op op_add (pvQ v_choices_3 rfl rfl) pe_int)))))
    (pss_one (ps_ret (pvQ v_choices_2 rfl rfl))))), rd_choices h⟩
theorem ok_deals_of {f : Addr} {fd : FuncData} (D : Def K mg "deals_of" S_deals_of ["cards", "sizes"] f fd) (B : Blt mg) {t_MOST_DEALS : Tok} (m_MOST_DEALS : mg "MOST_DEALS" = some (.int 2000 t_MOST_DEALS)) (F_how_many : FnB P w K mg base 4 "how_many" ["cards", "sizes"] (sp_how_many K)) (F_with_one_more : FnB P w K mg base 1 "with_one_more" ["begun", "room"] (sp_with_one_more K)) : FnB P w K mg base 5 "deals_of" ["cards", "sizes"] (sp_deals_of K) := by
  refine D.ok sc_deals_of (fun vs H Q E h => len_deals_of h) (fun cdv A outer s H vs Q E hr h => ?_)
  have hu := hr.units0
  have hux := hr.units64
  exact ⟨t_deals_of K, (pss_cons (ps_if (pt_cmpR op_gt (pe_callF F_how_many (hr.mono (by decide)) (pac_Name (pvQ v_deals_of_0 rfl rfl) (pac_Name (pvQ v_deals_of_1 rfl rfl) pa_nil))) (pe_glob (v := (.int 2000)) rfl m_MOST_DEALS ⟨_, rfl⟩) (nomark _)) (pss_one ps_never) pss_nil)
    (pss_cons (ps_set (i := 2) sc_deals_of.nd rfl (Or.inl rfl) (pe_op op_cat (pvQ v_deals_of_1 rfl rfl) (pe_lst (pac_BinOp (pe_op op_sub (pvQ v_deals_of_0 rfl rfl) (pe_callB (call_sumL rfl) rfl B.sum boot_sum (pac_Name (pvQ v_deals_of_1 rfl rfl) pa_nil))) pa_nil))))
    (pss_cons (ps_set (i := 3) sc_deals_of.nd rfl (Or.inl rfl) (pe_lst (pac_Tuple (pe_tup pa_nil) pa_nil)))
    (pss_cons (ps_for PassesOwn.never rfl (pi_range1 rfl B.range (pac_Name (pvQ v_deals_of_0 rfl rfl) pa_nil)) (pg_name (i := 4) sc_deals_of.nd rfl (Or.inl rfl)) (pss_one (ps_set (i := 3) sc_deals_of.nd rfl (Or.inl rfl) (pe_callF F_with_one_more (hr.mono (by decide)) (pac_Name (pvQ v_deals_of_3 rfl rfl) (pac_Name (pvQ v_deals_of_2 rfl rfl) pa_nil))))))
    (pss_one (ps_ret (pvQ v_deals_of_3 rfl rfl))))))), rd_deals_of h⟩
theorem ok_with_one_more {f : Addr} {fd : FuncData} (D : Def K mg "with_one_more" S_with_one_more ["begun", "room"] f fd) (B : Blt mg) : FnB P w K mg base 1 "with_one_more" ["begun", "room"] (sp_with_one_more K) := by
  refine D.ok sc_with_one_more (fun vs H Q E h => len_with_one_more h) (fun cdv A outer s H vs Q E hr h => ?_)
  have hu := hr.units0
  have hux := hr.units64
  exact ⟨t_with_one_more K, (pss_cons (ps_set (i := 2) sc_with_one_more.nd rfl (Or.inl rfl) (pe_lst pa_nil))
    (pss_cons (ps_for PassesOwn.never rfl (pi_list (pvQ v_with_one_more_0 rfl rfl)) (pg_name (i := 3) sc_with_one_more.nd rfl (Or.inl rfl)) (pss_one (ps_for PassesOwn.never rfl (pi_enum srcL rfl B.enumerate (by decide) (pac_Name (pvQ v_with_one_more_1 rfl rfl) pa_nil)) (pg_tup rfl (pgs_cons (pg_name (i := 4) sc_with_one_more.nd rfl (Or.inl rfl)) (pgs_cons (pg_name (i := 5) sc_with_one_more.nd rfl (Or.inl rfl)) pgs_nil))) (pss_one (ps_if (pt_cmpR op_lt (pe_bt PySem.F.plainAttrs_tuple PySem.F.slot_tuple_count PySem.F.type_tuple_count mt_countT (pvQ v_with_one_more_3 rfl rfl) (pac_Name (pvQ v_with_one_more_4 rfl rfl) pa_nil)) (pvQ v_with_one_more_5 rfl rfl) (nomark _)) (pss_one (ps_expr (pe_bm PySem.F.plainAttrs_list PySem.F.slot_list_append PySem.F.type_list_append mt_append (pvQ v_with_one_more_2 rfl rfl) (pac_BinOp (pe_op op_catG (pvQ v_with_one_more_3 rfl rfl) (pe_tup (pac_Name (pvQ v_with_one_more_4 rfl rfl) pa_nil))) pa_nil)))) pss_nil)))))
    (pss_one (ps_ret (pvQ v_with_one_more_2 rfl rfl))))), rd_with_one_more h⟩
theorem ok_cards_of {f : Addr} {fd : FuncData} (D : Def K mg "cards_of" S_cards_of ["deal", "who"] f fd) (B : Blt mg) : FnB P w K mg base 1 "cards_of" ["deal", "who"] (sp_cards_of K) := by
  refine D.ok sc_cards_of (fun vs H Q E h => len_cards_of h) (fun cdv A outer s H vs Q E hr h => ?_)
  have hu := hr.units0
  have hux := hr.units64
  exact ⟨t_cards_of K, (pss_one (ps_ret (pe_callTy call_tuple_of rfl B.tuple boot_tuple (pac_ListComp (pe_comp (sc := (defScope S_cards_of)) (NX := ["deal", "who"]) (N := ["card", "holder", "who"]) (ix := [none, none, some 1]) rfl (by refine ⟨rfl, ?_, ?_, ?_, ?_, rfl, ?_⟩ <;> decide +kernel) (pi_enum srcT rfl B.enumerate (by decide) (pac_Name (pvQ v_cards_of_0 rfl rfl) pa_nil)) (by intros; exact (pg_tup rfl (pgs_cons (pg_name (i := 0) (show (["card", "holder", "who"] : List Str).Nodup by decide +kernel) rfl (Or.inl rfl)) (pgs_cons (pg_name (i := 1) (show (["card", "holder", "who"] : List Str).Nodup by decide +kernel) rfl (Or.inl rfl)) pgs_nil)))) (by intros; exact (ptl_one (pt_cmpR op_eq (pv 1) (pv 2) (nomark _)))) (by intros; exact (pv 0))) pa_nil)))), rd_cards_of h⟩
theorem ok_is_code {f : Addr} {fd : FuncData} (D : Def K mg "is_code" S_is_code ["cards", "sizes", "hand", "words"] f fd) (B : Blt mg) (F_holdings_of : FnB P w K mg base 6 "holdings_of" ["cards", "sizes", "hand"] (sp_holdings_of K)) (F_is_list_of_tuples : FnB P w K mg base 3 "is_list_of_tuples" ["thing"] (sp_is_list_of_tuples K)) : FnB P w K mg base 7 "is_code" ["cards", "sizes", "hand", "words"] (sp_is_code K) := by
  refine D.ok sc_is_code (fun vs H Q E h => len_is_code h) (fun cdv A outer s H vs Q E hr h => ?_)
  have hu := hr.units0
  have hux := hr.units64
  exact ⟨t_is_code K, (pss_cons (ps_if (PW.pt (pw_or (pt_not (pt_val (pe_callB call_isi rfl B.isinstance boot_isinstance (pac_Name (pvQ v_is_code_3 rfl rfl) (pac_Name (pe_bltn (v := .ty "list") rfl B.list boot_list rfl) pa_nil))))) (pw_or1 (pt_not (pt_val (pe_callB (call_allL rfl) rfl B.all boot_all (pac_ListComp (pe_comp (sc := (defScope S_is_code)) (NX := ["cards", "sizes", "hand", "words", "said", "word"]) (N := ["word"]) (ix := [none]) rfl (by refine ⟨rfl, ?_, ?_, ?_, ?_, rfl, ?_⟩ <;> decide +kernel) (pi_list (pvQ v_is_code_3 rfl rfl)) (by intros; exact (pg_name (i := 0) (show (["word"] : List Str).Nodup by decide +kernel) rfl (Or.inl rfl))) (by intros; exact ptl_nil) (by intros; exact (pe_callF F_is_list_of_tuples (hr.mono (by decide)) (pac_Name (pv 0) pa_nil)))) pa_nil))))))) (pss_one (ps_ret pe_bl)) pss_nil)
    (pss_cons (ps_set (i := 4) sc_is_code.nd rfl (Or.inl rfl) (pm_lst pa_nil))
    (pss_cons (ps_for PassesOwn.never rfl (pi_list (pvQ v_is_code_3 rfl rfl)) (pg_name (i := 5) sc_is_code.nd rfl (Or.inl rfl)) (pss_one (ps_expr (pe_bm PySem.F.plainAttrs_list PySem.F.slot_list_extend PySem.F.type_list_extend mt_extend (pvQ v_is_code_4 rfl rfl) (pac_Name (pvQ v_is_code_5 rfl rfl) pa_nil)))))
    (pss_one (ps_ret (pe_cmpR (op_eqR hux) (pe_callB (call_sortE hux) rfl B.sorted boot_sorted (pac_Name (pvQ v_is_code_4 rfl rfl) pa_nil)) (pe_callF F_holdings_of (hr.mono (by decide)) (pac_Name (pvQ v_is_code_0 rfl rfl) (pac_Name (pvQ v_is_code_1 rfl rfl) (pac_Name (pvQ v_is_code_2 rfl rfl) pa_nil)))) (nomark _))))))), rd_is_code h⟩
theorem ok_is_list_of_tuples {f : Addr} {fd : FuncData} (D : Def K mg "is_list_of_tuples" S_is_list_of_tuples ["thing"] f fd) (B : Blt mg) (F_is_tuple_of_numbers : FnB P w K mg base 2 "is_tuple_of_numbers" ["thing"] (sp_is_tuple_of_numbers K)) : FnB P w K mg base 3 "is_list_of_tuples" ["thing"] (sp_is_list_of_tuples K) := by
  refine D.ok sc_is_list_of_tuples (fun vs H Q E h => len_is_list_of_tuples h) (fun cdv A outer s H vs Q E hr h => ?_)
  have hu := hr.units0
  have hux := hr.units64
  exact ⟨t_is_list_of_tuples K, (pss_one (ps_ret (pe_and (pe_callB call_isi rfl B.isinstance boot_isinstance (pac_Name (pvQ v_is_list_of_tuples_0 rfl rfl) (pac_Name (pe_bltn (v := .ty "list") rfl B.list boot_list rfl) pa_nil))) (pe_one (pe_callB (call_allL rfl) rfl B.all boot_all (pac_ListComp (pe_comp (sc := (defScope S_is_list_of_tuples)) (NX := ["thing"]) (N := ["part"]) (ix := [none]) rfl (by refine ⟨rfl, ?_, ?_, ?_, ?_, rfl, ?_⟩ <;> decide +kernel) (pi_list (pvQ v_is_list_of_tuples_0 rfl rfl)) (by intros; exact (pg_name (i := 0) (show (["part"] : List Str).Nodup by decide +kernel) rfl (Or.inl rfl))) (by intros; exact ptl_nil) (by intros; exact (pe_callF F_is_tuple_of_numbers (hr.mono (by decide)) (pac_Name (pv 0) pa_nil)))) pa_nil)))))), rd_is_list_of_tuples h⟩
theorem ok_is_tuple_of_numbers {f : Addr} {fd : FuncData} (D : Def K mg "is_tuple_of_numbers" S_is_tuple_of_numbers ["thing"] f fd) (B : Blt mg) (F_is_whole : FnB P w K mg base 1 "is_whole" ["thing"] (sp_is_whole K)) : FnB P w K mg base 2 "is_tuple_of_numbers" ["thing"] (sp_is_tuple_of_numbers K) := by
  refine D.ok sc_is_tuple_of_numbers (fun vs H Q E h => len_is_tuple_of_numbers h) (fun cdv A outer s H vs Q E hr h => ?_)
  have hu := hr.units0
  have hux := hr.units64
  exact ⟨t_is_tuple_of_numbers K, (pss_one (ps_ret (pe_and (pe_callB call_isi rfl B.isinstance boot_isinstance (pac_Name (pvQ v_is_tuple_of_numbers_0 rfl rfl) (pac_Name (pe_bltn (v := .ty "tuple") rfl B.tuple boot_tuple rfl) pa_nil))) (pe_one (pe_callB (call_allL rfl) rfl B.all boot_all (pac_ListComp (pe_comp (sc := (defScope S_is_tuple_of_numbers)) (NX := ["thing"]) (N := ["part"]) (ix := [none]) rfl (by refine ⟨rfl, ?_, ?_, ?_, ?_, rfl, ?_⟩ <;> decide +kernel) (pi_tup (pvQ v_is_tuple_of_numbers_0 rfl rfl)) (by intros; exact (pg_name (i := 0) (show (["part"] : List Str).Nodup by decide +kernel) rfl (Or.inl rfl))) (by intros; exact ptl_nil) (by intros; exact (pe_callF F_is_whole (hr.mono (by decide)) (pac_Name (pv 0) pa_nil)))) pa_nil)))))), rd_is_tuple_of_numbers h⟩
theorem ok_holdings_of {f : Addr} {fd : FuncData} (D : Def K mg "holdings_of" S_holdings_of ["cards", "sizes", "hand"] f fd) (B : Blt mg) (F_cards_of : FnB P w K mg base 1 "cards_of" ["deal", "who"] (sp_cards_of K)) (F_deals_of : FnB P w K mg base 5 "deals_of" ["cards", "sizes"] (sp_deals_of K)) : FnB P w K mg base 6 "holdings_of" ["cards", "sizes", "hand"] (sp_holdings_of K) := by
  refine D.ok sc_holdings_of (fun vs H Q E h => len_holdings_of h) (fun cdv A outer s H vs Q E hr h => ?_)
  have hu := hr.units0
  have hux := hr.units64
  exact ⟨t_holdings_of K, (pss_one (ps_ret (pe_comp (sc := (defScope S_holdings_of)) (NX := ["cards", "sizes", "hand"]) (N := ["deal"]) (ix := [none]) rfl (by refine ⟨rfl, ?_, ?_, ?_, ?_, rfl, ?_⟩ <;> decide +kernel) (pi_list (pe_callF F_deals_of (hr.mono (by decide)) (pac_Name (pvQ v_holdings_of_0 rfl rfl) (pac_List (pm_lst (pac_Subscript (pe_ix ix_list (pvQ v_holdings_of_1 rfl rfl) (pvQ v_holdings_of_2 rfl rfl) (fun _ _ => rfl)) pa_nil)) pa_nil)))) (by intros; exact (pg_name (i := 0) (show (["deal"] : List Str).Nodup by decide +kernel) rfl (Or.inl rfl))) (by intros; exact ptl_nil) (by intros; exact (pe_callF F_cards_of (hr.mono (by decide)) (pac_Name (pv 0) (pac_Constant pe_int pa_nil))))))), rd_holdings_of h⟩
theorem ok__law_cell {f : Addr} {fd : FuncData} (D : Def K mg "_law_cell" S__law_cell ["_law_script", "_law_k"] f fd) (B : Blt mg) : FnB P w K mg base 1 "_law_cell" ["_law_script", "_law_k"] (sp__law_cell_l K) := by
  refine D.ok sc__law_cell (fun vs H Q E h => len__law_cell_l h) (fun cdv A outer s H vs Q E hr h => ?_)
  have hu := hr.units0
  have hux := hr.units64
  exact ⟨t__law_cell_l K, (pss_cons (ps_if (pt_cmpR op_lt (pvQ v__law_cell_1 rfl rfl) (pe_callB call_len_seq rfl B.len boot_len (pac_Name (pvQ v__law_cell_0 rfl rfl) pa_nil)) (nomark _)) (pss_one (ps_ret (pe_ix ix_list (pvQ v__law_cell_0 rfl rfl) (pvQ v__law_cell_1 rfl rfl) (fun _ _ => rfl)))) pss_nil)
    (pss_cons (ps_set (i := 2) sc__law_cell.nd rfl (Or.inl rfl) (pe_op op_add (pe_op op_mulB (pvQ v__law_cell_1 rfl rfl) pe_int) pe_int))
    (pss_cons (ps_if (pt_cmpR op_gt (pe_callB call_len_seq rfl B.len boot_len (pac_Name (pvQ v__law_cell_0 rfl rfl) pa_nil)) pe_int (nomark _)) (pss_one (ps_set (i := 2) sc__law_cell.nd rfl (Or.inl rfl) (pe_op op_add (pe_op op_mulB (pe_op op_mod (pe_ix ix_list (pvQ v__law_cell_0 rfl rfl) (pe_op op_mod (pe_op op_mulB (pvQ v__law_cell_1 rfl rfl) pe_int) (pe_callB call_len_seq rfl B.len boot_len (pac_Name (pvQ v__law_cell_0 rfl rfl) pa_nil))) (fun _ _ => rfl)) pe_int) pe_int) (pe_op op_mulB (pvQ v__law_cell_1 rfl rfl) pe_int)))) pss_nil)
    (pss_cons (ps_set (i := 2) sc__law_cell.nd rfl (Or.inl rfl) (pe_op op_mod (pe_op op_mulB (pvQ v__law_cell_2 rfl rfl) (pvQ v__law_cell_2 rfl rfl)) pe_int))
    (pss_one (ps_ret (pe_op op_mod (pe_op op_mulB (pvQ v__law_cell_2 rfl rfl) (pe_op op_add (pvQ v__law_cell_2 rfl rfl) pe_int)) pe_int))))))), rd__law_cell_l h⟩
theorem ok__law_mixed {f : Addr} {fd : FuncData} (D : Def K mg "_law_mixed" S__law_mixed ["_law_cell_here", "_law_k"] f fd) (B : Blt mg) : FnB P w K mg base 1 "_law_mixed" ["_law_cell_here", "_law_k"] (sp__law_mixed_l K) := by
  refine D.ok sc__law_mixed (fun vs H Q E h => len__law_mixed_l h) (fun cdv A outer s H vs Q E hr h => ?_)
  have hu := hr.units0
  have hux := hr.units64
  exact ⟨t__law_mixed_l K, (pss_cons (ps_set (i := 2) sc__law_mixed.nd rfl (Or.inl rfl) (pe_op op_mod (pe_op op_add (pe_op op_add (pe_op op_mulB (pe_op op_mod (pvQ v__law_mixed_0 rfl rfl) pe_int) pe_int) (pe_op op_mulB (pvQ v__law_mixed_1 rfl rfl) pe_int)) pe_int) pe_int))
    (pss_cons (ps_set (i := 2) sc__law_mixed.nd rfl (Or.inl rfl) (pe_op op_mod (pe_op op_mulB (pvQ v__law_mixed_2 rfl rfl) (pe_op op_add (pvQ v__law_mixed_2 rfl rfl) pe_int)) pe_int))
    (pss_one (ps_ret (pe_op op_mod (pe_op op_mulB (pvQ v__law_mixed_2 rfl rfl) (pe_op op_add (pvQ v__law_mixed_2 rfl rfl) pe_int)) pe_int))))), rd__law_mixed_l h⟩
theorem ok__law_pack {f : Addr} {fd : FuncData} (D : Def K mg "_law_pack" S__law_pack ["_law_cell_here"] f fd) (B : Blt mg) : FnB P w K mg base 1 "_law_pack" ["_law_cell_here"] (sp__law_pack_l K) := by
  refine D.ok sc__law_pack (fun vs H Q E h => len__law_pack_l h) (fun cdv A outer s H vs Q E hr h => ?_)
  have hu := hr.units0
  have hux := hr.units64
  exact ⟨t__law_pack_l K, (pss_cons (ps_set (i := 1) sc__law_pack.nd rfl (Or.inl rfl) (pm_lst (pac_Tuple (pm_tup (pac_Constant pe_int (pac_List (pm_lst (pac_Constant pe_int (pac_Constant pe_int pa_nil))) pa_nil))) (pac_Tuple (pm_tup (pac_Constant pe_int (pac_List (pm_lst (pac_Constant pe_int pa_nil)) pa_nil))) (pac_Tuple (pm_tup (pac_Constant pe_int (pac_List (pm_lst (pac_Constant pe_int (pac_Constant pe_int (pac_Constant pe_int pa_nil)))) pa_nil))) (pac_Tuple (pm_tup (pac_Constant pe_int (pac_List (pm_lst (pac_Constant pe_int (pac_Constant pe_int (pac_Constant pe_int pa_nil)))) pa_nil))) (pac_Tuple (pm_tup (pac_Constant pe_int (pac_List (pm_lst (pac_Constant pe_int (pac_Constant pe_int (pac_Constant pe_int pa_nil)))) pa_nil))) (pac_Tuple (pm_tup (pac_Constant pe_int (pac_List (pm_lst (pac_Constant pe_int (pac_Constant pe_int (pac_Constant pe_int pa_nil)))) pa_nil))) (pac_Tuple (pm_tup (pac_Constant pe_int (pac_List (pm_lst (pac_Constant pe_int (pac_Constant pe_int (pac_Constant pe_int pa_nil)))) pa_nil))) pa_nil)))))))))
    (pss_cons (ps_set (i := 1) sc__law_pack.nd rfl (Or.inl rfl) (pe_op om_cat (pvQ v__law_pack_1 rfl rfl) (pm_lst (pac_Tuple (pm_tup (pac_Constant pe_int (pac_List (pm_lst (pac_Constant pe_int (pac_Constant pe_int pa_nil))) pa_nil))) (pac_Tuple (pm_tup (pac_Constant pe_int (pac_List (pm_lst (pac_Constant pe_int (pac_Constant pe_int (pac_Constant pe_int pa_nil)))) pa_nil))) (pac_Tuple (pm_tup (pac_Constant pe_int (pac_List (pm_lst (pac_Constant pe_int (pac_Constant pe_int (pac_Constant pe_int pa_nil)))) pa_nil))) (pac_Tuple (pm_tup (pac_Constant pe_int (pac_List (pm_lst (pac_Constant pe_int (pac_Constant pe_int (pac_Constant pe_int pa_nil)))) pa_nil))) (pac_Tuple (pm_tup (pac_Constant pe_int (pac_List (pm_lst (pac_Constant pe_int (pac_Constant pe_int (pac_Constant pe_int (pac_Constant pe_int (pac_Constant pe_int pa_nil)))))) pa_nil))) (pac_Tuple (pm_tup (pac_Constant pe_int (pac_List (pm_lst (pac_Constant pe_int (pac_Constant pe_int (pac_Constant pe_int (pac_Constant pe_int pa_nil))))) pa_nil))) pa_nil)))))))))
    (pss_cons (ps_set (i := 1) sc__law_pack.nd rfl (Or.inl rfl) (pe_op om_cat (pvQ v__law_pack_1 rfl rfl) (pm_lst (pac_Tuple (pm_tup (pac_Constant pe_int (pac_List (pm_lst (pac_Constant pe_int pa_nil)) pa_nil))) (pac_Tuple (pm_tup (pac_Constant pe_int (pac_List (pm_lst (pac_Constant pe_int (pac_Constant pe_int pa_nil))) pa_nil))) (pac_Tuple (pm_tup (pac_Constant pe_int (pac_List (pm_lst (pac_Constant pe_int (pac_Constant pe_int pa_nil))) pa_nil))) pa_nil))))))
    (pss_cons (ps_if (pt_cmpR op_eq (pe_op op_mod (pe_op op_fdiv (pvQ v__law_pack_0 rfl rfl) pe_int) pe_int) pe_int (nomark _)) (pss_one (ps_ret (pe_ix ix_list (pm_lst (pac_Tuple (pm_tup (pac_Constant pe_int (pac_List (pm_lst (pac_Constant pe_int (pac_Constant pe_int (pac_Constant pe_int pa_nil)))) pa_nil))) (pac_Tuple (pm_tup (pac_Constant pe_int (pac_List (pm_lst (pac_Constant pe_int (pac_Constant pe_int (pac_Constant pe_int (pac_Constant pe_int pa_nil))))) pa_nil))) (pac_Tuple (pm_tup (pac_Constant pe_int (pac_List (pm_lst (pac_Constant pe_int (pac_Constant pe_int (pac_Constant pe_int pa_nil)))) pa_nil))) (pac_Tuple (pm_tup (pac_Constant pe_int (pac_List (pm_lst (pac_Constant pe_int (pac_Constant pe_int pa_nil))) pa_nil))) pa_nil))))) (pe_op op_mod (pe_op op_fdiv (pvQ v__law_pack_0 rfl rfl) pe_int) pe_int) (fun _ _ => rfl)))) pss_nil)
    (pss_one (ps_ret (pe_ix ix_list (pvQ v__law_pack_1 rfl rfl) (pe_op op_mod (pvQ v__law_pack_0 rfl rfl) pe_int) (fun _ _ => rfl)))))))), rd__law_pack_l h⟩
theorem ok__law_holdings {f : Addr} {fd : FuncData} (D : Def K mg "_law_holdings" S__law_holdings ["_law_cards", "_law_size"] f fd) (B : Blt mg) : FnB P w K mg base 1 "_law_holdings" ["_law_cards", "_law_size"] (sp__law_holdings K) := by
  refine D.ok sc__law_holdings (fun vs H Q E h => len__law_holdings h) (fun cdv A outer s H vs Q E hr h => ?_)
  have hu := hr.units0
  have hux := hr.units64
  exact ⟨t__law_holdings K, (pss_cons (ps_set (i := 2) sc__law_holdings.nd rfl (Or.inl rfl) (pm_lst pa_nil))
    (pss_cons (ps_for PassesOwn.never rfl (pi_range1 rfl B.range (pac_BinOp (pe_op op_shl pe_int (pvQ v__law_holdings_0 rfl rfl)) pa_nil)) (pg_name (i := 3) sc__law_holdings.nd rfl (Or.inr rfl)) (pss_cons (ps_set (i := 4) sc__law_holdings.nd rfl (Or.inl rfl) (pe_callTy cm_tuple rfl B.tuple boot_tuple (pac_ListComp (pe_comp (sc := (defScope S__law_holdings)) (NX := ["_law_cards", "_law_size", "_law_found", "_law_bits", "_law_held"]) (N := ["_law_card", "_law_bits"]) (ix := [none, some 3]) rfl (by refine ⟨rfl, ?_, ?_, ?_, ?_, rfl, ?_⟩ <;> decide +kernel) (pi_range1 rfl B.range (pac_Name (pvQ v__law_holdings_0 rfl rfl) pa_nil)) (by intros; exact (pg_name (i := 0) (show (["_law_card", "_law_bits"] : List Str).Nodup by decide +kernel) rfl (Or.inl rfl))) (by intros; exact (ptl_one (pt_cmpR op_eq (pe_op op_and (pe_op op_shr (pv 1) (pv 0)) pe_int) pe_int (nomark _)))) (by intros; exact (pv 0))) pa_nil)))
    (pss_one (ps_if (pt_cmpR op_eq (pe_callB call_len_seq rfl B.len boot_len (pac_Name (pvQ v__law_holdings_4 rfl rfl) pa_nil)) (pvQ v__law_holdings_1 rfl rfl) (nomark _)) (pss_one (ps_expr (pe_bm PySem.F.plainAttrs_list PySem.F.slot_list_append PySem.F.type_list_append mt_append (pvQ v__law_holdings_2 rfl rfl) (pac_Name (pvQ v__law_holdings_4 rfl rfl) pa_nil)))) pss_nil))))
    (pss_one (ps_ret (pvQ v__law_holdings_2 rfl rfl))))), rd__law_holdings h⟩
theorem ok__law_lists {f : Addr} {fd : FuncData} (D : Def K mg "_law_lists" S__law_lists ["_law_cell_here", "_law_holdings_here"] f fd) (B : Blt mg) (F__law_mixed : FnB P w K mg base 1 "_law_mixed" ["_law_cell_here", "_law_k"] (sp__law_mixed_l K)) : FnB P w K mg base 2 "_law_lists" ["_law_cell_here", "_law_holdings_here"] (sp__law_lists K) := by
  refine D.ok sc__law_lists (fun vs H Q E h => len__law_lists h) (fun cdv A outer s H vs Q E hr h => ?_)
  have hu := hr.units0
  have hux := hr.units64
  exact ⟨t__law_lists K, (pss_cons (ps_set (i := 2) sc__law_lists.nd rfl (Or.inl rfl) (pe_op op_add pe_int (pe_op op_mod (pe_op op_fdiv (pvQ v__law_lists_0 rfl rfl) pe_int) pe_int)))
    (pss_cons (ps_if (pt_cmpR op_eq (pe_op op_mod (pvQ v__law_lists_0 rfl rfl) pe_int) pe_int (nomark _)) (pss_one (ps_set (i := 2) sc__law_lists.nd rfl (Or.inl rfl) (pe_callB call_len_seq rfl B.len boot_len (pac_Name (pvQ v__law_lists_1 rfl rfl) pa_nil)))) pss_nil)
    (pss_cons (ps_setComp (i := 3) sc__law_lists.nd rfl rfl (sc := (defScope S__law_lists)) (NX := ["_law_cell_here", "_law_holdings_here", "_law_many", "_law_made", "_law_k", "_law_number"]) (N := ["_law_k"]) (ix := [none]) rfl (by refine ⟨rfl, ?_, ?_, ?_, ?_, rfl, ?_⟩ <;> decide +kernel) (pi_range1 rfl B.range (pac_Name (pvQ v__law_lists_2 rfl rfl) pa_nil)) (by intros; exact (pg_name (i := 0) (show (["_law_k"] : List Str).Nodup by decide +kernel) rfl (Or.inl rfl))) (by intros; exact ptl_nil) (by intros; exact (pm_lst pa_nil)))
    (pss_cons (ps_for PassesOwn.never rfl (pi_range1 rfl B.range (pac_Call (pe_callB call_len_seq rfl B.len boot_len (pac_Name (pvQ v__law_lists_1 rfl rfl) pa_nil)) pa_nil)) (pg_name (i := 4) sc__law_lists.nd rfl (Or.inl rfl)) (pss_cons (ps_set (i := 5) sc__law_lists.nd rfl (Or.inl rfl) (pe_op op_mod (pe_ix ix_list (pm_lst (pac_Call (pe_callB (call_sumT rfl) rfl B.sum boot_sum (pac_Subscript (pe_ix ix_list (pvQ v__law_lists_1 rfl rfl) (pvQ v__law_lists_4 rfl rfl) (fun _ _ => rfl)) pa_nil)) (pac_Name (pvQ v__law_lists_4 rfl rfl) (pac_Call (pe_callF F__law_mixed (hr.mono (by decide)) (pac_Name (pvQ v__law_lists_0 rfl rfl) (pac_Name (pvQ v__law_lists_4 rfl rfl) pa_nil))) pa_nil)))) (pe_op op_mod (pvQ v__law_lists_0 rfl rfl) pe_int) (fun _ _ => rfl)) (pvQ v__law_lists_2 rfl rfl)))
    (pss_one (ps_expr (pe_bm PySem.F.plainAttrs_list PySem.F.slot_list_insert PySem.F.type_list_insert mt_insert (pe_ix ix_list (pvQ v__law_lists_3 rfl rfl) (pvQ v__law_lists_5 rfl rfl) (fun _ _ => rfl)) (pac_BinOp (pe_op op_mod (pe_callF F__law_mixed (hr.mono (by decide)) (pac_Name (pvQ v__law_lists_0 rfl rfl) (pac_BinOp (pe_op op_add (pvQ v__law_lists_4 rfl rfl) pe_int) pa_nil))) (pe_op op_add (pe_callB call_len_seq rfl B.len boot_len (pac_Subscript (pe_ix ix_list (pvQ v__law_lists_3 rfl rfl) (pvQ v__law_lists_5 rfl rfl) (fun _ _ => rfl)) pa_nil)) pe_int)) (pac_Subscript (pe_ix ix_list (pvQ v__law_lists_1 rfl rfl) (pvQ v__law_lists_4 rfl rfl) (fun _ _ => rfl)) pa_nil)))))))
    (pss_one (ps_ret (pvQ v__law_lists_3 rfl rfl))))))), rd__law_lists h⟩
theorem ok__law_otherwise {f : Addr} {fd : FuncData} (D : Def K mg "_law_otherwise" S__law_otherwise ["_law_lists_here", "_law_cell_here", "_law_cards"] f fd) (B : Blt mg) : FnB P w K mg base 1 "_law_otherwise" ["_law_lists_here", "_law_cell_here", "_law_cards"] (sp__law_otherwise K) := by
  refine D.ok sc__law_otherwise (fun vs H Q E h => len__law_otherwise h) (fun cdv A outer s H vs Q E hr h => ?_)
  have hu := hr.units0
  have hux := hr.units64
  exact ⟨t__law_otherwise K, (pss_cons (ps_set (i := 3) sc__law_otherwise.nd rfl (Or.inr rfl) (pe_comp (sc := (defScope S__law_otherwise)) (NX := ["_law_lists_here", "_law_cell_here", "_law_cards", "_law_made", "_law_full", "_law_at", "_law_spot", "_law_held", "_law_way", "_law_last"]) (N := ["_law_some"]) (ix := [none]) rfl (by refine ⟨rfl, ?_, ?_, ?_, ?_, rfl, ?_⟩ <;> decide +kernel) (pi_list (pvQ v__law_otherwise_0 rfl rfl)) (by intros; exact (pg_name (i := 0) (show (["_law_some"] : List Str).Nodup by decide +kernel) rfl (Or.inl rfl))) (by intros; exact ptl_nil) (by intros; exact (pe_callTy cm_list rfl B.list boot_list (pac_Name (pv 0) pa_nil)))))
    (pss_cons (ps_setComp (i := 4) sc__law_otherwise.nd rfl rfl (sc := (defScope S__law_otherwise)) (NX := ["_law_lists_here", "_law_cell_here", "_law_cards", "_law_made", "_law_full", "_law_at", "_law_spot", "_law_held", "_law_way", "_law_last"]) (N := ["_law_k", "_law_made"]) (ix := [none, some 3]) rfl (by refine ⟨rfl, ?_, ?_, ?_, ?_, rfl, ?_⟩ <;> decide +kernel) (pi_range1 rfl B.range (pac_Call (pe_callB call_len_seq rfl B.len boot_len (pac_Name (pvQ v__law_otherwise_3 rfl rfl) pa_nil)) pa_nil)) (by intros; exact (pg_name (i := 0) (show (["_law_k", "_law_made"] : List Str).Nodup by decide +kernel) rfl (Or.inl rfl))) (by intros; exact (ptl_one (pt_cmpR (op_neL hu) (pe_ix ix_list (pv 1) (pv 0) (fun _ _ => rfl)) (pm_lst pa_nil) (nomark _)))) (by intros; exact (pv 0)))
    (pss_cons (ps_set (i := 5) sc__law_otherwise.nd rfl (Or.inl rfl) (pe_ix ix_list (pvQ v__law_otherwise_4 rfl rfl) (pe_op op_mod (pe_op op_fdiv (pvQ v__law_otherwise_1 rfl rfl) pe_int) (pe_callB call_len_seq rfl B.len boot_len (pac_Name (pvQ v__law_otherwise_4 rfl rfl) pa_nil))) (fun _ _ => rfl)))
    (pss_cons (ps_set (i := 6) sc__law_otherwise.nd rfl (Or.inl rfl) (pe_op op_mod (pe_op op_fdiv (pvQ v__law_otherwise_1 rfl rfl) pe_int) (pe_callB call_len_seq rfl B.len boot_len (pac_Subscript (pe_ix ix_list (pvQ v__law_otherwise_3 rfl rfl) (pvQ v__law_otherwise_5 rfl rfl) (fun _ _ => rfl)) pa_nil))))
    (pss_cons (ps_set (i := 7) sc__law_otherwise.nd rfl (Or.inl rfl) (pe_ix ix_list (pe_ix ix_list (pvQ v__law_otherwise_3 rfl rfl) (pvQ v__law_otherwise_5 rfl rfl) (fun _ _ => rfl)) (pvQ v__law_otherwise_6 rfl rfl) (fun _ _ => rfl)))
    (pss_cons (ps_set (i := 8) sc__law_otherwise.nd rfl (Or.inl rfl) (pe_op op_mod (pvQ v__law_otherwise_1 rfl rfl) pe_int))
    (pss_cons (ps_if (pt_cmpR op_eq (pvQ v__law_otherwise_8 rfl rfl) pe_int (nomark _)) (pss_one (ps_expr (pe_bm PySem.F.plainAttrs_list PySem.F.slot_list_insert PySem.F.type_list_insert mt_insert (pvQ v__law_otherwise_3 rfl rfl) (pac_BinOp (pe_op op_mod (pe_op op_fdiv (pvQ v__law_otherwise_1 rfl rfl) pe_int) (pe_op op_add (pe_callB call_len_seq rfl B.len boot_len (pac_Name (pvQ v__law_otherwise_3 rfl rfl) pa_nil)) pe_int)) (pac_List (pm_lst pa_nil) pa_nil))))) pss_nil)
    (pss_cons (ps_if (pt_cmpR op_eq (pvQ v__law_otherwise_8 rfl rfl) pe_int (nomark _)) (pss_cons (ps_set (i := 9) sc__law_otherwise.nd rfl (Or.inl rfl) (pe_bm0 PySem.F.plainAttrs_list PySem.F.slot_list_pop PySem.F.type_list_pop mt_pop (pvQ v__law_otherwise_3 rfl rfl)))
    (pss_one (ps_set (i := 3) sc__law_otherwise.nd rfl (Or.inr rfl) (pe_op om_cat (pe_slice sm_list (pvQ v__law_otherwise_3 rfl rfl) po_none (po_some (pe_un un_neg pe_int))) (pm_lst (pac_BinOp (pe_op om_cat (pe_ix ix_list (pe_op om_cat (pvQ v__law_otherwise_3 rfl rfl) (pm_lst (pac_List (pm_lst pa_nil) pa_nil))) (pe_op op_sub (pe_callB call_len_seq rfl B.len boot_len (pac_Name (pvQ v__law_otherwise_3 rfl rfl) pa_nil)) pe_int) (fun _ _ => rfl)) (pvQ v__law_otherwise_9 rfl rfl)) pa_nil)))))) pss_nil)
    (pss_cons (ps_if (pt_cmpR op_eq (pvQ v__law_otherwise_8 rfl rfl) pe_int (nomark _)) (pss_one (ps_expr (pe_bm PySem.F.plainAttrs_list PySem.F.slot_list_pop PySem.F.type_list_pop mt_popAt (pe_ix ix_list (pvQ v__law_otherwise_3 rfl rfl) (pvQ v__law_otherwise_5 rfl rfl) (fun _ _ => rfl)) (pac_Name (pvQ v__law_otherwise_6 rfl rfl) pa_nil)))) pss_nil)
    (pss_cons (ps_if (pt_cmpR op_eq (pvQ v__law_otherwise_8 rfl rfl) pe_int (nomark _)) (pss_one (ps_expr (pe_bm PySem.F.plainAttrs_list PySem.F.slot_list_append PySem.F.type_list_append mt_append (pe_ix ix_list (pvQ v__law_otherwise_3 rfl rfl) (pe_op op_mod (pe_op op_fdiv (pvQ v__law_otherwise_1 rfl rfl) pe_int) (pe_callB call_len_seq rfl B.len boot_len (pac_Name (pvQ v__law_otherwise_3 rfl rfl) pa_nil))) (fun _ _ => rfl)) (pac_Name (pvQ v__law_otherwise_7 rfl rfl) pa_nil)))) pss_nil)
    (pss_cons (ps_if (pt_cmpR op_eq (pvQ v__law_otherwise_8 rfl rfl) pe_int (nomark _)) (pss_one (ps_asg (pe_revT (pvQ v__law_otherwise_7 rfl rfl) (po_some (pe_un un_neg pe_int))) (pg_sub (pe_ix ix_list (pvQ v__law_otherwise_3 rfl rfl) (pvQ v__law_otherwise_5 rfl rfl) (fun _ _ => rfl)) (pvQ v__law_otherwise_6 rfl rfl) set_list))) pss_nil)
    (pss_cons (ps_if (pt_cmpR op_eq (pvQ v__law_otherwise_8 rfl rfl) pe_int (nomark _)) (pss_one (ps_asg (pe_slice sm_tupW (pvQ v__law_otherwise_7 rfl rfl) po_none (po_some (pe_un un_neg pe_int))) (pg_sub (pe_ix ix_list (pvQ v__law_otherwise_3 rfl rfl) (pvQ v__law_otherwise_5 rfl rfl) (fun _ _ => rfl)) (pvQ v__law_otherwise_6 rfl rfl) set_list))) pss_nil)
    (pss_cons (ps_if (pt_cmpR op_eq (pvQ v__law_otherwise_8 rfl rfl) pe_int (nomark _)) (pss_one (ps_asg (pe_op om_catT (pvQ v__law_otherwise_7 rfl rfl) (pm_tup (pac_Name (pvQ v__law_otherwise_2 rfl rfl) pa_nil))) (pg_sub (pe_ix ix_list (pvQ v__law_otherwise_3 rfl rfl) (pvQ v__law_otherwise_5 rfl rfl) (fun _ _ => rfl)) (pvQ v__law_otherwise_6 rfl rfl) set_list))) pss_nil)
    (pss_cons (ps_if (pt_cmpR op_eq (pvQ v__law_otherwise_8 rfl rfl) pe_int (nomark _)) (pss_one (ps_asg (pe_op om_catT (pe_slice sm_tupW (pvQ v__law_otherwise_7 rfl rfl) po_none (po_some (pe_un un_neg pe_int))) (pm_tup (pac_BinOp (pe_op op_add (pvQ v__law_otherwise_2 rfl rfl) (pe_op op_mod (pe_op op_fdiv (pvQ v__law_otherwise_1 rfl rfl) pe_int) (pe_op op_pow pe_int pe_int))) pa_nil))) (pg_sub (pe_ix ix_list (pvQ v__law_otherwise_3 rfl rfl) (pvQ v__law_otherwise_5 rfl rfl) (fun _ _ => rfl)) (pvQ v__law_otherwise_6 rfl rfl) set_list))) pss_nil)
    (pss_cons (ps_if (pt_cmpR op_eq (pvQ v__law_otherwise_8 rfl rfl) pe_int (nomark _)) (pss_one (ps_asg (pe_op om_catT (pm_tup (pac_BinOp (pe_op op_sub (pe_un un_neg pe_int) (pe_op op_mod (pe_op op_fdiv (pvQ v__law_otherwise_1 rfl rfl) pe_int) pe_int)) pa_nil)) (pe_slice sm_tupW (pvQ v__law_otherwise_7 rfl rfl) (po_some pe_int) po_none)) (pg_sub (pe_ix ix_list (pvQ v__law_otherwise_3 rfl rfl) (pvQ v__law_otherwise_5 rfl rfl) (fun _ _ => rfl)) (pvQ v__law_otherwise_6 rfl rfl) set_list))) pss_nil)
    (pss_cons (ps_if (pt_cmpR op_eq (pvQ v__law_otherwise_8 rfl rfl) pe_int (nomark _)) (pss_one (ps_asg (pe_callTy cm_tuple rfl B.tuple boot_tuple (pac_ListComp (pe_comp (sc := (defScope S__law_otherwise)) (NX := ["_law_lists_here", "_law_cell_here", "_law_cards", "_law_made", "_law_full", "_law_at", "_law_spot", "_law_held", "_law_way", "_law_last"]) (N := ["_law_card", "_law_cards"]) (ix := [none, some 2]) rfl (by refine ⟨rfl, ?_, ?_, ?_, ?_, rfl, ?_⟩ <;> decide +kernel) (pi_tup (pvQ v__law_otherwise_7 rfl rfl)) (by intros; exact (pg_name (i := 0) (show (["_law_card", "_law_cards"] : List Str).Nodup by decide +kernel) rfl (Or.inl rfl))) (by intros; exact ptl_nil) (by intros; exact (pe_op op_mod (pe_op op_add (pv 0) pe_int) (pv 1)))) pa_nil)) (pg_sub (pe_ix ix_list (pvQ v__law_otherwise_3 rfl rfl) (pvQ v__law_otherwise_5 rfl rfl) (fun _ _ => rfl)) (pvQ v__law_otherwise_6 rfl rfl) set_list))) pss_nil)
    (pss_cons (ps_if (pt_cmpR op_eq (pvQ v__law_otherwise_8 rfl rfl) pe_int (nomark _)) (pss_one (ps_expr (pe_bm PySem.F.plainAttrs_list PySem.F.slot_list_insert PySem.F.type_list_insert mt_insert (pe_ix ix_list (pvQ v__law_otherwise_3 rfl rfl) (pvQ v__law_otherwise_5 rfl rfl) (fun _ _ => rfl)) (pac_Name (pvQ v__law_otherwise_6 rfl rfl) (pac_Name (pvQ v__law_otherwise_7 rfl rfl) pa_nil))))) pss_nil)
    (pss_cons (ps_if (pt_cmpR op_eq (pvQ v__law_otherwise_8 rfl rfl) pe_int (nomark _)) (pss_one (ps_expr (pe_bm PySem.F.plainAttrs_list PySem.F.slot_list_pop PySem.F.type_list_pop mt_popAt (pvQ v__law_otherwise_3 rfl rfl) (pac_Name (pvQ v__law_otherwise_5 rfl rfl) pa_nil)))) pss_nil)
    (pss_one (ps_ret (pvQ v__law_otherwise_3 rfl rfl))))))))))))))))))))), rd__law_otherwise h⟩
theorem ok__law_due {f : Addr} {fd : FuncData} (D : Def K mg "_law_due" S__law_due ["_law_lists_here", "_law_holdings_here"] f fd) (B : Blt mg) : FnB P w K mg base 1 "_law_due" ["_law_lists_here", "_law_holdings_here"] (sp__law_due K) := by
  refine D.ok sc__law_due (fun vs H Q E h => len__law_due h) (fun cdv A outer s H vs Q E hr h => ?_)
  have hu := hr.units0
  have hux := hr.units64
  exact ⟨t__law_due K, (pss_cons (ps_set (i := 2) sc__law_due.nd rfl (Or.inl rfl) pm_dnewX)
    (pss_cons (ps_for PassesOwn.never rfl (pi_list (pvQ v__law_due_1 rfl rfl)) (pg_name (i := 3) sc__law_due.nd rfl (Or.inl rfl)) (pss_one (ps_asg pe_int (pg_sub (pvQ v__law_due_2 rfl rfl) (pvQ v__law_due_3 rfl rfl) (set_X hux)))))
    (pss_cons (ps_for PassesOwn.never rfl (pi_list (pvQ v__law_due_0 rfl rfl)) (pg_name (i := 4) sc__law_due.nd rfl (Or.inl rfl)) (pss_one (ps_for PassesOwn.never rfl (pi_list (pvQ v__law_due_4 rfl rfl)) (pg_name (i := 3) sc__law_due.nd rfl (Or.inl rfl)) (pss_one (ps_asg (pe_op op_sub (pe_xm PySem.F.slot_dict_get PySem.F.type_dict_get (mt_xget2 hux) (pvQ v__law_due_2 rfl rfl) (pac_Name (pvQ v__law_due_3 rfl rfl) (pac_Constant pe_int pa_nil))) pe_int) (pg_sub (pvQ v__law_due_2 rfl rfl) (pvQ v__law_due_3 rfl rfl) (set_X hux)))))))
    (pss_one (ps_ret (pe_callB (call_allL rfl) rfl B.all boot_all (pac_ListComp (pe_comp (sc := (defScope S__law_due)) (NX := ["_law_lists_here", "_law_holdings_here", "_law_left", "_law_held", "_law_some"]) (N := ["_law_count"]) (ix := [none]) rfl (by refine ⟨rfl, ?_, ?_, ?_, ?_, rfl, ?_⟩ <;> decide +kernel) (pi_valsX (pvQ v__law_due_2 rfl rfl)) (by intros; exact (pg_name (i := 0) (show (["_law_count"] : List Str).Nodup by decide +kernel) rfl (Or.inl rfl))) (by intros; exact ptl_nil) (by intros; exact (pe_cmpR op_eq (pv 0) pe_int (nomark _)))) pa_nil))))))), rd__law_due h⟩
theorem ok__law_told {f : Addr} {fd : FuncData} (D : Def K mg "_law_told" S__law_told ["_law_cards", "_law_sizes", "_law_hand", "_law_lists_here", "_law_due_here"] f fd) (B : Blt mg) (F_is_code : FnB P w K mg base 7 "is_code" ["cards", "sizes", "hand", "words"] (sp_is_code K)) : FnB P w K mg base 8 "_law_told" ["_law_cards", "_law_sizes", "_law_hand", "_law_lists_here", "_law_due_here"] (sp__law_told K) := by
  refine D.ok sc__law_told (fun vs H Q E h => len__law_told h) (fun cdv A outer s H vs Q E hr h => ?_)
  have hu := hr.units0
  have hux := hr.units64
  exact ⟨t__law_told K, (pss_cons (ps_setComp (i := 5) sc__law_told.nd rfl rfl (sc := (defScope S__law_told)) (NX := ["_law_cards", "_law_sizes", "_law_hand", "_law_lists_here", "_law_due_here", "_law_handed", "_law_found"]) (N := ["_law_some"]) (ix := [none]) rfl (by refine ⟨rfl, ?_, ?_, ?_, ?_, rfl, ?_⟩ <;> decide +kernel) (pi_list (pvQ v__law_told_3 rfl rfl)) (by intros; exact (pg_name (i := 0) (show (["_law_some"] : List Str).Nodup by decide +kernel) rfl (Or.inl rfl))) (by intros; exact ptl_nil) (by intros; exact (pe_callTy cm_list rfl B.list boot_list (pac_Name (pv 0) pa_nil))))
    (pss_cons (ps_set (i := 6) sc__law_told.nd rfl (Or.inl rfl) (pe_callF F_is_code (hr.mono (by decide)) (pac_Name (pvQ v__law_told_0 rfl rfl) (pac_Call (pe_callTy cm_list rfl B.list boot_list (pac_Name (pvQ v__law_told_1 rfl rfl) pa_nil)) (pac_Name (pvQ v__law_told_2 rfl rfl) (pac_Name (pvQ v__law_told_5 rfl rfl) pa_nil))))))
    (pss_one (ps_ret (pe_and (pe_cmpR (op_sameE hux) (pvQ v__law_told_5 rfl rfl) (pvQ v__law_told_3 rfl rfl) (nomark _)) (pe_and (pe_callB call_isi rfl B.isinstance boot_isinstance (pac_Name (pvQ v__law_told_6 rfl rfl) (pac_Name (pe_bltn (v := .ty "bool") rfl B.bool boot_bool rfl) pa_nil))) (pe_one (pe_cmpR op_eq (pvQ v__law_told_6 rfl rfl) (pvQ v__law_told_4 rfl rfl) (nomark _))))))))), rd__law_told h⟩
theorem ok_law {f : Addr} {fd : FuncData} (D : Def K mg "law" S_law ["_law_script"] f fd) (B : Blt mg) (F__law_cell : FnB P w K mg base 1 "_law_cell" ["_law_script", "_law_k"] (sp__law_cell_l K)) (F__law_due : FnB P w K mg base 1 "_law_due" ["_law_lists_here", "_law_holdings_here"] (sp__law_due K)) (F__law_holdings : FnB P w K mg base 1 "_law_holdings" ["_law_cards", "_law_size"] (sp__law_holdings K)) (F__law_lists : FnB P w K mg base 2 "_law_lists" ["_law_cell_here", "_law_holdings_here"] (sp__law_lists K)) (F__law_otherwise : FnB P w K mg base 1 "_law_otherwise" ["_law_lists_here", "_law_cell_here", "_law_cards"] (sp__law_otherwise K)) (F__law_pack : FnB P w K mg base 1 "_law_pack" ["_law_cell_here"] (sp__law_pack_l K)) (F__law_told : FnB P w K mg base 8 "_law_told" ["_law_cards", "_law_sizes", "_law_hand", "_law_lists_here", "_law_due_here"] (sp__law_told K)) : FnOk P w K mg base CX0 9 f fd ["_law_script"] (spLaw K) := by
  refine D.fn.ok sc_law (fun vs H Q E h => len_law h) (fun cdv A outer s H vs Q E hr h => ?_)
  have hu := hr.units0
  have hux := hr.units64
  exact ⟨t_law K, (pss_cons (ps_asg (pe_callF F__law_pack (hr.mono (by decide)) (pac_Call (pe_callF F__law_cell (hr.mono (by decide)) (pac_Name (pvQ v_law_0 rfl rfl) (pac_Constant pe_int pa_nil))) pa_nil)) (pg_tup rfl (pgs_cons (pg_name (i := 1) sc_law.nd rfl (Or.inl rfl)) (pgs_cons (pg_name (i := 2) sc_law.nd rfl (Or.inl rfl)) pgs_nil))))
    (pss_cons (ps_set (i := 3) sc_law.nd rfl (Or.inl rfl) (pe_op op_mod (pe_callF F__law_cell (hr.mono (by decide)) (pac_Name (pvQ v_law_0 rfl rfl) (pac_Constant pe_int pa_nil))) (pe_callB call_len_seq rfl B.len boot_len (pac_Name (pvQ v_law_2 rfl rfl) pa_nil))))
    (pss_cons (ps_set (i := 4) sc_law.nd rfl (Or.inl rfl) (pe_callF F__law_holdings (hr.mono (by decide)) (pac_Name (pvQ v_law_1 rfl rfl) (pac_Subscript (pe_ix ix_list (pvQ v_law_2 rfl rfl) (pvQ v_law_3 rfl rfl) (fun _ _ => rfl)) pa_nil))))
    (pss_cons (ps_set (i := 5) sc_law.nd rfl (Or.inl rfl) (pe_callF F__law_lists (hr.mono (by decide)) (pac_Call (pe_callF F__law_cell (hr.mono (by decide)) (pac_Name (pvQ v_law_0 rfl rfl) (pac_Constant pe_int pa_nil))) (pac_Name (pvQ v_law_4 rfl rfl) pa_nil))))
    (pss_cons (ps_if (pt_not (pt_val (pe_callF F__law_told (hr.mono (by decide)) (pac_Name (pvQ v_law_1 rfl rfl) (pac_Name (pvQ v_law_2 rfl rfl) (pac_Name (pvQ v_law_3 rfl rfl) (pac_Name (pvQ v_law_5 rfl rfl) (pac_Constant pe_bl pa_nil)))))))) (pss_one (ps_ret pe_bl)) pss_nil)
    (pss_cons (ps_set (i := 6) sc_law.nd rfl (Or.inl rfl) (pe_ix ix_list (pm_lst (pac_Constant pe_int (pac_Constant pe_int pa_nil))) (pe_callTy call_int1 rfl B.int boot_int (pac_Compare (pe_cmpR op_gt (pvQ v_law_1 rfl rfl) pe_int (nomark _)) pa_nil)) (fun _ _ => rfl)))
    (pss_cons (ps_for PassesOwn.never rfl (pi_list (pe_op om_cat (pe_slice sm_list (pvQ v_law_0 rfl rfl) (po_some pe_int) (po_some (pvQ v_law_6 rfl rfl))) (pm_lst (pac_Call (pe_callF F__law_cell (hr.mono (by decide)) (pac_Name (pvQ v_law_0 rfl rfl) (pac_Constant pe_int pa_nil))) pa_nil)))) (pg_name (i := 7) sc_law.nd rfl (Or.inl rfl)) (pss_cons (ps_set (i := 8) sc_law.nd rfl (Or.inl rfl) (pe_callF F__law_otherwise (hr.mono (by decide)) (pac_Name (pvQ v_law_5 rfl rfl) (pac_Name (pvQ v_law_7 rfl rfl) (pac_Name (pvQ v_law_1 rfl rfl) pa_nil)))))
    (pss_cons (ps_if (pt_not (pt_val (pe_callF F__law_told (hr.mono (by decide)) (pac_Name (pvQ v_law_1 rfl rfl) (pac_Name (pvQ v_law_2 rfl rfl) (pac_Name (pvQ v_law_3 rfl rfl) (pac_Name (pvQ v_law_8 rfl rfl) (pac_Call (pe_callF F__law_due (hr.mono (by decide)) (pac_Name (pvQ v_law_8 rfl rfl) (pac_Name (pvQ v_law_4 rfl rfl) pa_nil))) pa_nil)))))))) (pss_one (ps_ret pe_bl)) pss_nil)
    (pss_one (ps_if (pt_not (pt_val (pe_callF F__law_told (hr.mono (by decide)) (pac_Name (pvQ v_law_1 rfl rfl) (pac_Name (pvQ v_law_2 rfl rfl) (pac_Name (pvQ v_law_3 rfl rfl) (pac_Name (pvQ v_law_5 rfl rfl) (pac_Constant pe_bl pa_nil)))))))) (pss_one (ps_ret pe_bl)) pss_nil)))))
    (pss_one (ps_ret pe_bl))))))))), rd_law h⟩
theorem build (B : Blt mg) {f1 : Addr} {fd1 : FuncData} (D_is_whole : Def K mg "is_whole" S_is_whole ["thing"] f1 fd1) {f2 : Addr} {fd2 : FuncData} (D_is_within : Def K mg "is_within" S_is_within ["thing", "least", "most"] f2 fd2) {f3 : Addr} {fd3 : FuncData} (D_is_pack : Def K mg "is_pack" S_is_pack ["cards", "sizes"] f3 fd3) {f4 : Addr} {fd4 : FuncData} (D_how_many : Def K mg "how_many" S_how_many ["cards", "sizes"] f4 fd4) {f5 : Addr} {fd5 : FuncData} (D_choices : Def K mg "choices" S_choices ["many", "taken"] f5 fd5) {f6 : Addr} {fd6 : FuncData} (D_deals_of : Def K mg "deals_of" S_deals_of ["cards", "sizes"] f6 fd6) {f7 : Addr} {fd7 : FuncData} (D_with_one_more : Def K mg "with_one_more" S_with_one_more ["begun", "room"] f7 fd7) {f8 : Addr} {fd8 : FuncData} (D_cards_of : Def K mg "cards_of" S_cards_of ["deal", "who"] f8 fd8) {f9 : Addr} {fd9 : FuncData} (D_is_code : Def K mg "is_code" S_is_code ["cards", "sizes", "hand", "words"] f9 fd9) {f10 : Addr} {fd10 : FuncData} (D_is_list_of_tuples : Def K mg "is_list_of_tuples" S_is_list_of_tuples ["thing"] f10 fd10) {f11 : Addr} {fd11 : FuncData} (D_is_tuple_of_numbers : Def K mg "is_tuple_of_numbers" S_is_tuple_of_numbers ["thing"] f11 fd11) {f12 : Addr} {fd12 : FuncData} (D_holdings_of : Def K mg "holdings_of" S_holdings_of ["cards", "sizes", "hand"] f12 fd12) {f13 : Addr} {fd13 : FuncData} (D__law_cell : Def K mg "_law_cell" S__law_cell ["_law_script", "_law_k"] f13 fd13) {f14 : Addr} {fd14 : FuncData} (D__law_mixed : Def K mg "_law_mixed" S__law_mixed ["_law_cell_here", "_law_k"] f14 fd14) {f15 : Addr} {fd15 : FuncData} (D__law_pack : Def K mg "_law_pack" S__law_pack ["_law_cell_here"] f15 fd15) {f16 : Addr} {fd16 : FuncData} (D__law_holdings : Def K mg "_law_holdings" S__law_holdings ["_law_cards", "_law_size"] f16 fd16) {f17 : Addr} {fd17 : FuncData} (D__law_lists : Def K mg "_law_lists" S__law_lists ["_law_cell_here", "_law_holdings_here"] f17 fd17) {f18 : Addr} {fd18 : FuncData} (D__law_otherwise : Def K mg "_law_otherwise" S__law_otherwise ["_law_lists_here", "_law_cell_here", "_law_cards"] f18 fd18) {f19 : Addr} {fd19 : FuncData} (D__law_due : Def K mg "_law_due" S__law_due ["_law_lists_here", "_law_holdings_here"] f19 fd19) {f20 : Addr} {fd20 : FuncData} (D__law_told : Def K mg "_law_told" S__law_told ["_law_cards", "_law_sizes", "_law_hand", "_law_lists_here", "_law_due_here"] f20 fd20) {f21 : Addr} {fd21 : FuncData} (D_law : Def K mg "law" S_law ["_law_script"] f21 fd21) {t_MOST_CARDS : Tok} (m_MOST_CARDS : mg "MOST_CARDS" = some (.int 12 t_MOST_CARDS)) {t_MOST_HANDS : Tok} (m_MOST_HANDS : mg "MOST_HANDS" = some (.int 5 t_MOST_HANDS)) {t_MOST_DEALS : Tok} (m_MOST_DEALS : mg "MOST_DEALS" = some (.int 2000 t_MOST_DEALS)) : FnOk P w K mg base CX0 9 f21 fd21 ["_law_script"] (spLaw K) := by
  have F__law_cell : FnB P w K mg base 1 "_law_cell" ["_law_script", "_law_k"] (sp__law_cell_l K) := ok__law_cell D__law_cell B
  have F__law_due : FnB P w K mg base 1 "_law_due" ["_law_lists_here", "_law_holdings_here"] (sp__law_due K) := ok__law_due D__law_due B
  have F__law_holdings : FnB P w K mg base 1 "_law_holdings" ["_law_cards", "_law_size"] (sp__law_holdings K) := ok__law_holdings D__law_holdings B
  have F__law_mixed : FnB P w K mg base 1 "_law_mixed" ["_law_cell_here", "_law_k"] (sp__law_mixed_l K) := ok__law_mixed D__law_mixed B
  have F__law_lists : FnB P w K mg base 2 "_law_lists" ["_law_cell_here", "_law_holdings_here"] (sp__law_lists K) := ok__law_lists D__law_lists B F__law_mixed
  have F__law_otherwise : FnB P w K mg base 1 "_law_otherwise" ["_law_lists_here", "_law_cell_here", "_law_cards"] (sp__law_otherwise K) := ok__law_otherwise D__law_otherwise B
  have F__law_pack : FnB P w K mg base 1 "_law_pack" ["_law_cell_here"] (sp__law_pack_l K) := ok__law_pack D__law_pack B
  have F_cards_of : FnB P w K mg base 1 "cards_of" ["deal", "who"] (sp_cards_of K) := ok_cards_of D_cards_of B
  have F_choices : FnB P w K mg base 1 "choices" ["many", "taken"] (sp_choices K) := ok_choices D_choices B
  have F_is_whole : FnB P w K mg base 1 "is_whole" ["thing"] (sp_is_whole K) := ok_is_whole D_is_whole B
  have F_is_within : FnB P w K mg base 2 "is_within" ["thing", "least", "most"] (sp_is_within K) := ok_is_within D_is_within B F_is_whole
  have F_is_pack : FnB P w K mg base 3 "is_pack" ["cards", "sizes"] (sp_is_pack K) := ok_is_pack D_is_pack B m_MOST_CARDS m_MOST_HANDS F_is_within
  have F_how_many : FnB P w K mg base 4 "how_many" ["cards", "sizes"] (sp_how_many K) := ok_how_many D_how_many B F_choices F_is_pack
  have F_with_one_more : FnB P w K mg base 1 "with_one_more" ["begun", "room"] (sp_with_one_more K) := ok_with_one_more D_with_one_more B
  have F_deals_of : FnB P w K mg base 5 "deals_of" ["cards", "sizes"] (sp_deals_of K) := ok_deals_of D_deals_of B m_MOST_DEALS F_how_many F_with_one_more
  have F_holdings_of : FnB P w K mg base 6 "holdings_of" ["cards", "sizes", "hand"] (sp_holdings_of K) := ok_holdings_of D_holdings_of B F_cards_of F_deals_of
  have F_is_tuple_of_numbers : FnB P w K mg base 2 "is_tuple_of_numbers" ["thing"] (sp_is_tuple_of_numbers K) := ok_is_tuple_of_numbers D_is_tuple_of_numbers B F_is_whole
  have F_is_list_of_tuples : FnB P w K mg base 3 "is_list_of_tuples" ["thing"] (sp_is_list_of_tuples K) := ok_is_list_of_tuples D_is_list_of_tuples B F_is_tuple_of_numbers
  have F_is_code : FnB P w K mg base 7 "is_code" ["cards", "sizes", "hand", "words"] (sp_is_code K) := ok_is_code D_is_code B F_holdings_of F_is_list_of_tuples
  have F__law_told : FnB P w K mg base 8 "_law_told" ["_law_cards", "_law_sizes", "_law_hand", "_law_lists_here", "_law_due_here"] (sp__law_told K) := ok__law_told D__law_told B F_is_code
  exact ok_law D_law B F__law_cell F__law_due F__law_holdings F__law_lists F__law_otherwise F__law_pack F__law_told
end
@[elab_as_elim] theorem ofLen1 {α : Type} {P : List α → Prop} (us : List α) (hl : us.length = 1) (h : ∀ a0 : α, P [a0]) : P us := match us, hl with | [a0], _ => h a0
@[elab_as_elim] theorem ofLen2 {α : Type} {P : List α → Prop} (us : List α) (hl : us.length = 2) (h : ∀ a0 a1 : α, P [a0, a1]) : P us := match us, hl with | [a0, a1], _ => h a0 a1
@[elab_as_elim] theorem ofLen3 {α : Type} {P : List α → Prop} (us : List α) (hl : us.length = 3) (h : ∀ a0 a1 a2 : α, P [a0, a1, a2]) : P us := match us, hl with | [a0, a1, a2], _ => h a0 a1 a2
@[elab_as_elim] theorem ofLen4 {α : Type} {P : List α → Prop} (us : List α) (hl : us.length = 4) (h : ∀ a0 a1 a2 a3 : α, P [a0, a1, a2, a3]) : P us := match us, hl with | [a0, a1, a2, a3], _ => h a0 a1 a2 a3
@[elab_as_elim] theorem ofLen5 {α : Type} {P : List α → Prop} (us : List α) (hl : us.length = 5) (h : ∀ a0 a1 a2 a3 a4 : α, P [a0, a1, a2, a3, a4]) : P us := match us, hl with | [a0, a1, a2, a3, a4], _ => h a0 a1 a2 a3 a4
theorem all_mk {l : PySem.W.OpenLaw} {w : World} {K : PySem.W.Frag} {h : Heap} {mg : Str → Option Value} {fa f1 f2 f3 f4 f5 f6 f7 f8 f9 f10 f11 f12 f13 f14 f15 f16 f17 f18 f19 f20 f21 : Addr} (X : K.In h) (G : h.Ns mainGlobals mg) (hfa : mg "law" = some (.ref fa))
    {od1 an1 od2 an2 od3 an3 od4 an4 od5 an5 od6 an6 od7 an7 od8 an8 od9 an9 od10 an10 od11 an11 od12 an12 od13 an13 od14 an14 od15 an15 od16 an16 od17 an17 od18 an18 od19 an19 od20 an20 od21 an21 : Option Addr} {sl1 sl2 sl3 sl4 sl5 sl6 sl7 sl8 sl9 sl10 sl11 sl12 sl13 sl14 sl15 sl16 sl17 sl18 sl19 sl20 sl21 : Array (Option Value)} {oc1 kV1 dc1 pm1 cd1 ct1 oc2 kV2 dc2 pm2 cd2 ct2 oc3 kV3 dc3 pm3 cd3 ct3 oc4 kV4 dc4 pm4 cd4 ct4 oc5 kV5 dc5 pm5 cd5 ct5 oc6 kV6 dc6 pm6 cd6 ct6 oc7 kV7 dc7 pm7 cd7 ct7 oc8 kV8 dc8 pm8 cd8 ct8 oc9 kV9 dc9 pm9 cd9 ct9 oc10 kV10 dc10 pm10 cd10 ct10 oc11 kV11 dc11 pm11 cd11 ct11 oc12 kV12 dc12 pm12 cd12 ct12 oc13 kV13 dc13 pm13 cd13 ct13 oc14 kV14 dc14 pm14 cd14 ct14 oc15 kV15 dc15 pm15 cd15 ct15 oc16 kV16 dc16 pm16 cd16 ct16 oc17 kV17 dc17 pm17 cd17 ct17 oc18 kV18 dc18 pm18 cd18 ct18 oc19 kV19 dc19 pm19 cd19 ct19 oc20 kV20 dc20 pm20 cd20 ct20 oc21 kV21 dc21 pm21 cd21 ct21 : Value} {t_MOST_CARDS : Tok}  {t_MOST_HANDS : Tok}  {t_MOST_DEALS : Tok} 
    (a1 : PySem.W.nsIn K mainGlobals "is_whole" = some (some (.ref f1))) (l1 : K.lookup f1 = some ⟨oc1, od1, .func (PySem.W.fnOf "is_whole" "is_whole" (defArgs S_is_whole) (defBody S_is_whole) (defScope S_is_whole) .none kV1 dc1 pm1 an1 cd1 ct1), sl1⟩) (c1 : PySem.W.codeIn K cd1 "is_whole" = true) (k1 : PySem.W.keepIn K (.ref f1) = true)
    (a2 : PySem.W.nsIn K mainGlobals "is_within" = some (some (.ref f2))) (l2 : K.lookup f2 = some ⟨oc2, od2, .func (PySem.W.fnOf "is_within" "is_within" (defArgs S_is_within) (defBody S_is_within) (defScope S_is_within) .none kV2 dc2 pm2 an2 cd2 ct2), sl2⟩) (c2 : PySem.W.codeIn K cd2 "is_within" = true) (k2 : PySem.W.keepIn K (.ref f2) = true)
    (a3 : PySem.W.nsIn K mainGlobals "is_pack" = some (some (.ref f3))) (l3 : K.lookup f3 = some ⟨oc3, od3, .func (PySem.W.fnOf "is_pack" "is_pack" (defArgs S_is_pack) (defBody S_is_pack) (defScope S_is_pack) .none kV3 dc3 pm3 an3 cd3 ct3), sl3⟩) (c3 : PySem.W.codeIn K cd3 "is_pack" = true) (k3 : PySem.W.keepIn K (.ref f3) = true)
    (a4 : PySem.W.nsIn K mainGlobals "how_many" = some (some (.ref f4))) (l4 : K.lookup f4 = some ⟨oc4, od4, .func (PySem.W.fnOf "how_many" "how_many" (defArgs S_how_many) (defBody S_how_many) (defScope S_how_many) .none kV4 dc4 pm4 an4 cd4 ct4), sl4⟩) (c4 : PySem.W.codeIn K cd4 "how_many" = true) (k4 : PySem.W.keepIn K (.ref f4) = true)
    (a5 : PySem.W.nsIn K mainGlobals "choices" = some (some (.ref f5))) (l5 : K.lookup f5 = some ⟨oc5, od5, .func (PySem.W.fnOf "choices" "choices" (defArgs S_choices) (defBody S_choices) (defScope S_choices) .none kV5 dc5 pm5 an5 cd5 ct5), sl5⟩) (c5 : PySem.W.codeIn K cd5 "choices" = true) (k5 : PySem.W.keepIn K (.ref f5) = true)
    (a6 : PySem.W.nsIn K mainGlobals "deals_of" = some (some (.ref f6))) (l6 : K.lookup f6 = some ⟨oc6, od6, .func (PySem.W.fnOf "deals_of" "deals_of" (defArgs S_deals_of) (defBody S_deals_of) (defScope S_deals_of) .none kV6 dc6 pm6 an6 cd6 ct6), sl6⟩) (c6 : PySem.W.codeIn K cd6 "deals_of" = true) (k6 : PySem.W.keepIn K (.ref f6) = true)
    (a7 : PySem.W.nsIn K mainGlobals "with_one_more" = some (some (.ref f7))) (l7 : K.lookup f7 = some ⟨oc7, od7, .func (PySem.W.fnOf "with_one_more" "with_one_more" (defArgs S_with_one_more) (defBody S_with_one_more) (defScope S_with_one_more) .none kV7 dc7 pm7 an7 cd7 ct7), sl7⟩) (c7 : PySem.W.codeIn K cd7 "with_one_more" = true) (k7 : PySem.W.keepIn K (.ref f7) = true)
    (a8 : PySem.W.nsIn K mainGlobals "cards_of" = some (some (.ref f8))) (l8 : K.lookup f8 = some ⟨oc8, od8, .func (PySem.W.fnOf "cards_of" "cards_of" (defArgs S_cards_of) (defBody S_cards_of) (defScope S_cards_of) .none kV8 dc8 pm8 an8 cd8 ct8), sl8⟩) (c8 : PySem.W.codeIn K cd8 "cards_of" = true) (k8 : PySem.W.keepIn K (.ref f8) = true)
    (a9 : PySem.W.nsIn K mainGlobals "is_code" = some (some (.ref f9))) (l9 : K.lookup f9 = some ⟨oc9, od9, .func (PySem.W.fnOf "is_code" "is_code" (defArgs S_is_code) (defBody S_is_code) (defScope S_is_code) .none kV9 dc9 pm9 an9 cd9 ct9), sl9⟩) (c9 : PySem.W.codeIn K cd9 "is_code" = true) (k9 : PySem.W.keepIn K (.ref f9) = true)
    (a10 : PySem.W.nsIn K mainGlobals "is_list_of_tuples" = some (some (.ref f10))) (l10 : K.lookup f10 = some ⟨oc10, od10, .func (PySem.W.fnOf "is_list_of_tuples" "is_list_of_tuples" (defArgs S_is_list_of_tuples) (defBody S_is_list_of_tuples) (defScope S_is_list_of_tuples) .none kV10 dc10 pm10 an10 cd10 ct10), sl10⟩) (c10 : PySem.W.codeIn K cd10 "is_list_of_tuples" = true) (k10 : PySem.W.keepIn K (.ref f10) = true)
    (a11 : PySem.W.nsIn K mainGlobals "is_tuple_of_numbers" = some (some (.ref f11))) (l11 : K.lookup f11 = some ⟨oc11, od11, .func (PySem.W.fnOf "is_tuple_of_numbers" "is_tuple_of_numbers" (defArgs S_is_tuple_of_numbers) (defBody S_is_tuple_of_numbers) (defScope S_is_tuple_of_numbers) .none kV11 dc11 pm11 an11 cd11 ct11), sl11⟩) (c11 : PySem.W.codeIn K cd11 "is_tuple_of_numbers" = true) (k11 : PySem.W.keepIn K (.ref f11) = true)
    (a12 : PySem.W.nsIn K mainGlobals "holdings_of" = some (some (.ref f12))) (l12 : K.lookup f12 = some ⟨oc12, od12, .func (PySem.W.fnOf "holdings_of" "holdings_of" (defArgs S_holdings_of) (defBody S_holdings_of) (defScope S_holdings_of) .none kV12 dc12 pm12 an12 cd12 ct12), sl12⟩) (c12 : PySem.W.codeIn K cd12 "holdings_of" = true) (k12 : PySem.W.keepIn K (.ref f12) = true)
    (a13 : PySem.W.nsIn K mainGlobals "_law_cell" = some (some (.ref f13))) (l13 : K.lookup f13 = some ⟨oc13, od13, .func (PySem.W.fnOf "_law_cell" "_law_cell" (defArgs S__law_cell) (defBody S__law_cell) (defScope S__law_cell) .none kV13 dc13 pm13 an13 cd13 ct13), sl13⟩) (c13 : PySem.W.codeIn K cd13 "_law_cell" = true) (k13 : PySem.W.keepIn K (.ref f13) = true)
    (a14 : PySem.W.nsIn K mainGlobals "_law_mixed" = some (some (.ref f14))) (l14 : K.lookup f14 = some ⟨oc14, od14, .func (PySem.W.fnOf "_law_mixed" "_law_mixed" (defArgs S__law_mixed) (defBody S__law_mixed) (defScope S__law_mixed) .none kV14 dc14 pm14 an14 cd14 ct14), sl14⟩) (c14 : PySem.W.codeIn K cd14 "_law_mixed" = true) (k14 : PySem.W.keepIn K (.ref f14) = true)
    (a15 : PySem.W.nsIn K mainGlobals "_law_pack" = some (some (.ref f15))) (l15 : K.lookup f15 = some ⟨oc15, od15, .func (PySem.W.fnOf "_law_pack" "_law_pack" (defArgs S__law_pack) (defBody S__law_pack) (defScope S__law_pack) .none kV15 dc15 pm15 an15 cd15 ct15), sl15⟩) (c15 : PySem.W.codeIn K cd15 "_law_pack" = true) (k15 : PySem.W.keepIn K (.ref f15) = true)
    (a16 : PySem.W.nsIn K mainGlobals "_law_holdings" = some (some (.ref f16))) (l16 : K.lookup f16 = some ⟨oc16, od16, .func (PySem.W.fnOf "_law_holdings" "_law_holdings" (defArgs S__law_holdings) (defBody S__law_holdings) (defScope S__law_holdings) .none kV16 dc16 pm16 an16 cd16 ct16), sl16⟩) (c16 : PySem.W.codeIn K cd16 "_law_holdings" = true) (k16 : PySem.W.keepIn K (.ref f16) = true)
    (a17 : PySem.W.nsIn K mainGlobals "_law_lists" = some (some (.ref f17))) (l17 : K.lookup f17 = some ⟨oc17, od17, .func (PySem.W.fnOf "_law_lists" "_law_lists" (defArgs S__law_lists) (defBody S__law_lists) (defScope S__law_lists) .none kV17 dc17 pm17 an17 cd17 ct17), sl17⟩) (c17 : PySem.W.codeIn K cd17 "_law_lists" = true) (k17 : PySem.W.keepIn K (.ref f17) = true)
    (a18 : PySem.W.nsIn K mainGlobals "_law_otherwise" = some (some (.ref f18))) (l18 : K.lookup f18 = some ⟨oc18, od18, .func (PySem.W.fnOf "_law_otherwise" "_law_otherwise" (defArgs S__law_otherwise) (defBody S__law_otherwise) (defScope S__law_otherwise) .none kV18 dc18 pm18 an18 cd18 ct18), sl18⟩) (c18 : PySem.W.codeIn K cd18 "_law_otherwise" = true) (k18 : PySem.W.keepIn K (.ref f18) = true)
    (a19 : PySem.W.nsIn K mainGlobals "_law_due" = some (some (.ref f19))) (l19 : K.lookup f19 = some ⟨oc19, od19, .func (PySem.W.fnOf "_law_due" "_law_due" (defArgs S__law_due) (defBody S__law_due) (defScope S__law_due) .none kV19 dc19 pm19 an19 cd19 ct19), sl19⟩) (c19 : PySem.W.codeIn K cd19 "_law_due" = true) (k19 : PySem.W.keepIn K (.ref f19) = true)
    (a20 : PySem.W.nsIn K mainGlobals "_law_told" = some (some (.ref f20))) (l20 : K.lookup f20 = some ⟨oc20, od20, .func (PySem.W.fnOf "_law_told" "_law_told" (defArgs S__law_told) (defBody S__law_told) (defScope S__law_told) .none kV20 dc20 pm20 an20 cd20 ct20), sl20⟩) (c20 : PySem.W.codeIn K cd20 "_law_told" = true) (k20 : PySem.W.keepIn K (.ref f20) = true)
    (a21 : PySem.W.nsIn K mainGlobals "law" = some (some (.ref f21))) (l21 : K.lookup f21 = some ⟨oc21, od21, .func (PySem.W.fnOf "law" "law" (defArgs S_law) (defBody S_law) (defScope S_law) .none kV21 dc21 pm21 an21 cd21 ct21), sl21⟩) (c21 : PySem.W.codeIn K cd21 "law" = true) (k21 : PySem.W.keepIn K (.ref f21) = true)
    (y1 : PySem.W.nsIn K mainGlobals "MOST_CARDS" = some (some (.int 12 t_MOST_CARDS)))
    (y2 : PySem.W.nsIn K mainGlobals "MOST_HANDS" = some (some (.int 5 t_MOST_HANDS)))
    (y3 : PySem.W.nsIn K mainGlobals "MOST_DEALS" = some (some (.int 2000 t_MOST_DEALS)))
    (z1 : PySem.W.nsIn K mainGlobals "len" = some none) (z2 : PySem.W.nsIn K mainGlobals "range" = some none) (z3 : PySem.W.nsIn K mainGlobals "tuple" = some none) (z4 : PySem.W.nsIn K mainGlobals "list" = some none) (z5 : PySem.W.nsIn K mainGlobals "int" = some none) (z6 : PySem.W.nsIn K mainGlobals "bool" = some none) (z7 : PySem.W.nsIn K mainGlobals "str" = some none) (z8 : PySem.W.nsIn K mainGlobals "dict" = some none) (z9 : PySem.W.nsIn K mainGlobals "sum" = some none) (z10 : PySem.W.nsIn K mainGlobals "all" = some none) (z11 : PySem.W.nsIn K mainGlobals "min" = some none) (z12 : PySem.W.nsIn K mainGlobals "max" = some none) (z13 : PySem.W.nsIn K mainGlobals "sorted" = some none) (z14 : PySem.W.nsIn K mainGlobals "enumerate" = some none) (z15 : PySem.W.nsIn K mainGlobals "zip" = some none) (z16 : PySem.W.nsIn K mainGlobals "isinstance" = some none) :
    ∃ fd : FuncData, (∀ (s : Shared) (v : Value), BindsTo s fd ⟨[v], []⟩ [("_law_script", v)]) ∧ ∀ base : Heap, K.In base → base.Ns mainGlobals mg → FnOk l.prog w K mg base CX0 9 fa fd ["_law_script"] (spLaw K) := by
  have e := hfa.symm.trans (PySem.W.mg_of X G a21)
  cases e
  have B : Blt mg := ⟨PySem.W.mg_none_of X G z1, PySem.W.mg_none_of X G z2, PySem.W.mg_none_of X G z3, PySem.W.mg_none_of X G z4, PySem.W.mg_none_of X G z5, PySem.W.mg_none_of X G z6, PySem.W.mg_none_of X G z7, PySem.W.mg_none_of X G z8, PySem.W.mg_none_of X G z9, PySem.W.mg_none_of X G z10, PySem.W.mg_none_of X G z11, PySem.W.mg_none_of X G z12, PySem.W.mg_none_of X G z13, PySem.W.mg_none_of X G z14, PySem.W.mg_none_of X G z15, PySem.W.mg_none_of X G z16⟩
  have F1 := fun_mk (st := S_is_whole) l1 c1 k1
  have D1 : Def K mg "is_whole" S_is_whole ["thing"] _ _ := ⟨F1, PySem.W.mg_of X G a1, F1.binds (ps := ["thing"]) fun _ _ _ _ _ _ us hl => ofLen1 us hl fun _ => rfl⟩
  have F2 := fun_mk (st := S_is_within) l2 c2 k2
  have D2 : Def K mg "is_within" S_is_within ["thing", "least", "most"] _ _ := ⟨F2, PySem.W.mg_of X G a2, F2.binds (ps := ["thing", "least", "most"]) fun _ _ _ _ _ _ us hl => ofLen3 us hl fun _ _ _ => rfl⟩
  have F3 := fun_mk (st := S_is_pack) l3 c3 k3
  have D3 : Def K mg "is_pack" S_is_pack ["cards", "sizes"] _ _ := ⟨F3, PySem.W.mg_of X G a3, F3.binds (ps := ["cards", "sizes"]) fun _ _ _ _ _ _ us hl => ofLen2 us hl fun _ _ => rfl⟩
  have F4 := fun_mk (st := S_how_many) l4 c4 k4
  have D4 : Def K mg "how_many" S_how_many ["cards", "sizes"] _ _ := ⟨F4, PySem.W.mg_of X G a4, F4.binds (ps := ["cards", "sizes"]) fun _ _ _ _ _ _ us hl => ofLen2 us hl fun _ _ => rfl⟩
  have F5 := fun_mk (st := S_choices) l5 c5 k5
  have D5 : Def K mg "choices" S_choices ["many", "taken"] _ _ := ⟨F5, PySem.W.mg_of X G a5, F5.binds (ps := ["many", "taken"]) fun _ _ _ _ _ _ us hl => ofLen2 us hl fun _ _ => rfl⟩
  have F6 := fun_mk (st := S_deals_of) l6 c6 k6
  have D6 : Def K mg "deals_of" S_deals_of ["cards", "sizes"] _ _ := ⟨F6, PySem.W.mg_of X G a6, F6.binds (ps := ["cards", "sizes"]) fun _ _ _ _ _ _ us hl => ofLen2 us hl fun _ _ => rfl⟩
  have F7 := fun_mk (st := S_with_one_more) l7 c7 k7
  have D7 : Def K mg "with_one_more" S_with_one_more ["begun", "room"] _ _ := ⟨F7, PySem.W.mg_of X G a7, F7.binds (ps := ["begun", "room"]) fun _ _ _ _ _ _ us hl => ofLen2 us hl fun _ _ => rfl⟩
  have F8 := fun_mk (st := S_cards_of) l8 c8 k8
  have D8 : Def K mg "cards_of" S_cards_of ["deal", "who"] _ _ := ⟨F8, PySem.W.mg_of X G a8, F8.binds (ps := ["deal", "who"]) fun _ _ _ _ _ _ us hl => ofLen2 us hl fun _ _ => rfl⟩
  have F9 := fun_mk (st := S_is_code) l9 c9 k9
  have D9 : Def K mg "is_code" S_is_code ["cards", "sizes", "hand", "words"] _ _ := ⟨F9, PySem.W.mg_of X G a9, F9.binds (ps := ["cards", "sizes", "hand", "words"]) fun _ _ _ _ _ _ us hl => ofLen4 us hl fun _ _ _ _ => rfl⟩
  have F10 := fun_mk (st := S_is_list_of_tuples) l10 c10 k10
  have D10 : Def K mg "is_list_of_tuples" S_is_list_of_tuples ["thing"] _ _ := ⟨F10, PySem.W.mg_of X G a10, F10.binds (ps := ["thing"]) fun _ _ _ _ _ _ us hl => ofLen1 us hl fun _ => rfl⟩
  have F11 := fun_mk (st := S_is_tuple_of_numbers) l11 c11 k11
  have D11 : Def K mg "is_tuple_of_numbers" S_is_tuple_of_numbers ["thing"] _ _ := ⟨F11, PySem.W.mg_of X G a11, F11.binds (ps := ["thing"]) fun _ _ _ _ _ _ us hl => ofLen1 us hl fun _ => rfl⟩
  have F12 := fun_mk (st := S_holdings_of) l12 c12 k12
  have D12 : Def K mg "holdings_of" S_holdings_of ["cards", "sizes", "hand"] _ _ := ⟨F12, PySem.W.mg_of X G a12, F12.binds (ps := ["cards", "sizes", "hand"]) fun _ _ _ _ _ _ us hl => ofLen3 us hl fun _ _ _ => rfl⟩
  have F13 := fun_mk (st := S__law_cell) l13 c13 k13
  have D13 : Def K mg "_law_cell" S__law_cell ["_law_script", "_law_k"] _ _ := ⟨F13, PySem.W.mg_of X G a13, F13.binds (ps := ["_law_script", "_law_k"]) fun _ _ _ _ _ _ us hl => ofLen2 us hl fun _ _ => rfl⟩
  have F14 := fun_mk (st := S__law_mixed) l14 c14 k14
  have D14 : Def K mg "_law_mixed" S__law_mixed ["_law_cell_here", "_law_k"] _ _ := ⟨F14, PySem.W.mg_of X G a14, F14.binds (ps := ["_law_cell_here", "_law_k"]) fun _ _ _ _ _ _ us hl => ofLen2 us hl fun _ _ => rfl⟩
  have F15 := fun_mk (st := S__law_pack) l15 c15 k15
  have D15 : Def K mg "_law_pack" S__law_pack ["_law_cell_here"] _ _ := ⟨F15, PySem.W.mg_of X G a15, F15.binds (ps := ["_law_cell_here"]) fun _ _ _ _ _ _ us hl => ofLen1 us hl fun _ => rfl⟩
  have F16 := fun_mk (st := S__law_holdings) l16 c16 k16
  have D16 : Def K mg "_law_holdings" S__law_holdings ["_law_cards", "_law_size"] _ _ := ⟨F16, PySem.W.mg_of X G a16, F16.binds (ps := ["_law_cards", "_law_size"]) fun _ _ _ _ _ _ us hl => ofLen2 us hl fun _ _ => rfl⟩
  have F17 := fun_mk (st := S__law_lists) l17 c17 k17
  have D17 : Def K mg "_law_lists" S__law_lists ["_law_cell_here", "_law_holdings_here"] _ _ := ⟨F17, PySem.W.mg_of X G a17, F17.binds (ps := ["_law_cell_here", "_law_holdings_here"]) fun _ _ _ _ _ _ us hl => ofLen2 us hl fun _ _ => rfl⟩
  have F18 := fun_mk (st := S__law_otherwise) l18 c18 k18
  have D18 : Def K mg "_law_otherwise" S__law_otherwise ["_law_lists_here", "_law_cell_here", "_law_cards"] _ _ := ⟨F18, PySem.W.mg_of X G a18, F18.binds (ps := ["_law_lists_here", "_law_cell_here", "_law_cards"]) fun _ _ _ _ _ _ us hl => ofLen3 us hl fun _ _ _ => rfl⟩
  have F19 := fun_mk (st := S__law_due) l19 c19 k19
  have D19 : Def K mg "_law_due" S__law_due ["_law_lists_here", "_law_holdings_here"] _ _ := ⟨F19, PySem.W.mg_of X G a19, F19.binds (ps := ["_law_lists_here", "_law_holdings_here"]) fun _ _ _ _ _ _ us hl => ofLen2 us hl fun _ _ => rfl⟩
  have F20 := fun_mk (st := S__law_told) l20 c20 k20
  have D20 : Def K mg "_law_told" S__law_told ["_law_cards", "_law_sizes", "_law_hand", "_law_lists_here", "_law_due_here"] _ _ := ⟨F20, PySem.W.mg_of X G a20, F20.binds (ps := ["_law_cards", "_law_sizes", "_law_hand", "_law_lists_here", "_law_due_here"]) fun _ _ _ _ _ _ us hl => ofLen5 us hl fun _ _ _ _ _ => rfl⟩
  have F21 := fun_mk (st := S_law) l21 c21 k21
  have D21 : Def K mg "law" S_law ["_law_script"] _ _ := ⟨F21, PySem.W.mg_of X G a21, F21.binds (ps := ["_law_script"]) fun _ _ _ _ _ _ us hl => ofLen1 us hl fun _ => rfl⟩
  refine ⟨PySem.W.fnOf "law" "law" (defArgs S_law) (defBody S_law) (defScope S_law) .none kV21 dc21 pm21 an21 cd21 ct21, fun s v => .of_eq rfl, fun base _ _ => ?_⟩
  exact build B D1 D2 D3 D4 D5 D6 D7 D8 D9 D10 D11 D12 D13 D14 D15 D16 D17 D18 D19 D20 D21  (PySem.W.mg_of X G y1) (PySem.W.mg_of X G y2) (PySem.W.mg_of X G y3)
end Kc_k53
open PySem PySem.W PyProof.Rows
set_option maxRecDepth 100000 in
set_option maxHeartbeats 0 in
theorem PySem.Challenge.cw_knowcards_k53_what_is_a_code_holds : PySem.Challenge.rw_knowcards_k53_what_is_a_code.Holds := by
  w_on; o_law; k_head; (case hw => w_witness2)
  k_fill
  refine L2.walk_ofB (l := PySem.Challenge.rw_knowcards_k53_what_is_a_code) (k := 9) (x := "_law_script") rfl rfl ⟨rfl, by decide, by decide⟩ (fun w h Y => PySem.W.kIn_of Y) ?F
  case F =>
    intro w mg fa h KX G hmg
    refine' Kc_k53.all_mk KX G hmg ?a1 ?l1 ?c1 ?k1 ?a2 ?l2 ?c2 ?k2 ?a3 ?l3 ?c3 ?k3 ?a4 ?l4 ?c4 ?k4 ?a5 ?l5 ?c5 ?k5 ?a6 ?l6 ?c6 ?k6 ?a7 ?l7 ?c7 ?k7 ?a8 ?l8 ?c8 ?k8 ?a9 ?l9 ?c9 ?k9 ?a10 ?l10 ?c10 ?k10 ?a11 ?l11 ?c11 ?k11 ?a12 ?l12 ?c12 ?k12 ?a13 ?l13 ?c13 ?k13 ?a14 ?l14 ?c14 ?k14 ?a15 ?l15 ?c15 ?k15 ?a16 ?l16 ?c16 ?k16 ?a17 ?l17 ?c17 ?k17 ?a18 ?l18 ?c18 ?k18 ?a19 ?l19 ?c19 ?k19 ?a20 ?l20 ?c20 ?k20 ?a21 ?l21 ?c21 ?k21 ?y1 ?y2 ?y3 ?z1 ?z2 ?z3 ?z4 ?z5 ?z6 ?z7 ?z8 ?z9 ?z10 ?z11 ?z12 ?z13 ?z14 ?z15 ?z16
    (case a1 => k_is); (case l1 => k_is); (case c1 => k_is); (case k1 => k_is)
    (case a2 => k_is); (case l2 => k_is); (case c2 => k_is); (case k2 => k_is)
    (case a3 => k_is); (case l3 => k_is); (case c3 => k_is); (case k3 => k_is)
    (case a4 => k_is); (case l4 => k_is); (case c4 => k_is); (case k4 => k_is)
    (case a5 => k_is); (case l5 => k_is); (case c5 => k_is); (case k5 => k_is)
    (case a6 => k_is); (case l6 => k_is); (case c6 => k_is); (case k6 => k_is)
    (case a7 => k_is); (case l7 => k_is); (case c7 => k_is); (case k7 => k_is)
    (case a8 => k_is); (case l8 => k_is); (case c8 => k_is); (case k8 => k_is)
    (case a9 => k_is); (case l9 => k_is); (case c9 => k_is); (case k9 => k_is)
    (case a10 => k_is); (case l10 => k_is); (case c10 => k_is); (case k10 => k_is)
    (case a11 => k_is); (case l11 => k_is); (case c11 => k_is); (case k11 => k_is)
    (case a12 => k_is); (case l12 => k_is); (case c12 => k_is); (case k12 => k_is)
    (case a13 => k_is); (case l13 => k_is); (case c13 => k_is); (case k13 => k_is)
    (case a14 => k_is); (case l14 => k_is); (case c14 => k_is); (case k14 => k_is)
    (case a15 => k_is); (case l15 => k_is); (case c15 => k_is); (case k15 => k_is)
    (case a16 => k_is); (case l16 => k_is); (case c16 => k_is); (case k16 => k_is)
    (case a17 => k_is); (case l17 => k_is); (case c17 => k_is); (case k17 => k_is)
    (case a18 => k_is); (case l18 => k_is); (case c18 => k_is); (case k18 => k_is)
    (case a19 => k_is); (case l19 => k_is); (case c19 => k_is); (case k19 => k_is)
    (case a20 => k_is); (case l20 => k_is); (case c20 => k_is); (case k20 => k_is)
    (case a21 => k_is); (case l21 => k_is); (case c21 => k_is); (case k21 => k_is)
    (case y1 => k_is)
    (case y2 => k_is)
    (case y3 => k_is)
    (case z1 => k_is); (case z2 => k_is); (case z3 => k_is); (case z4 => k_is); (case z5 => k_is); (case z6 => k_is); (case z7 => k_is); (case z8 => k_is); (case z9 => k_is); (case z10 => k_is); (case z11 => k_is); (case z12 => k_is); (case z13 => k_is); (case z14 => k_is); (case z15 => k_is); (case z16 => k_is)
