import PyProof.Rows.All
import Wide.All
import OpenK.AllK
import Wide.FinOn
import Lean
import PyProof.EqAt
import PyProof.EqKinds
import PyProof.TupleCall
import PyProof.NeKinds
import PyProof.SumWalkG
import PyProof.ConsumeWalk
import KE.IntBitsLaws
import PyProof.ZipIter
import KE.KDictLaws
import PyProof.ListMulRoad
import PyProof.Rows.SetFrom
import PyProof.Rows.CallKwBuiltin
import PyProof.Rows.SeqMore
import PyProof.WalkInts
import KE.KMinBuiltin
import PyProof.ListRange
import PyProof.Rows.EqDataRows
import KE.KItemsList
import KE.KRevSl
import PyProof.Rows.SortShell
import PyProof.DictWalks
import PySem.Challenge.RW_knowcards_k58_whole_codes_exchanged
set_option compiler.extract_closed false
section
-- KcLayer
-- CHANGE: your row's module here, as the last of these rows
set_option Elab.async false
set_option linter.all false
set_option maxRecDepth 100000
/-! THE HAND LAYER, for ints, bools, texts, own classes, LISTS and tuples (index, slices, in, append, pop ..), calls, loops. Paste it whole ahead of your own text; what your proof does not reach may be deleted. -/
namespace L2
open PySem PySem.Spec PyProof.Rows

noncomputable abbrev Key := Sum Int Str
noncomputable def keyIs : Key → Value → Bool
  | .inl k, v => Value.isInt k v
  | .inr x, v => Value.isStrOf x v
noncomputable def keyH (w : World) : Key → Int
  | .inl k => hashInt k
  | .inr x => hashStr w x
theorem keyIs_shape : ∀ {k : Key} {v : Value}, keyIs k v = true → (∃ i t, k = Sum.inl i ∧ v = Value.int i t) ∨ (∃ x t, k = Sum.inr x ∧ v = Value.str x t)
  | .inl i, v, h => by
    obtain ⟨t, e⟩ := Value.isInt_shape (k := i) (v := v) h
    exact .inl ⟨i, t, rfl, e⟩
  | .inr x, v, h => by
    obtain ⟨t, e⟩ := Value.isStrOf_shape (x := x) (v := v) h
    exact .inr ⟨x, t, rfl, e⟩
theorem key_ll (a b : Int) : decide ((Sum.inl a : Key) = Sum.inl b) = (a == b) := by
  by_cases e : a = b
  · subst e; simp
  · have h : ¬ (Sum.inl a : Key) = Sum.inl b := fun q => e (Sum.inl.inj q)
    rw [decide_eq_false h]
    exact (beq_eq_false_iff_ne.mpr e).symm
theorem key_rr (a b : Str) : decide ((Sum.inr a : Key) = Sum.inr b) = decide (a = b) := by
  by_cases e : a = b
  · subst e; simp
  · have h : ¬ (Sum.inr a : Key) = Sum.inr b := fun q => e (Sum.inr.inj q)
    rw [decide_eq_false h, decide_eq_false e]
theorem key_lr (a : Int) (b : Str) : decide ((Sum.inl a : Key) = Sum.inr b) = false := decide_eq_false (fun q => nomatch q)
theorem key_rl (a : Str) (b : Int) : decide ((Sum.inr a : Key) = Sum.inl b) = false := decide_eq_false (fun q => nomatch q)

noncomputable def mixKind (prog : Program) (w : World) : PySem.KeyKind prog w Key where
  is := keyIs
  hash := keyH w
  inj := fun v a b ha hb => by
    rcases keyIs_shape ha with ⟨i, t, rfl, rfl⟩ | ⟨x, t, rfl, rfl⟩
    · rcases keyIs_shape hb with ⟨j, u, rfl, e⟩ | ⟨y, u, rfl, e⟩
      · injection e with e1 _; rw [e1]
      · exact nomatch e
    · rcases keyIs_shape hb with ⟨j, u, rfl, e⟩ | ⟨y, u, rfl, e⟩
      · exact nomatch e
      · injection e with e1 _; rw [e1]
  byValue := fun k v h => by
    rcases keyIs_shape h with ⟨i, t, rfl, rfl⟩ | ⟨x, t, rfl, rfl⟩ <;> rfl
  pyHash := fun hv h => by
    rcases keyIs_shape hv with ⟨i, t, rfl, rfl⟩ | ⟨x, t, rfl, rfl⟩
    · exact wpAny_pyHash_int h
    · exact wpAny_pyHash_str h
  eqBool := fun hu hv h => by
    rcases keyIs_shape hu with ⟨i, t, rfl, rfl⟩ | ⟨x, t, rfl, rfl⟩
    · rcases keyIs_shape hv with ⟨j, u, rfl, rfl⟩ | ⟨y, u, rfl, rfl⟩
      · rw [key_ll] at h; exact wpAny_eqBool_int h
      · rw [key_lr] at h; exact SeqAt.EqAt.int_str i t y u _ _ _ _ h
    · rcases keyIs_shape hv with ⟨j, u, rfl, rfl⟩ | ⟨y, u, rfl, rfl⟩
      · rw [key_rl] at h; exact SeqAt.EqAt.str_int x t j u _ _ _ _ h
      · rw [key_rr] at h; exact wpAny_eqBool_str h
  «strs» := fun k x t v h => by
    rcases keyIs_shape h with ⟨i, u, rfl, e⟩ | ⟨y, u, rfl, e⟩
    · exact nomatch e
    · injection e with e1 _
      subst e1
      cases v <;> rfl

end L2

namespace L2
open PySem PySem.Spec PyProof.Rows

inductive V where
  | non | bl (b : Bool) | int (i : Int) | str (x : Str) | byt (b : Array UInt8) | flt (b : UInt64) | ref (a : Addr) | ty (n : String)
  deriving DecidableEq

noncomputable def RelV : V → Value → Prop
  | .non, u => u = Value.none
  | .bl b, u => u = Value.bool b
  | .int i, u => ∃ t, u = Value.int i t
  | .str x, u => ∃ t, u = Value.str x t
  | .byt b, u => ∃ t, u = Value.bytes b t
  | .flt b, u => ∃ t, u = Value.float b t
  | .ref a, u => u = Value.ref a
  | .ty n, u => u = Value.type n

noncomputable abbrev Vals : List V → List Value → Prop := Paired RelV
theorem Vals.length {xs : List V} {us : List Value} (r : Vals xs us) : xs.length = us.length := Paired.length r
theorem Vals.get : ∀ {xs : List V} {us : List Value} {i : Nat} {x : V}, Vals xs us → xs[i]? = some x → ∃ u, us[i]? = some u ∧ RelV x u
  | _, _, _, _, .nil, e => by simp at e
  | _, _, 0, _, .cons r _, e => by simp at e; subst e; exact ⟨_, rfl, r⟩
  | _, _, i + 1, x, .cons _ t, e => by
    obtain ⟨u, h1, h2⟩ := Vals.get (i := i) (x := x) t (by simpa using e)
    exact ⟨u, by simpa using h1, h2⟩
theorem Vals.set {x : V} {u : Value} (r : RelV x u) : ∀ {xs : List V} {us : List Value} (i : Nat), Vals xs us → Vals (xs.set i x) (us.set i u)
  | _, _, _, .nil => .nil
  | _, _, 0, .cons _ t => .cons r t
  | _, _, i + 1, .cons q t => .cons q (Vals.set r i t)
theorem Vals.append : ∀ {xs ys : List V} {us ws : List Value}, Vals xs us → Vals ys ws → Vals (xs ++ ys) (us ++ ws)
  | _, _, _, _, .nil, s => s
  | _, _, _, _, .cons r t, s => .cons r (Vals.append t s)
theorem Vals.take : ∀ {xs : List V} {us : List Value} (n : Nat), Vals xs us → Vals (xs.take n) (us.take n)
  | _, _, 0, _ => .nil
  | _, _, _ + 1, .nil => .nil
  | _, _, n + 1, .cons r t => .cons r (Vals.take n t)
theorem Vals.drop : ∀ {xs : List V} {us : List Value} (n : Nat), Vals xs us → Vals (xs.drop n) (us.drop n)
  | _, _, 0, r => r
  | _, _, _ + 1, .nil => .nil
  | _, _, n + 1, .cons _ t => Vals.drop n t
noncomputable def RelO : Option V → Option Value → Prop
  | some v, some u => RelV v u
  | none, none => True
  | _, _ => False
noncomputable def KV {κ : Type} : List (κ × V) → List (κ × Value) → Prop := Paired fun (p : κ × V) (q : κ × Value) => p.1 = q.1 ∧ RelV p.2 q.2

noncomputable def kV : Key → V
  | .inl i => .int i
  | .inr x => .str x

inductive HO where
  /-- a list -/
  | lst (xs : List V)
  /-- a tuple (never changes) -/
  | tup (xs : List V)
  /-- a dict whose keys are ints and texts; one whose keys are tuples of ints and texts (the empty one is both) -/
  | dK (kvs : List (Key × V)) | dT (kvs : List (List Key × V))
  /-- a set of ints: its members, its size -/
  | set (S : Int → Bool) (n : Nat)
  /-- an instance of the class at C, its dict at dx, its attributes -/
  | ins (C dx : Addr) (fs : List (Str × V))
  /-- the dict of the instance at x -/
  | own (x : Addr)
  /-- the dict of an exception -/
  | xd (fs : List (Str × V))
  /-- a bound method, f of x -/
  | met (f x : Addr)
  /-- a range object lo, lo + 1, .. below hi -/
  | rng (lo hi : Int)
  /-- a thing that is known to the object (the script; a dict while a loop walks it): read, never written while it is so -/
  | frz (o : Obj) (u : HO)
  /-- a code object's table -/
  | tbl (ps : Array Value)
  /-- any other thing, by what is true of its one object (a def of one's own: SetO a S n := HO.ext fun h => ..) -/
  | ext (φ : Heap → Prop)

noncomputable abbrev Hp := Addr → Option HO
noncomputable def upd (H : Hp) (a : Addr) (o : HO) : Hp := fun b => if b = a then some o else H b
theorem upd_same {H : Hp} {a : Addr} {o : HO} : upd H a o a = some o := by unfold upd; rw [if_pos rfl]
theorem upd_ne {H : Hp} {a b : Addr} {o : HO} (h : b ≠ a) : upd H a o b = H b := by unfold upd; rw [if_neg h]
theorem ne_of {H : Hp} {a b : Addr} {o u : HO} (h : H a = some o) (h' : H b = some u) (d : o ≠ u) : a ≠ b := by
  intro e; subst e; rw [h] at h'; exact d (Option.some.inj h')
theorem ne_of_none {H : Hp} {a b : Addr} {o : HO} (h : H a = some o) (h' : H b = none) : a ≠ b := by
  intro e; subst e; rw [h] at h'; cases h'

noncomputable def IsTupD (h : Heap) (a : Addr) (items : Array Value) : Prop := ∃ o, h.get? a = some o ∧ o.cls = .type "tuple" ∧ (∃ n, o.data = .seq items n) ∧ o.dict = none
theorem IsTupD.lt {h : Heap} {a : Addr} {items : Array Value} (x : IsTupD h a items) : a < h.objs.size := let ⟨_, e, _⟩ := x; Heap.lt_size e
theorem IsTupD.tup {h : Heap} {a : Addr} {items : Array Value} (x : IsTupD h a items) : IsTup h a items := let ⟨o, e, c, d, _⟩ := x; ⟨o, e, c, d⟩
theorem IsTupD.new (h : Heap) (items : Array Value) : IsTupD (h.push { cls := .type "tuple", data := .seq items }) h.objs.size items := ⟨_, Heap.get?_push_size _ rfl, rfl, ⟨_, rfl⟩, rfl⟩
section
variable (P : Program) (w : World)
noncomputable def ObjOk (H : Hp) (h : Heap) (a : Addr) : HO → Prop
  | .lst xs => xs.length ≤ sizeLine ∧ ∃ (its : List Value) (n : Nat), Vals xs its ∧ h.get? a = some { cls := .type "list", data := .seq its.toArray n }
  | .tup xs => xs.length ≤ sizeLine ∧ ∃ its : List Value, Vals xs its ∧ IsTupD h a its.toArray
  | .dK kvs => kvs.length ≤ sizeLine ∧ (a == sysModules) = false ∧ ∃ vs, KV kvs vs ∧ h.DictOf (mixKind P w) a vs
  | .dT kvs => kvs.length ≤ sizeLine ∧ (a == sysModules) = false ∧ ∃ xs : List (List Key × Addr × Value),
      Paired (fun (p : List Key × V) (q : List Key × Addr × Value) => p.1 = q.1 ∧ H q.2.1 = some (.tup (p.1.map kV)) ∧ RelV p.2 q.2.2) kvs xs ∧
      ∃ o es ep, h.get? a = some o ∧ o.ExactDict ∧ o.data = .dict es ep ∧ es.toList = xs.map (entryOfKey (tupleKind (mixKind P w))) ∧ (xs.map (·.1)).Nodup
  | .set S n => h.SetOf (intKind P w) a S n
  | .ins C dx fs => H dx = some (.own a) ∧ fs.length ≤ 1000 ∧ dx ≠ a ∧ h.get? a = some (PySem.W.instObj C dx) ∧
      ∃ mA, h.Ns1 dx mA ∧ (∀ f, RelO (fs.lookup f) (mA f)) ∧ PySem.Within mA (fs.map (·.1))
  | .own _ => ∃ o, h.get? a = some o
  | .xd fs => ∃ mA, h.Ns1 a mA ∧ ∀ f, RelO (fs.lookup f) (mA f)
  | .rng lo hi => ∃ t u v, h.get? a = some { cls := .type "range", data := .fields #[.int lo t, .int hi u, .int 1 v] }
  | .frz o u => h.get? a = some o ∧ ObjOk H h a u
  | .tbl ps => h.get? a = some { cls := .none, data := .fields ps }
  | .met f x => h.get? a = some (PySem.W.methodObj (.ref f) (.ref x))
  | .ext φ => φ h ∧ (∃ o, h.get? a = some o) ∧ ∀ h1 h2 : Heap, φ h1 → (∀ o, h1.get? a = some o → h2.get? a = some o) → φ h2
noncomputable def HOk (H : Hp) (h : Heap) : Prop := ∀ a o, H a = some o → ObjOk P w H h a o
end

section
variable {P : Program} {w : World} {H H' : Hp} {h h' : Heap} {a : Addr} {o : HO}
theorem ObjOk.lt (x : ObjOk P w H h a o) : a < h.objs.size := by
  cases o with
  | lst xs => obtain ⟨_, _, _, _, e⟩ := x; exact Heap.lt_size e
  | tup xs => obtain ⟨_, _, _, p⟩ := x; exact p.lt
  | dK kvs => obtain ⟨_, _, _, _, o, _, _, e, _⟩ := x; exact Heap.lt_size e
  | dT kvs => obtain ⟨_, _, _, _, o, _, _, e, _⟩ := x; exact Heap.lt_size e
  | set S n => obtain ⟨o, _, _, _, e, _⟩ := x; exact Heap.lt_size e
  | ins C dx fs => obtain ⟨_, _, _, e, _⟩ := x; exact Heap.lt_size e
  | own y => obtain ⟨_, e⟩ := x; exact Heap.lt_size e
  | xd fs => obtain ⟨_, ⟨_, _, _, e, _⟩, _⟩ := x; exact Heap.lt_size e
  | rng lo hi => obtain ⟨_, _, _, e⟩ := x; exact Heap.lt_size e
  | frz ob u => obtain ⟨e, _⟩ := x; exact Heap.lt_size e
  | tbl ps => exact Heap.lt_size (show h.get? a = some _ from x)
  | met f y => exact Heap.lt_size (show h.get? a = some _ from x)
  | ext φ => obtain ⟨_, ⟨_, e⟩, _⟩ := x; exact Heap.lt_size e
theorem Paired.mapP {α β : Type} {F G : α → β → Prop} : ∀ {l₁ : List α} {l₂ : List β}, Paired F l₁ l₂ → (∀ a b, F a b → G a b) → Paired G l₁ l₂
  | _, _, .nil, _ => .nil
  | _, _, .cons r t, f => .cons (f _ _ r) (Paired.mapP t f)
theorem ObjOk.stay (x : ObjOk P w H h a o) (k : ∀ b u, (b = a ∨ H b = some (.own a)) → h.get? b = some u → h'.get? b = some u)
    (ho : ∀ b, H b = some (.own a) → H' b = some (.own a)) (ht : ∀ b xs, H b = some (.tup xs) → H' b = some (.tup xs)) : ObjOk P w H' h' a o := by
  induction o with
  | lst xs => obtain ⟨z, its, n, r, e⟩ := x; exact ⟨z, its, n, r, k _ _ (.inl rfl) e⟩
  | tup xs => obtain ⟨z, its, r, ob, e, c⟩ := x; exact ⟨z, its, r, ob, k _ _ (.inl rfl) e, c⟩
  | dK kvs => obtain ⟨z, y, vs, r, ob, es, ep, e, c⟩ := x; exact ⟨z, y, vs, r, ob, es, ep, k _ _ (.inl rfl) e, c⟩
  | dT kvs =>
    obtain ⟨z, y, xs, r, ob, es, ep, e, c⟩ := x
    exact ⟨z, y, xs, Paired.mapP r fun p q z => ⟨z.1, ht _ _ z.2.1, z.2.2⟩, ob, es, ep, k _ _ (.inl rfl) e, c⟩
  | set S n => obtain ⟨ob, es, ep, t, e, c⟩ := x; exact ⟨ob, es, ep, t, k _ _ (.inl rfl) e, c⟩
  | ins C dx fs =>
    obtain ⟨d, z, ne, e, mA, ⟨od, es, ep, e2, c⟩, r⟩ := x
    exact ⟨ho _ d, z, ne, k _ _ (.inl rfl) e, mA, ⟨od, es, ep, k _ _ (.inr d) e2, c⟩, r⟩
  | own y => obtain ⟨ob, e⟩ := x; exact ⟨ob, k _ _ (.inl rfl) e⟩
  | xd fs => obtain ⟨mA, ⟨od, es, ep, e, c⟩, r⟩ := x; exact ⟨mA, ⟨od, es, ep, k _ _ (.inl rfl) e, c⟩, r⟩
  | rng lo hi => obtain ⟨t, u, v, e⟩ := x; exact ⟨t, u, v, k _ _ (.inl rfl) e⟩
  | frz ob u ih => obtain ⟨e, q⟩ := x; exact ⟨k _ _ (.inl rfl) e, ih q⟩
  | tbl ps =>
    have e : h.get? a = some { cls := .none, data := .fields ps } := x
    show h'.get? a = some { cls := .none, data := .fields ps }
    exact k a _ (.inl rfl) e
  | met f y =>
    have e : h.get? a = some (PySem.W.methodObj (.ref f) (.ref y)) := x
    show h'.get? a = some (PySem.W.methodObj (.ref f) (.ref y))
    exact k a _ (.inl rfl) e
  | ext φ => obtain ⟨p, ⟨o, e⟩, st⟩ := x; exact ⟨st _ _ p fun o q => k _ _ (.inl rfl) q, ⟨o, k _ _ (.inl rfl) e⟩, st⟩
theorem HOk.lt (x : HOk P w H h) (e : H a = some o) : a < h.objs.size := (x a o e).lt
theorem HOk.fresh (x : HOk P w H h) (e : h.objs.size ≤ a) : H a = none := by
  cases q : H a with
  | none => rfl
  | some u => exact absurd (Nat.lt_of_lt_of_le (x.lt q) e) (Nat.lt_irrefl _)
theorem HOk.kept (x : HOk P w H h) (k : ∀ b u, h.get? b = some u → h'.get? b = some u) : HOk P w H h' := fun a o e =>
  (x a o e).stay (fun b u _ q => k b u q) (fun _ q => q) fun _ _ q => q
theorem HOk.laid (x : HOk P w H h) (k : ∀ b u, h.get? b = some u → h'.get? b = some u) (hp : h.objs.size ≤ a) (new : ObjOk P w (upd H a o) h' a o) : HOk P w (upd H a o) h' := fun b u e => by
  have hn := x.fresh hp
  by_cases hb : b = a
  · subst hb; rw [upd_same] at e; cases e; exact new
  · rw [upd_ne hb] at e
    exact (x b u e).stay (fun c v _ q => k c v q) (fun c q => by rw [upd_ne (ne_of_none q hn)]; exact q) fun c xs q => by rw [upd_ne (ne_of_none q hn)]; exact q
end

noncomputable def Rd (H : Hp) (a : Addr) (u : HO) : Prop := H a = some u ∨ ∃ o, H a = some (.frz o u)
theorem Rd.of {H : Hp} {a : Addr} {u : HO} (h : H a = some u) : Rd H a u := .inl h
theorem Rd.ok {P : Program} {w : World} {H : Hp} {h : Heap} {a : Addr} {u : HO} (r : Rd H a u) (x : HOk P w H h) : ObjOk P w H h a u := by
  rcases r with r | ⟨o, r⟩
  · exact x a u r
  · obtain ⟨_, q⟩ := x a _ r
    exact q
noncomputable def Mut : Option HO → Prop
  | some (.lst _) => True
  | some (.dK _) => True
  | some (.dT _) => True
  | some (.set _ _) => True
  | some (.ins _ _ _) => True
  | some (.ext _) => True
  | _ => False
section
variable {P : Program} {w : World} {H : Hp} {h h' : Heap} {x e : Addr} {o' : HO}
theorem HOk.write (ok : HOk P w H h) (mu : Mut (H x)) (he : e = x ∨ H e = some (.own x)) (k : ∀ b u, b ≠ e → h.get? b = some u → h'.get? b = some u) (heo : ∃ u, h'.get? e = some u)
    (new : ObjOk P w (upd H x o') h' x o') : HOk P w (upd H x o') h' := fun b u q => by
  have nown : ∀ c y, H c = some (.own y) → c ≠ x := fun c y r z => by subst z; rw [r] at mu; exact mu
  have ntup : ∀ c xs, H c = some (.tup xs) → c ≠ x := fun c xs r z => by subst z; rw [r] at mu; exact mu
  by_cases hb : b = x
  · subst hb; rw [upd_same] at q; cases q; exact new
  · rw [upd_ne hb] at q
    by_cases hbe : b = e
    · have q' : H b = some (.own x) := by
        rcases he with z | z
        · exact absurd (hbe.trans z) hb
        · rw [hbe]; exact z
      rw [q] at q'; cases q'
      obtain ⟨v, hv⟩ := heo
      exact ⟨v, by rw [hbe]; exact hv⟩
    · refine (ok b u q).stay (fun c v hc r => k c v ?_ r) (fun c r => by rw [upd_ne (nown c b r)]; exact r) fun c xs r => by rw [upd_ne (ntup c xs r)]; exact r
      rcases hc with rfl | hc
      · exact hbe
      · rintro rfl
        rcases he with z | z
        · exact nown c b hc z
        · rw [hc] at z; cases z; exact hb rfl
end

/-! ### kept unless tracked; of the frames at fs (the callers') the slots may change (an exception that passes writes there); of the records at ex (iterators) nothing is said -/
structure Un (fs ex : List Addr) (H H' : Hp) (h h' : Heap) : Prop where
  keep : ∀ b o, h.get? b = some o → H b = none → b ∉ fs → b ∉ ex → h'.get? b = some o
  slot : ∀ b o, h.get? b = some o → H b = none → b ∈ fs → b ∉ ex → ∃ sl, h'.get? b = some { o with slots := sl }
  free : ∀ b o, h.get? b = some o → H b = none → b ∉ ex → H' b = none
  there : ∀ b o, h.get? b = some o → b ∉ ex → ∃ o', h'.get? b = some o'
  tups : ∀ b xs, H b = some (.tup xs) → H' b = some (.tup xs)
  frzs : ∀ b o u, H b = some (.frz o u) → H' b = some (.frz o u)
  tbls : ∀ b ps, H b = some (.tbl ps) → ∃ more, H' b = some (.tbl (ps ++ more))
section
variable {fs fs' ex ex' : List Addr} {H H1 H2 : Hp} {h h1 h2 h' : Heap} {a x e : Addr} {o : HO}
theorem Un.any (u : Un fs ex H H1 h h1) {b : Addr} {ob : Obj} (q : h.get? b = some ob) (n : H b = none) (hx : b ∉ ex) : ∃ sl, h1.get? b = some { ob with slots := sl } := by
  by_cases hb : b ∈ fs
  · exact u.slot b ob q n hb hx
  · exact ⟨ob.slots, u.keep b ob q n hb hx⟩
theorem Un.trans (a : Un fs ex H H1 h h1) (b : Un fs ex H1 H2 h1 h2) : Un fs ex H H2 h h2 where
  keep := fun c ob q n hc hx => b.keep c ob (a.keep c ob q n hc hx) (a.free c ob q n hx) hc hx
  slot := fun c ob q n hc hx => by
    obtain ⟨sl, e1⟩ := a.slot c ob q n hc hx
    obtain ⟨sl', e2⟩ := b.slot c _ e1 (a.free c ob q n hx) hc hx
    exact ⟨sl', e2⟩
  free := fun c ob q n hx => by
    obtain ⟨o', e1⟩ := a.there c ob q hx
    exact b.free c o' e1 (a.free c ob q n hx) hx
  there := fun c ob q hx => by
    obtain ⟨o', e1⟩ := a.there c ob q hx
    exact b.there c o' e1 hx
  tups := fun c xs q => b.tups c xs (a.tups c xs q)
  frzs := fun c ob xs q => b.frzs c ob xs (a.frzs c ob xs q)
  tbls := fun c ps q => by
    obtain ⟨m1, e1⟩ := a.tbls c ps q
    obtain ⟨m2, e2⟩ := b.tbls c _ e1
    exact ⟨m1 ++ m2, by rw [e2, Array.append_assoc]⟩
theorem Un.kept (k : ∀ b u, h.get? b = some u → h'.get? b = some u) : Un fs ex H H h h' :=
  ⟨fun b ob q _ _ _ => k b ob q, fun b ob q _ _ _ => ⟨ob.slots, k b ob q⟩, fun _ _ _ n _ => n, fun b ob q _ => ⟨ob, k b ob q⟩, fun _ _ q => q, fun _ _ _ q => q, fun _ ps q => ⟨#[], by rw [q]; simp⟩⟩
theorem Un.refl : Un fs ex H H h h := Un.kept fun _ _ q => q
theorem Un.laid (k : ∀ b u, h.get? b = some u → h'.get? b = some u) (hp : h.objs.size ≤ a) (hn : H a = none) : Un fs ex H (upd H a o) h h' where
  keep := fun b u q _ _ _ => k b u q
  slot := fun b u q _ _ _ => ⟨u.slots, k b u q⟩
  free := fun b u q n _ => by rw [upd_ne (Nat.ne_of_lt (Nat.lt_of_lt_of_le (Heap.lt_size q) hp))]; exact n
  there := fun b u q _ => ⟨u, k b u q⟩
  tups := fun b xs q => by rw [upd_ne (ne_of_none q hn)]; exact q
  frzs := fun b u xs q => by rw [upd_ne (ne_of_none q hn)]; exact q
  tbls := fun b ps q => ⟨#[], by rw [upd_ne (ne_of_none q hn), q]; simp⟩
theorem Un.write (mu : Mut (H x)) (he : e = x ∨ H e = some (.own x)) (k : ∀ b u, b ≠ e → h.get? b = some u → h'.get? b = some u) (heo : ∃ u, h'.get? e = some u) : Un fs ex H (upd H x o) h h' := by
  have hx : ∀ b, H b = none → b ≠ x := fun b n z => by subst z; rw [n] at mu; exact mu
  have hb : ∀ b, H b = none → b ≠ e := fun b n z => by
    subst z
    rcases he with r | r
    · exact hx b n r
    · rw [n] at r; cases r
  have hm : ∀ b u, H b = some u → ¬ Mut (some u) → b ≠ x := fun b u q nm z => by subst z; rw [q] at mu; exact nm mu
  refine ⟨fun b u q n _ _ => k b u (hb b n) q, fun b u q n _ _ => ⟨u.slots, k b u (hb b n) q⟩, fun b u q n _ => by rw [upd_ne (hx b n)]; exact n, fun b u q _ => ?_,
    fun b xs q => by rw [upd_ne (hm b _ q fun z => z)]; exact q, fun b u xs q => by rw [upd_ne (hm b _ q fun z => z)]; exact q, fun b ps q => ⟨#[], by rw [upd_ne (hm b _ q fun z => z), q]; simp⟩⟩
  by_cases hbe : b = e
  · subst hbe; exact heo
  · exact ⟨u, k b u hbe q⟩
theorem Un.mono (u : Un fs ex H H1 h h1) (hs : ∀ b ∈ fs, b ∈ fs') (hx : ∀ b ∈ ex, b ∈ ex') : Un fs' ex' H H1 h h1 :=
  ⟨fun b ob q n hb he => u.keep b ob q n (fun z => hb (hs b z)) fun z => he (hx b z), fun _ _ q n _ he => u.any q n fun z => he (hx _ z), fun b ob q n he => u.free b ob q n fun z => he (hx b z), fun b ob q he => u.there b ob q fun z => he (hx b z), u.tups, u.frzs, u.tbls⟩
end

/-! ### the heap without what is tracked -/
noncomputable def trk (h : Heap) (H : Hp) : List Addr := (List.range h.objs.size).filter fun a => (H a).isSome
noncomputable def hidT (h : Heap) (H : Hp) : Heap := PySem.W.hideAll h (trk h H)
theorem hidT_size (h : Heap) (H : Hp) : (hidT h H).objs.size = h.objs.size := PySem.W.hideAll_size _ _
theorem hidT_get {h : Heap} {H : Hp} {b : Addr} {o : Obj} (e : h.get? b = some o) (n : H b = none) : (hidT h H).get? b = some o :=
  PySem.W.hideAll_get _ e fun hm => by
    have q : (H b).isSome = true := (List.mem_filter.mp hm).2
    rw [n] at q; simp at q
theorem of_hidT {h : Heap} {H : Hp} {b : Addr} {o : Obj} (e : (hidT h H).get? b = some o) : h.get? b = some o ∧ H b = none := by
  have e' : h.get? b = some o := PySem.W.of_hideAll (trk h H) e
  refine ⟨e', ?_⟩
  cases q : H b with
  | none => rfl
  | some x =>
    have hm : b ∈ trk h H := List.mem_filter.mpr ⟨List.mem_range.mpr (Heap.lt_size e'), by simp [q]⟩
    have z : (hidT h H).get? b = none := PySem.W.hideAll_none (trk h H) hm
    rw [z] at e; cases e

/-! ### OpenK's ledger, filled with every new object but one -/
noncomputable def allNews (g h : Heap) (L : Addr) : List (Addr × Obj) := (List.range h.objs.size).filterMap fun a => if a = L ∨ (g.get? a).isSome = true then none else (h.get? a).map fun o => (a, o)
noncomputable def rest (g h : Heap) (L d : Addr) : List (Addr × Obj) := (allNews g h L).filter fun p => decide (p.1 ≠ d)
end L2

namespace L2
open PySem PySem.Spec PyProof.Rows

structure Mod (K : PySem.W.Frag) (mg : Str → Option Value) (base : Heap) : Prop where
  kin : K.In base
  glob : base.Ns mainGlobals mg
  blt : ∃ mb, base.Ns builtinsNs mb ∧ ∀ x : Str, x ≠ "__name__" → mb x = bootBuiltins x
  nolimit : base.NoLimit

structure Cx where
  prog : Program
  w : World
  K : PySem.W.Frag
  mg : Str → Option Value
  base : Heap
  A : Around
  N : List Str
  s₀ : Shared
  H₀ : Hp
  env : Env
  outer : List Env
  stack : List Env
  ex : List Addr
  fn : Str → Bool
  calm : Bool
  pn : List (Addr × Obj)
  xe : Value → Shared → Prop
noncomputable def frs (l : List Env) : List Addr := l.filterMap (·.frame)
noncomputable abbrev Cx.fs (X : Cx) : List Addr := frs X.outer

noncomputable def Vis (sc : Scope) (x : Str) : Prop := sc.names.lookup x = some .local ∨ sc.names.lookup x = some .cell ∨ sc.names.lookup x = some .free
noncomputable def Loc (sc : Scope) (x : Str) : Prop := sc.names.lookup x = some .local ∨ sc.names.lookup x = some .cell
noncomputable def Look (env : Env) (h : Heap) (m : Str → Option Value) (x : Str) (u : Value) : Prop :=
  (env.kindOf x = some .local ∧ m x = some u) ∨ ((env.kindOf x = some .cell ∨ env.kindOf x = some .free) ∧ ∃ c, env.cells.lookup x = some c ∧ h.IsCell c (some u))

structure Cx.Ok (X : Cx) : Prop where
  mod : Mod X.K X.mg X.base
  kind : X.env.scope.kind = .function
  glob : X.env.globals = mainGlobals
  blt : X.env.builtins = builtinsNs
  above : X.s₀.heap.objs.size ≤ X.env.locals
  inj : ∀ x y c, X.env.cells.lookup x = some c → X.env.cells.lookup y = some c → x = y
  has : ∀ x, (X.env.kindOf x = some .cell ∨ X.env.kindOf x = some .free) → ∃ c, X.env.cells.lookup x = some c
  cab : ∀ x c, X.fn x = true → X.env.cells.lookup x = some c → X.s₀.heap.objs.size ≤ c
  hd : X.calm = true → X.A.handled = none
  frames : X.A.frames = some X.stack
  stk : X.stack = X.outer ∨ (X.stack = X.env :: X.outer ∧ X.env.frame = some X.env.locals)
  exf : ∀ b ∈ X.ex, b ≠ X.env.locals ∧ ∀ x c, X.env.cells.lookup x = some c → c ≠ b
  bs : ∀ b o, X.base.get? b = some o → X.s₀.heap.get? b = some o ∧ X.H₀ b = none
  bsz : X.base.objs.size ≤ X.s₀.heap.objs.size
  noex : ∀ b o, X.base.get? b = some o → b ∉ X.ex
  exfs : ∀ b ∈ X.ex, b ∉ X.fs
  funs : X.s₀.heap.FunFrames X.base X.outer
  frf : ∀ b ∈ X.fs, X.H₀ b = none

structure Inv (X : Cx) (pins : List (Addr × Obj)) (σ : List (Option V)) (H : Hp) (s : Shared) : Prop where
  ok : X.Ok
  os : s.os = X.s₀.os
  bare : AllBare s.gens
  base : Un X.fs X.ex X.H₀ H X.s₀.heap s.heap
  loc : ∃ m, s.heap.Ns X.env.locals m ∧ ∀ (i : Nat) (x : Str) (v : V), X.N[i]? = some x → σ[i]? = some (some v) → Vis X.env.scope x → ∃ u, RelV v u ∧ Look X.env s.heap m x u
  cell : ∀ x c, X.env.cells.lookup x = some c → ∃ v, s.heap.IsCell c v
  free : H X.env.locals = none
  freeC : ∀ x c, X.env.cells.lookup x = some c → H c = none
  pin : ∀ p ∈ X.pn ++ pins, s.heap.get? p.1 = some p.2 ∧ H p.1 = none ∧ p.1 ≠ X.env.locals ∧ p.1 ∉ X.fs ∧ ∀ v, p.2.data ≠ .cell v
  hok : HOk X.prog X.w H s.heap
  len : σ.length = X.N.length

section
variable {X : Cx} {pins : List (Addr × Obj)} {σ : List (Option V)} {H H' : Hp} {s : Shared} {h' : Heap}

theorem Cx.Ok.nofr (ok : X.Ok) {b : Addr} {o : Obj} (e : X.base.get? b = some o) : b ∉ X.fs := fun hb => by
  have := (ok.funs.mem hb).1
  rw [e] at this; cases this
theorem Inv.bs (I : Inv X pins σ H s) : ∀ b o, X.base.get? b = some o → s.heap.get? b = some o ∧ H b = none := fun b o e =>
  ⟨I.base.keep b o (I.ok.bs b o e).1 (I.ok.bs b o e).2 (I.ok.nofr e) (I.ok.noex b o e), I.base.free b o (I.ok.bs b o e).1 (I.ok.bs b o e).2 (I.ok.noex b o e)⟩
theorem Inv.bk (I : Inv X pins σ H s) : ∀ b o, X.base.get? b = some o → s.heap.get? b = some o := fun b o e => (I.bs b o e).1
theorem Inv.mod (I : Inv X pins σ H s) : Mod X.K X.mg X.base := I.ok.mod
theorem Inv.kIn (I : Inv X pins σ H s) : X.K.In s.heap := I.ok.mod.kin.keeps I.bk
theorem Inv.nolimit (I : Inv X pins σ H s) : s.heap.NoLimit := I.ok.mod.nolimit.keeps I.bk
theorem Inv.fr (I : Inv X pins σ H s) : ∃ m, Fr X.base X.env.locals s.heap m :=
  let ⟨m, hn, _⟩ := I.loc
  ⟨m, hn, I.bk, Nat.le_trans I.ok.bsz I.ok.above⟩
theorem Inv.lt (I : Inv X pins σ H s) : X.env.locals < s.heap.objs.size := let ⟨_, hn, _⟩ := I.loc; hn.lt
theorem Inv.sz (I : Inv X pins σ H s) : X.s₀.heap.objs.size ≤ s.heap.objs.size := Nat.le_trans I.ok.above (Nat.le_of_lt I.lt)
theorem Inv.nofs (I : Inv X pins σ H s) {a : Addr} (h : s.heap.objs.size ≤ a) : a ∉ X.fs := fun hb => by
  obtain ⟨_, o, ho, _⟩ := I.ok.funs.mem hb
  exact absurd (Nat.lt_of_lt_of_le (Heap.lt_size ho) (Nat.le_trans I.sz h)) (Nat.lt_irrefl _)
theorem Inv.cne (I : Inv X pins σ H s) : ∀ x c, X.env.cells.lookup x = some c → c ≠ X.env.locals := fun x c e z => by
  obtain ⟨v, o, ho, hd⟩ := I.cell x c e
  obtain ⟨m, ⟨o', es, ep, ho', hd', _⟩, _⟩ := I.loc
  rw [z, ho'] at ho; cases ho; rw [hd'] at hd; cases hd
theorem Inv.funs (I : Inv X pins σ H s) : s.heap.FunFrames X.base X.outer := by
  have all : ∀ (l : List Env), (∀ b ∈ frs l, b ∈ X.fs) → X.s₀.heap.FunFrames X.base l → s.heap.FunFrames X.base l := by
    intro l
    induction l with
    | nil => intro _ _; trivial
    | cons env r ih =>
      intro hs hl
      obtain ⟨hk, ⟨L, o, hf, hn, ho, hd⟩, hr⟩ := hl
      have hL : L ∈ X.fs := hs L (by unfold frs; rw [List.filterMap_cons, hf]; exact List.mem_cons_self)
      obtain ⟨sl, e⟩ := I.base.slot L o ho (I.ok.frf L hL) hL fun z => I.ok.exfs L z hL
      exact ⟨hk, ⟨L, _, hf, hn, e, hd⟩, ih (fun b hb => hs b (by unfold frs; rw [List.filterMap_cons, hf]; exact List.mem_cons_of_mem _ hb)) hr⟩
  exact all X.outer (fun _ hb => hb) I.ok.funs

theorem Inv.stack (I : Inv X pins σ H s) : s.heap.FunFrames X.base X.stack := by
  rcases I.ok.stk with e | ⟨e, hf⟩
  · rw [e]; exact I.funs
  · rw [e]
    obtain ⟨m, hn, _⟩ := I.loc
    refine .cons (by rw [I.ok.kind]; decide) hf hn ?_ I.funs
    exact Heap.get?_none_of_le (Nat.le_trans I.ok.bsz I.ok.above)
theorem Inv.stkSub (I : Inv X pins σ H s) : ∀ b ∈ frs X.stack, b ∈ X.env.locals :: X.fs := fun b hb => by
  rcases I.ok.stk with e | ⟨e, hf⟩
  · rw [e] at hb; exact List.mem_cons_of_mem _ hb
  · rw [e] at hb
    unfold frs at hb
    rw [List.filterMap_cons, hf] at hb
    exact hb
theorem Inv.stkFree (I : Inv X pins σ H s) : ∀ b ∈ frs X.stack, H b = none := fun b hb => by
  rcases List.mem_cons.mp (I.stkSub b hb) with e | hb
  · rw [e]; exact I.free
  · obtain ⟨_, o, ho, _⟩ := I.ok.funs.mem hb
    exact I.base.free b o ho (I.ok.frf b hb) fun z => I.ok.exfs b z hb

theorem Inv.step {g' : Array GenState} {t' : Nat} {d' : Drawn} {ch : List Addr} (I : Inv X pins σ H s)
    (hch : ∀ b ∈ ch, (b ∈ X.ex ∨ X.s₀.heap.objs.size ≤ b) ∧ b ≠ X.env.locals ∧ (∀ x c, X.env.cells.lookup x = some c → c ≠ b) ∧ ∀ p ∈ X.pn ++ pins, p.1 ≠ b)
    (keep : ∀ b o, b ≠ X.env.locals → b ∉ X.fs → b ∉ ch → s.heap.get? b = some o → H b = none → h'.get? b = some o)
    (slot : ∀ b o, b ≠ X.env.locals → b ∈ X.fs → b ∉ ch → s.heap.get? b = some o → H b = none → ∃ sl, h'.get? b = some { o with slots := sl }) (free : ∀ b o, b ∉ ch → s.heap.get? b = some o → H b = none → H' b = none)
    (there : ∀ b o, b ∉ ch → s.heap.get? b = some o → ∃ o', h'.get? b = some o')
    (tups : ∀ b xs, H b = some (.tup xs) → H' b = some (.tup xs)) (frzs : ∀ b o u, H b = some (.frz o u) → H' b = some (.frz o u)) (tbls : ∀ b ps, H b = some (.tbl ps) → ∃ more, H' b = some (.tbl (ps ++ more)))
    (ns : ∀ m, s.heap.Ns X.env.locals m → h'.Ns X.env.locals m) (hok : HOk X.prog X.w H' h') (hg : AllBare g') :
    Inv X pins σ H' { s with heap := h', gens := g', drawn := d', toks := t' } := by
  have neL : ∀ b o, X.s₀.heap.get? b = some o → b ≠ X.env.locals := fun b o e => Nat.ne_of_lt (Nat.lt_of_lt_of_le (Heap.lt_size e) I.ok.above)
  have neC : ∀ b o, X.s₀.heap.get? b = some o → b ∉ X.ex → b ∉ ch := fun b o e hx hb => by
    rcases (hch b hb).1 with z | z
    · exact hx z
    · exact absurd (Nat.lt_of_lt_of_le (Heap.lt_size e) z) (Nat.lt_irrefl _)
  have cellK : ∀ x c, X.env.cells.lookup x = some c → ∀ v, s.heap.IsCell c v → h'.IsCell c v := fun x c e v ⟨o, ho, hd⟩ => by
    have nch : c ∉ ch := fun z => (hch c z).2.2.1 x c e rfl
    by_cases hc : c ∈ X.fs
    · obtain ⟨sl, q⟩ := slot c o (I.cne x c e) hc nch ho (I.freeC x c e)
      exact ⟨_, q, hd⟩
    · exact ⟨o, keep c o (I.cne x c e) hc nch ho (I.freeC x c e), hd⟩
  refine ⟨I.ok, I.os, hg, ⟨fun b o e n hb hx => ?_, fun b o e n hb hx => ?_, fun b o e n hx => ?_, fun b o e hx => ?_, fun b xs e => tups b xs (I.base.tups b xs e), fun b o xs e => frzs b o xs (I.base.frzs b o xs e), fun b ps e => ?_⟩, ?_, fun x c e => ?_, ?_, fun x c e => ?_, fun p hp => ?_, hok, I.len⟩
  · exact keep b o (neL b o e) hb (neC b o e hx) (I.base.keep b o e n hb hx) (I.base.free b o e n hx)
  · obtain ⟨sl, e1⟩ := I.base.slot b o e n hb hx
    obtain ⟨sl', e2⟩ := slot b _ (neL b o e) hb (neC b o e hx) e1 (I.base.free b o e n hx)
    exact ⟨sl', e2⟩
  · obtain ⟨o', e1⟩ := I.base.there b o e hx
    exact free b o' (neC b o e hx) e1 (I.base.free b o e n hx)
  · obtain ⟨o', e1⟩ := I.base.there b o e hx
    exact there b o' (neC b o e hx) e1
  · obtain ⟨m1, e1⟩ := I.base.tbls b ps e
    obtain ⟨m2, e2⟩ := tbls b _ e1
    exact ⟨m1 ++ m2, by rw [e2, Array.append_assoc]⟩
  · obtain ⟨m, hn, hl⟩ := I.loc
    refine ⟨m, ns m hn, fun i x v e1 e2 e3 => ?_⟩
    obtain ⟨u, r, l⟩ := hl i x v e1 e2 e3
    refine ⟨u, r, ?_⟩
    rcases l with l | ⟨k, c, e, z⟩
    · exact .inl l
    · exact .inr ⟨k, c, e, cellK x c e _ z⟩
  · obtain ⟨v, z⟩ := I.cell x c e
    exact ⟨v, cellK x c e v z⟩
  · obtain ⟨m, ⟨o, _, _, ho, _⟩, _⟩ := I.loc
    exact free _ o (fun z => (hch _ z).2.1 rfl) ho I.free
  · obtain ⟨v, o, ho, hd⟩ := I.cell x c e
    exact free c o (fun z => (hch c z).2.2.1 x c e rfl) ho (I.freeC x c e)
  · obtain ⟨e, n, ne, nf, d⟩ := I.pin p hp
    have nch : p.1 ∉ ch := fun z => (hch p.1 z).2.2.2 p hp rfl
    exact ⟨keep p.1 p.2 ne nf nch e n, free p.1 p.2 nch e n, ne, nf, d⟩
theorem Inv.un {t' : Nat} (I : Inv X pins σ H s) (u : Un X.fs [] H H' s.heap h') (hok : HOk X.prog X.w H' h') : Inv X pins σ H' { s with heap := h', toks := t' } := by
  obtain ⟨m, ⟨o, es, ep, ho, r⟩, _⟩ := id I.loc
  obtain ⟨sl, hL⟩ := u.any ho I.free (by simp)
  exact I.step (g' := s.gens) (d' := s.drawn) (ch := []) (fun _ z => nomatch z) (fun b o _ hb _ e n => u.keep b o e n hb (by simp)) (fun b o _ hb _ e n => u.slot b o e n hb (by simp)) (fun b o _ e n => u.free b o e n (by simp)) (fun b o _ e => u.there b o e (by simp)) u.tups u.frzs u.tbls (fun m' hm => by
    obtain ⟨o', es', ep', ho', r'⟩ := hm
    rw [ho] at ho'; cases ho'
    exact ⟨_, es', ep', hL, r'⟩) hok I.bare
theorem Inv.call {g' : Array GenState} {t' : Nat} {d' : Drawn} {ch : List Addr} (I : Inv X pins σ H s) (u : Un (frs X.stack) ch H H' s.heap h') (hok : HOk X.prog X.w H' h') (hg : AllBare g')
    (hch : ∀ b ∈ ch, (b ∈ X.ex ∨ X.s₀.heap.objs.size ≤ b) ∧ b ≠ X.env.locals ∧ (∀ x c, X.env.cells.lookup x = some c → c ≠ b) ∧ ∀ p ∈ X.pn ++ pins, p.1 ≠ b) :
    Inv X pins σ H' { s with heap := h', gens := g', drawn := d', toks := t' } := by
  obtain ⟨m, ⟨o, es, ep, ho, r⟩, _⟩ := id I.loc
  obtain ⟨sl, hL⟩ := u.any ho I.free fun z => (hch _ z).2.1 rfl
  exact I.step (ch := ch) hch (fun b o hL hb hc e n => u.keep b o e n (fun z => (List.mem_cons.mp (I.stkSub b z)).elim hL hb) hc) (fun b o _ _ hc e n => u.any e n hc) (fun b o hc e n => u.free b o e n hc) (fun b o hc e => u.there b o e hc) u.tups u.frzs u.tbls (fun m' hm => by
    obtain ⟨o', es', ep', ho', r'⟩ := hm
    rw [ho] at ho'; cases ho'
    exact ⟨_, es', ep', hL, r'⟩) hok hg
theorem Inv.turned {t' : Nat} {it : Addr} (I : Inv X pins σ H s) (k : ∀ b o, b ≠ it → s.heap.get? b = some o → h'.get? b = some o) (hn : H it = none) (hL : it ≠ X.env.locals)
    (h1 : it ∈ X.ex ∨ X.s₀.heap.objs.size ≤ it) (h2 : ∀ x c, X.env.cells.lookup x = some c → c ≠ it) (h3 : ∀ p ∈ X.pn ++ pins, p.1 ≠ it) : Inv X pins σ H { s with heap := h', toks := t' } := by
  have nit : ∀ b u, H b = some u → b ≠ it := fun b u e z => by rw [z, hn] at e; cases e
  refine I.step (g' := s.gens) (d' := s.drawn) (ch := [it]) (fun b hb => ?_) (fun b o _ _ hc e _ => k b o (fun z => hc (by simp [z])) e) (fun b o _ _ hc e _ => ⟨o.slots, k b o (fun z => hc (by simp [z])) e⟩) (fun _ _ _ _ n => n)
    (fun b o hc e => ⟨o, k b o (fun z => hc (by simp [z])) e⟩) (fun _ _ e => e) (fun _ _ _ e => e) (fun b ps e => ⟨#[], by rw [e]; simp⟩) (fun m hm => ?_) (fun b u e => ?_) I.bare
  · have e : b = it := by simpa using hb
    subst e
    exact ⟨h1, hL, h2, h3⟩
  · obtain ⟨o, es, ep, ho, r⟩ := hm
    exact ⟨o, es, ep, k _ o (Ne.symm hL) ho, r⟩
  · refine (I.hok b u e).stay (fun c v hc q => k c v ?_ q) (fun _ q => q) fun _ _ q => q
    rcases hc with z | z
    · rw [z]; exact nit b u e
    · exact nit c _ z
theorem Inv.tok (I : Inv X pins σ H s) (t : Nat) : Inv X pins σ H { s with toks := t } := I.un (h' := s.heap) (t' := t) Un.refl I.hok
theorem Inv.kept {t' : Nat} (I : Inv X pins σ H s) (k : ∀ b u, s.heap.get? b = some u → h'.get? b = some u) : Inv X pins σ H { s with heap := h', toks := t' } := I.un (Un.kept k) (I.hok.kept k)
theorem Inv.laid {a : Addr} {o : HO} {t' : Nat} (I : Inv X pins σ H s) (k : ∀ b u, s.heap.get? b = some u → h'.get? b = some u) (hp : s.heap.objs.size ≤ a) (new : ObjOk X.prog X.w (upd H a o) h' a o) :
    Inv X pins σ (upd H a o) { s with heap := h', toks := t' } := I.un (Un.laid k hp (I.hok.fresh hp)) (I.hok.laid k hp new)
theorem Inv.write {x e : Addr} {o : HO} {t' : Nat} (I : Inv X pins σ H s) (mu : Mut (H x)) (he : e = x ∨ H e = some (.own x)) (k : ∀ b u, b ≠ e → s.heap.get? b = some u → h'.get? b = some u) (heo : ∃ u, h'.get? e = some u)
    (new : ObjOk X.prog X.w (upd H x o) h' x o) : Inv X pins σ (upd H x o) { s with heap := h', toks := t' } := I.un (Un.write mu he k heo) (I.hok.write mu he k heo new)
theorem Inv.weak {σ' : List (Option V)} (I : Inv X pins σ H s) (hl : σ'.length = σ.length) (w : ∀ (i : Nat) v, σ'[i]? = some (some v) → σ[i]? = some (some v)) : Inv X pins σ' H s :=
  ⟨I.ok, I.os, I.bare, I.base, let ⟨m, hn, hl'⟩ := I.loc; ⟨m, hn, fun i x v e1 e2 e3 => hl' i x v e1 (w i v e2) e3⟩, I.cell, I.free, I.freeC, I.pin, I.hok, hl.trans I.len⟩
theorem Inv.pins_of {pins' : List (Addr × Obj)} (I : Inv X pins σ H s) (h : ∀ p ∈ pins', s.heap.get? p.1 = some p.2 ∧ H p.1 = none ∧ p.1 ≠ X.env.locals ∧ p.1 ∉ X.fs ∧ ∀ v, p.2.data ≠ .cell v) : Inv X pins' σ H s :=
  ⟨I.ok, I.os, I.bare, I.base, I.loc, I.cell, I.free, I.freeC, fun p hp => (List.mem_append.mp hp).elim (fun z => I.pin p (List.mem_append_left _ z)) (h p), I.hok, I.len⟩

theorem nodup_ix {N : List Str} (hN : N.Nodup) {i j : Nat} {x : Str} (a : N[i]? = some x) (b : N[j]? = some x) : i = j := by
  obtain ⟨h1, e1⟩ := List.getElem?_eq_some_iff.mp a
  obtain ⟨h2, e2⟩ := List.getElem?_eq_some_iff.mp b
  exact (List.getElem_inj hN).mp (e1.trans e2.symm)

theorem store_ok2 {M : Model} {A : Around} {E : Value → Shared → Prop} {i : Nat} {x : Str} {v : V} {u : Value} {Q : Unit → Shared → Prop} (I : Inv X pins σ H s) (hN : X.N.Nodup) (hi : X.N[i]? = some x) (hx : Loc X.env.scope x) (r : RelV v u)
    (h : ∀ s', Inv X pins (σ.set i (some v)) H s' → (∃ a, Heap.SameBut a s.heap s'.heap ∧ (a = X.env.locals ∨ X.env.cells.lookup x = some a)) → Q () s') (hf : X.fn x = true ∨ X.env.scope.names.lookup x = some .local := by first | exact .inl rfl | exact .inr rfl | assumption) : wpAny M A (storeName X.env x u) Q E s := by
  obtain ⟨m, hn, hl⟩ := id I.loc
  have hcls : (X.env.scope.kind == .class || (X.env.scope.kind == .module && X.env.locals != X.env.globals)) = false := by rw [I.ok.kind]; rfl
  have hiσ : i < σ.length := by rw [I.len]; exact (List.getElem?_eq_some_iff.mp hi).1
  have cne := I.cne
  have tracked : ∀ {a : Addr} {h' : Heap}, (∃ o, s.heap.get? a = some o ∧ H a = none) → Heap.SameBut a s.heap h' → HOk X.prog X.w H h' := fun {a h'} ha hs b ob e => by
    obtain ⟨_, _, hfree⟩ := ha
    refine (I.hok b ob e).stay (fun c w' hc q => (hs.2 c ?_).trans q) (fun _ q => q) fun _ _ q => q
    rintro rfl
    rcases hc with rfl | hc
    · rw [hfree] at e; cases e
    · rw [hfree] at hc; cases hc
  rcases hx with hk | hk
  · refine wpAny_storeName_local hk hn (fun h' hn' hs => ?_) hcls
    obtain ⟨oL, _, _, hoL, _⟩ := id hn
    refine h _ ⟨I.ok, I.os, I.bare, ⟨fun b o e n hb hx => ?_, fun b o e n hb hx => ?_, I.base.free, fun b o e hx => ?_, I.base.tups, I.base.frzs, I.base.tbls⟩, ⟨_, hn', fun j y v' e1 e2 e3 => ?_⟩, fun y c e => ?_, I.free, I.freeC, fun p hp => ?_, tracked ⟨oL, hoL, I.free⟩ hs, by simpa using I.len⟩ ⟨_, hs, .inl rfl⟩
    · exact (hs.2 b (Nat.ne_of_lt (Nat.lt_of_lt_of_le (Heap.lt_size e) I.ok.above))).trans (I.base.keep b o e n hb hx)
    · obtain ⟨sl, e1⟩ := I.base.slot b o e n hb hx
      exact ⟨sl, (hs.2 b (Nat.ne_of_lt (Nat.lt_of_lt_of_le (Heap.lt_size e) I.ok.above))).trans e1⟩
    · obtain ⟨o', e1⟩ := I.base.there b o e hx
      exact ⟨o', (hs.2 b (Nat.ne_of_lt (Nat.lt_of_lt_of_le (Heap.lt_size e) I.ok.above))).trans e1⟩
    · by_cases hj : j = i
      · subst hj
        rw [hi] at e1; cases e1
        rw [List.getElem?_set_self hiσ] at e2
        cases e2
        exact ⟨u, r, .inl ⟨hk, by simp⟩⟩
      · rw [List.getElem?_set_ne (Ne.symm hj)] at e2
        obtain ⟨u', r', q⟩ := hl j y v' e1 e2 e3
        refine ⟨u', r', ?_⟩
        rcases q with ⟨k, e⟩ | ⟨k, c, e, z⟩
        · refine .inl ⟨k, ?_⟩
          have : y ≠ x := fun e => hj (nodup_ix hN e1 (e ▸ hi))
          simp [this, e]
        · exact .inr ⟨k, c, e, z.sameBut hs (cne y c e)⟩
    · obtain ⟨w', z⟩ := I.cell y c e
      exact ⟨w', z.sameBut hs (cne y c e)⟩
    · obtain ⟨e, n, ne, nf, d⟩ := I.pin p hp
      exact ⟨(hs.2 p.1 ne).trans e, n, ne, nf, d⟩
  · have hfn : X.fn x = true := by
      rcases hf with z | z
      · exact z
      · rw [z] at hk; cases hk
    obtain ⟨c, hc⟩ := I.ok.has x (.inl hk)
    obtain ⟨w', z⟩ := I.cell x c hc
    refine wpAny_storeName_cell I.ok.kind hk hc z (fun h' hc' hs => ?_)
    obtain ⟨oc, hoc, hocd⟩ := id z
    refine h { s with heap := h' } ⟨I.ok, I.os, I.bare, ⟨fun b o e n hb hx => ?_, fun b o e n hb hx => ?_, I.base.free, fun b o e hx => ?_, I.base.tups, I.base.frzs, I.base.tbls⟩, ⟨m, hn.sameBut hs (Ne.symm (cne x c hc)), fun j y v' e1 e2 e3 => ?_⟩, fun y c' e => ?_, I.free, I.freeC, fun p hp => ?_, tracked ⟨oc, hoc, I.freeC x c hc⟩ hs, by simpa using I.len⟩ ⟨c, hs, .inr hc⟩
    · exact (hs.2 b (Nat.ne_of_lt (Nat.lt_of_lt_of_le (Heap.lt_size e) (I.ok.cab x c hfn hc)))).trans (I.base.keep b o e n hb hx)
    · obtain ⟨sl, e1⟩ := I.base.slot b o e n hb hx
      exact ⟨sl, (hs.2 b (Nat.ne_of_lt (Nat.lt_of_lt_of_le (Heap.lt_size e) (I.ok.cab x c hfn hc)))).trans e1⟩
    · obtain ⟨o', e1⟩ := I.base.there b o e hx
      exact ⟨o', (hs.2 b (Nat.ne_of_lt (Nat.lt_of_lt_of_le (Heap.lt_size e) (I.ok.cab x c hfn hc)))).trans e1⟩
    · by_cases hj : j = i
      · subst hj
        rw [hi] at e1; cases e1
        rw [List.getElem?_set_self hiσ] at e2
        cases e2
        exact ⟨u, r, .inr ⟨.inl hk, c, hc, hc'⟩⟩
      · rw [List.getElem?_set_ne (Ne.symm hj)] at e2
        obtain ⟨u', r', q⟩ := hl j y v' e1 e2 e3
        refine ⟨u', r', ?_⟩
        rcases q with q | ⟨k, c', e, z'⟩
        · exact .inl q
        · refine .inr ⟨k, c', e, z'.sameBut hs ?_⟩
          rintro rfl
          exact hj (nodup_ix hN e1 (I.ok.inj _ _ _ e hc ▸ hi))
    · by_cases hcc : c' = c
      · subst hcc; exact ⟨_, hc'⟩
      · obtain ⟨w2, z2⟩ := I.cell y c' e
        exact ⟨w2, z2.sameBut hs hcc⟩
    · obtain ⟨e, n, ne, nf, d⟩ := I.pin p hp
      refine ⟨(hs.2 p.1 ?_).trans e, n, ne, nf, d⟩
      intro q
      rw [q, hoc] at e
      have q' : oc = p.2 := Option.some.inj e
      exact d w' (by rw [← q']; exact hocd)
theorem store_ok {M : Model} {A : Around} {E : Value → Shared → Prop} {i : Nat} {x : Str} {v : V} {u : Value} {Q : Unit → Shared → Prop} (I : Inv X pins σ H s) (hN : X.N.Nodup) (hi : X.N[i]? = some x) (hx : Loc X.env.scope x) (r : RelV v u)
    (h : ∀ s', Inv X pins (σ.set i (some v)) H s' → Q () s') (hf : X.fn x = true ∨ X.env.scope.names.lookup x = some .local := by first | exact .inl rfl | exact .inr rfl | assumption) : wpAny M A (storeName X.env x u) Q E s :=
  store_ok2 I hN hi hx r (fun s' I' _ => h s' I') hf
theorem Inv.call' {s' : Shared} {ch : List Addr} (I : Inv X pins σ H s) (ho : s'.os = s.os) (u : Un (frs X.stack) ch H H' s.heap s'.heap) (hok : HOk X.prog X.w H' s'.heap) (hg : AllBare s'.gens)
    (hch : ∀ b ∈ ch, (b ∈ X.ex ∨ X.s₀.heap.objs.size ≤ b) ∧ b ≠ X.env.locals ∧ (∀ x c, X.env.cells.lookup x = some c → c ≠ b) ∧ ∀ p ∈ X.pn ++ pins, p.1 ≠ b) : Inv X pins σ H' s' := by
  obtain ⟨h', g', d', t', o'⟩ := s'
  have e : o' = s.os := ho
  subst e
  exact I.call (g' := g') (t' := t') (d' := d') u hok hg hch
end

/-! ### the judgements -/
noncomputable abbrev XK := Value → Option Addr → Hp → Prop
noncomputable abbrev St := List (Option V)
noncomputable abbrev VK := V → Hp → Prop
noncomputable abbrev TE := St → Hp → VK → Prop
noncomputable abbrev TT := St → Hp → (Bool → Hp → Prop) → Prop
noncomputable abbrev TA := St → Hp → (List V → Hp → Prop) → Prop
structure Ends where
  nx : St → Hp → Prop
  rt : VK
  bk : St → Hp → Prop := fun _ _ => False
  ct : St → Hp → Prop := fun _ _ => False
noncomputable abbrev TS := Ends → St → Hp → Prop

noncomputable def EP (X : Cx) (pins : List (Addr × Obj)) (σ : St) (Q : VK) (u : Value) (s' : Shared) : Prop := ∃ v H', Inv X pins σ H' s' ∧ RelV v u ∧ Q v H'
noncomputable def TP (X : Cx) (pins : List (Addr × Obj)) (σ : St) (Q : Bool → Hp → Prop) (b : Bool) (s' : Shared) : Prop := ∃ H', Inv X pins σ H' s' ∧ Q b H'
noncomputable def AP (X : Cx) (pins : List (Addr × Obj)) (σ : St) (Q : List V → Hp → Prop) (us : List Value) (s' : Shared) : Prop := ∃ vs H', Inv X pins σ H' s' ∧ Vals vs us ∧ Q vs H'
noncomputable def SP (X : Cx) (pins : List (Addr × Obj)) (D : Ends) (f : Flow) (s' : Shared) : Prop :=
  match f with
  | .next => ∃ σ' H', Inv X pins σ' H' s' ∧ D.nx σ' H'
  | .brk => ∃ σ' H', Inv X pins σ' H' s' ∧ D.bk σ' H'
  | .cont => ∃ σ' H', Inv X pins σ' H' s' ∧ D.ct σ' H'
  | .ret u => ∃ v σ' H', Inv X pins σ' H' s' ∧ RelV v u ∧ D.rt v H'

noncomputable def PE (X : Cx) (e : Expr) (t : TE) : Prop :=
  ∀ (pins : List (Addr × Obj)) (s : Shared) (σ : St) (H : Hp) (Q : VK), Inv X pins σ H s → t σ H Q → wpAny (model X.prog X.w) X.A (eval e X.env) (EP X pins σ Q) X.xe s
noncomputable def PT (X : Cx) (e : Expr) (t : TT) : Prop :=
  ∀ (pins : List (Addr × Obj)) (s : Shared) (σ : St) (H : Hp) (Q : Bool → Hp → Prop), Inv X pins σ H s → t σ H Q → wpAny (model X.prog X.w) X.A (isTrue e X.env (eval e X.env)) (TP X pins σ Q) X.xe s
noncomputable def PW (X : Cx) (e : Expr) (t : TT) : Prop :=
  ∀ (whole : Sem Value) (pins : List (Addr × Obj)) (s : Shared) (σ : St) (H : Hp) (Q : Bool → Hp → Prop), Inv X pins σ H s → t σ H Q → wpAny (model X.prog X.w) X.A (isTrue e X.env whole) (TP X pins σ Q) X.xe s
theorem PW.pt {X : Cx} {e : Expr} {t : TT} (h : PW X e t) : PT X e t := h _
noncomputable def PA (X : Cx) (es : List Expr) (t : TA) : Prop :=
  ∀ (pos : Pos) (pins : List (Addr × Obj)) (s : Shared) (σ : St) (H : Hp) (Q : List V → Hp → Prop), Inv X pins σ H s → t σ H Q → wpAny (model X.prog X.w) X.A (spliced (backTo pos (starEach es X.env))) (AP X pins σ Q) X.xe s
noncomputable def PS (X : Cx) (st : Stmt) (t : TS) : Prop :=
  ∀ (pins : List (Addr × Obj)) (s : Shared) (σ : St) (H : Hp) (D : Ends), Inv X pins σ H s → t D σ H → wpAny (model X.prog X.w) X.A (exec st X.env) (SP X pins D) X.xe s
noncomputable def PSs (X : Cx) (st : List Stmt) (t : TS) : Prop :=
  ∀ (pins : List (Addr × Obj)) (s : Shared) (σ : St) (H : Hp) (D : Ends), Inv X pins σ H s → t D σ H → wpAny (model X.prog X.w) X.A (execs st X.env) (SP X pins D) X.xe s
theorem thn {α : Type} {t : Sem α} {Q Q' : α → Shared → Prop} {M : Model} {A : Around} {E : Value → Shared → Prop} {s : Shared} (h : wpAny M A t Q E s) (hQ : ∀ a s, Q a s → Q' a s) : wpAny M A t Q' E s := wpAny_mono h hQ fun _ _ x => x
end L2

namespace L2
open PySem PySem.Spec PyProof.Rows
section
variable {X : Cx}

/-! ### names and constants -/
noncomputable def tVar (i : Nat) : TE := fun σ H Q => ∃ v, σ[i]? = some (some v) ∧ Q v H
noncomputable def tC (v : V) : TE := fun _ H Q => Q v H
theorem pe_var {i : Nat} {x : Str} {pos : Pos} (hN : X.N[i]? = some x) (hv : Vis X.env.scope x) (hd : (x == ("__debug__" : Str)) = false := by decide) (hcd : (x == ("__classdict__" : Str)) = false := by decide) : PE X (.Name x pos) (tVar i) := by
  intro pins s σ H Q I h
  obtain ⟨v, e, h⟩ := h
  obtain ⟨m, hn, hl⟩ := I.loc
  obtain ⟨u, r, l⟩ := hl i x v hN e hv
  have fin : EP X pins σ Q u s := ⟨v, H, I, r, h⟩
  rcases l with ⟨hk, hm⟩ | ⟨hk, c, hc, hcell⟩
  · exact wpAny_Name (wpAny_loadName_local I.ok.kind hk hn hm fin) hd
  · rcases hk with hk | hk
    · exact wpAny_Name (wpAny_loadName_cell I.ok.kind hk hc hcell fin) hd
    · exact wpAny_Name (wpAny_loadName_free I.ok.kind hk hc hcell fin hcd) hd
theorem pe_int {i j pos} : PE X (.Constant (.int i) j pos) (tC (.int i)) := fun _ _ _ H _ I h => wpAny_Constant_int ⟨.int i, H, I.tok _, ⟨_, rfl⟩, h⟩
theorem pe_bl {b j pos} : PE X (.Constant (.bool b) j pos) (tC (.bl b)) := fun _ _ _ H _ I h => Constant_bool ⟨.bl b, H, I, rfl, h⟩
theorem pe_non {j pos} : PE X (.Constant .none j pos) (tC .non) := fun _ _ _ H _ I h => Constant_none ⟨.non, H, I, rfl, h⟩
theorem pe_str {x j pos} : PE X (.Constant (.str x) j pos) (tC (.str x)) := fun _ _ _ H _ I h => Calls.Constant_str ⟨.str x, H, I.tok _, ⟨_, rfl⟩, h⟩

noncomputable def Gl (X : Cx) (x : Str) : Prop := X.env.kindOf x = some .globalImplicit
theorem ld_glob {E : Value → Shared → Prop} {pins : List (Addr × Obj)} {s : Shared} {σ : St} {H : Hp} {x : Str} {u : Value} {pos : Pos} {Q : Value → Shared → Prop} (I : Inv X pins σ H s) (hg : Gl X x) (hm : X.mg x = some u) (h : Q u s)
    (hd : (x == ("__debug__" : Str)) = false := by decide) : wpAny (model X.prog X.w) X.A (eval (.Name x pos) X.env) Q E s :=
  Calls.Name_function_global I.ok.kind hg (Calls.loadGlobal_global (by rw [I.ok.glob]; exact I.mod.glob.keeps I.bk) hm h) hd
theorem ld_blt {E : Value → Shared → Prop} {pins : List (Addr × Obj)} {s : Shared} {σ : St} {H : Hp} {x : Str} {u : Value} {pos : Pos} {Q : Value → Shared → Prop} (I : Inv X pins σ H s) (hg : Gl X x) (hm : X.mg x = none) (hv : bootBuiltins x = some u) (h : Q u s)
    (hn : x ≠ "__name__" := by decide) (hd : (x == ("__debug__" : Str)) = false := by decide) : wpAny (model X.prog X.w) X.A (eval (.Name x pos) X.env) Q E s := by
  obtain ⟨mb, h1, h2⟩ := I.mod.blt
  exact Calls.Name_function_global I.ok.kind hg (Calls.loadGlobal_builtin (by rw [I.ok.glob]; exact I.mod.glob.keeps I.bk) hm (by rw [I.ok.blt]; exact h1.keeps I.bk) ((h2 x hn).trans hv) h) hd
theorem pe_glob {x : Str} {v : V} {u : Value} {pos : Pos} (hg : Gl X x) (hm : X.mg x = some u) (r : RelV v u) (hd : (x == ("__debug__" : Str)) = false := by decide) : PE X (.Name x pos) (tC v) :=
  fun _ _ _ H _ I h => ld_glob I hg hm ⟨v, H, I, r, h⟩ hd
theorem pe_bltn {x : Str} {v : V} {u : Value} {pos : Pos} (hg : Gl X x) (hm : X.mg x = none) (hv : bootBuiltins x = some u) (r : RelV v u) (hn : x ≠ "__name__" := by decide) (hd : (x == ("__debug__" : Str)) = false := by decide) : PE X (.Name x pos) (tC v) :=
  fun _ _ _ H _ I h => ld_blt I hg hm hv ⟨v, H, I, r, h⟩ hn hd

/-! ### arithmetic -/
variable {a b : Expr} {ta tb : TE} {pos : Pos}
/-! ### comparisons -/
noncomputable def tB (t : TE) : TT := fun σ H Q => t σ H fun x H1 => ∃ c, x = .bl c ∧ Q c H1
theorem pt_val {e : Expr} {t : TE} (h : PE X e t) (he : ∀ whole, isTrue e X.env whole = (do let v ← whole; standAt e.pos; holding [v] (truthy v)) := by intro _; rfl) : PT X e (tB t) := by
  intro pins s σ H Q I hw
  refine isTrue_plain (thn (h pins s σ H _ I hw) fun v s1 ⟨x, H1, I1, r1, q1⟩ => ?_) (he _)
  obtain ⟨d, rfl, q⟩ := q1
  cases r1
  exact wpAny_truthy_bool ⟨H1, I1, q⟩

/-! ### and, or, not -/
variable {tA tB' : TT} {rest : List Expr}
noncomputable def tAnd (t u : TT) : TT := fun σ H Q => t σ H fun c H1 => if c = true then u σ H1 Q else Q false H1
noncomputable def tOr (t u : TT) : TT := fun σ H Q => t σ H fun c H1 => if c = true then Q true H1 else u σ H1 Q
noncomputable def tNot (t : TT) : TT := fun σ H Q => t σ H fun c H1 => Q (!c) H1
theorem pw_and1 (ha : PT X a tA) : PW X (.BoolOp .And [a] pos) tA := by
  intro wh pins s σ H Q I h
  refine isTrue_and (thn (ha pins s σ H Q I h) fun c s1 e => ?_)
  cases c with
  | true => exact isTrue_and_nil e
  | false => exact e
theorem pw_or1 (ha : PT X a tA) : PW X (.BoolOp .Or [a] pos) tA := by
  intro wh pins s σ H Q I h
  refine isTrue_or (thn (ha pins s σ H Q I h) fun c s1 e => ?_)
  cases c with
  | false => exact isTrue_or_nil e
  | true => exact e
theorem pw_and (ha : PT X a tA) (hb : PW X (.BoolOp .And (b :: rest) pos) tB') : PW X (.BoolOp .And (a :: b :: rest) pos) (tAnd tA tB') := by
  intro wh pins s σ H Q I h
  refine isTrue_and (thn (ha pins s σ H _ I h) fun c s1 ⟨H1, I1, q1⟩ => ?_)
  cases c with
  | true => exact hb wh pins s1 σ H1 Q I1 q1
  | false => exact ⟨H1, I1, q1⟩
theorem pw_or (ha : PT X a tA) (hb : PW X (.BoolOp .Or (b :: rest) pos) tB') : PW X (.BoolOp .Or (a :: b :: rest) pos) (tOr tA tB') := by
  intro wh pins s σ H Q I h
  refine isTrue_or (thn (ha pins s σ H _ I h) fun c s1 ⟨H1, I1, q1⟩ => ?_)
  cases c with
  | true => exact ⟨H1, I1, q1⟩
  | false => exact hb wh pins s1 σ H1 Q I1 q1
theorem pt_not (ha : PT X a tA) : PT X (.UnaryOp .Not a pos) (tNot tA) := by
  intro pins s σ H Q I h
  exact isTrue_not (ha pins s σ H (fun c H1 => Q (!c) H1) I h)
noncomputable def tAndV (ta tb : TE) : TE := fun σ H Q => ta σ H fun x H1 => ∃ c, x = .bl c ∧ if c = true then tb σ H1 Q else Q (.bl false) H1
noncomputable def tOrV (ta tb : TE) : TE := fun σ H Q => ta σ H fun x H1 => ∃ c, x = .bl c ∧ if c = true then Q (.bl true) H1 else tb σ H1 Q
noncomputable def tNotV (ta : TE) : TE := fun σ H Q => ta σ H fun x H1 => ∃ c, x = .bl c ∧ Q (.bl (!c)) H1
theorem pe_one {op} {t : TE} (h : PE X a t) : PE X (.BoolOp op [a] pos) t := fun pins s σ H Q I hw => BoolOp_one (h pins s σ H Q I hw)
theorem pe_and (ha : PE X a ta) (hb : PE X (.BoolOp .And (b :: rest) pos) tb) : PE X (.BoolOp .And (a :: b :: rest) pos) (tAndV ta tb) := by
  intro pins s σ H Q I h
  refine BoolOp_and (thn (ha pins s σ H _ I h) fun v s1 ⟨x, H1, I1, r1, q1⟩ => ?_)
  obtain ⟨c, rfl, q1⟩ := q1
  cases r1
  refine wpAny_truthy_bool ?_
  cases c with
  | true => exact hb pins s1 σ H1 Q I1 q1
  | false => exact ⟨.bl false, H1, I1, rfl, q1⟩
theorem pe_not (ha : PE X a ta) : PE X (.UnaryOp .Not a pos) (tNotV ta) := by
  intro pins s σ H Q I h
  refine UnaryOp_ (thn (ha pins s σ H _ I h) fun v s1 ⟨x, H1, I1, r1, q1⟩ => ?_)
  obtain ⟨c, rfl, q1⟩ := q1
  cases r1
  exact not_of (wpAny_truthy_bool ⟨.bl (!c), H1, I1, rfl, q1⟩)
noncomputable def tIf (t : TT) (ta tb : TE) : TE := fun σ H Q => t σ H fun c H1 => if c = true then ta σ H1 Q else tb σ H1 Q
theorem pe_ifExp {c : Expr} (hc : PT X c tA) (ha : PE X a ta) (hb : PE X b tb) : PE X (.IfExp c a b pos) (tIf tA ta tb) := by
  intro pins s σ H Q I h
  refine wpAny_IfExp (thn (hc pins s σ H _ I h) fun d s1 ⟨H1, I1, q1⟩ => ?_)
  cases d with
  | true => exact ha pins s1 σ H1 Q I1 q1
  | false => exact hb pins s1 σ H1 Q I1 q1
end
end L2

namespace L2
open PySem PySem.Spec PyProof.Rows

/-! ### a list, a tuple that is read: tracked, frozen, or an object of the module -/
noncomputable def SqL (K : PySem.W.Frag) (H : Hp) (a : Addr) (xs : List V) : Prop :=
  Rd H a (.lst xs) ∨
    ∃ (o : Obj) (its : Array Value) (n : Nat), K.lookup a = some o ∧ o.cls = .type "list" ∧ o.dict = none ∧ o.data = .seq its n ∧ its.size ≤ sizeLine ∧ Vals xs its.toList
noncomputable def SqT (K : PySem.W.Frag) (H : Hp) (a : Addr) (xs : List V) : Prop :=
  Rd H a (.tup xs) ∨
    ∃ (o : Obj) (its : Array Value) (n : Nat), K.lookup a = some o ∧ o.cls = .type "tuple" ∧ o.data = .seq its n ∧ its.size ≤ sizeLine ∧ Vals xs its.toList
noncomputable def absV : Value → Option V
  | .none => some .non
  | .bool b => some (.bl b)
  | .int i _ => some (.int i)
  | .str x _ => some (.str x)
  | .bytes b _ => some (.byt b)
  | .float b _ => some (.flt b)
  | .ref a => some (.ref a)
  | .type n => some (.ty n)
  | _ => none
theorem RelV.abs {x : V} {u : Value} (r : RelV x u) : absV u = some x := by
  cases x with
  | non => cases r; rfl
  | bl _ => cases r; rfl
  | int _ => obtain ⟨t, rfl⟩ := r; rfl
  | str _ => obtain ⟨t, rfl⟩ := r; rfl
  | byt _ => obtain ⟨t, rfl⟩ := r; rfl
  | flt _ => obtain ⟨t, rfl⟩ := r; rfl
  | ref _ => cases r; rfl
  | ty _ => cases r; rfl
theorem RelV.inj {x y : V} {u : Value} (r : RelV x u) (q : RelV y u) : x = y := Option.some.inj (r.abs.symm.trans q.abs)
theorem Vals.inj {xs ys : List V} {us : List Value} (h : Vals xs us) : Vals ys us → xs = ys := by
  induction h generalizing ys with
  | nil => intro h; cases h; rfl
  | cons r t ih => intro h; cases h with
    | cons r' t' => rw [r.inj r', ih t']
section
variable {X : Cx} {pins : List (Addr × Obj)} {σ : St} {H : Hp} {s : Shared} {a : Addr} {xs ys : List V}
theorem SqL.of {K : PySem.W.Frag} (h : H a = some (.lst xs)) : SqL K H a xs := .inl (.inl h)
theorem SqT.of {K : PySem.W.Frag} (h : H a = some (.tup xs)) : SqT K H a xs := .inl (.inl h)
theorem Inv.list (I : Inv X pins σ H s) (h : SqL X.K H a xs) : ∃ its : List Value, Vals xs its ∧ PlainL s.heap a its.toArray ∧ xs.length ≤ sizeLine := by
  rcases h with h | ⟨o, its, n, hk, hc, hd, hs, hz, r⟩
  · obtain ⟨z, its, n, r, e⟩ := h.ok I.hok
    exact ⟨its, r, ⟨_, n, e, rfl, rfl, rfl⟩, z⟩
  · refine ⟨its.toList, r, ⟨o, n, I.kIn a o hk, hc, hd, by simpa using hs⟩, ?_⟩
    have e := r.length
    simp only [Array.length_toList] at e
    omega
theorem Inv.tuple (I : Inv X pins σ H s) (h : SqT X.K H a xs) : ∃ its : List Value, Vals xs its ∧ IsTup s.heap a its.toArray ∧ xs.length ≤ sizeLine := by
  rcases h with h | ⟨o, its, n, hk, hc, hs, hz, r⟩
  · obtain ⟨z, its, r, p⟩ := h.ok I.hok
    exact ⟨its, r, p.tup, z⟩
  · refine ⟨its.toList, r, ⟨o, I.kIn a o hk, hc, n, by simpa using hs⟩, ?_⟩
    have e := r.length
    simp only [Array.length_toList] at e
    omega
theorem Inv.list_inj (I : Inv X pins σ H s) (h : SqL X.K H a xs) (h' : SqL X.K H a ys) : xs = ys := by
  obtain ⟨its, r, ⟨o, n, e, _, _, d⟩, _⟩ := I.list h
  obtain ⟨its', r', ⟨o', n', e', _, _, d'⟩, _⟩ := I.list h'
  rw [e] at e'; cases e'
  rw [d] at d'
  injection d' with d1 _
  have : its = its' := by simpa using congrArg Array.toList d1
  subst this
  exact r.inj r'
theorem Inv.tuple_inj (I : Inv X pins σ H s) (h : SqT X.K H a xs) (h' : SqT X.K H a ys) : xs = ys := by
  obtain ⟨its, r, ⟨o, e, _, n, d⟩, _⟩ := I.tuple h
  obtain ⟨its', r', ⟨o', e', _, n', d'⟩, _⟩ := I.tuple h'
  rw [e] at e'; cases e'
  rw [d] at d'
  injection d' with d1 _
  have : its = its' := by simpa using congrArg Array.toList d1
  subst this
  exact r.inj r'
end

/-! ### another wish about exceptions -/
noncomputable abbrev Cx.wish (X : Cx) (E : Value → Shared → Prop) : Cx := { X with xe := E }
noncomputable abbrev Cx.nox (X : Cx) : Cx := X.wish fun _ _ => False
theorem Cx.Ok.wish {X : Cx} (ok : X.Ok) (E : Value → Shared → Prop) : (X.wish E).Ok :=
  ⟨ok.mod, ok.kind, ok.glob, ok.blt, ok.above, ok.inj, ok.has, ok.cab, ok.hd, ok.frames, ok.stk, ok.exf, ok.bs, ok.bsz, ok.noex, ok.exfs, ok.funs, ok.frf⟩
theorem Cx.Ok.unwish {X : Cx} {E : Value → Shared → Prop} (ok : (X.wish E).Ok) : X.Ok :=
  ⟨ok.mod, ok.kind, ok.glob, ok.blt, ok.above, ok.inj, ok.has, ok.cab, ok.hd, ok.frames, ok.stk, ok.exf, ok.bs, ok.bsz, ok.noex, ok.exfs, ok.funs, ok.frf⟩
section
variable {X : Cx} {pins : List (Addr × Obj)} {σ : St} {H : Hp} {s : Shared} {E : Value → Shared → Prop}
theorem Inv.wish (I : Inv X pins σ H s) (E : Value → Shared → Prop) : Inv (X.wish E) pins σ H s := ⟨I.ok.wish E, I.os, I.bare, I.base, I.loc, I.cell, I.free, I.freeC, I.pin, I.hok, I.len⟩
theorem Inv.unwish (I : Inv (X.wish E) pins σ H s) : Inv X pins σ H s := ⟨I.ok.unwish, I.os, I.bare, I.base, I.loc, I.cell, I.free, I.freeC, I.pin, I.hok, I.len⟩
theorem SP.unwish {D : Ends} {f : Flow} {s' : Shared} (h : SP (X.wish E) pins D f s') : SP X pins D f s' := by
  cases f with
  | next => obtain ⟨σ', H', I, q⟩ := h; exact ⟨σ', H', I.unwish, q⟩
  | brk => obtain ⟨σ', H', I, q⟩ := h; exact ⟨σ', H', I.unwish, q⟩
  | cont => obtain ⟨σ', H', I, q⟩ := h; exact ⟨σ', H', I.unwish, q⟩
  | ret u => obtain ⟨v, σ', H', I, r, q⟩ := h; exact ⟨v, σ', H', I.unwish, r, q⟩
theorem PE.nox {e : Expr} {t : TE} (h : PE X.nox e t) : PE X e t := fun pins s σ H Q I hw =>
  wpAny_mono (h pins s σ H Q (I.wish _) hw) (fun _ _ ⟨v, H', I', r, q⟩ => ⟨v, H', I'.unwish, r, q⟩) fun _ _ z => False.elim z
theorem PT.nox {e : Expr} {t : TT} (h : PT X.nox e t) : PT X e t := fun pins s σ H Q I hw =>
  wpAny_mono (h pins s σ H Q (I.wish _) hw) (fun _ _ ⟨H', I', q⟩ => ⟨H', I'.unwish, q⟩) fun _ _ z => False.elim z
theorem PSs.nox {st : List Stmt} {t : TS} (h : PSs X.nox st t) : PSs X st t := fun pins s σ H D I hw =>
  wpAny_mono (h pins s σ H D (I.wish _) hw) (fun _ _ q => q.unwish) fun _ _ z => False.elim z
end

/-! ### blocks and small statements -/
section
variable {X : Cx} {st : Stmt} {rest : List Stmt} {t u : TS} {e : Expr} {te : TE} {pos : Pos}
noncomputable def tNext : TS := fun D σ H => D.nx σ H
noncomputable def tSeq (t u : TS) : TS := fun D σ H => t { D with nx := u D } σ H
theorem pss_nil : PSs X [] tNext := fun _ _ σ H _ I h => wpAny_execs_nil ⟨σ, H, I, h⟩
theorem pss_cons (h1 : PS X st t) (h2 : PSs X rest u) : PSs X (st :: rest) (tSeq t u) := by
  intro pins s σ H D I h
  refine wpAny_execs_cons (thn (h1 pins s σ H { D with nx := u D } I h) fun f s1 q => ?_)
  cases f with
  | next =>
    obtain ⟨σ', H', I', q⟩ := q
    exact h2 pins s1 σ' H' D I' q
  | ret v => exact q
  | brk => exact q
  | cont => exact q
theorem pss_one (h1 : PS X st t) : PSs X [st] t := by
  intro pins s σ H D I h
  refine wpAny_execs_cons (thn (h1 pins s σ H D I h) fun f s1 q => ?_)
  cases f with
  | next => exact wpAny_execs_nil q
  | ret v => exact q
  | brk => exact q
  | cont => exact q
noncomputable def tBreak : TS := fun D σ H => D.bk σ H
noncomputable def tCont : TS := fun D σ H => D.ct σ H
theorem Inv.quiet {pins : List (Addr × Obj)} {σ : St} {H : Hp} {s : Shared} (I : Inv X pins σ H s) : interactive X.env = false := by simp [interactive, I.ok.kind]
noncomputable def tDrop (te : TE) : TS := fun D σ H => te σ H fun _ H1 => D.nx σ H1
theorem ps_expr (he : PE X e te) (hs : swapsWith e none pos.line X.env = pure false := by rfl) : PS X (.Expr e pos) (tDrop te) := by
  intro pins s σ H D I h
  exact wpAny_Expr_any (thn (he pins s σ H _ I h) fun v s1 ⟨x, H1, I1, r1, q1⟩ => ⟨σ, H1, I1, q1⟩) I.quiet hs
noncomputable def tRet (te : TE) : TS := fun D σ H => te σ H D.rt
theorem ps_ret (he : PE X e te) : PS X (.Return (some e) pos) (tRet te) := by
  intro pins s σ H D I h
  exact wpAny_Return_some (thn (he pins s σ H _ I h) fun v s1 ⟨x, H1, I1, r1, q1⟩ => ⟨x, σ, H1, I1, r1, q1⟩)
noncomputable def tRetN : TS := fun D _ H => D.rt .non H
noncomputable def tIfS (c : TT) (t u : TS) : TS := fun D σ H => c σ H fun b H1 => if b = true then t D σ H1 else u D σ H1
theorem ps_if {c : Expr} {a b : List Stmt} {tc : TT} (hc : PT X c tc) (ha : PSs X a t) (hb : PSs X b u) : PS X (.If c a b pos) (tIfS tc t u) := by
  intro pins s σ H D I h
  refine wpAny_If (thn (hc pins s σ H _ I h) fun d s1 ⟨H1, I1, q1⟩ => ?_)
  cases d with
  | true => exact ha pins s1 σ H1 D I1 q1
  | false => exact hb pins s1 σ H1 D I1 q1
noncomputable def tNever : TS := fun _ _ _ => False
theorem ps_never : PS X st tNever := fun _ _ _ _ _ _ h => h.elim
end

/-! ### targets -/
noncomputable abbrev TG := V → St → Hp → (St → Hp → Prop) → Prop
noncomputable abbrev TGs := List V → St → Hp → (St → Hp → Prop) → Prop
noncomputable def PG (X : Cx) (target : Expr) (t : TG) : Prop :=
  ∀ (pins : List (Addr × Obj)) (s : Shared) (σ : St) (H : Hp) (v : V) (u : Value) (Q : St → Hp → Prop), Inv X pins σ H s → RelV v u → t v σ H Q →
    wpAny (model X.prog X.w) X.A (assign target X.env u) (fun _ s' => ∃ σ' H', Inv X pins σ' H' s' ∧ Q σ' H') X.xe s
noncomputable def PGs (X : Cx) (ts : List Expr) (t : TGs) : Prop :=
  ∀ (pins : List (Addr × Obj)) (s : Shared) (σ : St) (H : Hp) (vs : List V) (us : List Value) (Q : St → Hp → Prop), Inv X pins σ H s → Vals vs us → t vs σ H Q →
    wpAny (model X.prog X.w) X.A (assignInOrder ((assignEach ts X.env).map (·.2)) us) (fun _ s' => ∃ σ' H', Inv X pins σ' H' s' ∧ Q σ' H') X.xe s
noncomputable abbrev TSet := V → V → V → Hp → (Hp → Prop) → Prop
noncomputable def PSet (X : Cx) (t : TSet) : Prop :=
  ∀ (pins : List (Addr × Obj)) (s : Shared) (σ : St) (H : Hp) (o i v : V) (ov iv u : Value) (Q : Hp → Prop), Inv X pins σ H s → RelV o ov → RelV i iv → RelV v u → t o i v H Q →
    wpAny (model X.prog X.w) X.A (setItem ov iv u) (fun _ s' => ∃ H', Inv X pins σ H' s' ∧ Q H') X.xe s
section
variable {X : Cx} {pos : Pos}
noncomputable def gName (i : Nat) : TG := fun v σ H Q => Q (σ.set i (some v)) H
theorem pg_name {i : Nat} {x : Str} (hN : X.N.Nodup) (hi : X.N[i]? = some x) (hx : Loc X.env.scope x) (hf : X.fn x = true ∨ X.env.scope.names.lookup x = some .local := by first | exact .inl rfl | exact .inr rfl | assumption) : PG X (.Name x pos) (gName i) := by
  intro pins s σ H v u Q I r h
  exact wpAny_assign_Name (store_ok I hN hi hx r (fun s' I' => ⟨_, H, I', h⟩) hf)
noncomputable def gNil : TGs := fun vs σ H Q => vs = [] ∧ Q σ H
noncomputable def gCons (t : TG) (u : TGs) : TGs := fun vs σ H Q => ∃ v r, vs = v :: r ∧ t v σ H fun σ' H' => u r σ' H' Q
theorem pgs_nil : PGs X [] gNil := by
  intro pins s σ H vs us Q I r h
  obtain ⟨e, h⟩ := h
  subst e
  cases r
  exact assignInOrder_nil ⟨σ, H, I, h⟩
theorem pgs_cons {e : Expr} {es : List Expr} {t : TG} {u : TGs} (h1 : PG X e t) (h2 : PGs X es u)
    (hs : (assignEach (e :: es) X.env).map (·.2) = assign e X.env :: (assignEach es X.env).map (·.2) := by rfl) : PGs X (e :: es) (gCons t u) := by
  intro pins s σ H vs us Q I r h
  obtain ⟨v, vr, e1, h⟩ := h
  subst e1
  cases r with
  | cons r rr =>
    rw [hs]
    refine assignInOrder_cons (thn (h1 pins s σ H _ _ _ I r h) fun _ s1 ⟨σ1, H1, I1, q1⟩ => ?_)
    exact h2 pins s1 σ1 H1 _ _ Q I1 rr q1
noncomputable def gTup (K : PySem.W.Frag) (n : Nat) (t : TGs) : TG := fun v σ H Q => ∃ a xs, v = .ref a ∧ SqT K H a xs ∧ xs.length = n ∧ t xs σ H Q
theorem pg_tup {es : List Expr} {k : Nat} {t : TGs} {n : Nat} (hc : X.calm = true) (h : PGs X es t)
    (hn : (assignEach es X.env).length = n := by rfl) (hst : (assignEach es X.env).findIdx? (·.1) = none := by rfl) : PG X (.Tuple es k pos) (gTup X.K n t) := by
  intro pins s σ H v u Q I r hw
  obtain ⟨a, xs, e1, hq, hl, hw⟩ := hw
  subst e1
  cases r
  obtain ⟨its, rv, ht, hz⟩ := I.tuple hq
  refine assign_Tuple_tuple (I.ok.hd hc) ht (by simp [hn, ← hl, rv.length]) hst fun h' hx => ?_
  have I1 : Inv X pins σ H { s with heap := h' } := I.kept (t' := s.toks) fun b o e => hx b o (Nat.ne_of_lt (Heap.lt_size e)) e
  exact h pins _ σ H xs _ Q I1 (by simpa using rv) hw
noncomputable def gSub (to ti : TE) (t : TSet) : TG := fun v σ H Q => to σ H fun o H1 => ti σ H1 fun i H2 => t o i v H2 fun H3 => Q σ H3
theorem pg_sub {o i : Expr} {to ti : TE} {t : TSet} (ho : PE X o to) (hi : PE X i ti) (hs : PSet X t)
    (ha : ∀ v, assign (.Subscript o i pos) X.env v = (do
      let ov ← holding [v] (eval o X.env)
      let iv ← holding [v, ov] (eval i X.env)
      standAt pos
      holding [v, ov, iv] (setItem ov iv v)
      release [v, ov, iv] []) := by intro _; rfl) : PG X (.Subscript o i pos) (gSub to ti t) := by
  intro pins s σ H v u Q I r h
  rw [ha]
  refine wpAny_bind (wpAny_holding (thn (ho pins s σ H _ I h) fun ov s1 ⟨x, H1, I1, r1, q1⟩ => ?_))
  refine wpAny_bind (wpAny_holding (thn (hi pins s1 σ H1 _ I1 q1) fun iv s2 ⟨y, H2, I2, r2, q2⟩ => ?_))
  refine wpAny_bind (wpAny_standAt (wpAny_bind (wpAny_holding (thn (hs pins s2 σ H2 x y v ov iv u _ I2 r1 r2 r q2) fun _ s3 ⟨H3, I3, q3⟩ => ?_))))
  exact wpAny_release ⟨σ, H3, I3, q3⟩
noncomputable def tAsg (te : TE) (g : TG) : TS := fun D σ H => te σ H fun x H1 => g x σ H1 D.nx
theorem ps_asg {tg e : Expr} {te : TE} {g : TG} (he : PE X e te) (hg : PG X tg g) (hs : swapsWithSole [tg] e pos.line X.env = pure false := by rfl) (hw : swappedStores [tg] e X.env = pure none := by rfl)
    (h1 : (assignEach [tg] X.env).map (·.2) = [assign tg X.env] := by rfl) : PS X (.Assign [tg] e pos) (tAsg te g) := by
  intro pins s σ H D I h
  refine wpAny_Assign_stores (thn (he pins s σ H _ I h) fun v s1 ⟨x, H1, I1, r1, q1⟩ => ?_) hs hw
  rw [h1]
  exact thn (hg pins s1 σ H1 x v _ I1 r1 q1) fun _ s2 q => q
theorem ps_set {i : Nat} {x : Str} {e : Expr} {te : TE} {pos' : Pos} (hN : X.N.Nodup) (hi : X.N[i]? = some x) (hx : Loc X.env.scope x) (he : PE X e te) (hs : swapsWith e (some (.Name x pos')) pos.line X.env = pure false := by rfl) (hf : X.fn x = true ∨ X.env.scope.names.lookup x = some .local := by first | exact .inl rfl | exact .inr rfl | assumption) :
    PS X (.Assign [.Name x pos'] e pos) (tAsg te (gName i)) := by
  intro pins s σ H D I h
  refine wpAny_Assign_Name (thn (he pins s σ H _ I h) fun v s1 ⟨y, H1, I1, r1, q1⟩ => ?_) hs
  exact store_ok I1 hN hi hx r1 (fun s2 I2 => ⟨_, H1, I2, q1⟩) hf
end

/-! ### while -/
section
variable {X : Cx} {pos : Pos}
end

/-! ### what a loop or a comprehension walks -/
structure It where
  go : Nat → Hp → Prop
  yld : Nat → Hp → V → Hp → Prop
  stop : Nat → Hp → Prop
noncomputable def FpOk (X : Cx) (pins : List (Addr × Obj)) (H : Hp) (b : Addr) : Prop :=
  H b = none ∧ b ≠ X.env.locals ∧ b ∉ X.fs ∧ (b ∈ X.ex ∨ X.s₀.heap.objs.size ≤ b) ∧ (∀ x c, X.env.cells.lookup x = some c → c ≠ b) ∧ ∀ p ∈ X.pn ++ pins, p.1 ≠ b
theorem Inv.fpOk {X : Cx} {pins : List (Addr × Obj)} {σ : St} {H H' : Hp} {s : Shared} {b : Addr} (I : Inv X pins σ H s) (hb : s.heap.objs.size ≤ b) (hn : H' b = none) : FpOk X pins H' b := by
  refine ⟨hn, Nat.ne_of_gt (Nat.lt_of_lt_of_le I.lt hb), I.nofs hb, .inr (Nat.le_trans I.sz hb), fun x c e z => ?_, fun p hp z => ?_⟩
  · obtain ⟨v, q⟩ := I.cell x c e
    exact absurd (Nat.lt_of_lt_of_le q.lt (by rw [z]; exact hb)) (Nat.lt_irrefl _)
  · exact absurd (Nat.lt_of_lt_of_le (Heap.lt_size (I.pin p hp).1) (by rw [z]; exact hb)) (Nat.lt_irrefl _)
structure Turn (P : Program) (w : World) (K : PySem.W.Frag) (tg : Expr) (J : It) (fp : List Addr) (it : Addr) (tn : Nat → Heap → Prop) : Prop where
  mem : it ∈ fp
  obj : ∀ i h, tn i h → ∀ b ∈ fp, ∃ o, h.get? b = some o ∧ ∀ v, o.data ≠ .cell v
  keep : ∀ i h h', tn i h → (∀ b ∈ fp, ∀ o, h.get? b = some o → h'.get? b = some o) → tn i h'
  item : ∀ (X : Cx), X.prog = P → X.w = w → X.K = K → X.calm = true → ∀ (i : Nat) (pins : List (Addr × Obj)) (s : Shared) (σ : St) (H : Hp) (E : Value → Shared → Prop), Inv X pins σ H s → (∀ b ∈ fp, FpOk X pins H b) → tn i s.heap → J.go i H →
    wpAny (model P w) X.A (pyNext (.ref it)) (fun r s1 => ∃ u, r = some u ∧
      wpAny (model P w) X.A (letOwnedTupleGo tg (.ref it) u) (fun _ s2 => ∃ x H', Inv X pins σ H' s2 ∧ RelV x u ∧ J.yld i H x H' ∧ tn (i + 1) s2.heap ∧ ∀ b ∈ fp, H' b = none) E s1) E s
  done : ∀ (X : Cx), X.prog = P → X.w = w → X.K = K → X.calm = true → ∀ (i : Nat) (pins : List (Addr × Obj)) (s : Shared) (σ : St) (H : Hp) (E : Value → Shared → Prop), Inv X pins σ H s → (∀ b ∈ fp, FpOk X pins H b) → tn i s.heap → J.stop i H →
    wpAny (model P w) X.A (pyNext (.ref it)) (fun r s1 => r = none ∧ Inv X pins σ H s1) E s
  self : ∀ (A : Around) (i : Nat) (s : Shared) (Q : Value → Shared → Prop) (E : Value → Shared → Prop), tn i s.heap → Q (.ref it) s → wpAny (model P w) A (pyIter (.ref it)) Q E s
noncomputable abbrev TI := St → Hp → (It → Hp → Prop) → Prop
noncomputable def PIE (X : Cx) (pins : List (Addr × Obj)) (σ : St) (tg : Expr) (R : It → Hp → Prop) (itv : Value) (s2 : Shared) : Prop :=
  ∃ (it : Addr) (fp : List Addr) (tn : Nat → Heap → Prop) (J : It) (H' : Hp), itv = .ref it ∧ Inv X pins σ H' s2 ∧ Turn X.prog X.w X.K tg J fp it tn ∧ tn 0 s2.heap ∧ (∀ b ∈ fp, FpOk X pins H' b) ∧ R J H'
noncomputable def PI (X : Cx) (tg iter : Expr) (wi : TI) : Prop :=
  ∀ (pins : List (Addr × Obj)) (s : Shared) (σ : St) (H : Hp) (R : It → Hp → Prop), Inv X pins σ H s → wi σ H R →
    wpAny (model X.prog X.w) X.A (eval iter X.env) (fun v s1 => wpAny (model X.prog X.w) X.A (pyIter v) (PIE X pins σ tg R) X.xe s1) X.xe s

theorem go_of {M : Model} {A : Around} {E : Value → Shared → Prop} {s : Shared} {tg : Expr} {it : Addr} {u : Value} {o : Obj} {n : String} {vs : Array Value} {Q : Unit → Shared → Prop} (ho : s.heap.get? it = some o) (hc : o.cls = .type n) (hd : o.data = .fields vs)
    (hn : ["enumerate", "zip", "dict_itemiterator", "dict_reverseitemiterator", "odict_iterator", "itertools.zip_longest", "itertools.pairwise"].contains n = false) (hQ : Q () s) : wpAny M A (letOwnedTupleGo tg (.ref it) u) Q E s := by
  unfold letOwnedTupleGo
  cases tg <;> first
    | exact wpAny_pure hQ
    | (cases u <;> first
        | exact wpAny_pure hQ
        | (refine wpAny_bind (wpAny_load ho ?_)
           rw [hc, hd]
           show wpAny M A (if (["enumerate", "zip", "dict_itemiterator", "dict_reverseitemiterator", "odict_iterator", "itertools.zip_longest", "itertools.pairwise"].contains n && vs[0]? == some (rawInt _)) = true then _ else _) Q E s
           rw [if_neg (by intro h; rw [hn, Bool.false_and] at h; cases h)]
           exact wpAny_pure hQ))

noncomputable def Itl (K : PySem.W.Frag) (a : Addr) : It :=
  ⟨fun i H => ∃ xs x, SqL K H a xs ∧ xs[i]? = some x, fun i H x H' => H' = H ∧ ∀ xs, SqL K H a xs → xs[i]? = some x, fun i H => ∃ xs, SqL K H a xs ∧ xs.length ≤ i⟩
noncomputable def Itt (K : PySem.W.Frag) (a : Addr) : It :=
  ⟨fun i H => ∃ xs x, SqT K H a xs ∧ xs[i]? = some x, fun i H x H' => H' = H ∧ ∀ xs, SqT K H a xs → xs[i]? = some x, fun i H => ∃ xs, SqT K H a xs ∧ xs.length ≤ i⟩
noncomputable def Itr (lo : Int) (n : Nat) : It := ⟨fun i _ => i < n, fun i H x H' => H' = H ∧ x = .int (lo + i), fun i _ => n ≤ i⟩
theorem turn_list {P : Program} {w : World} {K : PySem.W.Frag} {tg : Expr} (a it : Addr) : Turn P w K tg (Itl K a) [it] it (fun i h => h.IsListIter it a i) where
  mem := by simp
  obj := fun i h st b hb => by
    have e : b = it := by simpa using hb
    subst e
    obtain ⟨o, e, c, d⟩ := st
    exact ⟨o, e, fun v z => by rw [d] at z; cases z⟩
  keep := fun i h h' st k => st.at fun o e => k it (by simp) o e
  item := by
    intro X hP hw hK hc i pins s σ H E I hf st hg
    subst hP hw hK
    obtain ⟨xs, x, hq, hx⟩ := hg
    obtain ⟨its, rv, p, hz⟩ := I.list hq
    obtain ⟨u, hu, ru⟩ := rv.get hx
    obtain ⟨f0, f1, f2, f3, f4, f5⟩ := hf it (by simp)
    refine wpAny_pyNext_list_item st p.isList (x := u) (by simpa using hu) fun h' st' sb => ?_
    have I1 : Inv X pins σ H { s with heap := h' } := I.turned (t' := s.toks) (fun b o hb e => (sb.2 b hb).trans e) f0 f1 f3 f4 f5
    obtain ⟨o, e, c, d⟩ := id st'
    exact ⟨u, rfl, go_of (s := { s with heap := h' }) e c d (by decide) ⟨x, H, I1, ru, ⟨rfl, fun ys hy => by rw [I.list_inj hy hq]; exact hx⟩, st', fun b hb => (hf b hb).1⟩⟩
  done := by
    intro X hP hw hK hc i pins s σ H E I hf st hg
    subst hP hw hK
    obtain ⟨xs, hq, hx⟩ := hg
    obtain ⟨its, rv, p, hz⟩ := I.list hq
    obtain ⟨f0, f1, f2, f3, f4, f5⟩ := hf it (by simp)
    have hl := rv.length
    exact wpAny_pyNext_list_end (I.ok.hd hc) st p.isList (by simp; omega) fun h' eb => ⟨rfl, I.turned (t' := s.toks) (fun b o hb e => eb b o hb e) f0 f1 f3 f4 f5⟩
  self := fun _ _ _ _ _ st h => wpAny_pyIter_listiter st h
theorem turn_tuple {P : Program} {w : World} {K : PySem.W.Frag} {tg : Expr} (a it : Addr) : Turn P w K tg (Itt K a) [it] it (fun i h => h.IsTupleIter it a i) where
  mem := by simp
  obj := fun i h st b hb => by
    have e : b = it := by simpa using hb
    subst e
    obtain ⟨o, e, c, d⟩ := st
    exact ⟨o, e, fun v z => by rw [d] at z; cases z⟩
  keep := fun i h h' st k => st.at fun o e => k it (by simp) o e
  item := by
    intro X hP hw hK hc i pins s σ H E I hf st hg
    subst hP hw hK
    obtain ⟨xs, x, hq, hx⟩ := hg
    obtain ⟨its, rv, p, hz⟩ := I.tuple hq
    obtain ⟨u, hu, ru⟩ := rv.get hx
    obtain ⟨f0, f1, f2, f3, f4, f5⟩ := hf it (by simp)
    refine wpAny_pyNext_tuple_item st (show s.heap.IsTuple a its.toArray from p) (x := u) (by simpa using hu) fun h' st' sb => ?_
    have I1 : Inv X pins σ H { s with heap := h' } := I.turned (t' := s.toks) (fun b o hb e => (sb.2 b hb).trans e) f0 f1 f3 f4 f5
    obtain ⟨o, e, c, d⟩ := id st'
    exact ⟨u, rfl, go_of (s := { s with heap := h' }) e c d (by decide) ⟨x, H, I1, ru, ⟨rfl, fun ys hy => by rw [I.tuple_inj hy hq]; exact hx⟩, st', fun b hb => (hf b hb).1⟩⟩
  done := by
    intro X hP hw hK hc i pins s σ H E I hf st hg
    subst hP hw hK
    obtain ⟨xs, hq, hx⟩ := hg
    obtain ⟨its, rv, p, hz⟩ := I.tuple hq
    obtain ⟨f0, f1, f2, f3, f4, f5⟩ := hf it (by simp)
    have hl := rv.length
    exact wpAny_pyNext_tuple_end (I.ok.hd hc) st (show s.heap.IsTuple a its.toArray from p) (by simp; omega) fun h' eb => ⟨rfl, I.turned (t' := s.toks) (fun b o hb e => eb b o hb e) f0 f1 f3 f4 f5⟩
  self := fun _ _ _ _ _ st h => wpAny_pyIter_tupleiter st h
theorem turn_range {P : Program} {w : World} {K : PySem.W.Frag} {tg : Expr} (it : Addr) (lo : Int) (n : Nat) : Turn P w K tg (Itr lo n) [it] it (fun i h => IsRangeIter h it (lo + (i : Nat) * 1) ((n : Int) - (i : Nat)) 1) where
  mem := by simp
  obj := fun i h st b hb => by
    have e : b = it := by simpa using hb
    subst e
    exact ⟨_, st, fun v z => by
      have z' : Data.fields _ = Data.cell v := z
      cases z'⟩
  keep := fun i h h' st k => k it (by simp) _ st
  item := by
    intro X hP hw hK hc i pins s σ H E I hf st hg
    subst hP hw hK
    obtain ⟨f0, f1, f2, f3, f4, f5⟩ := hf it (by simp)
    have W := Walks.range (prog := X.prog) (w := X.w) (I.ok.hd hc) it lo 1 n
    refine W.item i s _ _ hg st fun v h' tk hv st' kk => ?_
    obtain ⟨t, rfl⟩ := hv
    have I1 : Inv X pins σ H { s with heap := h', toks := tk } := I.turned (fun b o hb e => kk b o (by simpa using hb) e) f0 f1 f3 f4 f5
    refine ⟨_, rfl, go_of (s := { s with heap := h', toks := tk }) (n := "range_iterator") st' rfl rfl (by decide) ⟨.int (lo + i), H, I1, ⟨t, ?_⟩, ⟨rfl, rfl⟩, st', fun b hb => (hf b hb).1⟩⟩
    rw [Int.mul_one]
  done := by
    intro X hP hw hK hc i pins s σ H E I hf st hg
    subst hP hw hK
    obtain ⟨f0, f1, f2, f3, f4, f5⟩ := hf it (by simp)
    exact wpAny_pyNext_range_end (I.ok.hd hc) st (by have : n ≤ i := hg; omega) fun h' eb => ⟨rfl, I.turned (t' := s.toks) (fun b o hb e => eb b o hb e) f0 f1 f3 f4 f5⟩
  self := fun _ _ _ _ _ st h => wpAny_pyIter_rangeiter st h
end L2

namespace L2
open PySem PySem.Spec PyProof.Rows
section
variable {X : Cx} {tg : Expr}
noncomputable def iList (K : PySem.W.Frag) (tl : TE) : TI := fun σ H R => tl σ H fun x H1 => ∃ a, x = .ref a ∧ (∃ xs, SqL K H1 a xs) ∧ R (Itl K a) H1
noncomputable def iTup (K : PySem.W.Frag) (tl : TE) : TI := fun σ H R => tl σ H fun x H1 => ∃ a, x = .ref a ∧ (∃ xs, SqT K H1 a xs) ∧ R (Itt K a) H1
theorem pi_list {l : Expr} {tl : TE} (hl : PE X l tl) : PI X tg l (iList X.K tl) := by
  intro pins s σ H R I h
  refine thn (hl pins s σ H _ I h) fun v s1 ⟨x, H1, I1, r1, q1⟩ => ?_
  obtain ⟨a, e, ⟨xs, hq⟩, q⟩ := q1
  subst e
  cases r1
  obtain ⟨its, rv, p, hz⟩ := I1.list hq
  refine wpAny_pyIter_list p.isList ?_
  refine ⟨s1.heap.objs.size, [s1.heap.objs.size], _, _, H1, rfl, I1.kept (t' := s1.toks) fun b o e => Heap.get?_push_of_some _ e, turn_list a _, ⟨_, Heap.get?_push_size _ rfl, rfl, rfl⟩, fun b hb => ?_, q⟩
  have e : b = s1.heap.objs.size := by simpa using hb
  subst e
  exact I1.fpOk (Nat.le_refl _) (I1.hok.fresh (Nat.le_refl _))
theorem pi_tup {l : Expr} {tl : TE} (hl : PE X l tl) : PI X tg l (iTup X.K tl) := by
  intro pins s σ H R I h
  refine thn (hl pins s σ H _ I h) fun v s1 ⟨x, H1, I1, r1, q1⟩ => ?_
  obtain ⟨a, e, ⟨xs, hq⟩, q⟩ := q1
  subst e
  cases r1
  obtain ⟨its, rv, p, hz⟩ := I1.tuple hq
  refine wpAny_pyIter_tuple (show s1.heap.IsTuple a its.toArray from p) ?_
  refine ⟨s1.heap.objs.size, [s1.heap.objs.size], _, _, H1, rfl, I1.kept (t' := s1.toks) fun b o e => Heap.get?_push_of_some _ e, turn_tuple a _, ⟨_, Heap.get?_push_size _ rfl, rfl, rfl⟩, fun b hb => ?_, q⟩
  have e : b = s1.heap.objs.size := by simpa using hb
  subst e
  exact I1.fpOk (Nat.le_refl _) (I1.hok.fresh (Nat.le_refl _))
theorem range_it {pins : List (Addr × Obj)} {σ : St} {H : Hp} {s : Shared} {R : It → Hp → Prop} {E : Value → Shared → Prop} {lo hi : Int} {t u v : Tok} {tk : Nat} (I : Inv X pins σ H s) (h1 : -(2 ^ 62) ≤ lo) (h2 : lo < 2 ^ 62) (h3 : -(2 ^ 62) ≤ hi) (h4 : hi < 2 ^ 62)
    (q : R (Itr lo (hi - lo).toNat) H) : wpAny (model X.prog X.w) X.A (pyIter (.ref s.heap.objs.size)) (PIE X pins σ tg R) E { s with heap := s.heap.push { cls := .type "range", data := .fields #[.int lo t, .int hi u, .int 1 v] }, toks := tk } := by
  refine wpAny_pyIter_range (IsRange.new ..) (small_one h1 h2 h3 h4) ?_
  have I1 : Inv X pins σ H { s with heap := s.heap.push { cls := .type "range", data := .fields #[.int lo t, .int hi u, .int 1 v] }, toks := tk } := I.kept fun b o e => Heap.get?_push_of_some _ e
  refine ⟨(s.heap.push { cls := .type "range", data := .fields #[.int lo t, .int hi u, .int 1 v] }).objs.size, [(s.heap.push { cls := .type "range", data := .fields #[.int lo t, .int hi u, .int 1 v] }).objs.size], _, _, H, rfl,
    I1.kept (t' := tk) fun b o e => Heap.get?_push_of_some _ e, turn_range _ lo (hi - lo).toNat, ?_, fun b hb => ?_, q⟩
  · have e1 : lo + ((0 : Nat) : Int) * 1 = lo := by simp
    have e2 : (((hi - lo).toNat : Nat) : Int) - ((0 : Nat) : Int) = Builtin.Range.rangeSize lo hi 1 := by rw [rangeSize_one]; split <;> omega
    show IsRangeIter _ _ (lo + ((0 : Nat) : Int) * 1) ((((hi - lo).toNat : Nat) : Int) - ((0 : Nat) : Int)) 1
    rw [e1, e2]
    exact Heap.get?_push_size _ rfl
  · have e : b = (s.heap.push { cls := .type "range", data := .fields #[.int lo t, .int hi u, .int 1 v] }).objs.size := by simpa using hb
    subst e
    exact I1.fpOk (Nat.le_refl _) (I1.hok.fresh (Nat.le_refl _))
noncomputable def iRng1 (ta : TA) : TI := fun σ H R => ta σ H fun vs H1 => ∃ j : Int, vs = [.int j] ∧ -(2 ^ 62) ≤ j ∧ j < 2 ^ 62 ∧ R (Itr 0 j.toNat) H1
noncomputable def iRng2 (ta : TA) : TI := fun σ H R => ta σ H fun vs H1 => ∃ i j : Int, vs = [.int i, .int j] ∧ (-(2 ^ 62) ≤ i ∧ i < 2 ^ 62 ∧ -(2 ^ 62) ≤ j ∧ j < 2 ^ 62) ∧ R (Itr i (j - i).toNat) H1
theorem pi_range1 {a : Expr} {ta : TA} {p pos : Pos} (hg : Gl X "range") (hm : X.mg "range" = none) (ha : PA X [a] ta) (hs : starEach [a] X.env = [(false, eval a X.env)] := by rfl) : PI X tg (.Call (.Name "range" p) [a] [] pos) (iRng1 ta) := by
  intro pins s σ H R I h
  refine Call_ (ld_blt I hg hm boot_range (PyProof.Rows.callWith_type1 (thn (ha pos pins s σ H _ I h) fun us s1 ⟨vs, H1, I1, r1, q1⟩ => ?_) hs rfl))
  obtain ⟨j, e, q1, q2, q⟩ := q1
  subst e
  cases r1 with
  | cons r rr =>
    cases rr
    obtain ⟨t, rfl⟩ := r
    exact call_range_1 (range_it I1 (by omega) (by omega) q1 q2 (by simpa using q))
/-! ### for -/
noncomputable def tFor (wi : TI) (g : TG) (tb : TS) : TS := fun D σ H => wi σ H fun J H1 => ∃ W : Nat → Nat → St → Hp → Prop, (∃ m, W 0 m σ H1) ∧ ∀ i m σ H, W i m σ H →
  (J.stop i H ∧ D.nx σ H) ∨ (J.go i H ∧ ∃ N : St → Hp → Prop, (∀ σ' H', N σ' H' → ∃ m', m' < m ∧ W (i + 1) m' σ' H') ∧ ∀ x H', J.yld i H x H' → g x σ H' fun σ2 H2 => tb { D with nx := N, ct := N, bk := D.nx } σ2 H2)
noncomputable def pinsAt (fp : List Addr) (h : Heap) : List (Addr × Obj) := fp.filterMap fun b => (h.get? b).map fun o => (b, o)
theorem mem_pinsAt {fp : List Addr} {h : Heap} {b : Addr} {o : Obj} (hb : b ∈ fp) (e : h.get? b = some o) : (b, o) ∈ pinsAt fp h := List.mem_filterMap.mpr ⟨b, hb, by rw [e]; rfl⟩
theorem of_pinsAt {fp : List Addr} {h : Heap} {p : Addr × Obj} (hp : p ∈ pinsAt fp h) : p.1 ∈ fp ∧ h.get? p.1 = some p.2 := by
  obtain ⟨b, hb, e⟩ := List.mem_filterMap.mp hp
  cases q : h.get? b with
  | none => rw [q] at e; cases e
  | some o =>
    rw [q] at e
    have e' : (b, o) = p := Option.some.inj e
    subst e'
    exact ⟨hb, q⟩
theorem Inv.pinned {pins : List (Addr × Obj)} {σ : St} {H : Hp} {s : Shared} {fp : List Addr} (I : Inv X pins σ H s) (hf : ∀ b ∈ fp, FpOk X pins H b) (ho : ∀ b ∈ fp, ∃ o, s.heap.get? b = some o ∧ ∀ v, o.data ≠ .cell v) : Inv X (pins ++ pinsAt fp s.heap) σ H s :=
  I.pins_of fun p hp => (List.mem_append.mp hp).elim (fun z => I.pin p (List.mem_append_right _ z)) fun z => by
    obtain ⟨hb, e⟩ := of_pinsAt z
    obtain ⟨f0, f1, f2, _⟩ := hf p.1 hb
    obtain ⟨o, e', d⟩ := ho p.1 hb
    rw [e] at e'; cases e'
    exact ⟨e, f0, f1, f2, d⟩
theorem Inv.unpinned {pins pl : List (Addr × Obj)} {σ : St} {H : Hp} {s : Shared} (I : Inv X (pins ++ pl) σ H s) : Inv X pins σ H s := I.pins_of fun p hp => I.pin p (List.mem_append_right _ (List.mem_append_left _ hp))
theorem ps_for {iter : Expr} {body : List Stmt} {wi : TI} {g : TG} {tb : TS} {pos : Pos} (hp : PassesOwn (model X.prog X.w) X.A X.env X.xe) (hc : X.calm = true) (hi : PI X tg iter wi) (hg : PG X tg g) (hb : PSs X body tb)
    (hs : ∀ x, foldedSetIterable iter X.env x = pure x := by intro _; rfl) : PS X (.For tg iter body [] pos) (tFor wi g tb) := by
  intro pins s σ H D I h
  refine wpAny_For (thn (hi pins s σ H _ I h) fun v s1 h1 => thn h1 fun itv s2 h2 => ?_) hs
  obtain ⟨it, fp, tn, J, H2, e, I2, T, st2, f2, W, ⟨m0, w0⟩, turn⟩ := h2
  subst e
  -- what stays true of the iterator's objects through the loop
  have stat : ∀ {H' : Hp}, (∀ b ∈ fp, H' b = none) → ∀ b ∈ fp, FpOk X pins H' b := fun hn b hb => ⟨hn b hb, (f2 b hb).2⟩
  refine codeAny_forLoop_any (fun n s' => ∃ i σ' H', Inv X pins σ' H' s' ∧ tn i s'.heap ∧ (∀ b ∈ fp, H' b = none) ∧ W i n σ' H') ?_ m0 ⟨0, σ, H2, I2, st2, fun b hb => (f2 b hb).1, w0⟩
  rintro n s3 ⟨i, σ3, H3, I3, st3, fr3, w3⟩
  rcases turn i n σ3 H3 w3 with ⟨stop, qn⟩ | ⟨go, N, hN, step⟩
  · refine wpAny_passesOwn hp (thn (T.done X rfl rfl rfl hc i pins s3 σ3 H3 X.xe I3 (stat fr3) st3 stop) fun r s4 ⟨hr, I4⟩ => ?_)
    subst hr
    exact wpAny_execs_nil ⟨σ3, H3, I4, qn⟩
  · refine wpAny_passesOwn hp (thn (T.item X rfl rfl rfl hc i pins s3 σ3 H3 X.xe I3 (stat fr3) st3 go) fun r s4 ⟨u, hr, h4⟩ => ?_)
    subst hr
    refine wpAny_passesOwn hp (thn h4 fun _ s5 ⟨x, H5, I5, r5, y5, st5, fr5⟩ => ?_)
    have I5' := I5.pinned (stat fr5) (T.obj _ _ st5)
    refine wpAny_passesOwn hp (thn (hg _ s5 σ3 H5 x u _ I5' r5 (step x H5 y5)) fun _ s6 ⟨σ6, H6, I6, q6⟩ => ?_)
    refine wpAny_passesOwn hp (thn (hb _ s6 σ6 H6 _ I6 q6) fun f s7 q7 => ?_)
    have again : ∀ {σ7 : St} {H7 : Hp}, Inv X (pins ++ pinsAt fp s5.heap) σ7 H7 s7 → N σ7 H7 → ∃ m, m < n ∧ ∃ i σ' H', Inv X pins σ' H' s7 ∧ tn i s7.heap ∧ (∀ b ∈ fp, H' b = none) ∧ W i m σ' H' := fun {σ7 H7} I7 n7 => by
      obtain ⟨m', hm, w7⟩ := hN σ7 H7 n7
      refine ⟨m', hm, i + 1, σ7, H7, I7.unpinned, T.keep _ _ _ st5 fun b hb o e => (I7.pin (b, o) (List.mem_append_right _ (List.mem_append_right _ (mem_pinsAt hb e)))).1, fun b hb => ?_, w7⟩
      obtain ⟨o, e, d⟩ := T.obj _ _ st5 b hb
      exact (I7.pin (b, o) (List.mem_append_right _ (List.mem_append_right _ (mem_pinsAt hb e)))).2.1
    cases f with
    | next => obtain ⟨σ7, H7, I7, n7⟩ := q7; exact again I7 n7
    | cont => obtain ⟨σ7, H7, I7, n7⟩ := q7; exact again I7 n7
    | brk => obtain ⟨σ7, H7, I7, q7⟩ := q7; exact ⟨σ7, H7, I7.unpinned, q7⟩
    | ret v => obtain ⟨x7, σ7, H7, I7, r7, q7⟩ := q7; exact ⟨x7, σ7, H7, I7.unpinned, r7, q7⟩
end

/-! ### the forms one uses -/
theorem for_list {K : PySem.W.Frag} {a : Addr} {xs : List V} {g : TG} {tb : TS} {D : Ends} {σ : St} {H : Hp} (Pv : Nat → St → Hp → Prop) (h0 : Pv 0 σ H) (hl : ∀ i σ H, i ≤ xs.length → Pv i σ H → SqL K H a xs)
    (hs : ∀ i x σ H, xs[i]? = some x → Pv i σ H → g x σ H fun σ2 H2 => tb { D with nx := Pv (i + 1), ct := Pv (i + 1), bk := D.nx } σ2 H2) (hd : ∀ σ H, Pv xs.length σ H → D.nx σ H) :
    ∃ W : Nat → Nat → St → Hp → Prop, (∃ m, W 0 m σ H) ∧ ∀ i m σ H, W i m σ H →
      ((Itl K a).stop i H ∧ D.nx σ H) ∨ ((Itl K a).go i H ∧ ∃ N : St → Hp → Prop, (∀ σ' H', N σ' H' → ∃ m', m' < m ∧ W (i + 1) m' σ' H') ∧ ∀ x H', (Itl K a).yld i H x H' → g x σ H' fun σ2 H2 => tb { D with nx := N, ct := N, bk := D.nx } σ2 H2) := by
  refine ⟨fun i m σ H => m = xs.length - i ∧ i ≤ xs.length ∧ Pv i σ H, ⟨xs.length, by simp, Nat.zero_le _, h0⟩, ?_⟩
  rintro i m σ H ⟨rfl, hi, p⟩
  have q := hl i σ H hi p
  by_cases hlt : i < xs.length
  · refine .inr ⟨⟨xs, xs[i], q, by simp [hlt]⟩, Pv (i + 1), fun σ' H' p' => ⟨xs.length - (i + 1), by omega, rfl, hlt, p'⟩, fun x H' y => ?_⟩
    obtain ⟨e, y⟩ := y
    subst e
    exact hs i x σ _ (y xs q) p
  · have e : i = xs.length := by omega
    subst e
    exact .inl ⟨⟨xs, q, Nat.le_refl _⟩, hd σ H p⟩
theorem for_range {lo : Int} {n : Nat} {g : TG} {tb : TS} {D : Ends} {σ : St} {H : Hp} (Pv : Nat → St → Hp → Prop) (h0 : Pv 0 σ H)
    (hs : ∀ i σ H, i < n → Pv i σ H → g (.int (lo + i)) σ H fun σ2 H2 => tb { D with nx := Pv (i + 1), ct := Pv (i + 1), bk := D.nx } σ2 H2) (hd : ∀ σ H, Pv n σ H → D.nx σ H) :
    ∃ W : Nat → Nat → St → Hp → Prop, (∃ m, W 0 m σ H) ∧ ∀ i m σ H, W i m σ H →
      ((Itr lo n).stop i H ∧ D.nx σ H) ∨ ((Itr lo n).go i H ∧ ∃ N : St → Hp → Prop, (∀ σ' H', N σ' H' → ∃ m', m' < m ∧ W (i + 1) m' σ' H') ∧ ∀ x H', (Itr lo n).yld i H x H' → g x σ H' fun σ2 H2 => tb { D with nx := N, ct := N, bk := D.nx } σ2 H2) := by
  refine ⟨fun i m σ H => m = n - i ∧ i ≤ n ∧ Pv i σ H, ⟨n, by simp, Nat.zero_le _, h0⟩, ?_⟩
  rintro i m σ H ⟨rfl, hi, p⟩
  by_cases hlt : i < n
  · refine .inr ⟨hlt, Pv (i + 1), fun σ' H' p' => ⟨n - (i + 1), by omega, rfl, hlt, p'⟩, fun x H' y => ?_⟩
    obtain ⟨e, y⟩ := y
    subst e y
    exact hs i σ _ hlt p
  · have e : i = n := by omega
    subst e
    exact .inl ⟨Nat.le_refl _, hd σ H p⟩
end L2

namespace L2
open PySem PySem.Spec PyProof.Rows

noncomputable abbrev R2 := V → V → Hp → VK → Prop
noncomputable def OpR (X : Cx) (f : Value → Value → Sem Value) (r : R2) : Prop :=
  ∀ (pins : List (Addr × Obj)) (s : Shared) (σ : St) (H : Hp) (x y : V) (v u : Value) (Q : VK), Inv X pins σ H s → RelV x v → RelV y u → r x y H Q →
    wpAny (model X.prog X.w) X.A (f v u) (EP X pins σ Q) X.xe s
noncomputable def UnR (X : Cx) (f : Value → Sem Value) (r : V → Hp → VK → Prop) : Prop :=
  ∀ (pins : List (Addr × Obj)) (s : Shared) (σ : St) (H : Hp) (x : V) (v : Value) (Q : VK), Inv X pins σ H s → RelV x v → r x H Q →
    wpAny (model X.prog X.w) X.A (f v) (EP X pins σ Q) X.xe s
noncomputable def CallR (X : Cx) (f : Value) (r : List V → Hp → VK → Prop) : Prop :=
  ∀ (pins : List (Addr × Obj)) (s : Shared) (σ : St) (H : Hp) (xs : List V) (us : List Value) (Q : VK), Inv X pins σ H s → Vals xs us → r xs H Q →
    wpAny (model X.prog X.w) X.A (call f us) (EP X pins σ Q) X.xe s
noncomputable def tOp (r : R2) (ta tb : TE) : TE := fun σ H Q => ta σ H fun x H1 => tb σ H1 fun y H2 => r x y H2 Q
noncomputable def tUn (r : V → Hp → VK → Prop) (ta : TE) : TE := fun σ H Q => ta σ H fun x H1 => r x H1 Q
noncomputable def rI (C : Int → Int → Prop) (g : Int → Int → V) : R2 := fun x y H Q => ∃ i j, x = .int i ∧ y = .int j ∧ C i j ∧ Q (g i j) H
noncomputable def rI0 (g : Int → Int → V) : R2 := fun x y H Q => ∃ i j, x = .int i ∧ y = .int j ∧ Q (g i j) H
noncomputable def rU (g : Int → V) : V → Hp → VK → Prop := fun x H Q => ∃ i, x = .int i ∧ Q (g i) H

section
variable {X : Cx} {a b c : Expr} {ta tb tc : TE} {pos : Pos}

theorem binT (ha : PE X a ta) (hb : PE X b tb) {pins : List (Addr × Obj)} {s : Shared} {σ : St} {H : Hp} {R : V → V → Hp → Prop} (I : Inv X pins σ H s)
    (h : ta σ H fun x H1 => tb σ H1 fun y H2 => R x y H2) {Q : Value → Shared → Prop} {f : Value → Value → Sem Value}
    (hf : ∀ v u s2 x y H2, Inv X pins σ H2 s2 → RelV x v → RelV y u → R x y H2 → wpAny (model X.prog X.w) X.A (f v u) Q X.xe s2) :
    wpAny (model X.prog X.w) X.A (eval a X.env) (fun v s₁ => wpAny (model X.prog X.w) X.A (eval b X.env) (fun u s₂ => wpAny (model X.prog X.w) X.A (f v u) Q X.xe s₂) X.xe s₁) X.xe s := by
  refine thn (ha pins s σ H _ I h) fun v s1 ⟨x, H1, I1, r1, q1⟩ => ?_
  refine thn (hb pins s1 σ H1 _ I1 q1) fun u s2 ⟨y, H2, I2, r2, q2⟩ => ?_
  exact hf v u s2 x y H2 I2 r1 r2 q2

theorem pe_op {op : Operator} {r : R2} (ho : OpR X (binaryOp op) r) (ha : PE X a ta) (hb : PE X b tb) : PE X (.BinOp a op b pos) (tOp r ta tb) := by
  intro pins s σ H Q I h
  exact wpAny_BinOp (binT ha hb I h fun v u s2 x y H2 I2 rx ry q => ho pins s2 σ H2 x y v u Q I2 rx ry q)
theorem pe_un {op : UnaryOp} {r : V → Hp → VK → Prop} (ho : UnR X (unaryOp op) r) (ha : PE X a ta) : PE X (.UnaryOp op a pos) (tUn r ta) := by
  intro pins s σ H Q I h
  exact UnaryOp_ (thn (ha pins s σ H _ I h) fun v s1 ⟨x, H1, I1, r1, q1⟩ => ho pins s1 σ H1 x v Q I1 r1 q1)
/-! ### ints -/
theorem opI {f : Value → Value → Sem Value} {C : Int → Int → Prop} {g : Int → Int → Int}
    (rule : ∀ (i j : Int) (t u : Tok) (s : Shared) (Q : Value → Shared → Prop) (E : Value → Shared → Prop), C i j → Q (.int (g i j) s.toks) { s with toks := s.toks + 1 } → wpAny (model X.prog X.w) X.A (f (.int i t) (.int j u)) Q E s) :
    OpR X f (rI C fun i j => .int (g i j)) := by
  intro pins s σ H x y v u Q I rx ry h
  obtain ⟨i, j, rfl, rfl, hc, q⟩ := h
  obtain ⟨t, rfl⟩ := rx
  obtain ⟨t', rfl⟩ := ry
  exact rule i j t t' s _ _ hc ⟨.int (g i j), H, I.tok _, ⟨_, rfl⟩, q⟩
theorem opI0 {f : Value → Value → Sem Value} {g : Int → Int → Int}
    (rule : ∀ (i j : Int) (t u : Tok) (s : Shared) (Q : Value → Shared → Prop) (E : Value → Shared → Prop), Q (.int (g i j) s.toks) { s with toks := s.toks + 1 } → wpAny (model X.prog X.w) X.A (f (.int i t) (.int j u)) Q E s) :
    OpR X f (rI0 fun i j => .int (g i j)) := by
  intro pins s σ H x y v u Q I rx ry h
  obtain ⟨i, j, rfl, rfl, q⟩ := h
  obtain ⟨t, rfl⟩ := rx
  obtain ⟨t', rfl⟩ := ry
  exact rule i j t t' s _ _ ⟨.int (g i j), H, I.tok _, ⟨_, rfl⟩, q⟩
theorem opB0 {f : Value → Value → Sem Value} {g : Int → Int → Bool}
    (rule : ∀ (i j : Int) (t u : Tok) (s : Shared) (Q : Value → Shared → Prop) (E : Value → Shared → Prop), Q (.bool (g i j)) s → wpAny (model X.prog X.w) X.A (f (.int i t) (.int j u)) Q E s) :
    OpR X f (rI0 fun i j => .bl (g i j)) := by
  intro pins s σ H x y v u Q I rx ry h
  obtain ⟨i, j, rfl, rfl, q⟩ := h
  obtain ⟨t, rfl⟩ := rx
  obtain ⟨t', rfl⟩ := ry
  exact rule i j t t' s _ _ ⟨.bl (g i j), H, I, rfl, q⟩

noncomputable def CDiv (i j : Int) : Prop := 0 < j ∧ j < 1073741824
noncomputable def CPow (i j : Int) : Prop := 0 ≤ j ∧ j ≤ 1000000 ∧ i.natAbs < 2 ^ 64
noncomputable def CMul (i j : Int) : Prop := (-(2 ^ 64) < i ∧ i < 2 ^ 64) ∨ (-(2 ^ 64) < j ∧ j < 2 ^ 64)
theorem CMul.ok {i j : Int} (h : CMul i j) : IntMulOk i j := by
  rcases h with ⟨h1, h2⟩ | ⟨h1, h2⟩
  · exact .of_left (intBits_le_64 h1 h2)
  · exact .of_right (intBits_le_64 h1 h2)
theorem two_pow_nn (k : Nat) : (0 : Int) ≤ 2 ^ k := by
  rw [two_pow_cast]
  exact Int.natCast_nonneg _

theorem op_add : OpR X (binaryOp .Add) (rI0 fun i j => .int (i + j)) := opI0 fun _ _ _ _ _ _ _ q => add_int q
theorem op_sub : OpR X (binaryOp .Sub) (rI0 fun i j => .int (i - j)) := opI0 fun _ _ _ _ _ _ _ q => sub_int q
theorem op_fdiv : OpR X (binaryOp .FloorDiv) (rI CDiv fun i j => .int (i / j)) := opI fun i j _ _ _ _ _ hc q => by
  have h1 : (0 : Int) < j := hc.1
  have h2 : j < 1073741824 := hc.2
  exact floordiv_int (by omega) (by rw [Int.fdiv_eq_ediv_of_nonneg i (by omega)]; exact q) (.inl (PyProof.noPylong_small (by omega)))
theorem op_mod : OpR X (binaryOp .Mod) (rI (fun _ j => 0 < j) fun i j => .int (i % j)) := opI fun i j _ _ _ _ _ hc q => by
  have h1 : (0 : Int) < j := hc
  exact mod_int' (by omega) (by rw [Int.fmod_eq_emod_of_nonneg i (by omega)]; exact q)
theorem op_shl : OpR X (binaryOp .LShift) (rI CPow fun i j => .int (i * 2 ^ j.toNat)) := opI fun _ _ _ _ _ _ _ hc q => lshift_int_small hc.1 hc.2.1 hc.2.2 q
theorem op_shr : OpR X (binaryOp .RShift) (rI (fun _ j => 0 ≤ j) fun i j => .int (i / 2 ^ j.toNat)) := opI fun i j _ _ _ _ _ hc q =>
  rshift_int hc (by rw [Int.fdiv_eq_ediv_of_nonneg i (two_pow_nn _)]; exact q)
theorem op_and : OpR X (binaryOp .BitAnd) (rI0 fun i j => .int (Builtin.bitAnd i j)) := opI0 fun _ _ _ _ _ _ _ q => and_int q
theorem unI {f : Value → Sem Value} {g : Int → Int}
    (rule : ∀ (i : Int) (t : Tok) (s : Shared) (Q : Value → Shared → Prop) (E : Value → Shared → Prop), Q (.int (g i) s.toks) { s with toks := s.toks + 1 } → wpAny (model X.prog X.w) X.A (f (.int i t)) Q E s) :
    UnR X f (rU fun i => .int (g i)) := by
  intro pins s σ H x v Q I rx h
  obtain ⟨i, rfl, q⟩ := h
  obtain ⟨t, rfl⟩ := rx
  exact rule i t s _ _ ⟨.int (g i), H, I.tok _, ⟨_, rfl⟩, q⟩
theorem un_neg : UnR X (unaryOp .USub) (rU fun i => .int (-i)) := unI fun _ _ _ _ _ q => neg_int q
/-! ### bools among ints: n += (a < b) -/
end

/-! ### comparisons -/
noncomputable def scal : V → V → Bool
  | .non, .non => true | .non, .int _ => true | .int _, .non => true | .non, .bl _ => true | .bl _, .non => true | .non, .str _ => true | .str _, .non => true
  | .int _, .int _ => true | .bl _, .bl _ => true | .str _, .str _ => true | .byt _, .byt _ => true
  | .int _, .str _ => true | .str _, .int _ => true | .bl _, .str _ => true | .str _, .bl _ => true
  | _, _ => false
noncomputable def rEq : R2 := fun x y H Q => scal x y = true ∧ Q (.bl (decide (x = y))) H
noncomputable def rNe : R2 := fun x y H Q => scal x y = true ∧ Q (.bl (!decide (x = y))) H

theorem dec_int {i j : Int} : decide (V.int i = V.int j) = (i == j) := by
  rw [Bool.eq_iff_iff]
  simp
theorem dec_bl {i j : Bool} : decide (V.bl i = V.bl j) = (i == j) := by
  rw [Bool.eq_iff_iff]
  simp
theorem dec_str {i j : Str} : decide (V.str i = V.str j) = (i == j) := by
  rw [Bool.eq_iff_iff]
  simp
theorem dec_byt {i j : Array UInt8} : decide (V.byt i = V.byt j) = (i.toList == j.toList) := by
  rw [Bool.eq_iff_iff]
  cases i
  cases j
  simp

section
variable {X : Cx} {a b c : Expr} {ta tb tc : TE} {pos : Pos}
theorem fin_bl {pins : List (Addr × Obj)} {σ : St} {H : Hp} {s : Shared} {Q : VK} {k k' : Bool} (I : Inv X pins σ H s) (q : Q (.bl k) H) (e : k = k') : EP X pins σ Q (.bool k') s := by
  subst e
  exact ⟨.bl k, H, I, rfl, q⟩
theorem op_eq : OpR X (compareOp .Eq) rEq := by
  intro pins s σ H x y v u Q I rx ry h
  obtain ⟨hs, q⟩ := h
  cases x with
  | non =>
    cases rx
    cases y with
    | non => cases ry; exact PySem.EqNone.eq_none_none (fin_bl I q (by simp))
    | bl j => cases ry; exact PySem.EqNone.eq_none_bool (fin_bl I q (by simp))
    | int j => obtain ⟨t', rfl⟩ := ry; exact PySem.EqNone.eq_none_int (fin_bl I q (by simp))
    | str j => obtain ⟨t', rfl⟩ := ry; exact PySem.EqNone.eq_none_str (fin_bl I q (by simp))
    | _ => exact absurd (show false = true from hs) Bool.false_ne_true
  | bl i =>
    cases rx
    cases y with
    | non => cases ry; exact PySem.EqNone.eq_bool_none (fin_bl I q (by simp))
    | bl j => cases ry; exact eq_bool (fin_bl I q dec_bl)
    | str j => obtain ⟨t', rfl⟩ := ry; exact PySem.EqMixed.eq_bool_str (fin_bl I q (by simp))
    | _ => exact absurd (show false = true from hs) Bool.false_ne_true
  | int i =>
    obtain ⟨t, rfl⟩ := rx
    cases y with
    | non => cases ry; exact PySem.EqNone.eq_int_none (fin_bl I q (by simp))
    | int j => obtain ⟨t', rfl⟩ := ry; exact eq_int (fin_bl I q dec_int)
    | str j => obtain ⟨t', rfl⟩ := ry; exact PySem.EqMixed.eq_int_str (fin_bl I q (by simp))
    | _ => exact absurd (show false = true from hs) Bool.false_ne_true
  | str i =>
    obtain ⟨t, rfl⟩ := rx
    cases y with
    | non => cases ry; exact PySem.EqNone.eq_str_none (fin_bl I q (by simp))
    | bl j => cases ry; exact PySem.EqMixed.eq_str_bool (fin_bl I q (by simp))
    | int j => obtain ⟨t', rfl⟩ := ry; exact PySem.EqMixed.eq_str_int (fin_bl I q (by simp))
    | str j => obtain ⟨t', rfl⟩ := ry; exact eq_str (fin_bl I q dec_str)
    | _ => exact absurd (show false = true from hs) Bool.false_ne_true
  | byt i =>
    obtain ⟨t, rfl⟩ := rx
    cases y with
    | byt j => obtain ⟨t', rfl⟩ := ry; exact PySem.W.eq_bytes (fin_bl I q dec_byt)
    | _ => exact absurd (show false = true from hs) Bool.false_ne_true
  | _ => cases y <;> exact absurd (show false = true from hs) Bool.false_ne_true
theorem op_ne : OpR X (compareOp .NotEq) rNe := by
  intro pins s σ H x y v u Q I rx ry h
  obtain ⟨hs, q⟩ := h
  cases x with
  | non =>
    cases rx
    cases y with
    | non => cases ry; exact PySem.EqNone.ne_none_none (fin_bl I q (by simp))
    | bl j => cases ry; exact PySem.EqNone.ne_none_bool (fin_bl I q (by simp))
    | int j => obtain ⟨t', rfl⟩ := ry; exact PySem.EqNone.ne_none_int (fin_bl I q (by simp))
    | str j => obtain ⟨t', rfl⟩ := ry; exact PySem.EqNone.ne_none_str (fin_bl I q (by simp))
    | _ => exact absurd (show false = true from hs) Bool.false_ne_true
  | bl i =>
    cases rx
    cases y with
    | non => cases ry; exact PySem.EqNone.ne_bool_none (fin_bl I q (by simp))
    | bl j => cases ry; exact ne_bool (fin_bl I q (congrArg not dec_bl))
    | str j => obtain ⟨t', rfl⟩ := ry; exact PySem.EqMixed.ne_bool_str (fin_bl I q (by simp))
    | _ => exact absurd (show false = true from hs) Bool.false_ne_true
  | int i =>
    obtain ⟨t, rfl⟩ := rx
    cases y with
    | non => cases ry; exact PySem.EqNone.ne_int_none (fin_bl I q (by simp))
    | int j => obtain ⟨t', rfl⟩ := ry; exact ne_int (fin_bl I q (congrArg not dec_int))
    | str j => obtain ⟨t', rfl⟩ := ry; exact PySem.EqMixed.ne_int_str (fin_bl I q (by simp))
    | _ => exact absurd (show false = true from hs) Bool.false_ne_true
  | str i =>
    obtain ⟨t, rfl⟩ := rx
    cases y with
    | non => cases ry; exact PySem.EqNone.ne_str_none (fin_bl I q (by simp))
    | bl j => cases ry; exact PySem.EqMixed.ne_str_bool (fin_bl I q (by simp))
    | int j => obtain ⟨t', rfl⟩ := ry; exact PySem.EqMixed.ne_str_int (fin_bl I q (by simp))
    | str j => obtain ⟨t', rfl⟩ := ry; exact ne_str (fin_bl I q (congrArg not dec_str))
    | _ => exact absurd (show false = true from hs) Bool.false_ne_true
  | byt i =>
    obtain ⟨t, rfl⟩ := rx
    cases y with
    | byt j => obtain ⟨t', rfl⟩ := ry; exact PySem.W.ne_bytes (fin_bl I q (congrArg not dec_byt))
    | _ => exact absurd (show false = true from hs) Bool.false_ne_true
  | _ => cases y <;> exact absurd (show false = true from hs) Bool.false_ne_true

theorem op_lt : OpR X (compareOp .Lt) (rI0 fun i j => .bl (decide (i < j))) := opB0 fun _ _ _ _ _ _ _ q => lt_int q
theorem op_le : OpR X (compareOp .LtE) (rI0 fun i j => .bl (decide (i ≤ j))) := opB0 fun _ _ _ _ _ _ _ q => le_int q
theorem op_gt : OpR X (compareOp .Gt) (rI0 fun i j => .bl (decide (j < i))) := opB0 fun _ _ _ _ _ _ _ q => gt_int q
theorem OpR.or {f : Value → Value → Sem Value} {r r' : R2} (h : OpR X f r) (h' : OpR X f r') : OpR X f (fun x y H Q => r x y H Q ∨ r' x y H Q) := by
  intro pins s σ H x y v u Q I rx ry q
  rcases q with q | q
  · exact h pins s σ H x y v u Q I rx ry q
  · exact h' pins s σ H x y v u Q I rx ry q

theorem nomark (b : Expr) {op : CmpOp} (h : op ≠ .In := by decide) (h2 : op ≠ .NotIn := by decide) : behindInMarks op b = false := by
  have e1 : (op == CmpOp.In) = false := by cases op <;> first | rfl | exact absurd rfl h
  have e2 : (op == CmpOp.NotIn) = false := by cases op <;> first | rfl | exact absurd rfl h2
  cases b <;> simp [behindInMarks, e1, e2]
theorem pe_cmpR {op : CmpOp} {r : R2} (ho : OpR X (compareOp op) r) (ha : PE X a ta) (hb : PE X b tb) (hm : behindInMarks op b = false) : PE X (.Compare a [op] [b] pos) (tOp r ta tb) := by
  intro pins s σ H Q I h
  exact wpAny_Compare1 (binT ha hb I h fun v u s2 x y H2 I2 rx ry q => ho pins s2 σ H2 x y v u Q I2 rx ry q) hm
noncomputable def tTest (t : TE) : TT := fun σ H Q => t σ H fun x H' => ∃ k, x = .bl k ∧ Q k H'
theorem pt_cmpR {op : CmpOp} {r : R2} (ho : OpR X (compareOp op) r) (ha : PE X a ta) (hb : PE X b tb) (hm : behindInMarks op b = false) : PT X (.Compare a [op] [b] pos) (tTest (tOp r ta tb)) := by
  intro pins s σ H Q I h
  refine wpAny_isTrue_Compare1 (thn (ha pins s σ H _ I h) fun v s1 ⟨x, H1, I1, r1, q1⟩ => thn (hb pins s1 σ H1 _ I1 q1) fun u s2 ⟨y, H2, I2, r2, q2⟩ =>
    thn (ho pins s2 σ H2 x y v u _ I2 r1 r2 q2) fun c s3 ⟨z, H3, I3, r3, k, e, q3⟩ => ?_) hm
  subst e
  cases r3
  exact wpAny_truthy_bool ⟨H3, I3, q3⟩
noncomputable def tChain (r r' : R2) (ta tb tc : TE) : TE := fun σ H Q => ta σ H fun x H1 => tb σ H1 fun y H2 => r x y H2 fun z H3 => ∃ k, z = .bl k ∧
  (if k = true then tc σ H3 fun w' H4 => r' y w' H4 Q else Q (.bl false) H3)
theorem pe_chain {op op' : CmpOp} {r r' : R2} (ho : OpR X (compareOp op) r) (ho' : OpR X (compareOp op') r') (ha : PE X a ta) (hb : PE X b tb) (hc : PE X c tc)
    (hm : lastMarks [op, op'] [b, c] = false := by with_unfolding_all rfl) : PE X (.Compare a [op, op'] [b, c] pos) (tChain r r' ta tb tc) := by
  intro pins s σ H Q I h
  refine Compare_chain (thn (ha pins s σ H _ I h) fun v s1 ⟨x, H1, I1, r1, q1⟩ => chain_link (thn (hb pins s1 σ H1 _ I1 q1) fun u s2 ⟨y, H2, I2, r2, q2⟩ =>
    thn (ho pins s2 σ H2 x y v u _ I2 r1 r2 q2) fun d s3 ⟨z, H3, I3, r3, k, e, q3⟩ => ?_)) hm
  subst e
  cases r3
  refine wpAny_truthy_bool ?_
  cases k with
  | false => exact ite_ff ⟨.bl false, H3, I3, rfl, q3⟩
  | true => exact ite_tt (chain_last (thn (hc pins s3 σ H3 _ I3 q3) fun w' s4 ⟨z', H4, I4, r4, q4⟩ => ho' pins s4 σ H4 y z' u w' Q I4 r2 r4 q4))
/-! ### truth -/
theorem line63 : (sizeLine : Nat) < 2 ^ 63 := by rw [sizeLine_eq]; decide
/-! ### strs and bytes -/
/-! ### scalar builtins, by CallR -/
theorem vals1 {x : V} {us : List Value} (r : Vals [x] us) : ∃ u, us = [u] ∧ RelV x u := by
  cases r with
  | cons r1 r2 => cases r2; exact ⟨_, rfl, r1⟩
theorem vals2 {x y : V} {us : List Value} (r : Vals [x, y] us) : ∃ u w', us = [u, w'] ∧ RelV x u ∧ RelV y w' := by
  cases r with
  | cons r1 r2 =>
    cases r2 with
    | cons r3 r4 => cases r4; exact ⟨_, _, rfl, r1, r3⟩
theorem call_max2 (hc : X.calm = true) : CallR X (.builtin "max") (fun xs H Q => ∃ i j, xs = [.int i, .int j] ∧ Q (.int (if j > i then j else i)) H) := by
  intro pins s σ H xs us Q I r h
  obtain ⟨i, j, rfl, q⟩ := h
  obtain ⟨u, w', rfl, ⟨t, rfl⟩, ⟨t', rfl⟩⟩ := vals2 r
  refine max_two_ints (I.ok.hd hc) fun h' tk k => ⟨_, H, I.kept k, ?_, q⟩
  by_cases hj : j > i
  · rw [if_pos hj, if_pos hj]; exact ⟨_, rfl⟩
  · rw [if_neg hj, if_neg hj]; exact ⟨_, rfl⟩
end
end L2

namespace L2
open PySem PySem.Spec PyProof.Rows

/-! ### an instance, its attributes a map -/
structure ObjM (h : Heap) (x dx C : Addr) (mA : Str → Option Value) : Prop where
  obj : h.get? x = some (PySem.W.instObj C dx)
  ns : h.Ns1 dx mA
  ne : dx ≠ x

theorem lookIn_ns {h : Heap} {dx : Addr} {mA : Str → Option Value} (n : h.Ns1 dx mA) : ∃ od, h.get? dx = some od ∧ ∀ name, PySem.W.lookIn name od = some (mA name) := by
  obtain ⟨o, es, ep, ho, hd, hk, _, hm⟩ := n
  refine ⟨o, ho, fun name => ?_⟩
  have e := hm name
  unfold nsFind findBy at e
  rw [← Array.find?_toList] at e
  unfold PySem.W.lookIn
  rw [hd]
  dsimp only
  split
  · rename_i y q
    rw [q] at e
    exact congrArg some e
  · rename_i q
    rw [q] at e
    have a : es.toList.any (·.refKey) = false := by
      rw [List.any_eq_false]
      intro y hy
      obtain ⟨z, t, hkey⟩ := hk y (Array.mem_toList_iff.mp hy)
      simp [DictEntry.refKey, hkey]
    have a' : ¬ es.toList.any (·.refKey) = true := by rw [a]; exact Bool.false_ne_true
    rw [if_neg a']
    exact congrArg some e

theorem ObjM.look {h : Heap} {x dx C : Addr} {mA : Str → Option Value} (I : ObjM h x dx C mA) : ∃ od, PySem.W.InstAt h x (PySem.W.instObj C dx) C (some od) ∧ ∀ name, PySem.W.lookIn name od = some (mA name) :=
  let ⟨od, ho, hl⟩ := lookIn_ns I.ns
  ⟨od, ⟨I.obj, rfl, rfl, ho⟩, hl⟩

section
variable {prog : Program} {w : World} {A : Around} {E : Value → Shared → Prop} {s : Shared} {K : PySem.W.Frag} {x dx C f : Addr} {mA : Str → Option Value} {name : Str} {v : Value}

end

/-! ### the attributes as a list of pairs -/
theorem RelO.some_of {v : V} {o : Option Value} (r : RelO (some v) o) : ∃ u, o = some u ∧ RelV v u := by
  cases o with
  | none => exact (show False from r).elim
  | some u => exact ⟨u, rfl, r⟩
section
variable {P : Program} {w : World} {H H' : Hp} {h h' : Heap} {a C dx : Addr} {fs fs' : List (Str × V)}
theorem ins_get (hok : HOk P w H h) (e : H a = some (.ins C dx fs)) : ∃ mA, ObjM h a dx C mA ∧ (∀ f, RelO (fs.lookup f) (mA f)) ∧ PySem.Within mA (fs.map (·.1)) ∧ fs.length ≤ 1000 ∧ H dx = some (.own a) := by
  obtain ⟨d, z, ne, ob, mA, n, r, q⟩ := (show ObjOk P w H h a (.ins C dx fs) from hok a _ e)
  exact ⟨mA, ⟨ob, n, ne⟩, r, q, z, d⟩
end

/-! ### what of the text a class must have -/
structure Cls (K : PySem.W.Frag) (C : Addr) : Prop where
  pg : PySem.W.plainGet K C Str.empty = true
  hd : PySem.W.hasDictIn K C = true
  po : PySem.W.plainOver K C = true
  sa : PySem.W.findIn K (.ref C) "__setattr__" = some (some (.builtin "object.__setattr__"))
theorem Cls.get {K : PySem.W.Frag} {C : Addr} (c : Cls K C) (f : Str) : PySem.W.plainGet K C f = true := c.pg
structure Con (K : PySem.W.Frag) (C : Addr) (f : Str) (v : V) (u : Value) : Prop where
  at_ : PySem.W.findIn K (.ref C) f = some (some u)
  rel : RelV v u
  get : PySem.W.specialIn K u "__get__" = some none
  cp : PySem.W.copiedNames.contains f = false
structure Meth (K : PySem.W.Frag) (C : Addr) (m : Str) (f : Addr) : Prop where
  at_ : PySem.W.findIn K (.ref C) m = some (some (.ref f))
  fn : PySem.W.isFn K (.ref f) = true
  kp : PySem.W.keepIn K (.ref f) = true

section
variable {X : Cx} {pins : List (Addr × Obj)} {σ : St} {H : Hp} {s : Shared} {a C dx : Addr} {fs : List (Str × V)} {f : Str} {v : V} {A : Around} {E : Value → Shared → Prop}

end

/-! ### readings and rules -/
section
variable {X : Cx} {o e value : Expr} {f : Str} {pos pos' tpos : Pos} {ta tv : TE}
end

/-! ### isinstance -/
section
variable {X : Cx} {pins : List (Addr × Obj)} {σ : St} {H : Hp} {s : Shared} {A : Around} {E : Value → Shared → Prop} {Q : Value → Shared → Prop} {c : Value} {b : Bool}
inductive TyOf (K : PySem.W.Frag) (H : Hp) : V → Value → Prop where
  | non : TyOf K H .non (.type "NoneType")
  | bl (x : Bool) : TyOf K H (.bl x) (.type "bool")
  | int (i : Int) : TyOf K H (.int i) (.type "int")
  | str (x : Str) : TyOf K H (.str x) (.type "str")
  | flt (x : UInt64) : TyOf K H (.flt x) (.type "float")
  | lst {a : Addr} {xs : List V} (e : H a = some (.lst xs)) : TyOf K H (.ref a) (.type "list")
  | frz {a : Addr} {o : Obj} {xs : List V} (e : H a = some (.frz o (.lst xs))) : TyOf K H (.ref a) (.type "list")
  | tup {a : Addr} {xs : List V} (e : H a = some (.tup xs)) : TyOf K H (.ref a) (.type "tuple")
  | dK {a : Addr} {kvs : List (Key × V)} (e : H a = some (.dK kvs)) : TyOf K H (.ref a) (.type "dict")
  | dT {a : Addr} {kvs : List (List Key × V)} (e : H a = some (.dT kvs)) : TyOf K H (.ref a) (.type "dict")
  | ins {a C dx : Addr} {fs : List (Str × V)} (e : H a = some (.ins C dx fs)) (cl : Cls K C) (ha : PySem.W.findIn K (.ref C) "__class__" = some (some (.builtin "object.__class__")))
      (hn : PySem.W.specialIn K (.builtin "object.__class__") "__get__" = some (some (.builtin "getset_descriptor.__get__"))) (htk : PySem.W.takesIn K (.builtin "object.__class__") = some true)
      (hm : PySem.W.mroIn K C (.type "object") = some true) : TyOf K H (.ref a) (.ref C)
theorem isinst_ok {x : V} {u t : Value} (I : Inv X pins σ H s) (rx : RelV x u) (ty : TyOf X.K H x t) (e : PySem.W.kitOne X.K t c = some b) (h : ∀ tk, Q (.bool b) { s with toks := tk }) :
    wpAny (model X.prog X.w) A (call (.builtin "isinstance") [u, c]) Q E s := by
  cases ty with
  | non => cases (show u = Value.none from rx); exact PySem.W.kia_one PySem.W.kitx_none I.kIn True.intro e (fun z => nomatch z) h
  | bl y => cases (show u = Value.bool y from rx); exact PySem.W.kia_one PySem.W.kitx_bool I.kIn True.intro e (fun z => nomatch z) h
  | int i => obtain ⟨t, q⟩ := (show ∃ t, u = Value.int i t from rx); cases q; exact PySem.W.kia_one PySem.W.kitx_int I.kIn True.intro e (fun z => nomatch z) h
  | str y => obtain ⟨t, q⟩ := (show ∃ t, u = Value.str y t from rx); cases q; exact PySem.W.kia_one PySem.W.kitx_str I.kIn True.intro e (fun z => nomatch z) h
  | flt y => obtain ⟨t, q⟩ := (show ∃ t, u = Value.float y t from rx); cases q; exact PySem.W.kia_one PySem.W.kitx_float I.kIn True.intro e (fun z => nomatch z) h
  | @lst a xs ea =>
    cases (show u = Value.ref a from rx)
    obtain ⟨_, _, n, _, h1⟩ := (show ObjOk X.prog X.w H s.heap a (.lst xs) from I.hok a _ ea)
    exact PySem.W.kia_one PySem.W.kitx_list I.kIn ⟨_, h1, rfl⟩ e (fun z => nomatch z) h
  | @frz a ob xs ea =>
    cases (show u = Value.ref a from rx)
    obtain ⟨_, _, _, n, _, h1⟩ := (show ObjOk X.prog X.w H s.heap a (.frz ob (.lst xs)) from I.hok a _ ea)
    exact PySem.W.kia_one PySem.W.kitx_list I.kIn ⟨_, h1, rfl⟩ e (fun z => nomatch z) h
  | @tup a xs ea =>
    cases (show u = Value.ref a from rx)
    obtain ⟨_, _, _, p⟩ := (show ObjOk X.prog X.w H s.heap a (.tup xs) from I.hok a _ ea)
    obtain ⟨o, h1, h2, _⟩ := p
    exact PySem.W.kia_one PySem.W.kitx_tuple I.kIn ⟨o, h1, h2⟩ e (fun z => nomatch z) h
  | @dK a kvs ea =>
    cases (show u = Value.ref a from rx)
    obtain ⟨_, _, vs, _, p⟩ := (show ObjOk X.prog X.w H s.heap a (.dK kvs) from I.hok a _ ea)
    obtain ⟨o, es, ep, h1, h2, _⟩ := p
    exact PySem.W.kia_one PySem.W.kitx_dict I.kIn ⟨o, h1, h2.1⟩ e (fun z => nomatch z) h
  | @dT a kvs ea =>
    cases (show u = Value.ref a from rx)
    obtain ⟨_, _, xs, _, o, es, ep, h1, h2, _⟩ := (show ObjOk X.prog X.w H s.heap a (.dT kvs) from I.hok a _ ea)
    exact PySem.W.kia_one PySem.W.kitx_dict I.kIn ⟨o, h1, h2.1⟩ e (fun z => nomatch z) h
  | @ins a C dx fs ea cl ha hn htk hm =>
    cases (show u = Value.ref a from rx)
    obtain ⟨mA, O, _⟩ := ins_get I.hok ea
    obtain ⟨od, J, _⟩ := O.look
    exact PySem.W.kia_one (PySem.W.kitx_own (cl.get _) cl.hd ha hn htk hm) I.kIn J e (fun z => nomatch z) h
end
end L2

namespace L2
open PySem PySem.Spec PyProof.Rows

/-! ### room -/
structure Room (k : Nat) (A : Around) : Prop where
  hd : A.handled = none
  dp : A.depth + 3 * k + 5 < recursionLimit
  un : A.units + 16 * k + 200 < cLine
theorem Room.mono {j k : Nat} {A : Around} (r : Room k A) (h : j ≤ k) : Room j A := ⟨r.hd, by have := r.dp; omega, by have := r.un; omega⟩
theorem Room.deeper {k : Nat} {A : Around} (r : Room (k + 1) A) (env : Env) : Room k (A.deeper env) :=
  ⟨r.hd, by have := r.dp; show A.depth + 1 + 3 * k + 5 < _; omega, by have := r.un; show A.units + 3 + 16 * k + 200 < _; omega⟩
theorem Room.in1 {k : Nat} {A : Around} (r : Room (k + 1) A) : Room k A.in1 :=
  ⟨r.hd, by have := r.dp; show A.depth + 3 * k + 5 < _; omega, by have := r.un; show A.units + 1 + 16 * k + 200 < _; omega⟩
theorem Room.depth {k : Nat} {A : Around} (r : Room k A) : A.depth < recursionLimit := by have := r.dp; omega
theorem Room.units {k : Nat} {A : Around} (r : Room k A) : A.units + 64 < cLine := by have := r.un; omega
theorem Room.units0 {k : Nat} {A : Around} (r : Room k A) : A.units < cLine := by have := r.un; omega

/-! ### argument lists and displays -/
noncomputable def tNil : TA := fun _ H Q => Q [] H
noncomputable def tCons (ta : TE) (tr : TA) : TA := fun σ H Q => ta σ H fun x H1 => tr σ H1 fun xs H2 => Q (x :: xs) H2
section
variable {X : Cx} {e : Expr} {es : List Expr} {te : TE} {t : TA} {pos : Pos}
theorem pa_nil : PA X [] tNil := fun _ _ _ _ H Q I h => Calls.spliced_nil ⟨[], H, I, .nil, h⟩
theorem pa_cons (ha : PE X e te) (hr : PA X es t) (hs : starEach (e :: es) X.env = (false, eval e X.env) :: starEach es X.env := by rfl) : PA X (e :: es) (tCons te t) := by
  intro pos pins s σ H Q I h
  rw [hs]
  show wpAny _ _ (spliced ((false, eval e X.env) :: backTo pos (starEach es X.env))) _ _ s
  refine Calls.spliced_cons (thn (ha pins s σ H _ I h) fun u s1 ⟨x, H1, I1, r1, q1⟩ => ?_)
  exact thn (hr pos pins s1 σ H1 _ I1 q1) fun us s2 ⟨xs, H2, I2, r2, q2⟩ => ⟨x :: xs, H2, I2, .cons r1 r2, q2⟩

noncomputable def tTup (t : TA) : TE := fun σ H Q => t σ H fun xs H1 => xs.length ≤ sizeLine ∧ ∀ p, H1 p = none → Q (.ref p) (upd H1 p (.tup xs))
noncomputable def tLst (t : TA) : TE := fun σ H Q => t σ H fun xs H1 => xs.length ≤ sizeLine ∧ ∀ p, H1 p = none → Q (.ref p) (upd H1 p (.lst xs))
theorem pe_tup {x1} (h : PA X es t) : PE X (.Tuple es x1 pos) (tTup t) := by
  intro pins s σ H Q I hq
  refine wpAny_Tuple_spliced (thn (h pos pins s σ H _ I hq) fun us s1 ⟨xs, H1, I1, r, z, q⟩ => ⟨by rw [← r.length]; exact z, ?_⟩)
  have hf : H1 s1.heap.objs.size = none := I1.hok.fresh (Nat.le_refl _)
  refine ⟨.ref s1.heap.objs.size, upd H1 s1.heap.objs.size (.tup xs), I1.laid (t' := s1.toks) (fun b u e => Heap.get?_push_of_some _ e) (Nat.le_refl _) ?_, rfl, q _ hf⟩
  exact ⟨z, us, r, IsTupD.new _ _⟩
theorem pe_lst (h : PA X es t) : PE X (.List es pos) (tLst t) := by
  intro pins s σ H Q I hq
  refine wpAny_List_spliced (thn (h pos pins s σ H _ I hq) fun us s1 ⟨xs, H1, I1, r, z, q⟩ => ⟨by rw [← r.length]; exact z, ?_⟩)
  have hf : H1 s1.heap.objs.size = none := I1.hok.fresh (Nat.le_refl _)
  refine ⟨.ref s1.heap.objs.size, upd H1 s1.heap.objs.size (.lst xs), I1.laid (t' := s1.toks) (fun b u e => Heap.get?_push_of_some _ e) (Nat.le_refl _) ?_, rfl, q _ hf⟩
  exact ⟨z, us, 0, r, Heap.get?_push_size _ rfl⟩
end

/-! ### what a def promises -/
noncomputable abbrev Sp := List V → Hp → VK → XK → Prop
noncomputable abbrev CXT := List Env → Hp → Shared → XK → Value → Shared → Prop

structure Env0 (P : Program) (w : World) (K : PySem.W.Frag) (mg : Str → Option Value) (base : Heap) (A : Around) (outer : List Env) (s : Shared) (H : Hp) : Prop where
  frames : A.frames = some outer
  mod : Mod K mg base
  bs : ∀ b o, base.get? b = some o → s.heap.get? b = some o ∧ H b = none
  bsz : base.objs.size ≤ s.heap.objs.size
  funs : s.heap.FunFrames base outer
  frf : ∀ b ∈ frs outer, H b = none
  hok : HOk P w H s.heap
  bare : AllBare s.gens
noncomputable def CE (outer : List Env) (P : Program) (w : World) (H : Hp) (s : Shared) (Q : VK) (u : Value) (s' : Shared) : Prop :=
  ∃ v H', s'.os = s.os ∧ AllBare s'.gens ∧ Un (frs outer) [] H H' s.heap s'.heap ∧ HOk P w H' s'.heap ∧ RelV v u ∧ Q v H'
noncomputable def CR (CX : CXT) (outer : List Env) (P : Program) (w : World) (H : Hp) (s : Shared) (Q : VK) (E : XK) (r : Result) (s' : Shared) : Prop :=
  match r with
  | .ok (.ret u) => CE outer P w H s Q u s'
  | .ok _ => False
  | .error e => CX outer H s E e s'
structure FnOk (P : Program) (w : World) (K : PySem.W.Frag) (mg : Str → Option Value) (base : Heap) (CX : CXT) (k : Nat) (f : Addr) (fd : FuncData) (ps : List Str) (sp : Sp) : Prop where
  len : ∀ vs H Q E, sp vs H Q E → vs.length = ps.length
  run : ∀ (A : Around) (outer : List Env) (s : Shared) (H : Hp) (args : Args) (us : List Value) (vs : List V) (Q : VK) (E : XK), Room k A → Env0 P w K mg base A outer s H → BindsTo s fd args (ps.zip us) → Vals vs us → sp vs H Q E →
    codeAny (model P w) A (.call (.ref f) args) (CR CX outer P w H s Q E) s
theorem FnOk.mono {P : Program} {w : World} {K : PySem.W.Frag} {mg : Str → Option Value} {base : Heap} {CX : CXT} {j k : Nat} {f : Addr} {fd : FuncData} {ps : List Str} {sp : Sp} (F : FnOk P w K mg base CX j f fd ps sp) (h : j ≤ k) :
    FnOk P w K mg base CX k f fd ps sp := ⟨F.len, fun A outer s H args us vs Q E hr => F.run A outer s H args us vs Q E (hr.mono h)⟩
theorem FnOk.imp {P : Program} {w : World} {K : PySem.W.Frag} {mg : Str → Option Value} {base : Heap} {CX : CXT} {k : Nat} {f : Addr} {fd : FuncData} {ps : List Str} {sp sp' : Sp} (F : FnOk P w K mg base CX k f fd ps sp)
    (h : ∀ vs H Q E, sp' vs H Q E → sp vs H Q E) : FnOk P w K mg base CX k f fd ps sp' :=
  ⟨fun vs H Q E q => F.len vs H Q E (h _ _ _ _ q), fun A outer s H args us vs Q E hr he hb hv hs => F.run A outer s H args us vs Q E hr he hb hv (h _ _ _ _ hs)⟩

theorem Env0.in1 {P : Program} {w : World} {K : PySem.W.Frag} {mg : Str → Option Value} {base : Heap} {A : Around} {outer : List Env} {s : Shared} {H : Hp} (e : Env0 P w K mg base A outer s H) :
    Env0 P w K mg base A.in1 outer s H := ⟨e.frames, e.mod, e.bs, e.bsz, e.funs, e.frf, e.hok, e.bare⟩

section
variable {X : Cx} {pins : List (Addr × Obj)} {σ : St} {H : Hp} {s s' : Shared}
theorem Inv.env0 (I : Inv X pins σ H s) : Env0 X.prog X.w X.K X.mg X.base X.A X.stack s H :=
  ⟨I.ok.frames, I.ok.mod, I.bs, Nat.le_trans I.ok.bsz I.sz, I.stack, I.stkFree, I.hok, I.bare⟩
theorem Inv.after {Q : VK} {u : Value} (I : Inv X pins σ H s) (h : CE X.stack X.prog X.w H s Q u s') : EP X pins σ Q u s' := by
  obtain ⟨v, H', os, bare, un, hok, r, q⟩ := h
  obtain ⟨hh, g, d, t, os'⟩ := s'
  obtain rfl : os' = s.os := os
  exact ⟨v, H', I.call (h' := hh) (g' := g) (d' := d) (t' := t) (ch := []) un hok bare (fun b z => absurd z (by simp)), r, q⟩
end

/-! ### calls -/
noncomputable def tCall (sp : Sp) (dvs : List V) (E : XK) (t : TA) : TE := fun σ H Q => t σ H fun vs H1 => sp (vs ++ dvs) H1 Q E
noncomputable def Binds (K : PySem.W.Frag) (fd : FuncData) (ps : List Str) (ds : List Value) : Prop :=
  ∀ (s : Shared) (us : List Value), K.In s.heap → (us ++ ds).length = ps.length → BindsTo s fd ⟨us, []⟩ (ps.zip (us ++ ds))
theorem Binds.all {K : PySem.W.Frag} {fd : FuncData} {ps : List Str} (h : ∀ us : List Value, us.length = ps.length → bindArgs fd ⟨us, []⟩ = pure (ps.zip us)) : Binds K fd ps [] := fun s us _ hl => by
  rw [List.append_nil] at hl ⊢
  exact .of_eq (h us hl)

noncomputable def Passes (CX : CXT) (X : Cx) (E : XK) : Prop := ∀ (pins : List (Addr × Obj)) (σ : St) (H : Hp) (s : Shared) (e : Value) (s' : Shared), Inv X pins σ H s → CX X.stack H s E e s' → X.xe e s'

section
variable {X : Cx} {CX : CXT} {k : Nat} {f C : Addr} {fd : FuncData} {ps : List Str} {sp : Sp} {dvs : List V} {ds : List Value} {E : XK} {x m : Str} {p pos apos : Pos} {e o : Expr} {es : List Expr} {ta : TE} {t : TA}

theorem run_fn {pins : List (Addr × Obj)} {σ : St} {H : Hp} {s : Shared} {Q : VK} {us : List Value} {vs : List V} (F : FnOk X.prog X.w X.K X.mg X.base CX k f fd ps sp) (hr : Room k X.A) (hb : Binds X.K fd ps ds) (hd : Vals dvs ds) (hx : Passes CX X E)
    (I : Inv X pins σ H s) (r : Vals vs us) (h : sp (vs ++ dvs) H Q E) : wpAny (model X.prog X.w) X.A (call (.ref f) us) (EP X pins σ Q) X.xe s := by
  have r2 : Vals (vs ++ dvs) (us ++ ds) := r.append hd
  have hl : (us ++ ds).length = ps.length := by rw [← r2.length]; exact F.len _ _ _ _ h
  refine wpAny_call (codeAny_mono (F.run X.A X.stack s H ⟨us, []⟩ (us ++ ds) (vs ++ dvs) Q E hr I.env0 (hb s us I.kIn hl) r2 h) fun r s' hq => ?_)
  cases r with
  | error e => exact hx pins σ H s e s' I hq
  | ok fl =>
    cases fl with
    | ret u => exact I.after hq
    | next => exact False.elim hq
    | brk => exact False.elim hq
    | cont => exact False.elim hq

theorem pe_call (F : FnOk X.prog X.w X.K X.mg X.base CX k f fd ps sp) (hr : Room k X.A) (hg : Gl X x) (hm : X.mg x = some (.ref f)) (hk : PySem.W.keepIn X.K (.ref f) = true) (hb : Binds X.K fd ps ds) (hd : Vals dvs ds) (hx : Passes CX X E)
    (ha : PA X (e :: es) t) (hdb : (x == ("__debug__" : Str)) = false := by decide) (he : starEach (e :: es) X.env = (false, eval e X.env) :: starEach es X.env := by rfl) (hpl : (backTo pos (starEach es X.env)).any (·.1) = false := by rfl) :
    PE X (.Call (.Name x p) (e :: es) [] pos) (tCall sp dvs E t) := by
  intro pins s σ H Q I h
  refine wpAny_Call_Name_kw (ld_glob I hg hm ?_ hdb)
  refine PySem.W.callWith_K (h₀ := X.base) I.ok.mod.kin hk (thn (ha pos pins s σ H _ I h) fun us s1 ⟨vs, H1, I1, r, q⟩ => ⟨I1.kIn, ?_⟩) he hpl
  exact run_fn F hr hb hd hx I1 r q
structure Mk (K : PySem.W.Frag) (C f : Addr) : Prop where
  makes : PySem.W.makesIn K C = true
  init : PySem.W.findIn K (.ref C) "__init__" = some (some (.ref f))
  fn : PySem.W.isFn K (.ref f) = true
  kp : PySem.W.keepIn K (.ref C) = true

end

/-! ### keywords -/
section
variable {X : Cx} {CX : CXT} {k : Nat} {f C : Addr} {fd : FuncData} {ps ks : List Str} {sp : Sp} {E : XK} {x m : Str} {p pos apos kpos : Pos} {e o : Expr} {es : List Expr} {kws : List Keyword} {te ta : TE} {t tk : TA} {nm : Option Str}
structure KBinds (K : PySem.W.Frag) (fd : FuncData) (ps ks : List Str) (g : List Value → List Value → List Value) (gV : List V → List V → List V) : Prop where
  to : ∀ (s : Shared) (us ws : List Value), K.In s.heap → (g us ws).length = ps.length → BindsTo s fd ⟨us, ks.zip ws⟩ (ps.zip (g us ws))
  rel : ∀ {vs : List V} {us : List Value} {zs : List V} {ws : List Value}, Vals vs us → Vals zs ws → Vals (gV vs zs) (g us ws)
variable {g : List Value → List Value → List Value} {gV : List V → List V → List V}
end

/-! ### a def's body keeps its promise -/
structure FnScope (N P : List Str) (sc : Scope) : Prop where
  kind : sc.kind = .function
  co : sc.isCoroutine = false
  gen : sc.isGenerator = false
  nd : N.Nodup
  pre : N.take P.length = P
  par : ∀ x ∈ P, sc.names.lookup x = some .local ∨ sc.names.lookup x = some .cell
  nofree : ∀ y ∈ sc.names, y.2 ≠ .free

theorem bindL_out {kindOf : Str → Option NameKind} {x : Str} : ∀ {binds : List (Str × Value)} {m : Str → Option Value}, (∀ v, (x, v) ∉ binds) → bindL kindOf binds m x = m x
  | [], _, _ => rfl
  | (n, v) :: r, m, h => by
    unfold bindL
    rw [bindL_out fun w hw => h w (List.mem_cons_of_mem _ hw)]
    split
    · have : x ≠ n := by rintro rfl; exact h v List.mem_cons_self
      simp [this]
    · rfl
theorem bindC_out {kindOf : Str → Option NameKind} {x : Str} : ∀ {binds : List (Str × Value)} {m : Str → Option Value}, (∀ v, (x, v) ∉ binds) → bindC kindOf binds m x = m x
  | [], _, _ => rfl
  | (n, v) :: r, m, h => by
    unfold bindC
    rw [bindC_out fun w hw => h w (List.mem_cons_of_mem _ hw)]
    split
    · rfl
    · have : x ≠ n := by rintro rfl; exact h v List.mem_cons_self
      simp [this]
theorem bindL_get {kindOf : Str → Option NameKind} {x : Str} {v : Value} : ∀ {P : List Str} {vs : List Value} {i : Nat} {m : Str → Option Value}, P.Nodup → P[i]? = some x → vs[i]? = some v → kindOf x = some .local →
    bindL kindOf (P.zip vs) m x = some v
  | [], _, _, _, _, h, _, _ => by simp at h
  | _ :: _, [], _, _, _, _, h, _ => by simp at h
  | p :: P, w :: vs, 0, m, nd, h1, h2, hk => by
    simp at h1 h2; subst h1; subst h2
    show bindL kindOf ((p, w) :: P.zip vs) m p = _
    unfold bindL
    rw [bindL_out fun v hv => (List.nodup_cons.mp nd).1 (List.of_mem_zip hv).1, if_pos hk]
    simp
  | p :: P, w :: vs, i + 1, m, nd, h1, h2, hk => by
    show bindL kindOf ((p, w) :: P.zip vs) m x = _
    unfold bindL
    exact bindL_get (i := i) (List.nodup_cons.mp nd).2 (by simpa using h1) (by simpa using h2) hk
theorem bindC_get {kindOf : Str → Option NameKind} {x : Str} {v : Value} : ∀ {P : List Str} {vs : List Value} {i : Nat} {m : Str → Option Value}, P.Nodup → P[i]? = some x → vs[i]? = some v → kindOf x ≠ some .local →
    bindC kindOf (P.zip vs) m x = some v
  | [], _, _, _, _, h, _, _ => by simp at h
  | _ :: _, [], _, _, _, _, h, _ => by simp at h
  | p :: P, w :: vs, 0, m, nd, h1, h2, hk => by
    simp at h1 h2; subst h1; subst h2
    show bindC kindOf ((p, w) :: P.zip vs) m p = _
    unfold bindC
    rw [bindC_out fun v hv => (List.nodup_cons.mp nd).1 (List.of_mem_zip hv).1, if_neg hk]
    simp
  | p :: P, w :: vs, i + 1, m, nd, h1, h2, hk => by
    show bindC kindOf ((p, w) :: P.zip vs) m x = _
    unfold bindC
    exact bindC_get (i := i) (List.nodup_cons.mp nd).2 (by simpa using h1) (by simpa using h2) hk

noncomputable def start (N : List Str) (vs : List V) : St := vs.map some ++ List.replicate (N.length - vs.length) none

noncomputable def cxOf (CX : CXT) (P : Program) (w : World) (K : PySem.W.Frag) (mg : Str → Option Value) (base : Heap) (N : List Str) (qual : Str) (scope : Scope) (f : Addr) (cd : Value) (A : Around) (outer : List Env) (s : Shared) (H : Hp) (E : XK) : Cx where
  prog := P
  w := w
  K := K
  mg := mg
  base := base
  A := A.deeper (envOfC qual scope s.heap.objs.size f cd)
  N := N
  s₀ := s
  H₀ := H
  env := envOfC qual scope s.heap.objs.size f cd
  outer := outer
  stack := envOfC qual scope s.heap.objs.size f cd :: outer
  ex := []
  calm := true
  fn := fun _ => true
  pn := []
  xe := fun e s' => wpAny (model P w) (A.deeper (envOfC qual scope s.heap.objs.size f cd)) («leaving» (envOfC qual scope s.heap.objs.size f cd) e) (fun _ s'' => CX outer H s E e s'') (fun e' s'' => CX outer H s E e' s'') s'

theorem cell_has {sc : Scope} {n : Nat} {x : Str} (h : sc.names.lookup x = some .cell) : ∃ c, (cellsFrom n sc.names []).lookup x = some c := by
  have q := PySem.W.cellsFrom_some sc.names n [] (.inl h)
  exact Option.isSome_iff_exists.mp q

theorem inv_start {CX : CXT} {P : Program} {w : World} {K : PySem.W.Frag} {mg : Str → Option Value} {base : Heap} {N ps : List Str} {qual : Str} {scope : Scope} {f : Addr} {cd : Value} {A : Around} {outer : List Env} {s s1 : Shared} {H : Hp} {E : XK} {us : List Value} {vs : List V}
    (S : FnScope N ps scope) (hd : A.handled = none) (e0 : Env0 P w K mg base A outer s H) (hl : vs.length = ps.length) (r : Vals vs us)
    (x : InCallC s s.heap.objs.size (bindL (envOfC qual scope s.heap.objs.size f cd).kindOf (ps.zip us) fun _ => none) (cellsFrom (s.heap.objs.size + 1) scope.names []) (bindC (envOfC qual scope s.heap.objs.size f cd).kindOf (ps.zip us) fun _ => none) s1) :
    Inv (cxOf CX P w K mg base N qual scope f cd A outer s H E) [] (start N vs) H s1 := by
  have hpl : ps.length ≤ N.length := by have := congrArg List.length S.pre; rw [List.length_take] at this; omega
  obtain ⟨h1, tk, rfl, hk⟩ := x.done
  have noA : ∀ b : Addr, b ∉ (cxOf CX P w K mg base N qual scope f cd A outer s H E).ex := fun b z => absurd (show b ∈ ([] : List Addr) from z) (by simp)
  refine ⟨⟨e0.mod, S.kind, rfl, rfl, Nat.le_refl _, fun y z c h1 h2 => ?_, fun y hy => ?_, fun y c _ h => ?_, fun _ => hd, Around.frames_deeper e0.frames, .inr ⟨rfl, rfl⟩, fun b z => absurd z (noA b), e0.bs, e0.bsz, fun b _ _ => noA b, fun b z => absurd z (noA b), e0.funs, e0.frf⟩,
    rfl, e0.bare, Un.kept hk, ⟨_, x.toInCall.ns, fun i y v h1 h2 h3 => ?_⟩, fun y c h => ⟨_, x.cell y c h⟩, e0.hok.fresh (Nat.le_refl _), fun y c h => ?_, fun p hp => absurd (show p ∈ ([] : List (Addr × Obj)) from hp) (by simp), e0.hok.kept hk, ?_⟩
  · exact name_of_addr x.apart (PySem.mem_of_lookup h1) (PySem.mem_of_lookup h2)
  · have hy : scope.names.lookup y = some .cell ∨ scope.names.lookup y = some .free := hy
    rcases hy with hy | hy
    · exact cell_has hy
    · exact absurd rfl (S.nofree _ (PySem.mem_of_lookup hy))
  · exact Nat.le_of_lt (x.above y c (PySem.mem_of_lookup h))
  · have hi : i < vs.length := by
      unfold start at h2
      by_cases hi : i < vs.length
      · exact hi
      · rw [List.getElem?_append_right (by simpa using hi)] at h2
        rw [List.getElem?_replicate] at h2
        split at h2 <;> cases h2
    have ha : vs[i]? = some v := by
      unfold start at h2
      rw [List.getElem?_append_left (by simpa using hi), List.getElem?_map] at h2
      cases e : vs[i]? with
      | none => rw [e] at h2; cases h2
      | some a => rw [e] at h2; cases h2; rfl
    obtain ⟨u, hu, rv⟩ := r.get ha
    have hp : ps[i]? = some y := by
      rw [← S.pre, List.getElem?_take_of_lt (by omega)]; exact h1
    have ndP : ps.Nodup := by rw [← S.pre]; exact S.nd.sublist (List.take_sublist _ _)
    refine ⟨u, rv, ?_⟩
    rcases S.par y (List.mem_of_getElem? hp) with k | k
    · exact .inl ⟨k, bindL_get ndP hp hu k⟩
    · obtain ⟨c, e⟩ := cell_has (n := s.heap.objs.size + 1) k
      refine .inr ⟨.inl k, c, e, ?_⟩
      have q := x.cell y c e
      rw [bindC_get ndP hp hu (by show scope.names.lookup y ≠ _; rw [k]; decide)] at q
      exact q
  · exact e0.hok.fresh (Nat.le_of_lt (x.above y c (PySem.mem_of_lookup h)))
  · unfold start
    show _ = N.length
    rw [List.length_append, List.length_map, List.length_replicate]
    omega

theorem fn_of {CX : CXT} {P : Program} {w : World} {K : PySem.W.Frag} {mg : Str → Option Value} {base : Heap} {k : Nat} {f : Addr} {name qual : Str} {params : Arguments} {body : List Stmt} {scope : Scope} {dV kV doc pm cdv ct oc : Value} {an od : Option Addr}
    {osl : Array (Option Value)} {N ps : List Str} {sp : Sp} (lk : K.lookup f = some ⟨oc, od, .func (PySem.W.fnOf name qual params body scope dV kV doc pm an cdv ct), osl⟩) (hcd : PySem.W.codeIn K cdv qual = true) (S : FnScope N ps scope)
    (len : ∀ vs H Q E, sp vs H Q E → vs.length = ps.length)
    (hbody : ∀ (A : Around) (outer : List Env) (s : Shared) (H : Hp) (vs : List V) (Q : VK) (E : XK), Room k (A.deeper (envOfC qual scope s.heap.objs.size f cdv)) → sp vs H Q E →
      ∃ t, PSs (cxOf CX P w K mg base N qual scope f cdv A outer s H E) body t ∧ t { nx := fun _ H' => Q .non H', rt := Q } (start N vs) H) :
    FnOk P w K mg base CX (k + 1) f (PySem.W.fnOf name qual params body scope dV kV doc pm an cdv ct) ps sp := by
  refine ⟨len, fun A outer s H args us vs Q E hr e0 hb r hsp => ?_⟩
  have hl := len _ _ _ _ hsp
  have KX : K.In s.heap := e0.mod.kin.keeps fun b o e => (e0.bs b o e).1
  have lim : s.heap.NoLimit := e0.mod.nolimit.keeps fun b o e => (e0.bs b o e).1
  have hkind : ∀ y ∈ ps.zip us, scope.names.lookup y.1 = some .local ∨ (scope.names.lookup y.1 = some .cell ∧ ((cellsFrom (s.heap.objs.size + 1) scope.names []).lookup y.1).isSome = true) := fun ⟨n, v⟩ hy => by
    rcases S.par n (List.of_mem_zip hy).1 with q | q
    · exact .inl q
    · exact .inr ⟨q, PySem.W.cellsFrom_some _ _ _ (.inl q)⟩
  refine codeAny_call_function hr.depth (KX _ _ lk) rfl S.co S.gen rfl (PySem.W.codeRec_of KX hcd) (hb _ _ _ _ ?_)
  refine wpAny_newFunctionEnv_cells S.kind hkind fun env he s1 x => ?_
  subst he
  refine ⟨lim.keeps x.toInCall.keep, codeAny_func ?_⟩
  obtain ⟨t, ht, hq⟩ := hbody A outer s H vs Q E (hr.deeper _) hsp
  have I : Inv (cxOf CX P w K mg base N qual scope f cdv A outer s H E) [] (start N vs) H s1 := inv_start S hr.hd e0 hl r x
  refine wpAny_mono (ht [] s1 (start N vs) H _ I hq) (fun fl s' hs => ?_) fun e s' hs => hs
  have fin : ∀ {σ' : St} {H' : Hp} {v : V} {u : Value}, Inv (cxOf CX P w K mg base N qual scope f cdv A outer s H E) [] σ' H' s' → RelV v u → Q v H' → CE outer P w H s Q u s' :=
    fun {σ' H' v u} J rv q => ⟨v, H', J.os, J.bare, J.base, J.hok, rv, q⟩
  cases fl with
  | ret u =>
    obtain ⟨v, σ', H', J, rv, q⟩ := hs
    exact fin J rv q
  | next =>
    obtain ⟨σ', H', J, q⟩ := hs
    exact fin (v := V.non) (u := Value.none) J rfl q
  | brk =>
    obtain ⟨_, _, _, q⟩ := hs
    exact False.elim q
  | cont =>
    obtain ⟨_, _, _, q⟩ := hs
    exact False.elim q
end L2

namespace L2
open PySem PySem.Spec PyProof.Rows
section
variable {X : Cx} {x : Str} {p pos : Pos} {e : Expr} {es : List Expr} {t : TA} {id T : String} {r : List V → Hp → VK → Prop}

noncomputable def tCB (r : List V → Hp → VK → Prop) (t : TA) : TE := fun σ H Q => t σ H fun vs H1 => r vs H1 Q
theorem pe_callB (hc : CallR X (.builtin id) r) (hg : Gl X x) (hm : X.mg x = none) (hv : bootBuiltins x = some (.builtin id)) (ha : PA X (e :: es) t) (hn : x ≠ "__name__" := by decide) (hdb : (x == ("__debug__" : Str)) = false := by decide)
    (he : starEach (e :: es) X.env = (false, eval e X.env) :: starEach es X.env := by rfl) (hpl : (backTo pos (starEach es X.env)).any (·.1) = false := by rfl) : PE X (.Call (.Name x p) (e :: es) [] pos) (tCB r t) := by
  intro pins s σ H Q I h
  refine wpAny_Call_Name_kw (ld_blt I hg hm hv ?_ hn hdb)
  exact PyProof.Rows.callWith_builtin1 (thn (ha pos pins s σ H _ I h) fun us s1 ⟨vs, H1, I1, r1, q1⟩ => hc pins s1 σ H1 vs us Q I1 r1 q1) he hpl
theorem pe_callTy (hc : CallR X (.type T) r) (hg : Gl X x) (hm : X.mg x = none) (hv : bootBuiltins x = some (.type T)) (ha : PA X (e :: es) t) (hn : x ≠ "__name__" := by decide) (hdb : (x == ("__debug__" : Str)) = false := by decide)
    (he : starEach (e :: es) X.env = (false, eval e X.env) :: starEach es X.env := by rfl) (hpl : (backTo pos (starEach es X.env)).any (·.1) = false := by rfl) : PE X (.Call (.Name x p) (e :: es) [] pos) (tCB r t) := by
  intro pins s σ H Q I h
  refine wpAny_Call_Name_kw (ld_blt I hg hm hv ?_ hn hdb)
  exact PyProof.Rows.callWith_type1 (thn (ha pos pins s σ H _ I h) fun us s1 ⟨vs, H1, I1, r1, q1⟩ => hc pins s1 σ H1 vs us Q I1 r1 q1) he hpl
end
end L2

namespace HT
open PySem PyProof.Rows

section
open PySem.SeqAt
open PySem.AutoSeq1 (wpAny_loadPart')
open PySem.MeetsSeq PySem.MeetsSeq2 PySem.MeetsSeq3

end

section
variable {prog : Program} {w : World} {A : Around} {E : Value → Shared → Prop} {s : Shared}

theorem cat_tup {t b : Addr} {vs ws : List Value} {Q : Value → Shared → Prop} (ht : IsTup s.heap t vs.toArray) (hb : IsTup s.heap b ws.toArray) (hv : vs ≠ [])
    (h1 : ws = [] → Q (.ref t) s) (h2 : ws ≠ [] → Q (.ref s.heap.objs.size) { s with heap := s.heap.push { cls := .type "tuple", data := .seq (vs ++ ws).toArray } })
    (hsz : vs.length + ws.length ≤ sizeLine) : wpAny (model prog w) A (binaryOp .Add (.ref t) (.ref b)) Q E s := by
  obtain ⟨⟨cls, dd, data, sl⟩, ho, hc, n, hd⟩ := id ht
  obtain ⟨⟨cls2, dd2, data2, sl2⟩, ho2, hc2, n2, hd2⟩ := id hb
  simp only at hc hd hc2 hd2
  subst hc hd hc2 hd2
  have e : vs.toArray ++ ws.toArray = (vs ++ ws).toArray := by simp
  by_cases hw : ws = []
  · exact concat_meets ⟨_, ho, rfl⟩ ⟨_, ho2, rfl⟩ noFill_tuple_add seq_tuple_add PySem.F.slot_tuple_add PySem.F.entry_tuple_add (PySem.F.args_tuple_add_2 _ _)
      (tuple_addW1 t b vs.toArray ws.toArray n n2 dd dd2 sl sl2 (by simpa using hv) (by simp [hw])) ⟨ho, ho2, h1 hw⟩
  · refine concat_meets ⟨_, ho, rfl⟩ ⟨_, ho2, rfl⟩ noFill_tuple_add seq_tuple_add PySem.F.slot_tuple_add PySem.F.entry_tuple_add (PySem.F.args_tuple_add_2 _ _)
      (tuple_addW2 t b vs.toArray ws.toArray n n2 dd dd2 sl sl2 (by simpa using hv) (by simpa using hw) (by rw [List.size_toArray, List.size_toArray]; exact hsz)) ⟨ho, ho2, ?_⟩
    rw [e]
    exact h2 hw

/-! ### t[a:b], not the whole -/
noncomputable def sIx (n d : Nat) : Option Int → Nat
  | none => d
  | some v => if v < 0 then (v + (n : Int)).toNat else min v.toNat n
end
end HT

namespace L2
open PySem PySem.Spec PyProof.Rows

/-! ### the parts of a slice -/
noncomputable abbrev TO := St → Hp → (Option Int → Hp → Prop) → Prop
noncomputable def PO (X : Cx) (e : Option Expr) (t : TO) : Prop :=
  ∀ (pins : List (Addr × Obj)) (s : Shared) (σ : St) (H : Hp) (Q : Option Int → Hp → Prop), Inv X pins σ H s → t σ H Q →
    wpAny (model X.prog X.w) X.A (evalPart e X.env) (fun u s' => ∃ o H', Inv X pins σ H' s' ∧ IsPart u o ∧ Q o H') X.xe s
noncomputable def tNoPart : TO := fun _ H Q => Q none H
noncomputable def tPart (t : TE) : TO := fun σ H Q => t σ H fun x H1 => ∃ i, x = .int i ∧ Q (some i) H1

theorem intsAre_of {ns : List Int} : ∀ {us : List Value}, Vals (ns.map V.int) us → IntsAre us ns := by
  induction ns with
  | nil => intro us r; rw [List.map_nil] at r; cases r; exact .nil
  | cons n ns ih =>
    intro us r
    rw [List.map_cons] at r
    cases r with
    | cons r1 r2 =>
      obtain ⟨t, e⟩ := r1
      subst e
      exact .cons n t (ih r2)

section
variable {X : Cx} {e : Expr} {te : TE} {lo hi : Option Expr} {tl th : TO} {pos p2 : Pos}

theorem po_none : PO X none tNoPart := by
  intro pins s σ H Q I h
  rw [evalPart_none]
  exact wpAny_pure ⟨none, H, I, .none, h⟩
theorem po_some (h : PE X e te) : PO X (some e) (tPart te) := by
  intro pins s σ H Q I hw
  rw [evalPart_some]
  refine thn (h pins s σ H _ I hw) fun u s1 ⟨x, H1, I1, r1, q1⟩ => ?_
  obtain ⟨i, rfl, q⟩ := q1
  obtain ⟨t, rfl⟩ := r1
  exact ⟨some i, H1, I1, .int i t, q⟩

noncomputable def SlR (X : Cx) (r : V → Option Int → Option Int → Hp → VK → Prop) : Prop :=
  ∀ (pins : List (Addr × Obj)) (s : Shared) (σ : St) (H : Hp) (x : V) (v vl vu : Value) (lo hi : Option Int) (sl : Addr) (Q : VK), Inv X pins σ H s → RelV x v → s.heap.IsSliceOf sl vl vu .none → IsPart vl lo → IsPart vu hi → r x lo hi H Q →
    ∃ T id, typeLookup (.type T) "__getitem__" = pure (some (.builtin id)) ∧ s.TypeIs v T ∧ wpAny (model X.prog X.w) X.A (getItem v (.ref sl)) (EP X pins σ Q) X.xe s
theorem SlR.or {r r' : V → Option Int → Option Int → Hp → VK → Prop} (h : SlR X r) (h' : SlR X r') : SlR X (fun x lo hi H Q => r x lo hi H Q ∨ r' x lo hi H Q) := by
  intro pins s σ H x v vl vu lo hi sl Q I rx hs pl pu q
  rcases q with q | q
  · exact h pins s σ H x v vl vu lo hi sl Q I rx hs pl pu q
  · exact h' pins s σ H x v vl vu lo hi sl Q I rx hs pl pu q
noncomputable def tSl (r : V → Option Int → Option Int → Hp → VK → Prop) (te : TE) (tl th : TO) : TE := fun σ H Q => te σ H fun x H1 => tl σ H1 fun l H2 => th σ H2 fun u H3 => r x l u H3 Q
theorem pe_slice {r : V → Option Int → Option Int → Hp → VK → Prop} (hr : SlR X r) (he : PE X e te) (hl : PO X lo tl) (hu : PO X hi th) : PE X (.Subscript e (.Slice lo hi none p2) pos) (tSl r te tl th) := by
  intro pins s σ H Q I h
  refine Subscript_ (thn (he pins s σ H _ I h) fun v s1 ⟨x, H1, I1, r1, q1⟩ => ?_)
  refine wpAny_Slice (thn (hl pins s1 σ H1 _ I1 q1) fun vl s2 ⟨l, H2, I2, pl, q2⟩ => thn (hu pins s2 σ H2 _ I2 q2) fun vu s3 ⟨u, H3, I3, pu, q3⟩ => ?_)
  rw [evalPart_none]
  refine wpAny_pure ?_
  have I4 : Inv X pins σ H3 { s3 with heap := s3.heap.push { cls := .type "slice", data := .fields #[vl, vu, .none] } } := I3.kept (t' := s3.toks) fun b ob q => Heap.get?_push_of_some _ q
  obtain ⟨T, id, hT, ht, hg⟩ := hr pins { s3 with heap := s3.heap.push { cls := .type "slice", data := .fields #[vl, vu, .none] } } σ H3 x v vl vu l u s3.heap.objs.size Q I4 r1 (Heap.IsSliceOf.new ..) pl pu q3
  show wpAny (model X.prog X.w) X.A (subscriptTail e (.Slice lo hi none p2) v (.ref s3.heap.objs.size)) (EP X pins σ Q) X.xe { s3 with heap := s3.heap.push { cls := .type "slice", data := .fields #[vl, vu, .none] } }
  exact tail_any (ops := [.ref s3.heap.objs.size, v]) ht hT hg (by with_unfolding_all rfl)

noncomputable def cutV (xs : List V) (lo hi : Option Int) : List V := (xs.drop (HT.sIx xs.length 0 lo)).take (HT.sIx xs.length xs.length hi - HT.sIx xs.length 0 lo)
theorem cutV_length (xs : List V) (lo hi : Option Int) : (cutV xs lo hi).length ≤ xs.length := by
  unfold cutV
  rw [List.length_take, List.length_drop]
  omega
/-! ### t < u, t + u -/
noncomputable def rCatT (K : PySem.W.Frag) : R2 := fun x y H Q => ∃ a b xs ys, x = .ref a ∧ y = .ref b ∧ SqT K H a xs ∧ SqT K H b ys ∧ xs ≠ [] ∧ xs.length + ys.length ≤ sizeLine ∧
  (ys = [] → Q (.ref a) H) ∧ (ys ≠ [] → ∀ p, H p = none → Q (.ref p) (upd H p (.tup (xs ++ ys))))
theorem Vals.nil_iff {xs : List V} {us : List Value} (r : Vals xs us) : us = [] ↔ xs = [] := by
  cases r with
  | nil => simp
  | cons _ _ => simp
theorem op_catT : OpR X (binaryOp .Add) (rCatT X.K) := by
  intro pins s σ H x y v u Q I rx ry h
  obtain ⟨a, b, xs, ys, rfl, rfl, ha, hb, hx, hz, q1, q2⟩ := h
  cases rx
  cases ry
  obtain ⟨its, r1, p1, _⟩ := I.tuple ha
  obtain ⟨its2, r2, p2, _⟩ := I.tuple hb
  refine HT.cat_tup p1 p2 (fun z => hx (r1.nil_iff.mp z)) (fun z => ⟨.ref a, H, I, rfl, q1 (r2.nil_iff.mp z)⟩) (fun z => ?_) (by rw [← r1.length, ← r2.length]; exact hz)
  refine ⟨.ref s.heap.objs.size, _, I.laid (t' := s.toks) (o := .tup (xs ++ ys)) (fun b ob q => Heap.get?_push_of_some _ q) (Nat.le_refl _) ?_, rfl, q2 (fun w => z (r2.nil_iff.mpr w)) _ (I.hok.fresh (Nat.le_refl _))⟩
  exact ⟨by rw [List.length_append]; exact hz, _, r1.append r2, IsTupD.new _ _⟩
end
end L2

namespace L2
open PySem PySem.Spec PyProof.Rows

/-! ### places -/
noncomputable def ixN (n : Nat) (i : Int) : Option Nat := if 0 ≤ i then (if i < n then some i.toNat else none) else if -(n : Int) ≤ i then some (i + n).toNat else none
noncomputable def atI {α : Type} (xs : List α) (i : Int) : Option α := (ixN xs.length i).bind fun j => xs[j]?
theorem ixN_seq {n : Nat} {i : Int} {j : Nat} (h : ixN n i = some j) : seqIndex? i n = some j ∧ j < n ∧ -(n : Int) ≤ i ∧ i < n := by
  unfold ixN at h
  by_cases h0 : 0 ≤ i
  · rw [if_pos h0] at h
    by_cases h1 : i < n
    · rw [if_pos h1] at h
      have e : i.toNat = j := Option.some.inj h
      exact ⟨by rw [seqIndex_of h0 h1, e], by omega, by omega, h1⟩
    · rw [if_neg h1] at h; cases h
  · rw [if_neg h0] at h
    by_cases h1 : -(n : Int) ≤ i
    · rw [if_pos h1] at h
      have e : (i + n).toNat = j := Option.some.inj h
      exact ⟨by rw [seqIndex_neg (by omega) h1, e], by omega, h1, by omega⟩
    · rw [if_neg h1] at h; cases h
theorem atI_get {α : Type} {xs : List α} {i : Int} {v : α} (h : atI xs i = some v) : ∃ j, seqIndex? i xs.length = some j ∧ xs[j]? = some v ∧ j < xs.length ∧ -(xs.length : Int) ≤ i ∧ i < xs.length := by
  unfold atI at h
  cases e : ixN xs.length i with
  | none => rw [e] at h; cases h
  | some j =>
    rw [e] at h
    obtain ⟨h1, h2, h3, h4⟩ := ixN_seq e
    exact ⟨j, h1, h, h2, h3, h4⟩
theorem atI_nat {α : Type} {xs : List α} {j : Nat} {v : α} (h : xs[j]? = some v) : atI xs (j : Int) = some v := by
  have hj : j < xs.length := (List.getElem?_eq_some_iff.mp h).1
  have e : ixN xs.length (j : Int) = some j := by
    unfold ixN
    rw [if_pos (by omega), if_pos (by omega)]; simp
  unfold atI; rw [e]; exact h
/-! ### what may be subscripted -/
noncomputable def PlainIx (b : Expr) : Prop := ∀ o i, subscripted b false o i = operate [o, i] (getItem o i)
noncomputable def IxR (X : Cx) (r : R2) : Prop :=
  ∀ (value slice : Expr) (pins : List (Addr × Obj)) (s : Shared) (σ : St) (H : Hp) (x y : V) (v u : Value) (Q : VK), Inv X pins σ H s → RelV x v → RelV y u → r x y H Q →
    subscripted slice false v u = operate [v, u] (getItem v u) → wpAny (model X.prog X.w) X.A (subscriptTail value slice v u) (EP X pins σ Q) X.xe s
noncomputable def MtR (X : Cx) (id : String) (r : V → List V → Hp → VK → Prop) : Prop :=
  ∀ (pins : List (Addr × Obj)) (s : Shared) (σ : St) (H : Hp) (x : V) (xs : List V) (v : Value) (us : List Value) (Q : VK), Inv X pins σ H s → RelV x v → Vals xs us → r x xs H Q →
    wpAny (model X.prog X.w) X.A (call (.builtin id) (v :: us)) (EP X pins σ Q) X.xe s
section
variable {X : Cx} {a b : Expr} {ta tb : TE} {pos : Pos}
theorem IxR.or {r r' : R2} (h : IxR X r) (h' : IxR X r') : IxR X (fun x y H Q => r x y H Q ∨ r' x y H Q) := by
  intro value slice pins s σ H x y v u Q I rx ry q hs
  rcases q with q | q
  · exact h value slice pins s σ H x y v u Q I rx ry q hs
  · exact h' value slice pins s σ H x y v u Q I rx ry q hs
theorem MtR.or {id : String} {r r' : V → List V → Hp → VK → Prop} (h : MtR X id r) (h' : MtR X id r') : MtR X id (fun x xs H Q => r x xs H Q ∨ r' x xs H Q) := by
  intro pins s σ H x xs v us Q I rx rs q
  rcases q with q | q
  · exact h pins s σ H x xs v us Q I rx rs q
  · exact h' pins s σ H x xs v us Q I rx rs q
theorem pe_ix {r : R2} (hr : IxR X r) (ha : PE X a ta) (hb : PE X b tb) (hs : PlainIx b) : PE X (.Subscript a b pos) (tOp r ta tb) := by
  intro pins s σ H Q I h
  exact Subscript_ (binT ha hb I h fun v u s2 x y H2 I2 rx ry q => hr a b pins s2 σ H2 x y v u Q I2 rx ry q (hs _ _))

noncomputable def rIxL (K : PySem.W.Frag) : R2 := fun x y H Q => ∃ p xs i v, x = .ref p ∧ y = .int i ∧ SqL K H p xs ∧ atI xs i = some v ∧ Q v H
noncomputable def rIxT (K : PySem.W.Frag) : R2 := fun x y H Q => ∃ p xs i v, x = .ref p ∧ y = .int i ∧ SqT K H p xs ∧ atI xs i = some v ∧ Q v H
theorem ix_list : IxR X (rIxL X.K) := by
  intro value slice pins s σ H x y v u Q I rx ry h hs
  obtain ⟨p, xs, i, z, rfl, rfl, hq, he, q⟩ := h
  cases rx
  obtain ⟨t, rfl⟩ := ry
  obtain ⟨its, r, pl, hz⟩ := I.list hq
  obtain ⟨j, h1, h2, h3, h4, h5⟩ := atI_get he
  obtain ⟨w, ew, rw'⟩ := r.get h2
  have hl := r.length
  have hn := line63
  have fin : EP X pins σ Q w s := ⟨z, H, I, rw', q⟩
  by_cases h0 : 0 ≤ i
  · have hj : i.toNat = j := by
      rw [seqIndex_of h0 h5] at h1
      exact Option.some.inj h1
    exact item_listR pl.isList h0 (by omega) (by rw [hj]; simpa using ew) fin hs
  · have hj : (i + (its.toArray.size : Int)).toNat = j := by
      rw [seqIndex_neg (by omega) h4] at h1
      rw [List.size_toArray, ← hl]
      exact Option.some.inj h1
    exact subscriptTail_builtinR (x := w) pl.isList.typeIs slot_list_getitem.lookup
      (wpAny_getItem_list_neg (Q := fun r s' => r = w ∧ EP X pins σ Q r s') pl.isList (by omega) (by rw [List.size_toArray] <;> omega) (by omega) (by rw [hj]; simpa using ew) ⟨rfl, fin⟩) hs
theorem ix_tup : IxR X (rIxT X.K) := by
  intro value slice pins s σ H x y v u Q I rx ry h hs
  obtain ⟨p, xs, i, z, rfl, rfl, hq, he, q⟩ := h
  cases rx
  obtain ⟨t, rfl⟩ := ry
  obtain ⟨its, r, pl, hz⟩ := I.tuple hq
  obtain ⟨j, h1, h2, h3, h4, h5⟩ := atI_get he
  obtain ⟨w, ew, rw'⟩ := r.get h2
  have hl := r.length
  have hn := line63
  have fin : EP X pins σ Q w s := ⟨z, H, I, rw', q⟩
  exact subscriptTail_builtinR (x := w) pl.typeIs slot_tuple_getitem.lookup
    (getItem_tuple (j := j) (Q := fun r s' => r = w ∧ EP X pins σ Q r s') pl (by omega) (by omega) (by rw [List.size_toArray, ← hl]; exact h1) (by simpa using ew) ⟨rfl, fin⟩) hs
/-! ### xs[i] = v, any sign -/
theorem Inv.lst {pins : List (Addr × Obj)} {σ : St} {H : Hp} {s : Shared} {p : Addr} {xs : List V} (I : Inv X pins σ H s) (h : H p = some (.lst xs)) :
    ∃ (its : List Value) (n : Nat), Vals xs its ∧ s.heap.get? p = some { cls := .type "list", data := .seq its.toArray n } ∧ xs.length ≤ sizeLine := by
  obtain ⟨z, its, n, r, e⟩ := I.hok p _ h
  exact ⟨its, n, r, e, z⟩
/-! ### slices -/
theorem slice_bounds (lo hi : Option Int) (n : Nat) : (sliceBounds lo hi none n).1 = ((HT.sIx n 0 lo : Nat) : Int) ∧ (sliceBounds lo hi none n).2.1 = ((HT.sIx n n hi : Nat) : Int) ∧ (sliceBounds lo hi none n).2.2 = 1 := by
  refine ⟨?_, ?_, rfl⟩
  · cases lo with
    | none => simp [sliceBounds, HT.sIx]
    | some i =>
      simp only [sliceBounds, HT.sIx, Option.getD_none, show (1 : Int) > 0 by decide, if_true]
      by_cases h : i < 0
      · simp only [h, if_true] <;> omega
      · simp only [h, if_false] <;> omega
  · cases hi with
    | none => simp [sliceBounds, HT.sIx]
    | some i =>
      simp only [sliceBounds, HT.sIx, Option.getD_none, show (1 : Int) > 0 by decide, if_true]
      by_cases h : i < 0
      · simp only [h, if_true] <;> omega
      · simp only [h, if_false] <;> omega
theorem slicePick_cut (its : List Value) (lo hi : Option Int) : slicePick its.toArray lo hi none = ((its.drop (HT.sIx its.length 0 lo)).take (HT.sIx its.length its.length hi - HT.sIx its.length 0 lo)).toArray := by
  obtain ⟨h1, h2, h3⟩ := slice_bounds lo hi its.toArray.size
  unfold slicePick
  rw [h1, h2, h3]
  simp only [sliceRange_one, pick_run, List.size_toArray] <;> rfl
noncomputable def rSlL (K : PySem.W.Frag) : V → Option Int → Option Int → Hp → VK → Prop := fun x lo hi H Q => ∃ a xs, x = .ref a ∧ SqL K H a xs ∧ ∀ p, H p = none → Q (.ref p) (upd H p (.lst (cutV xs lo hi)))
theorem sl_list : SlR X (rSlL X.K) := by
  intro pins s σ H x v vl vu lo hi sl Q I rx hs pl pu h
  obtain ⟨a, xs, rfl, hx, q⟩ := h
  cases rx
  obtain ⟨its, r, ht, hz⟩ := I.list hx
  have hlen := r.length
  refine ⟨"list", _, slot_list_getitem.lookup, ht.isList.typeIs, ?_⟩
  refine wpAny_getItem_list_slice ht.isList hs pl pu .none (by simp) ?_ (by rw [List.size_toArray] <;> omega)
  rw [slicePick_cut, ← hlen]
  refine ⟨.ref s.heap.objs.size, _, I.laid (t' := s.toks) (o := .lst (cutV xs lo hi)) (fun b ob q => Heap.get?_push_of_some _ q) (Nat.le_refl _) ?_, rfl, q _ (I.hok.fresh (Nat.le_refl _))⟩
  exact ⟨Nat.le_trans (cutV_length xs lo hi) hz, _, 0, (r.drop (HT.sIx xs.length 0 lo)).take (HT.sIx xs.length xs.length hi - HT.sIx xs.length 0 lo), Heap.get?_push_size _ rfl⟩

/-! ### in, not in: flat items -/
noncomputable def flatV : V → Bool
  | .non => true
  | .bl _ => true
  | .int _ => true
  | .str _ => true
  | _ => false
noncomputable def eqV : V → V → Bool
  | .non, .non => true
  | .bl a, .bl b => a == b
  | .bl a, .int b => (if a then 1 else 0) == b
  | .int a, .bl b => a == (if b then 1 else 0)
  | .int a, .int b => a == b
  | .str a, .str b => a == b
  | _, _ => false
theorem eqAt_V {A : Around} {s : Shared} {y x : V} {u v : Value} (ry : RelV y u) (rx : RelV x v) (fy : flatV y = true) (fx : flatV x = true) : SeqAt.EqAt A s u v (eqV y x) := by
  cases y with
  | non =>
    cases ry
    cases x with
    | non => cases rx; exact SeqAt.EqAt.same _
    | bl b => cases rx; exact SeqAt.EqAt.none_bool b
    | int b => obtain ⟨t, rfl⟩ := rx; exact SeqAt.EqAt.none_int b t
    | str b => obtain ⟨t, rfl⟩ := rx; exact SeqAt.EqAt.none_str b t
    | _ => exact absurd (show false = true from fx) Bool.false_ne_true
  | bl a =>
    cases ry
    cases x with
    | non => cases rx; exact SeqAt.EqAt.bool_none a
    | bl b => cases rx; exact SeqAt.EqAt.bool_bool a b
    | int b => obtain ⟨t, rfl⟩ := rx; exact SeqAt.EqAt.bool_int a b t
    | str b => obtain ⟨t, rfl⟩ := rx; exact SeqAt.EqAt.bool_str a b t
    | _ => exact absurd (show false = true from fx) Bool.false_ne_true
  | int a =>
    obtain ⟨t', rfl⟩ := ry
    cases x with
    | non => cases rx; exact SeqAt.EqAt.int_none a t'
    | bl b => cases rx; exact SeqAt.EqAt.int_bool a t' b
    | int b => obtain ⟨t, rfl⟩ := rx; exact SeqAt.EqAt.int_int a t' b t
    | str b => obtain ⟨t, rfl⟩ := rx; exact SeqAt.EqAt.int_str a t' b t
    | _ => exact absurd (show false = true from fx) Bool.false_ne_true
  | str a =>
    obtain ⟨t', rfl⟩ := ry
    cases x with
    | non => cases rx; exact SeqAt.EqAt.str_none a t'
    | bl b => cases rx; exact SeqAt.EqAt.str_bool a t' b
    | int b => obtain ⟨t, rfl⟩ := rx; exact SeqAt.EqAt.str_int a t' b t
    | str b => obtain ⟨t, rfl⟩ := rx; exact SeqAt.EqAt.str_str a t' b t
    | _ => exact absurd (show false = true from fx) Bool.false_ne_true
  | _ => exact absurd (show false = true from fy) Bool.false_ne_true
noncomputable def eqU (x : V) (u : Value) : Bool := match u with
  | .none => eqV .non x
  | .bool b => eqV (.bl b) x
  | .int i _ => eqV (.int i) x
  | .str z _ => eqV (.str z) x
  | _ => false
theorem eqU_of {x y : V} {u : Value} (r : RelV y u) (f : flatV y = true) : eqU x u = eqV y x := by
  cases y with
  | non => cases r; rfl
  | bl b => cases r; rfl
  | int i => obtain ⟨t, rfl⟩ := r; rfl
  | str z => obtain ⟨t, rfl⟩ := r; rfl
  | _ => exact absurd (show false = true from f) Bool.false_ne_true
theorem mem_eqAt {A : Around} {s : Shared} {x : V} {v : Value} (rx : RelV x v) (fx : flatV x = true) : ∀ {xs : List V} {us : List Value}, Vals xs us → xs.all flatV = true → ∀ u ∈ us, SeqAt.EqAt A s u v (eqU x u)
  | _, _, .nil, _ => fun u hu => by cases hu
  | y :: xs, u :: us, .cons r t, f => fun u' hu => by
    rw [List.all_cons, Bool.and_eq_true] at f
    rcases List.mem_cons.mp hu with rfl | hu
    · rw [eqU_of r f.1]; exact eqAt_V r rx f.1 fx
    · exact mem_eqAt rx fx t f.2 u' hu
/-! ### len, list(x), tuple(x) of any list or tuple that is read -/
theorem call_len_seq : CallR X (.builtin "len") (fun xs H Q => ∃ p ys, xs = [.ref p] ∧ (SqL X.K H p ys ∨ SqT X.K H p ys) ∧ Q (.int ys.length) H) := by
  intro pins s σ H xs us Q I r h
  obtain ⟨p, ys, rfl, hq, q⟩ := h
  obtain ⟨u, rfl, rx⟩ := vals1 r
  cases rx
  have hn := line63
  rcases hq with hq | hq
  · obtain ⟨its, r', pl, hz⟩ := I.list hq
    have hlen := r'.length
    exact Calls.call_len_list pl.isList (by simp only [List.size_toArray] <;> omega) ⟨.int ys.length, H, I.tok _, ⟨s.toks + 1, by rw [List.size_toArray, hlen]⟩, q⟩
  · obtain ⟨its, r', pl, hz⟩ := I.tuple hq
    have hlen := r'.length
    exact len_tuple pl (by simp only [List.size_toArray] <;> omega) ⟨.int ys.length, H, I.tok _, ⟨s.toks + 1, by rw [List.size_toArray, hlen]⟩, q⟩
theorem CallR.or {f : Value} {r r' : List V → Hp → VK → Prop} (h : CallR X f r) (h' : CallR X f r') : CallR X f (fun xs H Q => r xs H Q ∨ r' xs H Q) := by
  intro pins s σ H xs us Q I rs q
  rcases q with q | q
  · exact h pins s σ H xs us Q I rs q
  · exact h' pins s σ H xs us Q I rs q
theorem call_list_of : CallR X (.type "list") (fun xs H Q => ∃ p ys, xs = [.ref p] ∧ (SqL X.K H p ys ∨ SqT X.K H p ys) ∧ ∀ l, H l = none → Q (.ref l) (upd H l (.lst ys))) := by
  intro pins s σ H xs us Q I r h
  obtain ⟨p, ys, rfl, hq, q⟩ := h
  obtain ⟨u, rfl, rx⟩ := vals1 r
  cases rx
  have fin : ∀ (its : List Value), Vals ys its → ys.length ≤ sizeLine → ∀ (h' : Heap) (c' : Nat), (∀ b o', s.heap.get? b = some o' → h'.get? b = some o') →
      h'.get? s.heap.objs.size = some { cls := .type "list", dict := none, data := .seq its.toArray c', slots := #[] } → EP X pins σ Q (.ref s.heap.objs.size) { s with heap := h' } := fun its r' hz h' c' kp e =>
    ⟨.ref s.heap.objs.size, _, I.laid (t' := s.toks) kp (Nat.le_refl _) (show ObjOk X.prog X.w _ h' _ (.lst ys) from ⟨hz, its, c', r', e⟩), rfl, q _ (I.hok.fresh (Nat.le_refl _))⟩
  rcases hq with hq | hq
  · obtain ⟨its, r', pl, hz⟩ := I.list hq
    have hlen := r'.length
    obtain ⟨o, ho, hc, n, hd⟩ := pl.isList
    exact call_list_seq p (.inl rfl) ho hc hd (fun h' c' kp e => fin its r' hz h' c' kp e) (by simp only [List.size_toArray] <;> omega)
  · obtain ⟨its, r', pl, hz⟩ := I.tuple hq
    have hlen := r'.length
    obtain ⟨o, ho, hc, n, hd⟩ := pl
    exact call_list_seq p (.inr rfl) ho hc hd (fun h' c' kp e => fin its r' hz h' c' kp e) (by simp only [List.size_toArray] <;> omega)
theorem call_tuple_of : CallR X (.type "tuple") (fun xs H Q => ∃ p ys, xs = [.ref p] ∧ ((SqL X.K H p ys ∧ ∀ l, H l = none → Q (.ref l) (upd H l (.tup ys))) ∨ (SqT X.K H p ys ∧ Q (.ref p) H))) := by
  intro pins s σ H xs us Q I r h
  obtain ⟨p, ys, rfl, h⟩ := h
  obtain ⟨u, rfl, rx⟩ := vals1 r
  cases rx
  rcases h with ⟨hq, q⟩ | ⟨hq, q⟩
  · obtain ⟨its, r', pl, hz⟩ := I.list hq
    have hlen := r'.length
    refine call_tuple_list pl.isList (fun h' kp => ?_) (by simp only [List.size_toArray] <;> omega)
    have I1 : Inv X pins σ H { s with heap := h' } := I.kept (t' := s.toks) kp
    have I2 : Inv X pins σ (upd H h'.objs.size (.tup ys)) { s with heap := h'.push { cls := .type "tuple", data := .seq its.toArray } } :=
      I1.laid (t' := s.toks) (fun b o e => Heap.get?_push_of_some _ e) (Nat.le_refl _) (show ObjOk X.prog X.w _ _ _ (.tup ys) from ⟨hz, its, r', IsTupD.new _ _⟩)
    exact ⟨.ref h'.objs.size, _, I2, rfl, q _ (I1.hok.fresh (Nat.le_refl _))⟩
  · obtain ⟨its, r', pl, hz⟩ := I.tuple hq
    exact call_tuple_same pl ⟨.ref p, H, I, rfl, q⟩

/-! ### the call of a builtin's method: o.m(..) -/
noncomputable def tyV (K : PySem.W.Frag) (T : String) (x : V) (H : Hp) : Prop := match x with
  | .str _ => T = "str"
  | .int _ => T = "int"
  | .ref p => (T = "list" ∧ ∃ xs, SqL K H p xs) ∨ (T = "tuple" ∧ ∃ o, K.lookup p = some o ∧ o.cls = .type "tuple" ∧ o.dict = none) ∨
      (T = "dict" ∧ ((∃ kvs, H p = some (.dK kvs)) ∨ ∃ kvs, H p = some (.dT kvs))) ∨ (T = "set" ∧ ∃ S n, H p = some (.set S n))
  | _ => False
theorem tyV_is {pins : List (Addr × Obj)} {σ : St} {H : Hp} {s : Shared} {T : String} {x : V} {v : Value} (I : Inv X pins σ H s) (r : RelV x v) (ty : tyV X.K T x H) :
    s.TypeIs v T ∧ ∀ a, v = .ref a → ∃ ob, s.heap.get? a = some ob ∧ ob.dict = none := by
  cases x with
  | str z =>
    obtain ⟨t, rfl⟩ := r
    cases (show T = "str" from ty)
    exact ⟨typeIs_str s z t, fun _ e => nomatch e⟩
  | int i =>
    obtain ⟨t, rfl⟩ := r
    cases (show T = "int" from ty)
    exact ⟨typeIs_int s i t, fun _ e => nomatch e⟩
  | ref p =>
    cases r
    rcases ty with ⟨rfl, xs, hq⟩ | ⟨rfl, o, hk, hc, hd⟩ | ⟨rfl, hk⟩ | ⟨rfl, S, n, hk⟩
    · obtain ⟨its, _, pl, _⟩ := I.list hq
      refine ⟨pl.isList.typeIs, fun a e => ?_⟩
      cases e
      obtain ⟨o, n, e, c, hd, _⟩ := pl
      exact ⟨o, e, hd⟩
    · refine ⟨⟨o, I.kIn p o hk, hc⟩, fun a e => ?_⟩
      cases e
      exact ⟨o, I.kIn _ o hk, hd⟩
    · have z : ∃ o, s.heap.get? p = some o ∧ o.ExactDict := by
        rcases hk with ⟨kvs, hk⟩ | ⟨kvs, hk⟩
        · obtain ⟨_, _, _, _, o, _, _, e, ex, _⟩ := I.hok p _ hk
          exact ⟨o, e, ex⟩
        · obtain ⟨_, _, _, _, o, _, _, e, ex, _⟩ := I.hok p _ hk
          exact ⟨o, e, ex⟩
      obtain ⟨o, e, ex⟩ := z
      refine ⟨⟨o, e, ex.1⟩, fun a e2 => ?_⟩
      cases e2
      exact ⟨o, e, ex.2.1⟩
    · obtain ⟨o, _, _, _, e, ex, _⟩ := I.hok p _ hk
      refine ⟨⟨o, e, ex.1⟩, fun a e2 => ?_⟩
      cases e2
      exact ⟨o, e, ex.2.1⟩
  | _ => exact False.elim ty
noncomputable def tBM0 (K : PySem.W.Frag) (T : String) (r : V → List V → Hp → VK → Prop) (to : TE) : TE := fun σ H Q => to σ H fun x H1 => tyV K T x H1 ∧ r x [] H1 Q
noncomputable def tBM (K : PySem.W.Frag) (T : String) (r : V → List V → Hp → VK → Prop) (to : TE) (t : TA) : TE := fun σ H Q => to σ H fun x H1 => tyV K T x H1 ∧ t σ H1 fun xs H2 => r x xs H2 Q
variable {o e : Expr} {es : List Expr} {to : TE} {t : TA} {name : Str} {apos cpos : Pos} {T id : String} {r : V → List V → Hp → VK → Prop}
theorem pe_bm (pa : PlainAttrs T) (slot : Slot T name id) (hty : typeOf (.builtin id) = pure (.type "method_descriptor")) (hm : MtR X id r) (ho : PE X o to) (ha : PA X (e :: es) t)
    (hbase : attributeBase o name X.env (eval o X.env) = eval o X.env := by rfl)
    (hfew : ((backTo cpos (starEach (e :: es) X.env)).all (fun x => !x.1) && (backToKw cpos (keywordEach [] X.env)).all (fun x => x.1.isSome)
      && decide ((e :: es).length + ([] : List Keyword).length + (if ([] : List Keyword).isEmpty then 0 else 1) < 30)) = true := by rfl)
    (hline : (apos.endLine == cpos.line) = true := by rfl) (hs : starEach (e :: es) X.env = (false, eval e X.env) :: starEach es X.env := by rfl) (hplain : (backTo cpos (starEach es X.env)).any (·.1) = false := by rfl) :
    PE X (.Call (.Attribute o name apos) (e :: es) [] cpos) (tBM X.K T r to t) := by
  intro pins s σ H Q I h
  refine wpAny_Call_method_late hbase hfew hline rfl (thn (ho pins s σ H _ I h) fun v s1 ⟨x, H1, I1, r1, ty, q1⟩ => ?_)
  obtain ⟨h1, h2⟩ := tyV_is I1 r1 ty
  refine ⟨T, id, pa, slot, hty, h1, h2, ?_⟩
  have hA := ha cpos pins s1 σ H1 _ I1 q1
  rw [hs] at hA ⊢
  refine Calls.callWith_builtin (by show (false || (backTo cpos (starEach es X.env)).any (·.1)) = false; rw [hplain] <;> rfl) (Calls.evalArgs_plain ?_)
  exact thn hA fun us s2 ⟨vs, H2, I2, r2, q2⟩ => hm pins s2 σ H2 x vs v us Q I2 r1 r2 q2
/- xs.append(e), list.index on a module's tuple .. are MtR facts of 06m -/
end
end L2

namespace L2
open PySem PySem.Spec PyProof.Rows

noncomputable def MtM (X : Cx) (id : String) (r : V → List V → Hp → VK → Prop) : Prop :=
  ∀ (pins : List (Addr × Obj)) (s : Shared) (σ : St) (H : Hp) (x : V) (xs : List V) (v : Value) (us : List Value) (Q : VK), Inv X pins σ H s → RelV x v → Vals xs us → r x xs H Q →
    wpAny (model X.prog X.w) X.A (call (.builtin id) (v :: us)) (EP X pins σ Q) X.xe s

/-! ### lists of values -/
theorem Vals.one {x : V} {us : List Value} (h : Vals [x] us) : ∃ u, us = [u] ∧ RelV x u := by
  cases h with
  | cons r t => cases t; exact ⟨_, rfl, r⟩
theorem Vals.two {x y : V} {us : List Value} (h : Vals [x, y] us) : ∃ u v, us = [u, v] ∧ RelV x u ∧ RelV y v := by
  cases h with
  | cons r t => cases t with
    | cons q z => cases z; exact ⟨_, _, rfl, r, q⟩
theorem Vals.zero : ∀ {us : List Value}, Vals [] us → us = []
  | _, .nil => rfl
theorem Vals.dropLast {xs : List V} {us : List Value} (h : Vals xs us) : Vals xs.dropLast us.dropLast := by
  induction h with
  | nil => exact .nil
  | cons r t ih =>
    cases t with
    | nil => exact .nil
    | cons q t' => exact .cons r ih
theorem Vals.eraseIdx : ∀ {xs : List V} {us : List Value} (i : Nat), Vals xs us → Vals (xs.eraseIdx i) (us.eraseIdx i)
  | _, _, _, .nil => .nil
  | _, _, 0, .cons _ t => t
  | _, _, i + 1, .cons r t => .cons r (Vals.eraseIdx i t)
theorem Vals.reverse {xs : List V} {us : List Value} (h : Vals xs us) : Vals xs.reverse us.reverse := by
  induction h with
  | nil => exact .nil
  | cons r t ih => rw [List.reverse_cons, List.reverse_cons]; exact Vals.append ih (.cons r .nil)
theorem len_erase {α : Type} : ∀ (l : List α) (i : Nat), (l.eraseIdx i).length ≤ l.length
  | [], _ => Nat.le_refl _
  | _ :: _, 0 => Nat.le_succ _
  | _ :: r, i + 1 => Nat.succ_le_succ (len_erase r i)
section
variable {X : Cx} {pins : List (Addr × Obj)} {σ : St} {H : Hp} {s : Shared} {l b : Addr} {xs ys zs : List V}

/-! ### the two steps: a tracked list is rewritten, a new list is laid -/
theorem Inv.lset {its its' : List Value} {n : Nat} {f : Array Value → Array Value} {t' : Nat} (I : Inv X pins σ H s) (hH : H l = some (.lst xs))
    (e : s.heap.get? l = some { cls := .type "list", data := .seq its.toArray n }) (hf : f its.toArray = its'.toArray) (hv : Vals ys its') (hz : ys.length ≤ sizeLine) :
    Inv X pins σ (upd H l (.lst ys)) { s with heap := s.heap.update l (Obj.mapSeq f), toks := t' } := by
  have q := PySem.IsL.update e f
  rw [hf] at q
  refine I.write (x := l) (e := l) (by rw [hH]; exact trivial) (.inl rfl) (fun b' u hb hu => (Heap.get?_update_other s.heap (Obj.mapSeq f) (Ne.symm hb)).trans hu) ⟨_, q⟩ ?_
  exact ⟨hz, its', _, hv, q⟩
theorem Inv.lnew {its : List Value} {t' : Nat} (I : Inv X pins σ H s) (hv : Vals ys its) (hz : ys.length ≤ sizeLine) :
    Inv X pins σ (upd H s.heap.objs.size (.lst ys)) { s with heap := s.heap.push { cls := .type "list", data := .seq its.toArray }, toks := t' } :=
  I.laid (fun _ _ q => Heap.get?_push_of_some _ q) (Nat.le_refl _) ⟨hz, its, 0, hv, Heap.get?_push_size _ rfl⟩
theorem Inv.fresh (I : Inv X pins σ H s) : H s.heap.objs.size = none := I.hok.fresh (Nat.le_refl _)
theorem Inv.lstM (I : Inv X pins σ H s) (hH : H l = some (.lst xs)) : xs.length ≤ sizeLine ∧ ∃ (its : List Value) (n : Nat), Vals xs its ∧ xs.length = its.length ∧ s.heap.get? l = some { cls := .type "list", data := .seq its.toArray n } := by
  obtain ⟨z, its, n, r, e⟩ := I.hok l _ hH
  exact ⟨z, its, n, r, r.length, e⟩

end

section
variable {X : Cx}

/-! ### methods -/
noncomputable def rAppend : V → List V → Hp → VK → Prop := fun x vs H Q => ∃ l xs y, x = .ref l ∧ vs = [y] ∧ H l = some (.lst xs) ∧ xs.length < sizeLine ∧ Q .non (upd H l (.lst (xs ++ [y])))
theorem mt_append : MtM X "list.append" rAppend := by
  intro pins s σ H x vs v us Q I rx rv h
  obtain ⟨l, xs, y, rfl, rfl, hH, hz, q⟩ := h
  cases rx
  obtain ⟨u, rfl, ru⟩ := rv.one
  obtain ⟨z, its, n, r, hl, e⟩ := I.lstM hH
  refine call_meets F.slot_list_append ⟨_, e, rfl⟩ F.entry_list_append (F.args_list_append_2 _ _) (PySem.list_append l its.toArray n u (by rw [List.size_toArray]; omega)) ⟨e, ?_⟩
  refine ⟨.non, _, I.lset (its' := its ++ [u]) hH e (by simp) (r.append (.cons ru .nil)) ?_, rfl, q⟩
  rw [List.length_append, List.length_singleton]
  omega

noncomputable def rPopAt : V → List V → Hp → VK → Prop := fun x vs H Q => ∃ l xs i k y, x = .ref l ∧ vs = [.int i] ∧ H l = some (.lst xs) ∧ -(2 ^ 63) ≤ i ∧ i < 2 ^ 63 ∧ seqIndex? i xs.length = some k ∧ xs[k]? = some y ∧ Q y (upd H l (.lst (xs.eraseIdx k)))
theorem mt_popAt : MtM X "list.pop" rPopAt := by
  intro pins s σ H x vs v us Q I rx rv h
  obtain ⟨l, xs, i, k, y, rfl, rfl, hH, h1, h2, hk, hy, q⟩ := h
  cases rx
  obtain ⟨u, rfl, ru⟩ := rv.one
  obtain ⟨t, rfl⟩ := ru
  obtain ⟨z, its, n, r, hl, e⟩ := I.lstM hH
  obtain ⟨w, hw, rw'⟩ := r.get hy
  refine call_meets F.slot_list_pop ⟨_, e, rfl⟩ F.entry_list_pop (F.args_list_pop_2 _ _)
    (MeetsSeq.list_pop_at l its.toArray n i t k w (fitsIndex_both h1 h2) (by rw [List.size_toArray, ← hl]; exact hk) (by rw [← Array.getElem?_toList]; exact hw) (by rw [List.size_toArray]; omega)) ⟨e, ?_⟩
  refine ⟨y, _, I.lset (its' := its.eraseIdx k) hH e ?_ (r.eraseIdx k) ?_, rw', q⟩
  · show its.toArray.eraseIdxIfInBounds k = (its.eraseIdx k).toArray
    rw [List.eraseIdxIfInBounds_toArray]
  · have := len_erase xs k
    omega

/-! ### list + list, list += list, list * int -/
noncomputable def rCat : R2 := fun x y H Q => ∃ l b xs zs, x = .ref l ∧ y = .ref b ∧ H l = some (.lst xs) ∧ H b = some (.lst zs) ∧ xs.length + zs.length ≤ sizeLine ∧ ∀ p, H p = none → Q (.ref p) (upd H p (.lst (xs ++ zs)))
theorem op_cat : OpR X (binaryOp .Add) rCat := by
  intro pins s σ H x y v u Q I rx ry h
  obtain ⟨l, b, xs, zs, rfl, rfl, hH, hB, hz, q⟩ := h
  cases rx
  cases ry
  obtain ⟨z, its, n, r, hl, e⟩ := I.lstM hH
  obtain ⟨z2, its2, n2, r2, hl2, e2⟩ := I.lstM hB
  refine PySem.P.add_list e e2 ?_ (by rw [List.size_toArray, List.size_toArray]; omega)
  have ea : its.toArray ++ its2.toArray = (its ++ its2).toArray := by simp
  rw [ea]
  exact ⟨.ref _, _, I.lnew (t' := s.toks) (r.append r2) (by rw [List.length_append]; omega), rfl, q _ I.fresh⟩
/-! ### del xs[i] -/
end

/-! ### xs[a:b] = ys -/
section
variable {prog : Program} {w : World} {A : Around} {E : Value → Shared → Prop} {s : Shared}
end

section
variable {X : Cx}
end
end L2

namespace Att
open PySem PySem.W PySem.Calls PyProof.Rows

/-! ### the script -/
theorem ints_of_wellAll {P : Params} {h : Heap} : ∀ (ns : List Int) (vs : List Value), WellAll P h vs (ns.map WData.int) → IntsAre vs ns := by
  intro ns
  induction ns with
  | nil =>
    intro vs w
    rw [List.map_nil] at w
    cases w
    exact .nil
  | cons n ns ih =>
    intro vs w
    rw [List.map_cons] at w
    cases w with
    | cons a b =>
      cases a
      exact .cons _ _ (ih _ b)

theorem script_of {l : OpenLaw} {n : Nat} (hn : l.most = some n) {P : Params} {h : Heap} {args : List WData} {vals : List Value}
    (hpre : l.row.toRowW.claim.pre args = true) (hwl : WellAll P h vals args) :
    ∃ a vs ns, vals = [Value.ref a] ∧ args = [WData.list (ns.map WData.int)] ∧ h.get? a = some { cls := .type "list", data := .seq vs.toArray } ∧ IntsAre vs ns ∧ ns.length ≤ n := by
  have hsh : WShape.hasAll [] args [.list .int] = true := (pre_splitW hpre).1
  have hc : l.pre.holds [] { args := args } = true := (pre_splitW hpre).2
  obtain ⟨d, r, rfl, h1, h2⟩ := hasAllW_cons hsh
  obtain rfl := hasAllW_nil h2
  obtain ⟨xs, rfl, h3⟩ := hasW_list h1
  obtain ⟨ns, rfl⟩ := items_int h3
  have hlen : ns.length ≤ n := by
    unfold OpenLaw.pre at hc
    have h4 : (WTm.not (.lt (.lit (.int (n : Int))) (.len (.arg 0)))).holds [] { args := [.list (ns.map .int)] } = true := by
      have h4 := (holds_andW hc).1
      rw [hn] at h4
      exact h4
    have h5 := condW_of h4 (w_not (w_lt w_lit (w_len_list (w_arg rfl))))
    rw [List.length_map] at h5
    refine Nat.le_of_not_lt fun q => ?_
    have q' : (n : Int) < ((ns.length : Nat) : Int) := by omega
    first
      | (rw [decide_eq_true q'] at h5; exact absurd h5 (by decide))
      | (simp at h5; omega)
  cases hwl with
  | cons w1 w2 =>
    cases w2
    cases w1 with
    | list ho hall => exact ⟨_, _, ns, rfl, rfl, ho, ints_of_wellAll ns _ hall, hlen⟩

theorem post_true (l : OpenLaw) (args : List WData) : l.row.toRowW.claim.post args (.bool true) args = true :=
  postW_of (r := l.row.toRowW) (X := (true == true))
    (show WShape.has [] (.bool true) .bool = true by first | rfl | decide | simp [WShape.has, WShape.arms, WShape.armsAll])
    (show (WTm.eq .res (.lit (.bool true))).value [] { args := args, res := some (.bool true), after := args } = some (.bool (true == true)) from w_eq_bool (w_res rfl) w_lit) rfl

/-! ### the attachment: holds_open's last premise (the goal 'hc' behind k_head) from a wpAny of the law's body -/
theorem attach_call {l : OpenLaw} {n : Nat} {q : Program} {loose : List Str} {XP : (Str → Option Value) → Heap → Prop} {YP : World → Heap → Prop} {d : DefRec}
    (hn : l.most = some n) (hdf : d.params.defaults = [])
    (call : ∀ (w : World) (s₀ s₁ : Shared) (mg mb : Str → Option Value) (fa : Addr) (o : Obj) (pm cd doc : Value) (a : Addr) (vs : List Value) (ns : List Int),
      Ground q loose [] XP w s₀ mg mb s₁.heap → YP w s₁.heap →
      s₁.heap.get? fa = some o → o.data = .func (docDef d.name d.params d.body d.scope pm cd doc) → s₁.heap.CodeRec cd d.name → mg d.name = some (.ref fa) →
      s₁.heap.get? a = some { cls := .type "list", data := .seq vs.toArray } → IntsAre vs ns → ns.length ≤ n → s₁.gens = #[] →
      codeAny (model l.prog w) callerA (.call (.ref fa) ⟨[.ref a], []⟩) (fun r s' => r = .ok (.ret (.bool true)) ∧ OldK s₁.heap s'.heap ∧ s'.os = s₁.os ∧ AllBare s'.gens) s₁) :
    WalkO q loose XP YP l.row.toRowW d [] (fun f vs => PySem.call f vs) := by
  intro w s₀ s₁ mg mb G Y fa o pm cd doc dV kV ho hd hcd hD hmg hg args vals as hpre hlay hrd hwl hlo
  obtain rfl : dV = .none := Dflts.none hD hdf
  obtain rfl : kV = .none := Dflts.noKw hD
  obtain ⟨a, vs, ns, rfl, rfl, hobj, hints, hlen⟩ := script_of hn hpre hwl
  refine enter_call (codeAny_mono (call w s₀ s₁ mg mb fa o pm cd doc a vs ns G Y ho (fd_plain hd) hcd hmg hobj hints hlen hg) fun r s' hq => ?_)
  obtain ⟨rfl, h2, h3, h4⟩ := hq
  exact ⟨.inl ⟨.bool true, .bool true, [], rfl, fun _ => rfl, .bool true, post_true l _, fun _ => ⟨List.Pairwise.nil, fun _ hm => (nomatch hm)⟩⟩, h2, h3, h4⟩

/-! ### rules over ANY heap (no ledger) from facts about the written part K: the library's own take a ledger (News) for what they write -/
section
variable {prog : Program} {w : World} {A : Around} {E : Value → Shared → Prop} {s : Shared} {K : Frag}

/-! the whole heap as the ledger: makes every rule that writes through a ledger a rule over any heap -/
noncomputable def ledger (h : Heap) (L d : Addr) : List (Addr × Obj) := (List.range h.objs.size).filterMap fun a => if a = L ∨ a = d then none else (h.get? a).map fun o => (a, o)
end
end Att

namespace L2
open PySem PySem.Spec PyProof.Rows

theorem vals_ints : ∀ {vs : List Value} {ns : List Int}, IntsAre vs ns → Vals (ns.map V.int) vs
  | _, _, .nil => .nil
  | _, _, .cons n t h => .cons ⟨t, rfl⟩ (vals_ints h)

noncomputable def Only (H : Hp) : Prop := ∀ b, H b = none ∨ ∃ o xs, H b = some (.frz o (.lst xs))

theorem law_call {P : Program} {w : World} {K : PySem.W.Frag} {mg mb : Str → Option Value} {CX : CXT} {k : Nat} {fa a : Addr} {fd : FuncData} {x : Str} {sp : Sp} {s₁ : Shared} {vs : List Value} {ns : List Int}
    (KX : K.In s₁.heap) (hns : s₁.heap.Ns mainGlobals mg) (hb : s₁.heap.Ns builtinsNs mb) (hbb : ∀ x : Str, x ≠ "__name__" → mb x = bootBuiltins x) (hlim : s₁.heap.NoLimit) (hg : s₁.gens = #[])
    (ha : s₁.heap.get? a = some { cls := .type "list", data := .seq vs.toArray }) (hi : IntsAre vs ns) (hl : ns.length ≤ sizeLine) (hr : Room k callerA)
    (F : ∀ base : Heap, K.In base → base.Ns mainGlobals mg → FnOk P w K mg base CX k fa fd [x] sp) (hbind : ∀ (s : Shared) (u : Value), BindsTo s fd ⟨[u], []⟩ [(x, u)])
    (hsp : ∀ H : Hp, Only H → SqL K H a (ns.map V.int) → sp [.ref a] H (fun v _ => v = .bl true) fun _ _ _ => False)
    (hCX : ∀ H e s', CX [] H s₁ (fun _ _ _ => False) e s' → False) :
    codeAny (model P w) callerA (.call (.ref fa) ⟨[.ref a], []⟩) (fun r s' => r = .ok (.ret (.bool true)) ∧ OldK s₁.heap s'.heap ∧ s'.os = s₁.os ∧ AllBare s'.gens) s₁ := by
  have rv := vals_ints hi
  have lenV := hi.length
  -- from an abstract heap in which nothing but the script may be tracked
  have core : ∀ H : Hp, Only H → SqL K H a (ns.map V.int) → HOk P w H s₁.heap → (∀ b, H b ≠ none → b = a) → (H a ≠ none → K.lookup a = none) →
      codeAny (model P w) callerA (.call (.ref fa) ⟨[.ref a], []⟩) (fun r s' => r = .ok (.ret (.bool true)) ∧ OldK s₁.heap s'.heap ∧ s'.os = s₁.os ∧ AllBare s'.gens) s₁ := by
    intro H hO hS hok hA hK
    have base_of : ∀ {b : Addr} {o : Obj}, s₁.heap.get? b = some o → H b = none → (hidT s₁.heap H).get? b = some o := fun e n => hidT_get e n
    have noA : ∀ {b : Addr} {o : Obj} {es : Array DictEntry} {ep : Nat}, s₁.heap.get? b = some o → o.data = .dict es ep → H b = none := fun {b o es ep} e d => by
      cases q : H b with
      | none => rfl
      | some u =>
        have e' : b = a := hA b (by rw [q]; simp)
        subst e'
        rw [ha] at e; cases e
        have d' : Data.seq vs.toArray _ = Data.dict es ep := d
        cases d'
    have nsK : ∀ {b : Addr} {m : Str → Option Value}, s₁.heap.Ns b m → (hidT s₁.heap H).Ns b m := fun {b m} ⟨o, es, ep, e, d, r⟩ => ⟨o, es, ep, base_of e (noA e d), d, r⟩
    have hKb : K.In (hidT s₁.heap H) := fun b o e => base_of (KX b o e) (by
      cases q : H b with
      | none => rfl
      | some u =>
        have e' : b = a := hA b (by rw [q]; simp)
        subst e'
        rw [hK (by rw [q]; simp)] at e; cases e)
    have hM : Mod K mg (hidT s₁.heap H) := ⟨hKb, nsK hns, ⟨mb, nsK hb, hbb⟩, let ⟨mc, h1, h2⟩ := hlim; ⟨mc, nsK h1, h2⟩⟩
    have e0 : Env0 P w K mg (hidT s₁.heap H) callerA [] s₁ H := ⟨rfl, hM, fun b o e => of_hidT e, Nat.le_of_eq (hidT_size _ _), trivial, fun b hb => absurd (show b ∈ ([] : List Addr) from hb) (by simp), hok, .of_eq hg⟩
    refine codeAny_mono ((F _ hKb (nsK hns)).run callerA [] s₁ H ⟨[.ref a], []⟩ [.ref a] [.ref a] _ _ hr e0 (hbind s₁ (.ref a)) (.cons rfl .nil) (hsp H hO hS)) fun r s' h => ?_
    cases r with
    | error e => exact (hCX H e s' h).elim
    | ok fl =>
      cases fl with
      | next => exact False.elim h
      | brk => exact False.elim h
      | cont => exact False.elim h
      | ret u =>
        obtain ⟨v, H', os, bare, un, hok', r', q⟩ := h
        have q' : v = .bl true := q
        subst q'
        obtain rfl : u = Value.bool true := r'
        refine ⟨rfl, OldK.of_keep fun b o e => ?_, os, bare⟩
        cases q : H b with
        | none => exact un.keep b o e q (by intro z; exact absurd (show b ∈ ([] : List Addr) from z) (by simp)) (by simp)
        | some u =>
          rcases hO b with z | ⟨ob, xs, z⟩
          · rw [q] at z; cases z
          · have z2 := un.frzs b ob _ z
            obtain ⟨e1, _⟩ := hok b _ z
            obtain ⟨e2, _⟩ := hok' b _ z2
            rw [e] at e1; cases e1
            exact e2
  cases hk : K.lookup a with
  | some o =>
    -- the script is one of the module's own objects
    have e := KX a o hk
    rw [ha] at e
    cases e
    refine core (fun _ => none) (fun _ => .inl rfl) (.inr ⟨_, vs.toArray, _, hk, rfl, rfl, rfl, by rw [List.size_toArray, lenV]; exact hl, by simpa using rv⟩) (fun b u z => by have z' : (none : Option HO) = some u := z; cases z') (fun b z => absurd rfl z) fun z => absurd rfl z
  | none =>
    refine core (fun b => if b = a then some (.frz { cls := .type "list", data := .seq vs.toArray } (.lst (ns.map V.int))) else none) (fun b => ?_) (.inl (.inr ⟨{ cls := .type "list", data := .seq vs.toArray }, if_pos rfl⟩)) (fun b u z => ?_) (fun b z => ?_) fun _ => hk
    · by_cases hb : b = a
      · exact .inr ⟨_, _, if_pos hb⟩
      · exact .inl (if_neg hb)
    · by_cases hb : b = a
      · have z' := (if_pos hb).symm.trans z
        cases z'
        subst hb
        exact ⟨ha, by rw [List.length_map]; exact hl, vs, _, rv, ha⟩
      · have z' := (if_neg hb).symm.trans z
        cases z'
    · by_cases hb : b = a
      · exact hb
      · exact absurd (if_neg hb) z
end L2

namespace L2
open PySem PySem.Spec PyProof.Rows

noncomputable abbrev KOf {K : PySem.W.Frag} {h : Heap} (_ : K.In h) : PySem.W.Frag := K

theorem walk_of {l : PySem.W.OpenLaw} {n k : Nat} {q : Program} {loose : List Str} {XP : (Str → Option Value) → Heap → Prop} {YP : World → Heap → Prop} {d : DefRec} {K : Params → PySem.W.Frag} {CX : World → CXT} {sp : World → Sp} {x : Str}
    (hn : l.most = some n) (hn2 : n ≤ sizeLine) (hdf : d.params.defaults = []) (hr : Room k callerA)
    (hY : ∀ (w : World) (h : Heap), YP w h → (K w.params).In h)
    (F : ∀ (w : World) (mg : Str → Option Value) (fa : Addr) (h : Heap), (K w.params).In h → h.Ns mainGlobals mg → mg d.name = some (.ref fa) →
      ∃ fd : FuncData, (∀ (s : Shared) (u : Value), BindsTo s fd ⟨[u], []⟩ [(x, u)]) ∧
        ∀ base : Heap, (K w.params).In base → base.Ns mainGlobals mg → FnOk l.prog w (K w.params) mg base (CX w) k fa fd [x] (sp w))
    (hsp : ∀ (w : World) (H : Hp) (a : Addr) (ns : List Int), ns.length ≤ n → Only H → SqL (K w.params) H a (ns.map V.int) → sp w [.ref a] H (fun v _ => v = .bl true) fun _ _ _ => False)
    (hCX : ∀ (w : World) (H : Hp) (s : Shared) (e : Value) (s' : Shared), CX w [] H s (fun _ _ _ => False) e s' → False) :
    PySem.W.WalkO q loose XP YP l.row.toRowW d [] (fun f vs => PySem.call f vs) := by
  refine Att.attach_call hn hdf fun w s₀ s₁ mg mb fa o pm cd doc a vs ns G Y ho hd hcd hmg hobj hints hlen hg => ?_
  have KX := hY w _ Y
  obtain ⟨fd, hb, hF⟩ := F w mg fa _ KX G.T.g hmg
  exact law_call KX G.T.g G.T.b G.T.builtins G.T.nolimit hg hobj hints (Nat.le_trans hlen hn2) hr hF hb (fun H hO hS => hsp w H a ns hlen hO hS) fun H e s' => hCX w H s₁ e s'
end L2

/- THE LAST THEOREM (shape; LID, My.* are yours):
   My.Adr: a structure of the addresses that your layer names (classes, functions); My.Txt K t: a structure (Prop) of the equations over K;
   My.txt_mk : {K} {implicit addresses ..} (e1 : nsIn K mainGlobals "law" = some (some (.ref f))) (e2 : K.lookup f = some ⟨oc, od, .func (fnOf "law" "law" params body scope dV kV doc pm an cdv ct), sl⟩) (e3 : codeIn K cdv "law" = true) .. : ∃ t, My.Txt K t

set_option maxRecDepth 100000 in
set_option maxHeartbeats 0 in
theorem PySem.Challenge.cw_LID_holds : PySem.Challenge.rw_LID.Holds := by
  w_on; o_law; k_head; (case hw => w_witness2)
  k_fill
  refine L2.walk_of (l := PySem.Challenge.rw_LID) (n := 63) (k := 40) (x := "script") (CX := fun w => ..) (sp := fun _ => My.sp_law) rfl (by decide) rfl ⟨rfl, by decide, by decide⟩ (fun w h Y => PySem.W.kIn_of Y) ?F ?S ?C
  case F =>
    intro w mg fa h KX G hmg
    have T : ∃ t, My.Txt (L2.KOf KX) t := by
      dsimp only [L2.KOf]                          -- K must stand as «<heap const> w.params» for k_is
      refine' My.txt_mk ?e1 ?e2 ?e3 ..
      (case e1 => PySem.W.k_is)                    -- in the order: a name -> its address -> its object -> its parts
      (case e2 => PySem.W.k_is)
      ..
    obtain ⟨t, T⟩ := T
    have e0 := hmg.symm.trans (PySem.W.mg_of KX G T.law)
    cases e0                                       -- fa is the law's own address
    exact ⟨_, fun s u => .of_eq rfl, fun base kb nb => My.law_fn T kb nb⟩     -- if «.of_eq rfl» comes too early: refine' ⟨_, ?b, fun base kb nb => My.law_fn T kb nb⟩; exact fun s u => .of_eq rfl
  case S => exact fun w H a ns hl hO hS => ..
  case C => exact ..
(the tactic k_is has no namespace: write k_is) -/

/-! SHORT WORDS over the layer: a def of the text, its body, what a loop and a test want. -/
namespace L2
open PySem PySem.Spec PyProof.Rows

/-! ### the text by places -/
noncomputable def defArgs (s : Stmt) : Arguments := match s with
  | .FunctionDef _ a _ _ _ _ _ _ _ _ => a
  | _ => { posonlyargs := [], args := [], vararg := none, kwonlyargs := [], kw_defaults := [], kwarg := none, defaults := [] }
noncomputable def defBody (s : Stmt) : List Stmt := match s with
  | .FunctionDef _ _ b _ _ _ _ _ _ _ => b
  | _ => []
noncomputable def defScope (s : Stmt) : Scope := match s with
  | .FunctionDef _ _ _ _ _ _ sc _ _ _ => sc
  | _ => { kind := .function, names := [], isGenerator := false, isCoroutine := false }

/-! ### no exception leaves a def -/
noncomputable abbrev CX0 : CXT := fun _ _ _ _ _ _ => False
noncomputable abbrev E0 : XK := fun _ _ _ => False
theorem pass0 {X : Cx} : Passes CX0 X E0 := fun _ _ _ _ _ _ _ h => h.elim

/-! ### a def (or method) of the text as it stands behind the top -/
structure Fun (K : PySem.W.Frag) (x qual : Str) (st : Stmt) (f : Addr) (fd : FuncData) : Prop where
  ex : ∃ (oc : Value) (od : Option Addr) (kV doc pm : Value) (an : Option Addr) (cdv ct : Value) (osl : Array (Option Value)),
    fd = PySem.W.fnOf x qual (defArgs st) (defBody st) (defScope st) .none kV doc pm an cdv ct ∧ K.lookup f = some ⟨oc, od, .func fd, osl⟩ ∧ PySem.W.codeIn K cdv qual = true
  kp : PySem.W.keepIn K (.ref f) = true
section
variable {P : Program} {w : World} {K : PySem.W.Frag} {mg : Str → Option Value} {base : Heap}
theorem Fun.ok {x qual : Str} {st : Stmt} {f : Addr} {fd : FuncData} {N ps : List Str} {k : Nat} {sp : Sp} (F : Fun K x qual st f fd) (S : FnScope N ps (defScope st)) (len : ∀ vs H Q E, sp vs H Q E → vs.length = ps.length)
    (hbody : ∀ (cdv : Value) (A : Around) (outer : List Env) (s : Shared) (H : Hp) (vs : List V) (Q : VK) (E : XK), Room k (A.deeper (envOfC qual (defScope st) s.heap.objs.size f cdv)) → sp vs H Q E →
      ∃ t, PSs (cxOf CX0 P w K mg base N qual (defScope st) f cdv A outer s H E).nox (defBody st) t ∧ t { nx := fun _ H' => Q .non H', rt := Q } (start N vs) H) : FnOk P w K mg base CX0 (k + 1) f fd ps sp := by
  obtain ⟨oc, od, kV, doc, pm, an, cdv, ct, osl, rfl, lk, hcd⟩ := F.ex
  refine fn_of lk hcd S len fun A outer s H vs Q E hr hsp => ?_
  obtain ⟨t, h, q⟩ := hbody cdv A outer s H vs Q E hr hsp
  exact ⟨t, h.nox, q⟩
theorem Fun.binds {x qual : Str} {st : Stmt} {f : Addr} {fd : FuncData} {ps : List Str} (F : Fun K x qual st f fd)
    (h : ∀ (kV doc pm : Value) (an : Option Addr) (cdv ct : Value) (us : List Value), us.length = ps.length → bindArgs (PySem.W.fnOf x qual (defArgs st) (defBody st) (defScope st) .none kV doc pm an cdv ct) ⟨us, []⟩ = pure (ps.zip us)) : Binds K fd ps [] := by
  obtain ⟨oc, od, kV, doc, pm, an, cdv, ct, osl, rfl, lk, hcd⟩ := F.ex
  exact .all (h kV doc pm an cdv ct)
theorem fun_mk {x qual : Str} {st : Stmt} {f : Addr} {oc : Value} {od an : Option Addr} {osl : Array (Option Value)} {kV doc pm cdv ct : Value} (l : K.lookup f = some ⟨oc, od, .func (PySem.W.fnOf x qual (defArgs st) (defBody st) (defScope st) .none kV doc pm an cdv ct), osl⟩)
    (c : PySem.W.codeIn K cdv qual = true) (k : PySem.W.keepIn K (.ref f) = true) : Fun K x qual st f (PySem.W.fnOf x qual (defArgs st) (defBody st) (defScope st) .none kV doc pm an cdv ct) := ⟨⟨oc, od, kV, doc, pm, an, cdv, ct, osl, rfl, l, c⟩, k⟩
end
theorem small1000 {n : Nat} (h : n ≤ 1000) : n < sizeLine := Nat.lt_of_le_of_lt h (by decide)

/-! ### expressions in short: the name that stands in the i-th slot -/
section
variable {X : Cx}
theorem pv (i : Nat) {x : Str} {pos : Pos} (hN : X.N[i]? = some x := by rfl) (hv : Vis X.env.scope x := by first | exact Or.inl rfl | exact Or.inr (Or.inl rfl) | exact Or.inr (Or.inr rfl)) (hd : (x == ("__debug__" : Str)) = false := by decide)
    (hcd : (x == ("__classdict__" : Str)) = false := by decide) : PE X (.Name x pos) (tVar i) := pe_var hN hv hd hcd
end

/-! ### tests -/
theorem iteF {A B : Prop} (h : B) : if false = true then A else B := by
  rw [if_neg Bool.false_ne_true]
  exact h
theorem iteT {A B : Prop} (h : A) : if true = true then A else B := by
  rw [if_pos rfl]
  exact h
/-! ### heaps -/
noncomputable def Same (H H' : Hp) : Prop := ∀ b o, H b = some o → H' b = some o
theorem Same.refl (H : Hp) : Same H H := fun _ _ h => h
theorem Same.trans {H H1 H2 : Hp} (a : Same H H1) (b : Same H1 H2) : Same H H2 := fun c o h => b c o (a c o h)
theorem Same.free {H H' : Hp} (e : Same H H') {l : Addr} (h : H' l = Option.none) : H l = Option.none := by
  cases q : H l with
  | none => rfl
  | some o =>
    rw [e l o q] at h
    cases h
theorem Same.seq {K : PySem.W.Frag} {H H' : Hp} {a : Addr} {xs : List V} (e : Same H H') (h : SqL K H a xs) : SqL K H' a xs := by
  rcases h with (h | ⟨o, h⟩) | h
  · exact .inl (.inl (e _ _ h))
  · exact .inl (.inr ⟨o, e _ _ h⟩)
  · exact .inr h

end L2

end

section
-- KcComp
set_option Elab.async false
set_option linter.all false
set_option maxRecDepth 100000
set_option maxHeartbeats 4000000
namespace L2
open PySem PySem.Spec PyProof.Rows

/-! ### addresses -/
theorem ltNe {a b : Addr} {n : Nat} (h : a < n) (h' : n ≤ b) : a ≠ b := Nat.ne_of_lt (Nat.lt_of_lt_of_le h h')
theorem neLt {a b : Addr} {n : Nat} (h : n ≤ a) (h' : b < n) : a ≠ b := Nat.ne_of_gt (Nat.lt_of_lt_of_le h' h)
/-! ### a list comprehension's block: its own context over the enclosing one -/
noncomputable def clOf (env : Env) : List (Str × NameKind) → List (Str × Addr) → List (Str × Addr)
  | [], acc => acc
  | (n, k) :: r, acc => if k = .free then (match env.cells.lookup n with | some c => clOf env r ((n, c) :: acc) | none => clOf env r acc) else clOf env r acc
theorem clOf_sound {env : Env} : ∀ (ns : List (Str × NameKind)) (acc : List (Str × Addr)), (∀ p ∈ acc, env.cells.lookup p.1 = some p.2) → ∀ p ∈ clOf env ns acc, env.cells.lookup p.1 = some p.2
  | [], acc, h => by intro p hp; exact h p hp
  | (n, k) :: r, acc, h => by
    intro p hp
    rw [clOf] at hp
    split at hp
    · split at hp
      · rename_i c hc
        refine clOf_sound r _ (fun q hq => ?_) p hp
        rcases List.mem_cons.mp hq with rfl | hq
        · exact hc
        · exact h q hq
      · exact clOf_sound r acc h p hp
    · exact clOf_sound r acc h p hp
theorem clOf_acc {env : Env} : ∀ (ns : List (Str × NameKind)) (acc : List (Str × Addr)), ∀ p ∈ acc, p ∈ clOf env ns acc
  | [], acc => fun p hp => hp
  | (n, k) :: r, acc => fun p hp => by
    rw [clOf]
    split
    · split
      · exact clOf_acc r _ p (List.mem_cons_of_mem _ hp)
      · exact clOf_acc r acc p hp
    · exact clOf_acc r acc p hp
theorem clOf_has {env : Env} : ∀ (ns : List (Str × NameKind)) (acc : List (Str × Addr)) (x : Str) (c : Addr), (x, NameKind.free) ∈ ns → env.cells.lookup x = some c → (x, c) ∈ clOf env ns acc
  | [], acc, x, c => fun h _ => (nomatch h)
  | (n, k) :: r, acc, x, c => fun h hc => by
    rw [clOf]
    rcases List.mem_cons.mp h with e | h
    · cases e
      rw [if_pos rfl, hc]
      exact clOf_acc r _ _ List.mem_cons_self
    · split
      · split
        · exact clOf_has r _ x c h hc
        · exact clOf_has r acc x c h hc
      · exact clOf_has r acc x c h hc
theorem lookup_of_mem {α : Type} {x : Str} {c : α} : ∀ {l : List (Str × α)}, (x, c) ∈ l → ∃ d, l.lookup x = some d
  | (y, d) :: r, h => by
    rw [List.lookup_cons]
    cases e : x == y with
    | true => exact ⟨d, rfl⟩
    | false =>
      rcases List.mem_cons.mp h with q | q
      · cases q
        rw [beq_self_eq_true] at e
        cases e
      · exact lookup_of_mem q
theorem clOf_lookup {env : Env} {ns : List (Str × NameKind)} {x : Str} {c : Addr} (h : (clOf env ns []).lookup x = some c) : env.cells.lookup x = some c :=
  clOf_sound ns [] (fun _ hp => (nomatch hp)) (x, c) (PySem.mem_of_lookup h)
theorem clOf_some {env : Env} {ns : List (Str × NameKind)} {x : Str} {c : Addr} (hm : (x, NameKind.free) ∈ ns) (hc : env.cells.lookup x = some c) : (clOf env ns []).lookup x = some c := by
  obtain ⟨d, hd⟩ := lookup_of_mem (clOf_has ns [] x c hm hc)
  have e := clOf_lookup hd
  rw [hc] at e
  cases e
  exact hd
theorem closure_of {scope : Scope} {env : Env} (h : ∀ y ∈ scope.names, y.2 = .free → ∃ c, env.cells.lookup y.1 = some c) : closureFor scope env = pure (clOf env scope.names []) := by
  have go : ∀ (ns : List (Str × NameKind)) (acc : List (Str × Addr)), (∀ y ∈ ns, y.2 = .free → ∃ c, env.cells.lookup y.1 = some c) →
      (forIn ns acc fun (x : Str × NameKind) (cs : List (Str × Addr)) => (match x with
        | (name, kind) => if (kind == NameKind.free) = true then (do let c ← cellOf env name; pure (ForInStep.yield ((name, c) :: cs))) else pure (ForInStep.yield cs) : Sem (ForInStep (List (Str × Addr))))) = (pure (clOf env ns acc) : Sem (List (Str × Addr))) := by
    intro ns
    induction ns with
    | nil => intro acc _; rfl
    | cons y r ih =>
      intro acc hy
      obtain ⟨n, k⟩ := y
      have ih' := fun acc => ih acc fun z hz => hy z (List.mem_cons_of_mem _ hz)
      rw [List.forIn_cons, clOf]
      by_cases hk : k = .free
      · subst hk
        obtain ⟨c, hc⟩ := hy (n, .free) List.mem_cons_self rfl
        have hc' : env.cells.lookup n = some c := hc
        simp only [beq_self_eq_true, if_true, cellOf, hc', pure_bind]
        exact ih' _
      · have hb : (k == NameKind.free) = false := by simpa using hk
        simp only [hb, Bool.false_eq_true, if_false, pure_bind, if_neg hk]
        exact ih' _
  unfold closureFor
  have g := go scope.names [] h
  simp only [bind_pure]
  exact g

structure CompScope (sc scope : Scope) (NX N : List Str) (ix : List (Option Nat)) : Prop where
  kind : scope.kind = .function
  nocell : ∀ y ∈ scope.names, y.2 ≠ .cell
  names : ∀ y ∈ scope.names, y.2 = .local → scope.names.lookup y.1 = some .local
  free : ∀ y ∈ scope.names, y.2 = .free → sc.names.lookup y.1 = some .cell ∨ sc.names.lookup y.1 = some .free
  nd : N.Nodup
  len : ix.length = N.length
  at_ : ∀ p ∈ N.zip ix, ∀ i ∈ p.2, NX[i]? = some p.1 ∧ scope.names.lookup p.1 = some .free
noncomputable def sub (ix : List (Option Nat)) (σ : St) : St := ix.map fun o => match o with | some i => (match σ[i]? with | some v => v | none => none) | none => none

noncomputable def cxComp (X : Cx) (N : List Str) (scope : Scope) (C : Addr) (s : Shared) (H : Hp) (fp : List Addr) : Cx where
  prog := X.prog
  w := X.w
  K := X.K
  mg := X.mg
  base := X.base
  A := X.A
  N := N
  s₀ := s
  H₀ := H
  env := compEnvC scope (clOf X.env scope.names []) C X.env
  outer := X.stack
  stack := X.stack
  ex := fp
  fn := fun _ => false
  calm := X.calm
  pn := []
  xe := fun _ _ => False

theorem relabel_look {scope : Scope} {env : Env} {x : Str} {k : NameKind} (h : (relabel scope env).names.lookup x = some k) : scope.names.lookup x = some k ∨ (k = .cell ∧ scope.names.lookup x = some .free) := by
  have go : ∀ ns : List (Str × NameKind), (ns.map fun (n, k) => if (k == NameKind.free && env.scope.kind == .function && env.kindOf n == some .cell) then (n, NameKind.cell) else (n, k)).lookup x = some k →
      ns.lookup x = some k ∨ (k = .cell ∧ ns.lookup x = some .free) := by
    intro ns
    induction ns with
    | nil => intro q; simp at q
    | cons y r ih =>
      obtain ⟨n, k'⟩ := y
      intro q
      rw [List.map_cons] at q
      by_cases hc : (k' == NameKind.free && env.scope.kind == .function && env.kindOf n == some .cell) = true
      · simp only [hc, if_true] at q
        have hk' : k' = .free := by
          have := (Bool.and_eq_true _ _ ▸ hc)
          have h1 := (Bool.and_eq_true _ _ ▸ this.1)
          exact eq_of_beq h1.1
        subst hk'
        rw [List.lookup_cons] at q ⊢
        cases e : x == n with
        | true =>
          rw [e] at q
          cases q
          exact .inr ⟨rfl, rfl⟩
        | false =>
          rw [e] at q
          exact ih q
      · simp only [hc] at q
        rw [if_neg (by simp)] at q
        rw [List.lookup_cons] at q ⊢
        cases e : x == n with
        | true => rw [e] at q; exact .inl q
        | false => rw [e] at q; exact ih q
  exact go scope.names h
theorem relabel_free {scope : Scope} {env : Env} {x : Str} (h : scope.names.lookup x = some .free) : (relabel scope env).names.lookup x = some .cell ∨ (relabel scope env).names.lookup x = some .free := by
  have go : ∀ ns : List (Str × NameKind), ns.lookup x = some .free →
      (ns.map fun (n, k) => if (k == NameKind.free && env.scope.kind == .function && env.kindOf n == some .cell) then (n, NameKind.cell) else (n, k)).lookup x = some .cell ∨
      (ns.map fun (n, k) => if (k == NameKind.free && env.scope.kind == .function && env.kindOf n == some .cell) then (n, NameKind.cell) else (n, k)).lookup x = some .free := by
    intro ns
    induction ns with
    | nil => intro q; simp at q
    | cons y r ih =>
      obtain ⟨n, k'⟩ := y
      intro q
      rw [List.map_cons]
      rw [List.lookup_cons] at q
      cases e : x == n with
      | true =>
        rw [e] at q
        cases q
        by_cases hc : (NameKind.free == NameKind.free && env.scope.kind == .function && env.kindOf n == some .cell) = true
        · simp only [hc, if_true]
          rw [List.lookup_cons, e]
          exact .inl rfl
        · simp only [hc]
          rw [if_neg (by simp), List.lookup_cons, e]
          exact .inr rfl
      | false =>
        rw [e] at q
        have z := ih q
        by_cases hc : (k' == NameKind.free && env.scope.kind == .function && env.kindOf n == some .cell) = true
        · simp only [hc, if_true]
          rw [List.lookup_cons, e]
          exact z
        · simp only [hc]
          rw [if_neg (by simp), List.lookup_cons, e]
          exact z
  exact go scope.names h

theorem Inv.gone {X : Cx} {pins : List (Addr × Obj)} {σ σ₂ : St} {H H₂ : Hp} {s s₂ : Shared} {C : Addr} {h'' : Heap} (I : Inv X pins σ H s) (I2 : Inv X pins σ₂ H₂ s₂) (hC : s₂.heap.objs.size ≤ C) (hn : H C = none) (hs : Heap.SameBut C s.heap h'') : Inv X pins σ H { s with heap := h'' } :=
  I.turned (t' := s.toks) (it := C) (fun b o hb e => hs.extBut b o hb e) hn (Nat.ne_of_gt (Nat.lt_of_lt_of_le I2.lt hC)) (.inr (Nat.le_trans I2.sz hC))
    (fun x c e => by
      obtain ⟨v, o, ho, _⟩ := I2.cell x c e
      exact ltNe (Heap.lt_size ho) hC) fun q hq => ltNe (Heap.lt_size (I2.pin q hq).1) hC
/-! ### the tests of a clause -/
noncomputable def PTL (X : Cx) (ifs : List Expr) (t : TT) : Prop :=
  ∀ (pins : List (Addr × Obj)) (s : Shared) (σ : St) (H : Hp) (Q : Bool → Hp → Prop), Inv X pins σ H s → t σ H Q →
    wpAny (model X.prog X.w) X.A (forIn ifs true fun c r => if r = true then do let ok ← isTrue c X.env (eval c X.env); pure (ForInStep.yield ok) else pure (ForInStep.yield r)) (TP X pins σ Q) X.xe s
noncomputable def tAlways : TT := fun _ H Q => Q true H
theorem ptl_nil {X : Cx} : PTL X [] tAlways := fun _ _ _ H _ I h => wpAny_tests_nil ⟨H, I, h⟩
theorem ptl_one {X : Cx} {c : Expr} {t : TT} (h : PT X c t) : PTL X [c] t := fun pins s σ H Q I q => wpAny_tests_one (h pins s σ H Q I q)

/-! ### the rule -/
noncomputable def CompBody (J : It) (g : TG) (tt : TT) (te : TE) (σ₀ : St) (p : Addr) (Q : VK) (W : Nat → Nat → List V → Hp → Prop) : Prop :=
  ∀ i m acc H, W i m acc H → H p = some (.lst acc) ∧
    ((J.stop i H ∧ Q (.ref p) H) ∨ (J.go i H ∧ acc.length < sizeLine ∧ ∃ N : List V → Hp → Prop, (∀ acc' H', N acc' H' → ∃ m', m' < m ∧ W (i + 1) m' acc' H') ∧
      ∀ x H1, J.yld i H x H1 → g x σ₀ H1 fun σ2 H2 => tt σ2 H2 fun b H3 => if b = true then te σ2 H3 fun y H4 => H4 p = some (.lst acc) ∧ N (acc ++ [y]) (upd H4 p (.lst (acc ++ [y]))) else N acc H3))
noncomputable abbrev CF (α : Type) := Addr → Shared → Hp → List Addr → α
noncomputable def tComp (wi : TI) (g : CF TG) (tt : CF TT) (te : CF TE) (ix : List (Option Nat)) : TE := fun σ H Q => wi σ H fun J H1 => ∀ p, H1 p = none →
  ∃ W : Nat → Nat → List V → Hp → Prop, (∃ m, W 0 m [] (upd H1 p (.lst []))) ∧ ∀ C s' H' fp, CompBody J (g C s' H' fp) (tt C s' H' fp) (te C s' H' fp) (sub ix σ) p Q W
section
variable {X : Cx} {elt tg iter : Expr} {ifs : List Expr} {scope sc : Scope} {pos : Pos} {NX N : List Str} {ix : List (Option Nat)} {wi : TI} {g : CF TG} {tt : CF TT} {te : CF TE}

theorem comp_loop {prog : Program} {w : World} {A : Around} {R : Result → Shared → Prop} {s : Shared} {it acc : Value} {env : Env} (I : Nat → Shared → Prop)
    (turn : ∀ n s, I n s → wpAny (model prog w) A (pyNext it) (fun r s₁ => match r with
      | none => R (.ok .next) s₁
      | some v => wpAny (model prog w) A (letOwnedTupleGo tg it v) (fun _ s₁' => wpAny (model prog w) A (assign tg env v) (fun _ s₂ =>
          wpAny (model prog w) A (forIn ifs true fun c r => if r = true then do let ok ← isTrue c env (eval c env); pure (ForInStep.yield ok) else pure (ForInStep.yield r)) (fun ok s₃ =>
            if ok = true then wpAny (model prog w) A (eval elt env) (fun x s₄ =>
              wpAny (model prog w) A (call (.builtin "list.append") [acc, x]) (fun _ s₅ => ∃ m, m < n ∧ I m s₅) (fun _ _ => False) s₄) (fun _ _ => False) s₃
            else ∃ m, m < n ∧ I m s₃) (fun _ _ => False) s₂) (fun _ _ => False) s₁') (fun _ _ => False) s₁) (fun _ _ => False) s)
    (n : Nat) (h : I n s) : codeAny (model prog w) A (.compLoop (.ListComp elt [⟨tg, iter, ifs, 0⟩] scope pos) 0 it acc env) R s := by
  refine codeAny_loop rfl I (fun n s hI => ?_) n h
  show wpAny _ A ((compTurn (.ListComp elt [⟨tg, iter, ifs, 0⟩] scope pos) 0 it acc env).onRaise (fun x => do noteFrame x env; theTreesLotGoes x)) _ _ s
  refine wpAny_noted ?_
  rw [compTurn_list]
  refine wpAny_bind (wpAny_standAt (wpAny_bind (wpAny_mono (turn n s hI) (fun r s₁ h₁ => ?_) fun _ _ z => z.elim)))
  cases r with
  | none => exact wpAny_pure h₁
  | some v =>
    refine wpAny_bind (wpAny_mono h₁ (fun _ s₁' h₁' => ?_) fun _ _ z => z.elim)
    refine wpAny_bind (wpAny_mono h₁' (fun _ s₂ h₂ => wpAny_bind (wpAny_mono h₂ (fun ok s₃ h₃ => ?_) fun _ _ z => z.elim)) fun _ _ z => z.elim)
    cases ok with
    | false => exact wpAny_pure ⟨rfl, h₃⟩
    | true => exact wpAny_bind (wpAny_bind (wpAny_mono h₃ (fun x s₄ h₄ => wpAny_bind (wpAny_mono h₄ (fun _ s₅ h₅ => wpAny_pure (wpAny_pure ⟨rfl, h₅⟩)) fun _ _ z => z.elim)) fun _ _ z => z.elim))

theorem comp_block {pins : List (Addr × Obj)} {σ : St} {H : Hp} {s : Shared} {fp : List Addr} {it : Addr} {J : It} {tn : Nat → Heap → Prop} {Q : VK} {E : Value → Shared → Prop} {RR : Value → Addr → Result → Shared → Prop}
    (hc : X.calm = true) (hsc : X.env.scope = sc) (hNX : X.N = NX) (S : CompScope sc scope NX N ix)
    (hg : ∀ C s H fp, PG (cxComp X N scope C s H fp) tg (g C s H fp)) (ht : ∀ C s H fp, PTL (cxComp X N scope C s H fp) ifs (tt C s H fp)) (he : ∀ C s H fp, PE (cxComp X N scope C s H fp) elt (te C s H fp))
    (I : Inv X pins σ H s) (T : Turn X.prog X.w X.K tg J fp it tn) (st : tn 0 s.heap) (hf : ∀ b ∈ fp, FpOk X pins H b)
    (hq : ∀ p, H p = none → ∃ W : Nat → Nat → List V → Hp → Prop, (∃ m, W 0 m [] (upd H p (.lst []))) ∧ ∀ C s' H' fp, CompBody J (g C s' H' fp) (tt C s' H' fp) (te C s' H' fp) (sub ix σ) p Q W)
    (hR : ∀ p C s' H' m, s.heap.objs.size ≤ p → s.heap.objs.size ≤ C → s'.heap.Ns C m → H' C = none → Q (.ref p) H' → Inv X pins σ H' s' → RR (.ref p) C (.ok .next) s') :
    wpAny (model X.prog X.w) X.A (newList []) (fun acc s₃ => wpAny (model X.prog X.w) X.A (newFunctionEnv scope X.env.globals (clOf X.env scope.names []) [] X.env.qual none .none (some X.env)) (fun cenv s₄ =>
      codeAny (model X.prog X.w) X.A (.compStart (.ListComp elt [⟨tg, iter, ifs, 0⟩] scope pos) 0 (.ref it) acc { cenv with scope := relabel scope X.env }) (RR acc cenv.locals) s₄) E s₃) E s := by
  refine wpAny_newObj_type (wpAny_newFunctionEnv S.nocell (by intro y hy; simp at hy) (fun h₁ hns₁ hsb₁ => ?_) S.kind)
  dsimp only at hns₁ hsb₁ ⊢
  have hsz : (s.heap.push { cls := .type "list", dict := none, data := .seq ([] : List Value).toArray }).objs.size = s.heap.objs.size + 1 := Heap.size_push ..
  generalize hC : (s.heap.push { cls := .type "list", dict := none, data := .seq ([] : List Value).toArray }).objs.size = C at hns₁ hsb₁ ⊢
  rw [hsz] at hC
  generalize hp : s.heap.objs.size = p at hC
  have pC : p ≠ C := by omega
  have old : ∀ b o, s.heap.get? b = some o → h₁.get? b = some o := fun b o e => hsb₁.extBut b o (ltNe (Heap.lt_size e) (by omega)) (Heap.get?_push_of_some _ (Heap.get?_push_of_some _ e))
  have hnew : h₁.get? p = some { cls := .type "list", data := .seq ([] : List Value).toArray } := hsb₁.extBut _ _ pC (Heap.get?_push_of_some _ (by rw [← hp]; exact Heap.get?_push_size _ rfl))
  have hfp : H p = none := I.hok.fresh (by omega)
  have hfC : H C = none := I.hok.fresh (by omega)
  have lt : ∀ b ∈ fp, b < p := fun b hb => by
    obtain ⟨o, e, _⟩ := T.obj 0 _ st b hb
    rw [← hp]
    exact Heap.lt_size e
  -- the free names' cells
  have hcells : ∀ y ∈ scope.names, y.2 = .free → ∃ c, X.env.cells.lookup y.1 = some c := fun y hy hk => by
    refine I.ok.has y.1 ?_
    show X.env.scope.names.lookup y.1 = some .cell ∨ X.env.scope.names.lookup y.1 = some .free
    rw [hsc]
    exact S.free y hy hk
  have noown : ∀ x, scope.names.lookup x ≠ some .cell := fun x e => S.nocell _ (PySem.mem_of_lookup e) rfl
  have hok : (cxComp X N scope C s H fp).Ok := by
    refine ⟨I.ok.mod, S.kind, I.ok.glob, I.ok.blt, by show s.heap.objs.size ≤ C; omega, fun x y c h1 h2 => I.ok.inj x y c (clOf_lookup h1) (clOf_lookup h2), fun x hx => ?_, fun x c z => (by cases z), I.ok.hd, I.ok.frames, .inl rfl, fun b hb => ?_, I.bs, Nat.le_trans I.ok.bsz I.sz, fun b o e hb => ?_, fun b hb z => ?_, I.stack, I.stkFree⟩
    · have hx' : scope.names.lookup x = some .free := by
        rcases hx with hx | hx
        · rcases relabel_look hx with q | q
          · exact absurd q (noown x)
          · exact q.2
        · rcases relabel_look hx with q | q
          · exact q
          · exact q.2
      obtain ⟨c, hc'⟩ := hcells _ (PySem.mem_of_lookup hx') rfl
      exact ⟨c, clOf_some (PySem.mem_of_lookup hx') hc'⟩
    · refine ⟨?_, fun x c e => (hf b hb).2.2.2.2.1 x c (clOf_lookup e)⟩
      show b ≠ C
      exact ltNe (lt b hb) (by omega)
    · rcases (hf b hb).2.2.2.1 with z | z
      · exact I.ok.noex b o e z
      · exact absurd (Nat.lt_of_lt_of_le (Heap.lt_size e) (Nat.le_trans I.ok.bsz z)) (Nat.lt_irrefl _)
    · rcases List.mem_cons.mp (I.stkSub b z) with q | q
      · exact (hf b hb).2.1 q
      · exact (hf b hb).2.2.1 q
  -- the free names' values lie in cells that stay
  have locs : ∀ h' : Heap, (∀ x c o, X.env.cells.lookup x = some c → s.heap.get? c = some o → ∃ sl, h'.get? c = some { o with slots := sl }) →
      ∀ (i : Nat) (x : Str) (v : V), N[i]? = some x → (sub ix σ)[i]? = some (some v) → ∃ u, RelV v u ∧ ∀ m, Look (compEnvC scope (clOf X.env scope.names []) C X.env) h' m x u := by
    intro h' hk i x v h1 h2
    obtain ⟨k, hk', hv⟩ : ∃ k, ix[i]? = some (some k) ∧ σ[k]? = some (some v) := by
      unfold sub at h2
      rw [List.getElem?_map] at h2
      cases e : ix[i]? with
      | none => rw [e] at h2; cases h2
      | some o =>
        rw [e] at h2
        cases o with
        | none => cases h2
        | some k =>
          refine ⟨k, rfl, ?_⟩
          have h2' : (match σ[k]? with | some v => v | none => none) = some v := Option.some.inj h2
          cases e2 : σ[k]? with
          | none => rw [e2] at h2'; cases h2'
          | some z =>
            rw [e2] at h2'
            rw [show z = some v from h2']
    have hm : (x, some k) ∈ N.zip ix := by
      refine List.mem_of_getElem? (i := i) ?_
      rw [List.getElem?_zip_eq_some]
      exact ⟨h1, hk'⟩
    obtain ⟨a1, a2⟩ := S.at_ _ hm k (by simp)
    have hX := S.free _ (PySem.mem_of_lookup a2) rfl
    have hvis : Vis X.env.scope x := by
      show _ ∨ _ ∨ _
      rw [hsc]
      exact .inr hX
    obtain ⟨m, hn, hl⟩ := I.loc
    obtain ⟨u, r, l⟩ := hl k x v (by rw [hNX]; exact a1) hv hvis
    refine ⟨u, r, fun m' => .inr ⟨relabel_free a2, ?_⟩⟩
    rcases l with ⟨l, _⟩ | ⟨_, c, e, z⟩
    · have l' : X.env.scope.names.lookup x = some .local := l
      rw [hsc] at l'
      rcases hX with q | q <;> (rw [q] at l'; cases l')
    · obtain ⟨o, ho, hd⟩ := z
      obtain ⟨sl, e'⟩ := hk x c o e ho
      exact ⟨c, clOf_some (PySem.mem_of_lookup a2) e, _, e', hd⟩
  have hlen : (sub ix σ).length = N.length := by
    unfold sub
    rw [List.length_map]
    exact S.len
  have I1 : Inv (cxComp X N scope C s H fp) [] (sub ix σ) (upd H p (.lst [])) { s with heap := h₁, toks := s.toks + ([] : List (Str × Value)).length } := by
    refine ⟨hok, rfl, I.bare, Un.laid old (Nat.le_of_eq hp) hfp, ⟨_, hns₁, fun i x v h1 h2 h3 => ?_⟩, fun x c e => ?_, ?_, fun x c e => ?_, fun q hq => (nomatch hq), I.hok.laid old (Nat.le_of_eq hp) ⟨Nat.zero_le _, [], 0, .nil, hnew⟩, hlen⟩
    · obtain ⟨u, r, l⟩ := locs h₁ (fun y c o _ ho => ⟨o.slots, old c o ho⟩) i x v h1 h2
      exact ⟨u, r, l _⟩
    · obtain ⟨v, o, ho, hd⟩ := I.cell x c (clOf_lookup e)
      exact ⟨v, o, old c o ho, hd⟩
    · show upd H p _ C = none
      rw [upd_ne (Ne.symm pC)]
      exact hfC
    · have e' := clOf_lookup e
      obtain ⟨v, o, ho, hd⟩ := I.cell x c e'
      rw [upd_ne (ltNe (Heap.lt_size ho) (Nat.le_of_eq hp))]
      exact I.freeC x c e'
  -- back to the block's first names
  have back : ∀ {pl : List (Addr × Obj)} {σ' : St} {H' : Hp} {s' : Shared}, Inv (cxComp X N scope C s H fp) pl σ' H' s' → Inv (cxComp X N scope C s H fp) pl (sub ix σ) H' s' := fun {pl σ' H' s'} J => by
    obtain ⟨m, hn, _⟩ := J.loc
    refine ⟨J.ok, J.os, J.bare, J.base, ⟨m, hn, fun i x v h1 h2 h3 => ?_⟩, J.cell, J.free, J.freeC, J.pin, J.hok, hlen⟩
    obtain ⟨u, r, l⟩ := locs s'.heap (fun y c o hc' ho => J.base.any ho (I.freeC y c hc') fun hb => (hf c hb).2.2.2.2.1 y c hc' rfl) i x v h1 h2
    exact ⟨u, r, l _⟩
  obtain ⟨W, ⟨m0, w0⟩, turn⟩ := hq p hfp
  have st1 : tn 0 h₁ := T.keep 0 _ _ st fun b _ o e => old b o e
  have fp1 : ∀ {H' : Hp}, (∀ b ∈ fp, H' b = none) → ∀ b ∈ fp, FpOk (cxComp X N scope C s H fp) [] H' b := fun {H'} hn b hb =>
    ⟨hn b hb, (hok.exf b hb).1, hok.exfs b hb, .inl hb, (hok.exf b hb).2, fun q hq => (nomatch hq)⟩
  have loop : codeAny (model X.prog X.w) X.A (.compLoop (.ListComp elt [⟨tg, iter, ifs, 0⟩] scope pos) 0 (.ref it) (.ref p) (compEnvC scope (clOf X.env scope.names []) C X.env)) (RR (.ref p) C) { s with heap := h₁, toks := s.toks + ([] : List (Str × Value)).length } := by
    refine comp_loop (fun n s' => ∃ i acc H', Inv (cxComp X N scope C s H fp) [] (sub ix σ) H' s' ∧ tn i s'.heap ∧ (∀ b ∈ fp, H' b = none) ∧ W i n acc H') ?_ m0
      ⟨0, [], _, I1, st1, fun b hb => by rw [upd_ne (ltNe (lt b hb) (Nat.le_refl _))]; exact (hf b hb).1, w0⟩
    rintro n s3 ⟨i, acc, H3, I3, st3, fr3, w3⟩
    obtain ⟨hacc, w4⟩ := turn C s H fp i n acc H3 w3
    rcases w4 with ⟨stop, qn⟩ | ⟨go, hln, N', hN', step⟩
    · refine thn (T.done (cxComp X N scope C s H fp) rfl rfl rfl hc i [] s3 _ H3 (fun _ _ => False) I3 (fp1 fr3) st3 stop) fun r s4 ⟨hr, I4⟩ => ?_
      subst hr
      obtain ⟨m, hn, _⟩ := I4.loc
      refine hR p C s4 H3 m (by omega) (by omega) hn I4.free qn ?_
      exact I.call' I4.os I4.base I4.hok I4.bare fun b hb => ⟨(hf b hb).2.2.2.1, (hf b hb).2.1, (hf b hb).2.2.2.2.1, (hf b hb).2.2.2.2.2⟩
    · refine thn (T.item (cxComp X N scope C s H fp) rfl rfl rfl hc i [] s3 _ H3 (fun _ _ => False) I3 (fp1 fr3) st3 go) fun r s4 ⟨u, hr, h4⟩ => ?_
      subst hr
      refine thn h4 fun _ s5 ⟨x, H5, I5, r5, y5, st5, fr5⟩ => ?_
      have I5' := I5.pinned (fp1 fr5) (T.obj _ _ st5)
      refine thn (hg C s H fp _ s5 _ H5 x u _ I5' r5 (step x H5 y5)) fun _ s6 ⟨σ6, H6, I6, q6⟩ => ?_
      have later : ∀ {s7 : Shared} {H7 : Hp} {acc' : List V} {σ7 : St}, Inv (cxComp X N scope C s H fp) ([] ++ pinsAt fp s5.heap) σ7 H7 s7 → (∃ m', m' < n ∧ W (i + 1) m' acc' H7) →
          ∃ m, m < n ∧ ∃ i acc H', Inv (cxComp X N scope C s H fp) [] (sub ix σ) H' s7 ∧ tn i s7.heap ∧ (∀ b ∈ fp, H' b = none) ∧ W i m acc H' := fun {s7 H7 acc' σ7} I7 ⟨m', hm, w7⟩ => by
        refine ⟨m', hm, i + 1, acc', H7, back (I7.unpinned (pins := [])), T.keep _ _ _ st5 fun b hb o e => (I7.pin (b, o) (List.mem_append_right _ (List.mem_append_right _ (mem_pinsAt hb e)))).1, fun b hb => ?_, w7⟩
        obtain ⟨o, e, d⟩ := T.obj _ _ st5 b hb
        exact (I7.pin (b, o) (List.mem_append_right _ (List.mem_append_right _ (mem_pinsAt hb e)))).2.1
      refine thn (ht C s H fp _ s6 σ6 H6 _ I6 q6) fun ok s7 ⟨H7, I7, q7⟩ => ?_
      cases ok with
      | false => exact later I7 (hN' _ _ q7)
      | true =>
        refine thn (he C s H fp _ s7 σ6 H7 _ I7 q7) fun y s8 ⟨v8, H8, I8, r8, hacc8, w8⟩ => ?_
        refine thn (mt_append (X := cxComp X N scope C s H fp) _ s8 σ6 H8 (.ref p) [v8] (.ref p) [y] (fun _ H9 => H9 = upd H8 p (.lst (acc ++ [v8]))) I8 rfl (.cons r8 .nil) ⟨p, acc, v8, rfl, rfl, hacc8, hln, rfl⟩) fun _ s9 ⟨_, H9, I9, _, e9⟩ => ?_
        subst e9
        exact later I9 (hN' _ _ w8)
  exact codeAny_compStart_list loop (T.self _ 0 _ _ _ st1 loop)

theorem pe_comp (hc : X.calm = true) (S : CompScope sc scope NX N ix) (hi : PI X tg iter wi)
    (hg : ∀ C s H fp, PG (cxComp X N scope C s H fp) tg (g C s H fp)) (ht : ∀ C s H fp, PTL (cxComp X N scope C s H fp) ifs (tt C s H fp)) (he : ∀ C s H fp, PE (cxComp X N scope C s H fp) elt (te C s H fp))
    (hsc : X.env.scope = sc := by rfl) (hNX : X.N = NX := by rfl) (hs : ∀ x, foldedSetIterable iter X.env x = pure x := by intro _; rfl) :
    PE X (.ListComp elt [⟨tg, iter, ifs, 0⟩] scope pos) (tComp wi g tt te ix) := by
  intro pins s σ H Q I h
  rw [eval_ListComp]
  have hcells : closureFor scope X.env = pure (clOf X.env scope.names []) := closure_of fun y hy hk => by
    refine I.ok.has y.1 ?_
    show X.env.scope.names.lookup y.1 = some .cell ∨ X.env.scope.names.lookup y.1 = some .free
    rw [hsc]
    exact S.free y hy hk
  refine wpAny_comprehension_free (use := none) rfl hs hcells S.kind S.names (thn (hi pins s σ H _ I h) fun v s1 h1 => thn h1 fun itv s2 h2 => ?_)
  obtain ⟨it, fp, tn, J, H2, e, I2, T, st2, f2, hq⟩ := h2
  subst e
  refine comp_block (Q := Q) (RR := fun acc C => compPost (model X.prog X.w) X.A X.xe none (EP X pins σ Q) acc C) hc hsc hNX S hg ht he I2 T st2 f2 hq ?_
  intro p C s' H' m hp hC hn hfree q I'
  exact ⟨m, hn, fun h'' hs'' => ⟨.ref p, H', I'.gone I2 hC hfree hs'', rfl, q⟩⟩
theorem ps_setComp {i : Nat} {y : Str} {py spos : Pos} (hN : X.N.Nodup) (hy : X.N[i]? = some y) (hl : X.env.scope.names.lookup y = some .local) (hc : X.calm = true) (S : CompScope sc scope NX N ix) (hi : PI X tg iter wi)
    (hg : ∀ C s H fp, PG (cxComp X N scope C s H fp) tg (g C s H fp)) (ht : ∀ C s H fp, PTL (cxComp X N scope C s H fp) ifs (tt C s H fp)) (he : ∀ C s H fp, PE (cxComp X N scope C s H fp) elt (te C s H fp))
    (hsw : swapsWith (.ListComp elt [⟨tg, iter, ifs, 0⟩] scope pos) (some (.Name y py)) spos.line X.env = pure true := by rfl)
    (hsc : X.env.scope = sc := by rfl) (hNX : X.N = NX := by rfl) (hs : ∀ x, foldedSetIterable iter X.env x = pure x := by intro _; rfl) :
    PS X (.Assign [.Name y py] (.ListComp elt [⟨tg, iter, ifs, 0⟩] scope pos) spos) (tAsg (tComp wi g tt te ix) (gName i)) := by
  intro pins s σ H D I h
  rw [exec_Assign_Name_used _ _ _ _ hsw]
  have hcells : closureFor scope X.env = pure (clOf X.env scope.names []) := closure_of fun z hz hk => by
    refine I.ok.has z.1 ?_
    show X.env.scope.names.lookup z.1 = some .cell ∨ X.env.scope.names.lookup z.1 = some .free
    rw [hsc]
    exact S.free z hz hk
  refine wpAny_bind (wpAny_standAt (wpAny_bind ?_))
  show wpAny _ X.A (do let _ ← comprehension (.ListComp elt [⟨tg, iter, ifs, 0⟩] scope pos) scope X.env _ (newList []) false (eval iter X.env) (some (assign (.Name y py) X.env))) _ _ s
  refine wpAny_bind (thn (wpAny_comprehension_free (use := some (assign (.Name y py) X.env)) (Q := fun _ s' => SP X pins D .next s') rfl hs hcells S.kind S.names (thn (hi pins s σ H _ I h) fun v s1 h1 => thn h1 fun itv s2 h2 => ?_)) fun _ s' q => wpAny_pure (wpAny_pure q))
  obtain ⟨it, fp, tn, J, H2, e, I2, T, st2, f2, hq⟩ := h2
  subst e
  refine comp_block (Q := fun x H1 => gName i x σ H1 D.nx) (RR := fun acc C => compPost (model X.prog X.w) X.A X.xe (some (assign (.Name y py) X.env)) (fun _ s' => SP X pins D .next s') acc C) hc hsc hNX S hg ht he I2 T st2 f2 hq ?_
  intro p C s' H' m hp hC hn hfree q I'
  refine wpAny_assign_Name (store_ok2 (v := .ref p) I' hN hy (.inl hl) rfl (fun s'' I'' ⟨a, hsb, ha⟩ => ?_) (.inr hl))
  have ne : C ≠ a := by
    rcases ha with rfl | ha
    · exact Nat.ne_of_gt (Nat.lt_of_lt_of_le I2.lt hC)
    · obtain ⟨v, o, ho, _⟩ := I2.cell y a ha
      exact Nat.ne_of_gt (Nat.lt_of_lt_of_le (Heap.lt_size ho) hC)
  exact ⟨m, hn.sameBut hsb ne, fun h'' hs'' => ⟨_, H', I''.gone I2 hC hfree hs'', q⟩⟩
end

/-! ### the forms one uses: W from a word over the turn, the new list, the heap -/
section
variable {g : CF TG} {tt : CF TT} {te : CF TE} {σ₀ : St} {p : Addr} {Q : VK} {H : Hp}
theorem comp_of {J : It} {n : Nat} {Y : Nat → Hp → V → Hp → Prop} (Pv : Nat → List V → Hp → Prop) (h0 : Pv 0 [] (upd H p (.lst []))) (hp : ∀ i acc H, i ≤ n → Pv i acc H → H p = some (.lst acc) ∧ acc.length ≤ i) (hz : n ≤ sizeLine)
    (hgo : ∀ i acc H, i < n → Pv i acc H → J.go i H) (hst : ∀ acc H, Pv n acc H → J.stop n H) (hy : ∀ i acc H x H1, i < n → Pv i acc H → J.yld i H x H1 → Y i H x H1)
    (hs : ∀ C s' H' fp, ∀ i x acc H H1, i < n → Pv i acc H → Y i H x H1 → g C s' H' fp x σ₀ H1 fun σ2 H2 => tt C s' H' fp σ2 H2 fun b H3 => if b = true then te C s' H' fp σ2 H3 fun y H4 => H4 p = some (.lst acc) ∧ Pv (i + 1) (acc ++ [y]) (upd H4 p (.lst (acc ++ [y]))) else Pv (i + 1) acc H3)
    (hd : ∀ acc H, Pv n acc H → Q (.ref p) H) :
    ∃ W : Nat → Nat → List V → Hp → Prop, (∃ m, W 0 m [] (upd H p (.lst []))) ∧ ∀ C s' H' fp, CompBody J (g C s' H' fp) (tt C s' H' fp) (te C s' H' fp) σ₀ p Q W := by
  refine ⟨fun i m acc H => m = n - i ∧ i ≤ n ∧ Pv i acc H, ⟨n, by simp, Nat.zero_le _, h0⟩, ?_⟩
  rintro C s' H' fp i m acc H ⟨rfl, hi, w⟩
  obtain ⟨h1, h2⟩ := hp i acc H hi w
  refine ⟨h1, ?_⟩
  by_cases hlt : i < n
  · exact .inr ⟨hgo i acc H hlt w, by omega, Pv (i + 1), fun acc' H' q => ⟨n - (i + 1), by omega, rfl, hlt, q⟩, fun x H1 y => hs C s' H' fp i x acc H H1 hlt w (hy i acc H x H1 hlt w y)⟩
  · have e : i = n := by omega
    subst e
    exact .inl ⟨hst acc H w, hd acc H w⟩
theorem comp_list {K : PySem.W.Frag} {a : Addr} {xs : List V} (Pv : Nat → List V → Hp → Prop) (h0 : Pv 0 [] (upd H p (.lst []))) (hp : ∀ i acc H, i ≤ xs.length → Pv i acc H → H p = some (.lst acc) ∧ acc.length ≤ i) (hl : ∀ i acc H, i ≤ xs.length → Pv i acc H → SqL K H a xs) (hz : xs.length ≤ sizeLine)
    (hs : ∀ C s' H' fp, ∀ i x acc H, xs[i]? = some x → Pv i acc H → g C s' H' fp x σ₀ H fun σ2 H2 => tt C s' H' fp σ2 H2 fun b H3 => if b = true then te C s' H' fp σ2 H3 fun y H4 => H4 p = some (.lst acc) ∧ Pv (i + 1) (acc ++ [y]) (upd H4 p (.lst (acc ++ [y]))) else Pv (i + 1) acc H3)
    (hd : ∀ acc H, Pv xs.length acc H → Q (.ref p) H) :
    ∃ W : Nat → Nat → List V → Hp → Prop, (∃ m, W 0 m [] (upd H p (.lst []))) ∧ ∀ C s' H' fp, CompBody (Itl K a) (g C s' H' fp) (tt C s' H' fp) (te C s' H' fp) σ₀ p Q W :=
  comp_of (Y := fun i H x H1 => H1 = H ∧ xs[i]? = some x) Pv h0 hp hz (fun i acc H hi w => ⟨xs, xs[i], hl i acc H (Nat.le_of_lt hi) w, by simp [hi]⟩) (fun acc H w => ⟨xs, hl _ acc H (Nat.le_refl _) w, Nat.le_refl _⟩)
    (fun i acc H x H1 hi w y => ⟨y.1, y.2 xs (hl i acc H (Nat.le_of_lt hi) w)⟩) (fun C s' H' fp i x acc H H1 hi w y => by
      obtain ⟨e, y⟩ := y
      subst e
      exact hs C s' H' fp i x acc _ y w) hd
theorem comp_tup {K : PySem.W.Frag} {a : Addr} {xs : List V} (Pv : Nat → List V → Hp → Prop) (h0 : Pv 0 [] (upd H p (.lst []))) (hp : ∀ i acc H, i ≤ xs.length → Pv i acc H → H p = some (.lst acc) ∧ acc.length ≤ i) (hl : ∀ i acc H, i ≤ xs.length → Pv i acc H → SqT K H a xs) (hz : xs.length ≤ sizeLine)
    (hs : ∀ C s' H' fp, ∀ i x acc H, xs[i]? = some x → Pv i acc H → g C s' H' fp x σ₀ H fun σ2 H2 => tt C s' H' fp σ2 H2 fun b H3 => if b = true then te C s' H' fp σ2 H3 fun y H4 => H4 p = some (.lst acc) ∧ Pv (i + 1) (acc ++ [y]) (upd H4 p (.lst (acc ++ [y]))) else Pv (i + 1) acc H3)
    (hd : ∀ acc H, Pv xs.length acc H → Q (.ref p) H) :
    ∃ W : Nat → Nat → List V → Hp → Prop, (∃ m, W 0 m [] (upd H p (.lst []))) ∧ ∀ C s' H' fp, CompBody (Itt K a) (g C s' H' fp) (tt C s' H' fp) (te C s' H' fp) σ₀ p Q W :=
  comp_of (Y := fun i H x H1 => H1 = H ∧ xs[i]? = some x) Pv h0 hp hz (fun i acc H hi w => ⟨xs, xs[i], hl i acc H (Nat.le_of_lt hi) w, by simp [hi]⟩) (fun acc H w => ⟨xs, hl _ acc H (Nat.le_refl _) w, Nat.le_refl _⟩)
    (fun i acc H x H1 hi w y => ⟨y.1, y.2 xs (hl i acc H (Nat.le_of_lt hi) w)⟩) (fun C s' H' fp i x acc H H1 hi w y => by
      obtain ⟨e, y⟩ := y
      subst e
      exact hs C s' H' fp i x acc _ y w) hd
theorem comp_range {lo : Int} {n : Nat} (Pv : Nat → List V → Hp → Prop) (h0 : Pv 0 [] (upd H p (.lst []))) (hp : ∀ i acc H, i ≤ n → Pv i acc H → H p = some (.lst acc) ∧ acc.length ≤ i) (hz : n ≤ sizeLine)
    (hs : ∀ C s' H' fp, ∀ i acc H, i < n → Pv i acc H → g C s' H' fp (.int (lo + i)) σ₀ H fun σ2 H2 => tt C s' H' fp σ2 H2 fun b H3 => if b = true then te C s' H' fp σ2 H3 fun y H4 => H4 p = some (.lst acc) ∧ Pv (i + 1) (acc ++ [y]) (upd H4 p (.lst (acc ++ [y]))) else Pv (i + 1) acc H3)
    (hd : ∀ acc H, Pv n acc H → Q (.ref p) H) :
    ∃ W : Nat → Nat → List V → Hp → Prop, (∃ m, W 0 m [] (upd H p (.lst []))) ∧ ∀ C s' H' fp, CompBody (Itr lo n) (g C s' H' fp) (tt C s' H' fp) (te C s' H' fp) σ₀ p Q W :=
  comp_of (Y := fun i H x H1 => H1 = H ∧ x = .int (lo + i)) Pv h0 hp hz (fun i acc H hi w => hi) (fun acc H w => Nat.le_refl _) (fun i acc H x H1 hi w y => y) (fun C s' H' fp i x acc H H1 hi w y => by
      obtain ⟨e, e2⟩ := y
      subst e e2
      exact hs C s' H' fp i acc _ hi w) hd
end
end L2

end

section
-- KcIter
set_option Elab.async false
set_option linter.all false
set_option maxRecDepth 100000
set_option maxHeartbeats 4000000
namespace L2
open PySem PySem.Spec PyProof.Rows

/-! ### drawing from a tuple's iterator inside enumerate and zip -/
section
variable {prog : Program} {w : World} {A : Around} {E : Value → Shared → Prop} {s : Shared}
theorem draw_tuple_item {jt t : Addr} {i : Nat} {its : Array Value} {y : Value} {Q : Value → Shared → Prop} (h1 : s.heap.IsTupleIter jt t i) (h2 : s.heap.IsTuple t its) (hy : its[i]? = some y)
    (k : ∀ h', h'.IsTupleIter jt t (i + 1) → Heap.SameBut jt s.heap h' → Q y { s with heap := h' }) : wpAny (model prog w) A (Builtin.SmallTypes.nextOf (.ref jt)) Q E s := by
  obtain ⟨o, ho, hc, hd⟩ := id h1
  obtain ⟨ot, hot, _, nt, hdt⟩ := h2
  unfold Builtin.SmallTypes.nextOf
  refine wpAny_bind (wpAny_callSpecial?_slot (name := Str.ofString "__next__") h1.typeIs F.slot_tuple_iterator_next (wpAny_call_entry F.slot_tuple_iterator_next h1.typeIs F.entry_tuple_iterator_next ?_ (F.args_tuple_iterator_next_1 _)))
  show wpAny _ _ (field (.ref jt) 0 >>= _) _ _ s
  refine wpAny_bind (wpAny_field ho hd (x := .ref t) rfl ?_)
  show wpAny _ _ (if (Value.ref t == Value.none) = true then _ else _) _ _ s
  rw [if_neg (show ¬ ((Value.ref t == Value.none) = true) from Bool.false_ne_true)]
  show wpAny _ _ (field (.ref jt) 1 >>= _) _ _ s
  refine wpAny_bind (wpAny_field ho hd (x := .int i 0) rfl ?_)
  show wpAny _ _ (seqItems? (.ref t) >>= _) _ _ s
  refine wpAny_bind (wpAny_seqItems hot hdt ?_)
  simp only [Int.toNat_natCast, hy]
  refine wpAny_bind (wpAny_setField ho hd (by simp) (wpAny_pure ⟨y, rfl, wpAny_pure (k _ ?_ (Heap.SameBut.update ..))⟩))
  exact ⟨_, Heap.get?_update_self _ ho (Obj.isFreed_of_fields (Obj.data_mapFields hd _)), (Obj.cls_mapFields ..).trans hc, by rw [Obj.data_mapFields hd]; simp [rawInt]⟩
theorem draw_tuple_end {jt t : Addr} {i : Nat} {its : Array Value} {Q : Value → Shared → Prop} (hh : A.handled = none) (h1 : s.heap.IsTupleIter jt t i) (h2 : s.heap.IsTuple t its) (hy : its[i]? = none)
    (k : ∀ h' e, Heap.ExtBut jt s.heap h' → (∃ o, h'.get? e = some o ∧ o.cls = .type "StopIteration") → E (.ref e) { s with heap := h' }) : wpAny (model prog w) A (Builtin.SmallTypes.nextOf (.ref jt)) Q E s := by
  obtain ⟨o, ho, hc, hd⟩ := id h1
  obtain ⟨ot, hot, _, nt, hdt⟩ := h2
  unfold Builtin.SmallTypes.nextOf
  refine wpAny_bind (wpAny_callSpecial?_slot (name := Str.ofString "__next__") h1.typeIs F.slot_tuple_iterator_next (wpAny_call_entry F.slot_tuple_iterator_next h1.typeIs F.entry_tuple_iterator_next ?_ (F.args_tuple_iterator_next_1 _)))
  show wpAny _ _ (field (.ref jt) 0 >>= _) _ _ s
  refine wpAny_bind (wpAny_field ho hd (x := .ref t) rfl ?_)
  show wpAny _ _ (if (Value.ref t == Value.none) = true then _ else _) _ _ s
  rw [if_neg (show ¬ ((Value.ref t == Value.none) = true) from Bool.false_ne_true)]
  show wpAny _ _ (field (.ref jt) 1 >>= _) _ _ s
  refine wpAny_bind (wpAny_field ho hd (x := .int i 0) rfl ?_)
  show wpAny _ _ (seqItems? (.ref t) >>= _) _ _ s
  refine wpAny_bind (wpAny_seqItems hot hdt ?_)
  simp only [Int.toNat_natCast, hy]
  refine wpAny_bind (wpAny_rule (wpAny_bind (wpAny_setField ho hd (by simp) ?_)))
  show wpAny _ _ (newExc (.type "StopIteration") [] >>= _) _ _ _
  refine wpAny_bind ?_
  simp only [newExc, newTuple]
  refine wpAny_bind (wpAny_newObj_type ?_ (by size_fits))
  refine wpAny_bind (m := firstArgMember _ _) (wpAny_of_eq (a := Value.none) (by first | rfl | (simp only [firstArgMember]; rfl)) ?_)
  refine wpAny_newObj_type ?_ (by size_fits)
  simp only [raiseNew]
  refine wpAny_bind (wpAny_handled ?_)
  first | rw [show A.in1.handled = none from hh] | rw [hh]
  refine wpAny_bind (wpAny_pure (wpAny_throw ?_))
  exact k _ _ (((Heap.SameBut.update ..).extBut.push _).push _) ⟨_, Heap.get?_push_size _ rfl, rfl⟩
end
theorem draws_tuple {prog : Program} {w : World} {A : Around} (hh : A.handled = none) (jt t : Addr) (hne : t ≠ jt) (its : Array Value) :
    Draws prog w A jt [jt, t] its.size (fun i v => its[i]? = some v) (fun i h => h.IsTupleIter jt t i ∧ h.IsTuple t its) where
  live := fun _ _ st => let ⟨o, ho, _⟩ := st.1; ⟨o, ho⟩
  frame := fun _ _ _ st hk => ⟨st.1.at fun o e => hk jt (by simp) o e, let ⟨o, ho, r⟩ := st.2; ⟨o, hk t (by simp) o ho, r⟩⟩
  item := fun i s Q E hi st hQ => draw_tuple_item st.1 st.2 (y := its[i]) (by simp [hi]) fun h' a b => hQ _ h' s.toks (by simp [hi]) ⟨a, st.2.extBut b.extBut hne⟩ b
  done := fun s Q E st hE => draw_tuple_end hh st.1 st.2 (by simp) hE

theorem Inv.offBase {X : Cx} {pins : List (Addr × Obj)} {σ : St} {H : Hp} {s : Shared} {c : Addr} {o : Obj} (I : Inv X pins σ H s) (f : FpOk X pins H c) (e : X.base.get? c = some o) : False := by
  rcases f.2.2.2.1 with z | z
  · exact I.ok.noex c o e z
  · exact absurd (Nat.lt_of_lt_of_le (Heap.lt_size e) (Nat.le_trans I.ok.bsz z)) (Nat.lt_irrefl _)
/-! ### the sources: lists and tuples in one -/
structure Src where
  Sq : PySem.W.Frag → Hp → Addr → List V → Prop
  Is : Heap → Addr → Array Value → Prop
  It : Heap → Addr → Addr → Nat → Prop
  icls : String
  get : ∀ {X : Cx} {pins : List (Addr × Obj)} {σ : St} {H : Hp} {s : Shared} {a : Addr} {xs : List V}, Inv X pins σ H s → Sq X.K H a xs → ∃ its : List Value, Vals xs its ∧ Is s.heap a its.toArray ∧ xs.length ≤ sizeLine
  inj : ∀ {X : Cx} {pins : List (Addr × Obj)} {σ : St} {H : Hp} {s : Shared} {a : Addr} {xs ys : List V}, Inv X pins σ H s → Sq X.K H a xs → Sq X.K H a ys → xs = ys
  off : ∀ {X : Cx} {pins : List (Addr × Obj)} {σ : St} {H : Hp} {s : Shared} {a c : Addr} {xs : List V}, Inv X pins σ H s → Sq X.K H a xs → FpOk X pins H c → c ≠ a
  isSeq : ∀ {h : Heap} {a : Addr} {its : Array Value}, Is h a its → ∃ o n, h.get? a = some o ∧ o.data = .seq its n
  isIt : ∀ {h : Heap} {jt a : Addr} {i : Nat}, It h jt a i → ∃ o, h.get? jt = some o ∧ o.cls = .type icls ∧ o.data = .fields #[.ref a, .int i 0]
  mkI : ∀ {h : Heap} {jt a : Addr} {i : Nat} {o : Obj}, h.get? jt = some o → o.cls = .type icls → o.data = .fields #[.ref a, .int i 0] → It h jt a i
  itKeep : ∀ {h h' : Heap} {jt a : Addr} {i : Nat}, It h jt a i → (∀ o, h.get? jt = some o → h'.get? jt = some o) → It h' jt a i
  isKeep : ∀ {h h' : Heap} {a : Addr} {its : Array Value}, Is h a its → (∀ o, h.get? a = some o → h'.get? a = some o) → Is h' a its
  draws : ∀ {prog : Program} {w : World} {A : Around}, A.handled = none → ∀ (jt a : Addr), a ≠ jt → ∀ its : Array Value, Draws prog w A jt [jt, a] its.size (fun i v => its[i]? = some v) (fun i h => It h jt a i ∧ Is h a its)
  iter : ∀ {prog : Program} {w : World} {A : Around} {E : Value → Shared → Prop} {s : Shared} {a : Addr} {its : Array Value} {Q : Value → Shared → Prop}, Is s.heap a its →
    Q (.ref s.heap.objs.size) { s with heap := s.heap.push { cls := .type icls, data := .fields #[.ref a, .int 0 0] } } → wpAny (model prog w) A (pyIter (.ref a)) Q E s
noncomputable def srcL : Src where
  Sq := SqL
  Is := fun h a its => h.IsList a its
  It := fun h jt a i => h.IsListIter jt a i
  icls := "list_iterator"
  get := fun I h => let ⟨its, r, p, z⟩ := I.list h; ⟨its, r, p.isList, z⟩
  inj := fun I h h' => I.list_inj h h'
  off := fun {X pins σ H s a c xs} I h f e => by
    subst e
    rcases h with (h | ⟨o, h⟩) | ⟨o, its, n, hk, _⟩
    · rw [f.1] at h; cases h
    · rw [f.1] at h; cases h
    · exact I.offBase f (I.ok.mod.kin _ _ hk)
  isSeq := fun h => let ⟨o, ho, _, n, hd⟩ := h; ⟨o, n, ho, hd⟩
  isIt := fun h => h
  mkI := fun h1 h2 h3 => ⟨_, h1, h2, h3⟩
  itKeep := fun h k => h.at k
  isKeep := fun h k => h.at k
  draws := fun hh jt a hne its => Draws.list hh jt a hne its
  iter := fun h q => wpAny_pyIter_list h q
noncomputable def srcT : Src where
  Sq := SqT
  Is := fun h a its => h.IsTuple a its
  It := fun h jt a i => h.IsTupleIter jt a i
  icls := "tuple_iterator"
  get := fun I h => let ⟨its, r, p, z⟩ := I.tuple h; ⟨its, r, p, z⟩
  inj := fun I h h' => I.tuple_inj h h'
  off := fun {X pins σ H s a c xs} I h f e => by
    subst e
    rcases h with (h | ⟨o, h⟩) | ⟨o, its, n, hk, _⟩
    · rw [f.1] at h; cases h
    · rw [f.1] at h; cases h
    · exact I.offBase f (I.ok.mod.kin _ _ hk)
  isSeq := fun h => let ⟨o, ho, _, n, hd⟩ := h; ⟨o, n, ho, hd⟩
  isIt := fun h => h
  mkI := fun h1 h2 h3 => ⟨_, h1, h2, h3⟩
  itKeep := fun h k => h.at k
  isKeep := fun h k => let ⟨o, ho, r⟩ := h; ⟨o, k o ho, r⟩
  draws := fun hh jt a hne its => draws_tuple hh jt a hne its
  iter := fun h q => wpAny_pyIter_tuple h q

/-! ### untracked records turn, a new object is laid -/
theorem Inv.turns {X : Cx} {pins : List (Addr × Obj)} {σ : St} {H : Hp} {s : Shared} {h' : Heap} {t' : Nat} {ch : List Addr} {T : Addr} {o : HO} (I : Inv X pins σ H s) (hf : ∀ b ∈ ch, FpOk X pins H b)
    (k : ∀ b ob, b ∉ ch → s.heap.get? b = some ob → h'.get? b = some ob) (hT : s.heap.objs.size ≤ T) (new : ObjOk X.prog X.w (upd H T o) h' T o) : Inv X pins σ (upd H T o) { s with heap := h', toks := t' } := by
  have hn : H T = none := I.hok.fresh hT
  have nc : ∀ b u, H b = some u → b ∉ ch := fun b u e z => by
    have := (hf b z).1
    rw [e] at this
    cases this
  refine I.step (g' := s.gens) (d' := s.drawn) (ch := ch) (fun b hb => ⟨(hf b hb).2.2.2.1, (hf b hb).2.1, (hf b hb).2.2.2.2.1, (hf b hb).2.2.2.2.2⟩) (fun b ob _ _ hc e _ => k b ob hc e) (fun b ob _ _ hc e _ => ⟨ob.slots, k b ob hc e⟩)
    (fun b ob _ e n => ?_) (fun b ob hc e => ⟨ob, k b ob hc e⟩) (fun b xs e => ?_) (fun b ob xs e => ?_) (fun b ps e => ⟨#[], ?_⟩) (fun m hm => ?_) (fun b u e => ?_) I.bare
  · rw [upd_ne (ltNe (Heap.lt_size e) hT)]
    exact n
  · rw [upd_ne (ne_of_none e hn)]
    exact e
  · rw [upd_ne (ne_of_none e hn)]
    exact e
  · rw [upd_ne (ne_of_none e hn), e]
    simp
  · obtain ⟨ob, es, ep, ho, r⟩ := hm
    exact ⟨ob, es, ep, k _ ob (fun z => (hf _ z).2.1 rfl) ho, r⟩
  · by_cases hb : b = T
    · subst hb
      rw [upd_same] at e
      cases e
      exact new
    · rw [upd_ne hb] at e
      refine (I.hok b u e).stay (fun c v hc q => k c v ?_ q) (fun c q => by rw [upd_ne (ne_of_none q hn)]; exact q) fun c xs q => by rw [upd_ne (ne_of_none q hn)]; exact q
      rcases hc with z | z
      · rw [z]; exact nc b u e
      · exact nc c _ z
theorem Inv.turnsN {X : Cx} {pins : List (Addr × Obj)} {σ : St} {H : Hp} {s : Shared} {h' : Heap} {t' : Nat} {ch : List Addr} (I : Inv X pins σ H s) (hf : ∀ b ∈ ch, FpOk X pins H b)
    (k : ∀ b ob, b ∉ ch → s.heap.get? b = some ob → h'.get? b = some ob) : Inv X pins σ H { s with heap := h', toks := t' } := by
  have nc : ∀ b u, H b = some u → b ∉ ch := fun b u e z => by
    have := (hf b z).1
    rw [e] at this
    cases this
  refine I.step (g' := s.gens) (d' := s.drawn) (ch := ch) (fun b hb => ⟨(hf b hb).2.2.2.1, (hf b hb).2.1, (hf b hb).2.2.2.2.1, (hf b hb).2.2.2.2.2⟩) (fun b ob _ _ hc e _ => k b ob hc e) (fun b ob _ _ hc e _ => ⟨ob.slots, k b ob hc e⟩)
    (fun b ob _ e n => n) (fun b ob hc e => ⟨ob, k b ob hc e⟩) (fun b xs e => e) (fun b ob xs e => e) (fun b ps e => ⟨#[], by rw [e]; simp⟩) (fun m hm => ?_) (fun b u e => ?_) I.bare
  · obtain ⟨ob, es, ep, ho, r⟩ := hm
    exact ⟨ob, es, ep, k _ ob (fun z => (hf _ z).2.1 rfl) ho, r⟩
  · refine (I.hok b u e).stay (fun c v hc q => k c v ?_ q) (fun c q => q) fun c xs q => q
    rcases hc with z | z
    · rw [z]; exact nc b u e
    · exact nc c _ z

/-! ### enumerate, its tuples unpacked -/
noncomputable def Ite (S : Src) (K : PySem.W.Frag) (a : Addr) : It :=
  ⟨fun i H => ∃ xs x, S.Sq K H a xs ∧ xs[i]? = some x, fun i H x H' => ∃ T v, H T = none ∧ x = .ref T ∧ H' = upd H T (.tup [.int i, v]) ∧ ∀ xs, S.Sq K H a xs → xs[i]? = some v, fun i H => ∃ xs, S.Sq K H a xs ∧ xs.length = i⟩
theorem turn_enum {P : Program} {w : World} {K : PySem.W.Frag} {elts : List Expr} {k0 : Nat} {pos : Pos} (S : Src) (a e it : Addr) (hl : S.icls ≠ "enumerate") :
    Turn P w K (.Tuple elts k0 pos) (Ite S K a) [e, it] e (fun i h => (∃ old, IsEnum h e it i old) ∧ S.It h it a i) where
  mem := by simp
  obj := fun i h st b hb => by
    obtain ⟨⟨old, he⟩, hi⟩ := st
    rcases List.mem_cons.mp hb with rfl | hb
    · exact ⟨_, he, fun v z => nomatch z⟩
    · obtain rfl := List.mem_singleton.mp hb
      obtain ⟨o, ho, _, hd⟩ := S.isIt hi
      exact ⟨o, ho, fun v z => by rw [hd] at z; cases z⟩
  keep := fun i h h' st k => by
    obtain ⟨⟨old, he⟩, hi⟩ := st
    exact ⟨⟨old, k e (by simp) _ he⟩, S.itKeep hi fun o q => k it (by simp) o q⟩
  item := by
    intro X hP hw hK hc i pins s σ H E I hf st hg
    subst hP hw hK
    obtain ⟨xs, x, hq, hx⟩ := hg
    obtain ⟨its, rv, p, hz⟩ := S.get I hq
    obtain ⟨⟨old, he⟩, hi⟩ := st
    obtain ⟨u, hu, ru⟩ := rv.get hx
    obtain ⟨oa, na, hoa, hda⟩ := S.isSeq p
    obtain ⟨oi, hoi, hci, hdi⟩ := S.isIt hi
    have nei : e ≠ it := fun z => by
      have he' : s.heap.get? e = some _ := he
      rw [z, hoi] at he'
      cases he'
      exact hl (by simpa using hci.symm)
    have nae : e ≠ a := S.off I hq (hf e (by simp))
    have nai : a ≠ it := fun z => by
      rw [z, hoi] at hoa
      cases hoa
      rw [hdi] at hda
      cases hda
    have hlt : i < its.toArray.size := by
      have := (List.getElem?_eq_some_iff.mp hu).1
      simpa using this
    refine wpAny_pyNext_enum_itemD (S.draws (A := X.A.in1) (show X.A.in1.handled = none from I.ok.hd hc) it a nai its.toArray) he ⟨hi, p⟩ hlt nei (by simp [nei, nae]) fun y h1 tk hP ho hs1 hT hsz hk => ⟨_, rfl, ?_⟩
    have hy : y = u := by
      have : its.toArray[i]? = some u := by simpa using hu
      rw [this] at hP
      exact (Option.some.inj hP).symm
    subst hy
    refine wpAny_letOwnedTupleGo_enum ho fun h2 he2 hs2 => ?_
    have elt : e < s.heap.objs.size := Heap.lt_size he
    have hT2 : h2.get? s.heap.objs.size = some { cls := .type "tuple", data := .seq #[.int i tk, y] } := hs2.extBut _ _ (neLt (Nat.le_refl _) elt) hT
    have kept : ∀ b ob, b ∉ [e, it] → s.heap.get? b = some ob → h2.get? b = some ob := fun b ob hb q => by
      have h1' : b ≠ e := fun z => hb (by simp [z])
      exact hs2.extBut _ _ h1' (hk b ob h1' (fun z => hb (by simp [z])) q)
    refine ⟨.ref s.heap.objs.size, upd H s.heap.objs.size (.tup [.int i, x]), ?_, rfl, ⟨_, x, I.fresh, rfl, rfl, fun ys hy => by rw [S.inj I hy hq]; exact hx⟩, ⟨⟨_, he2⟩, S.itKeep hs1.1 fun o q => hs2.extBut _ _ (Ne.symm nei) q⟩, fun b hb => ?_⟩
    · refine I.turns (t' := tk + 1) hf kept (Nat.le_refl _) ⟨(by show 2 ≤ sizeLine; decide), [.int i tk, y], .cons ⟨tk, rfl⟩ (.cons ru .nil), _, hT2, rfl, ⟨0, rfl⟩, rfl⟩
    · have lt : b < s.heap.objs.size := by
        rcases List.mem_cons.mp hb with rfl | hb
        · exact elt
        · obtain rfl := List.mem_singleton.mp hb
          exact Heap.lt_size hoi
      rw [upd_ne (ltNe lt (Nat.le_refl _))]
      exact (hf b hb).1
  done := by
    intro X hP hw hK hc i pins s σ H E I hf st hg
    subst hP hw hK
    obtain ⟨xs, hq, hx⟩ := hg
    obtain ⟨its, rv, p, hz⟩ := S.get I hq
    obtain ⟨⟨old, he⟩, hi⟩ := st
    obtain ⟨oa, na, hoa, hda⟩ := S.isSeq p
    obtain ⟨oi, hoi, hci, hdi⟩ := S.isIt hi
    have nai : a ≠ it := fun z => by
      rw [z, hoi] at hoa
      cases hoa
      rw [hdi] at hda
      cases hda
    have hsz : i = its.toArray.size := by
      have := rv.length
      simp only [List.size_toArray]
      omega
    subst hsz
    exact wpAny_pyNext_enum_endD (S.draws (A := X.A.in1) (show X.A.in1.handled = none from I.ok.hd hc) it a nai its.toArray) he ⟨hi, p⟩ fun h' hx' => ⟨rfl, I.turnsN (t' := s.toks) hf fun b ob hb q => hx' b ob (fun z => hb (by simp [z])) q⟩
  self := fun _ _ _ _ _ st h => by
    obtain ⟨⟨old, he⟩, _⟩ := st
    exact wpAny_pyIter_enum he h
section
variable {X : Cx} {elts : List Expr} {k0 : Nat} {tpos : Pos}
theorem new_enum (S : Src) (l : Addr) (its : Array Value) :
    Meets (Builtin.«enumerate.__new__» ⟨[.type "enumerate", .ref l], []⟩) (fun _ R s => S.Is s.heap l its ∧
      R (.ok (.ret (.ref (s.heap.push { cls := .type S.icls, data := .fields #[.ref l, .int 0 0] }).objs.size)))
        { s with heap := (s.heap.push { cls := .type S.icls, data := .fields #[.ref l, .int 0 0] }).push { cls := .type "enumerate", data := .fields #[.none, .bool false, .ref s.heap.objs.size, rawInt 0, .none, .none] } }) :=
  .of_wp fun prog w A R s h => by
    obtain ⟨hp, g, d, tk, os⟩ := s
    obtain ⟨hl, h⟩ := h
    have hsub := sub_enumerate
    have hL : S.Is (Shared.heap ⟨hp, g, d, tk, os⟩) l its := hl
    wp_walk
    refine wpAny_stack_any fun st => wpAny_pure ?_
    split
    · rename_i c _ _ _ _ _
      cases (c == Value.type "enumerate")
      · wp_walk using S.iter hL
        exact ⟨_, rfl, h⟩
      · wp_walk using S.iter hL
        exact ⟨_, rfl, h⟩
    · wp_walk using S.iter hL
      exact ⟨_, rfl, h⟩
theorem call_enum (S : Src) {prog : Program} {w : World} {A : Around} {E : Value → Shared → Prop} {s : Shared} {l : Addr} {its : Array Value} {Q : Value → Shared → Prop} (hL : S.Is s.heap l its)
    (h : ∀ h', IsEnum h' (s.heap.objs.size + 1) s.heap.objs.size 0 .none → S.It h' s.heap.objs.size l 0 → (∀ b o, s.heap.get? b = some o → h'.get? b = some o) → Q (.ref (s.heap.objs.size + 1)) { s with heap := h' }) :
    wpAny (model prog w) A (call (.type "enumerate") [.ref l]) Q E s := by
  refine callType_new F.called_enumerate (by decide) (F.typeCall_enumerate_1 _) (F.newCall_enumerate_1 _) (fun obj => F.args_object_init_2 obj _) F.entry_enumerate_new (new_enum S l its) ⟨hL, ?_⟩
  have hz : (s.heap.push { cls := .type S.icls, data := .fields #[.ref l, .int 0 0] }).objs.size = s.heap.objs.size + 1 := Heap.size_push ..
  show _ ∧ _
  rw [hz]
  have he := Heap.get?_push_size (s.heap.push { cls := .type S.icls, data := .fields #[.ref l, .int 0 0] }) (o := { cls := .type "enumerate", data := .fields #[.none, .bool false, .ref s.heap.objs.size, rawInt 0, .none, .none] }) rfl
  rw [hz] at he
  exact ⟨⟨_, he, rfl⟩, h _ he (S.mkI (Heap.get?_push_of_some _ (Heap.get?_push_size _ rfl)) rfl rfl) fun b o q => Heap.get?_push_of_some _ (Heap.get?_push_of_some _ q)⟩
noncomputable def iEnum (S : Src) (K : PySem.W.Frag) (ta : TA) : TI := fun σ H R => ta σ H fun vs H1 => ∃ a xs, vs = [.ref a] ∧ S.Sq K H1 a xs ∧ R (Ite S K a) H1
theorem pi_enum (S : Src) {a : Expr} {ta : TA} {p pos : Pos} (hg : Gl X "enumerate") (hm : X.mg "enumerate" = none) (hS : S.icls ≠ "enumerate") (ha : PA X [a] ta) (hs : starEach [a] X.env = [(false, eval a X.env)] := by rfl) :
    PI X (.Tuple elts k0 tpos) (.Call (.Name "enumerate" p) [a] [] pos) (iEnum S X.K ta) := by
  intro pins s σ H R I h
  refine Call_ (ld_blt I hg hm boot_enumerate (PyProof.Rows.callWith_type1 (thn (ha pos pins s σ H _ I h) fun us s1 ⟨vs, H1, I1, r1, q1⟩ => ?_) hs rfl))
  obtain ⟨l, xs, e, hq, q⟩ := q1
  subst e
  obtain ⟨u, rfl, ru⟩ := r1.one
  cases ru
  obtain ⟨its, rv, p', hz⟩ := S.get I1 hq
  refine call_enum S p' fun h' he hi kp => wpAny_pyIter_enum he ?_
  have I2 : Inv X pins σ H1 { s1 with heap := h' } := I1.kept (t' := s1.toks) kp
  refine ⟨s1.heap.objs.size + 1, [s1.heap.objs.size + 1, s1.heap.objs.size], _, _, H1, rfl, I2, turn_enum S l _ _ hS, ⟨⟨_, he⟩, hi⟩, fun b hb => ?_, q⟩
  have hb' : s1.heap.objs.size ≤ b := by
    rcases List.mem_cons.mp hb with rfl | hb
    · exact Nat.le_succ _
    · obtain rfl := List.mem_singleton.mp hb
      exact Nat.le_refl _
  exact I1.fpOk hb' (I1.hok.fresh hb')
end
end L2

end

section
-- KcOps
set_option Elab.async false
set_option linter.all false
set_option maxRecDepth 100000
set_option maxHeartbeats 4000000
namespace L2
open PySem PySem.Spec PyProof.Rows

section
variable {X : Cx}
/-! ### isinstance(x, T) for a built-in T -/
noncomputable def rIsi (K : PySem.W.Frag) : List V → Hp → VK → Prop := fun xs H Q => ∃ x T t b, xs = [x, .ty T] ∧ TyOf K H x t ∧ PySem.W.kitOne K t (.type T) = some b ∧ Q (.bl b) H
theorem call_isi : CallR X (.builtin "isinstance") (rIsi X.K) := by
  intro pins s σ H xs us Q I r h
  obtain ⟨x, T, t, b, rfl, ty, e, q⟩ := h
  obtain ⟨u, v, rfl, ru, rv⟩ := r.two
  cases (show v = Value.type T from rv)
  exact isinst_ok I ru ty e fun tk => ⟨.bl b, H, I.tok tk, rfl, q⟩
theorem kit_int_int (K : PySem.W.Frag) : PySem.W.kitOne K (.type "int") (.type "int") = some true := by unfold PySem.W.kitOne; rw [if_pos (beq_self_eq_true _)]
theorem kit_int_bool (K : PySem.W.Frag) : PySem.W.kitOne K (.type "int") (.type "bool") = some false := by show (if (Value.type "int" == Value.type "bool") = true then some true else if PySem.W.kitMeta "bool" = true then (fastBuiltinMro "int").map (·.contains (.type "bool")) else none) = some false; decide +kernel
theorem kit_lst_lst (K : PySem.W.Frag) : PySem.W.kitOne K (.type "list") (.type "list") = some true := by unfold PySem.W.kitOne; rw [if_pos (beq_self_eq_true _)]

/-! ### all of a list of truths, sum of a list of ints -/
theorem all_get : ∀ (bs : List Bool), (List.range bs.length).all (fun i => bs.getD i false) = bs.all id := by
  intro bs
  induction bs with
  | nil => rfl
  | cons b r ih =>
    rw [List.length_cons, List.range_succ_eq_map, List.all_cons, List.all_map, List.all_cons]
    show (b && _) = (b && _)
    rw [← ih]
    rfl
theorem vals_bl {bs : List Bool} {us : List Value} (r : Vals (bs.map V.bl) us) : us = bs.map Value.bool := by
  induction bs generalizing us with
  | nil => cases r; rfl
  | cons b t ih =>
    cases r with
    | cons q r' =>
      rw [List.map_cons, ← ih r', show _ = Value.bool b from q]
theorem Inv.walked {pins : List (Addr × Obj)} {σ : St} {H : Hp} {s : Shared} {h' : Heap} {tk : Nat} {o : Obj} (I : Inv X pins σ H s) (hk : ∀ b ob, b ∉ [s.heap.objs.size] → (s.heap.push o).get? b = some ob → h'.get? b = some ob) : Inv X pins σ H { s with heap := h', toks := tk } :=
  I.kept fun b ob e => hk b ob (fun z => absurd (List.mem_singleton.mp z) (Nat.ne_of_lt (Heap.lt_size e))) (Heap.get?_push_of_some _ e)
theorem call_allL (hc : X.calm = true) : CallR X (.builtin "all") (fun xs H Q => ∃ (p : Addr) (bs : List Bool), xs = [.ref p] ∧ SqL X.K H p (bs.map V.bl) ∧ Q (.bl (bs.all id)) H) := by
  intro pins s σ H xs us Q I r h
  obtain ⟨p, bs, rfl, hq, q⟩ := h
  obtain ⟨u, rfl, rx⟩ := r.one
  cases rx
  obtain ⟨its, rv, pl, hz⟩ := I.list hq
  have e := vals_bl rv
  subst e
  refine call_all_walk (wpAny_pyIter_list pl.isList ⟨s.heap.objs.size, _, _, _, _, _, fun i => bs.getD i false, rfl, Walks.list (show X.A.in1.handled = none from I.ok.hd hc) _ p (by obtain ⟨o, ho, _⟩ := pl.isList; exact Nat.ne_of_lt (Heap.lt_size ho)) (bs.map Value.bool).toArray,
    ⟨⟨_, Heap.get?_push_size _ rfl, rfl, rfl⟩, pl.isList.push _⟩, ?_, fun h' tk hk => ?_⟩)
  · intro i v s' Q' E' hP hQ
    have hP' : (bs.map Value.bool)[i]? = some v := by simpa using hP
    rw [List.getElem?_map] at hP'
    cases e : bs[i]? with
    | none => rw [e] at hP'; cases hP'
    | some b =>
      rw [e] at hP'
      cases hP'
      have : bs.getD i false = b := by rw [List.getD_eq_getElem?_getD, e]; rfl
      have hQ' : Q' (bs.getD i false) s' := hQ
      rw [this] at hQ'
      exact wpAny_truthy_bool hQ'
  · refine ⟨.bl (bs.all id), H, I.walked hk, ?_, q⟩
    show Value.bool _ = Value.bool _
    rw [← all_get]
    simp
theorem preSum_list (ns : List Int) : ∀ k, k ≤ ns.length → preSum (fun i => ns.getD i 0) k = (ns.take k).sum := by
  intro k
  induction k with
  | zero => intro _; simp [preSum]
  | succ k ih =>
    intro hk
    have hlt : k < ns.length := hk
    rw [preSum, ih (Nat.le_of_lt hlt), List.take_add_one, List.sum_append, List.getElem?_eq_getElem hlt, List.getD_eq_getElem?_getD, List.getElem?_eq_getElem hlt]
    simp
theorem call_sumL (hc : X.calm = true) : CallR X (.builtin "sum") (fun xs H Q => ∃ (p : Addr) (ns : List Int), xs = [.ref p] ∧ SqL X.K H p (ns.map V.int) ∧ Q (.int ns.sum) H) := by
  intro pins s σ H xs us Q I r h
  obtain ⟨p, ns, rfl, hq, q⟩ := h
  obtain ⟨u, rfl, rx⟩ := r.one
  cases rx
  obtain ⟨its, rv, pl, hz⟩ := I.list hq
  have hlen : ns.length = its.length := by have := rv.length; simpa using this
  have ia := intsAre_of rv
  refine call_sum_walkG (wpAny_pyIter_list pl.isList ⟨s.heap.objs.size, _, _, _, _, _, fun i => ns.getD i 0, rfl, Walks.list (show X.A.in1.handled = none from I.ok.hd hc) _ p (by obtain ⟨o, ho, _⟩ := pl.isList; exact Nat.ne_of_lt (Heap.lt_size ho)) its.toArray,
    ⟨⟨_, Heap.get?_push_size _ rfl, rfl, rfl⟩, pl.isList.push _⟩, fun b hb => ?_, ?_, fun h' tk t' hk => ?_⟩)
  · have hp : p < s.heap.objs.size := by
      obtain ⟨o, ho, _⟩ := pl.isList
      exact Heap.lt_size ho
    show b < (s.heap.push _).objs.size
    rw [Heap.size_push]
    rcases List.mem_cons.mp hb with rfl | hb
    · exact Nat.lt_succ_self _
    · obtain rfl := List.mem_singleton.mp hb
      exact Nat.lt_succ_of_lt hp
  · intro i v hP
    have hP' : its[i]? = some v := by simpa using hP
    have hlt : i < ns.length := by
      have := (List.getElem?_eq_some_iff.mp hP').1
      omega
    obtain ⟨u', hu', ru'⟩ := rv.get (x := .int ns[i]) (i := i) (by rw [List.getElem?_map, List.getElem?_eq_getElem hlt] <;> rfl)
    rw [hP'] at hu'
    cases hu'
    obtain ⟨t, e⟩ := (show ∃ t, v = Value.int ns[i] t from ru')
    refine ⟨t, ?_⟩
    show v = Value.int (ns.getD i 0) t
    rw [e, List.getD_eq_getElem?_getD, List.getElem?_eq_getElem hlt]
    rfl
  · refine ⟨.int ns.sum, H, I.walked hk, ⟨t', ?_⟩, q⟩
    rw [show its.toArray.size = ns.length by simp; omega, preSum_list ns _ (Nat.le_refl _), List.take_length]

/-! ### == and != of two lists, two tuples, item by item: flat items, or one and the same object -/
noncomputable def EqE (x y : V) (b : Bool) : Prop := (flatV x = true ∧ flatV y = true ∧ b = eqV x y) ∨ (∃ a, x = .ref a ∧ y = .ref a ∧ b = true)
theorem EqE.at {A : Around} {s : Shared} {x y : V} {b : Bool} {u v : Value} (h : EqE x y b) (ru : RelV x u) (rv : RelV y v) : SeqAt.EqAt A s u v b := by
  rcases h with ⟨f1, f2, rfl⟩ | ⟨a, rfl, rfl, rfl⟩
  · exact eqAt_V ru rv f1 f2
  · cases ru
    cases rv
    exact SeqAt.EqAt.same _
end
end L2

end

section
-- KcBase
set_option Elab.async false
set_option linter.all false
set_option maxRecDepth 100000
set_option maxHeartbeats 4000000
namespace L2
open PySem PySem.Spec PyProof.Rows

/-! ### an own def that is called, all that is asked of it in one -/
noncomputable def FnB (P : Program) (w : World) (K : PySem.W.Frag) (mg : Str → Option Value) (base : Heap) (k : Nat) (x : Str) (ps : List Str) (sp : Sp) : Prop :=
  ∃ f fd, FnOk P w K mg base CX0 k f fd ps sp ∧ mg x = some (.ref f) ∧ PySem.W.keepIn K (.ref f) = true ∧ Binds K fd ps []
theorem pe_callF {X : Cx} {k : Nat} {x : Str} {ps : List Str} {sp : Sp} {p pos : Pos} {e : Expr} {es : List Expr} {t : TA} (F : FnB X.prog X.w X.K X.mg X.base k x ps sp) (hr : Room k X.A) (ha : PA X (e :: es) t) (hg : Gl X x := by rfl)
    (hdb : (x == ("__debug__" : Str)) = false := by decide) (he : starEach (e :: es) X.env = (false, eval e X.env) :: starEach es X.env := by rfl) (hpl : (backTo pos (starEach es X.env)).any (·.1) = false := by rfl) :
    PE X (.Call (.Name x p) (e :: es) [] pos) (tCall sp [] E0 t) := by
  obtain ⟨f, fd, ok, m, kp, b⟩ := F
  exact pe_call ok hr hg m kp b .nil pass0 ha hdb he hpl
theorem FnB.mono {P : Program} {w : World} {K : PySem.W.Frag} {mg : Str → Option Value} {base : Heap} {j k : Nat} {x : Str} {ps : List Str} {sp : Sp} (F : FnB P w K mg base j x ps sp) (h : j ≤ k) : FnB P w K mg base k x ps sp := by
  obtain ⟨f, fd, ok, r⟩ := F
  exact ⟨f, fd, ok.mono h, r⟩
structure Def (K : PySem.W.Frag) (mg : Str → Option Value) (x : Str) (st : Stmt) (ps : List Str) (f : Addr) (fd : FuncData) : Prop where
  fn : Fun K x x st f fd
  m : mg x = some (.ref f)
  b : Binds K fd ps []
theorem Def.ok {P : Program} {w : World} {K : PySem.W.Frag} {mg : Str → Option Value} {base : Heap} {x : Str} {st : Stmt} {N ps : List Str} {f : Addr} {fd : FuncData} {k : Nat} {sp : Sp} (D : Def K mg x st ps f fd) (S : FnScope N ps (defScope st)) (len : ∀ vs H Q E, sp vs H Q E → vs.length = ps.length)
    (hbody : ∀ (cdv : Value) (A : Around) (outer : List Env) (s : Shared) (H : Hp) (vs : List V) (Q : VK) (E : XK), Room k (A.deeper (envOfC x (defScope st) s.heap.objs.size f cdv)) → sp vs H Q E →
      ∃ t, PSs (cxOf CX0 P w K mg base N x (defScope st) f cdv A outer s H E).nox (defBody st) t ∧ t { nx := fun _ H' => Q .non H', rt := Q } (start N vs) H) : FnB P w K mg base (k + 1) x ps sp :=
  ⟨f, fd, D.fn.ok S len hbody, D.m, D.fn.kp, D.b⟩

/-! ### products of ints of many figures -/
theorem op_mulB {X : Cx} : OpR X (binaryOp .Mult) (rI IntMulOk fun i j => .int (i * j)) := opI fun _ _ _ _ _ _ _ hc q => mul_int q hc

/-! ### the law's head, with the bits of the script's ints -/
theorem bits_items : ∀ (ns : List Int), ∀ n ∈ ns, Builtin.Int.intBits n ≤ PySem.W.WData.weightAll (ns.map PySem.W.WData.int)
  | [], n, h => (nomatch h)
  | m :: r, n, h => by
    rw [List.map_cons, PySem.W.WData.weightAll]
    have e : PySem.W.WData.weight (.int m) = Builtin.Int.intBits m := by
      rw [PySem.W.WData.weight]
      rfl
    rw [e]
    rcases List.mem_cons.mp h with rfl | h
    · omega
    · have := bits_items r n h
      omega
theorem bits_of_lay {ns : List Int} (h : PySem.W.WData.layableAll [PySem.W.WData.list (ns.map PySem.W.WData.int)] = true) : ∀ n ∈ ns, Builtin.Int.intBits n ≤ 1048576 := by
  intro n hn
  have h1 : PySem.W.WData.layable (PySem.W.WData.list (ns.map PySem.W.WData.int)) = true := by
    unfold PySem.W.WData.layableAll at h
    rw [List.all_cons, Bool.and_eq_true] at h
    exact h.1
  unfold PySem.W.WData.layable at h1
  rw [Bool.and_eq_true] at h1
  have h2 : PySem.W.WData.weight (PySem.W.WData.list (ns.map PySem.W.WData.int)) ≤ 2 ^ 20 := of_decide_eq_true h1.2
  rw [PySem.W.WData.weight] at h2
  have h3 := bits_items ns n hn
  have e : (2 : Nat) ^ 20 = 1048576 := by decide
  omega
noncomputable def ScriptOk (K : PySem.W.Frag) (H : Hp) (a : Addr) (ns : List Int) : Prop := SqL K H a (ns.map V.int) ∧ ns.length ≤ 63 ∧ ∀ n ∈ ns, Builtin.Int.intBits n ≤ 1048576
noncomputable def spLaw (K : PySem.W.Frag) : Sp := fun vs H Q _ => ∃ (a : Addr) (ns : List Int), vs = [.ref a] ∧ ScriptOk K H a ns ∧ ∀ H', Q (.bl true) H'
theorem walk_ofB {l : PySem.W.OpenLaw} {k : Nat} {q : Program} {loose : List Str} {XP : (Str → Option Value) → Heap → Prop} {YP : World → Heap → Prop} {d : DefRec} {K : Params → PySem.W.Frag} {x : Str}
    (hn : l.most = some 63) (hdf : d.params.defaults = []) (hr : Room k callerA) (hY : ∀ (w : World) (h : Heap), YP w h → (K w.params).In h)
    (F : ∀ (w : World) (mg : Str → Option Value) (fa : Addr) (h : Heap), (K w.params).In h → h.Ns mainGlobals mg → mg d.name = some (.ref fa) →
      ∃ fd : FuncData, (∀ (s : Shared) (u : Value), BindsTo s fd ⟨[u], []⟩ [(x, u)]) ∧
        ∀ base : Heap, (K w.params).In base → base.Ns mainGlobals mg → FnOk l.prog w (K w.params) mg base CX0 k fa fd [x] (spLaw (K w.params))) :
    PySem.W.WalkO q loose XP YP l.row.toRowW d [] (fun f vs => PySem.call f vs) := by
  intro w s₀ s₁ mg mb G Y fa o pm cd doc dV kV ho hd hcd hD hmg hg args vals as hpre hlay hrd hwl hlo
  obtain rfl : dV = .none := PySem.W.Dflts.none hD hdf
  obtain rfl : kV = .none := PySem.W.Dflts.noKw hD
  obtain ⟨a, vs, ns, rfl, rfl, hobj, hints, hlen⟩ := Att.script_of hn hpre hwl
  have hbits := bits_of_lay hlay
  have KX := hY w _ Y
  obtain ⟨fd, hb, hF⟩ := F w mg fa _ KX G.T.g hmg
  have c := law_call KX G.T.g G.T.b G.T.builtins G.T.nolimit hg hobj hints (Nat.le_trans hlen (by decide)) hr hF hb (fun H hO hS => ⟨a, ns, rfl, ⟨hS, hlen, hbits⟩, fun _ => rfl⟩) fun H e s' z => z
  refine PySem.W.enter_call (codeAny_mono c fun r s' hq => ?_)
  obtain ⟨rfl, h2, h3, h4⟩ := hq
  exact ⟨.inl ⟨.bool true, .bool true, [], rfl, fun _ => rfl, .bool true, Att.post_true l _, fun _ => ⟨List.Pairwise.nil, fun _ hm => (nomatch hm)⟩⟩, h2, h3, h4⟩

/-! ### loops over any source -/
theorem for_of {J : It} {n : Nat} {g : TG} {tb : TS} {D : Ends} {σ : St} {H : Hp} {Y : Nat → Hp → V → Hp → Prop} (Pv : Nat → St → Hp → Prop) (h0 : Pv 0 σ H) (hgo : ∀ i σ H, i < n → Pv i σ H → J.go i H) (hst : ∀ σ H, Pv n σ H → J.stop n H)
    (hy : ∀ i σ H x H1, i < n → Pv i σ H → J.yld i H x H1 → Y i H x H1) (hs : ∀ i x σ H H1, i < n → Pv i σ H → Y i H x H1 → g x σ H1 fun σ2 H2 => tb { D with nx := Pv (i + 1), ct := Pv (i + 1), bk := D.nx } σ2 H2) (hd : ∀ σ H, Pv n σ H → D.nx σ H) :
    ∃ W : Nat → Nat → St → Hp → Prop, (∃ m, W 0 m σ H) ∧ ∀ i m σ H, W i m σ H →
      (J.stop i H ∧ D.nx σ H) ∨ (J.go i H ∧ ∃ N : St → Hp → Prop, (∀ σ' H', N σ' H' → ∃ m', m' < m ∧ W (i + 1) m' σ' H') ∧ ∀ x H', J.yld i H x H' → g x σ H' fun σ2 H2 => tb { D with nx := N, ct := N, bk := D.nx } σ2 H2) := by
  refine ⟨fun i m σ H => m = n - i ∧ i ≤ n ∧ Pv i σ H, ⟨n, by simp, Nat.zero_le _, h0⟩, ?_⟩
  rintro i m σ H ⟨rfl, hi, p⟩
  by_cases hlt : i < n
  · exact .inr ⟨hgo i σ H hlt p, Pv (i + 1), fun σ' H' p' => ⟨n - (i + 1), by omega, rfl, hlt, p'⟩, fun x H' y => hs i x σ H H' hlt p (hy i σ H x H' hlt p y)⟩
  · have e : i = n := by omega
    subst e
    exact .inl ⟨hst σ H p, hd σ H p⟩
theorem for_enum {S : Src} {K : PySem.W.Frag} {a : Addr} {xs : List V} {g : TG} {tb : TS} {D : Ends} {σ : St} {H : Hp} (Pv : Nat → St → Hp → Prop) (h0 : Pv 0 σ H) (hl : ∀ i σ H, i ≤ xs.length → Pv i σ H → S.Sq K H a xs)
    (hs : ∀ i x T σ H, xs[i]? = some x → Pv i σ H → H T = none → g (.ref T) σ (upd H T (.tup [.int i, x])) fun σ2 H2 => tb { D with nx := Pv (i + 1), ct := Pv (i + 1), bk := D.nx } σ2 H2) (hd : ∀ σ H, Pv xs.length σ H → D.nx σ H) :
    ∃ W : Nat → Nat → St → Hp → Prop, (∃ m, W 0 m σ H) ∧ ∀ i m σ H, W i m σ H →
      ((Ite S K a).stop i H ∧ D.nx σ H) ∨ ((Ite S K a).go i H ∧ ∃ N : St → Hp → Prop, (∀ σ' H', N σ' H' → ∃ m', m' < m ∧ W (i + 1) m' σ' H') ∧ ∀ x H', (Ite S K a).yld i H x H' → g x σ H' fun σ2 H2 => tb { D with nx := N, ct := N, bk := D.nx } σ2 H2) :=
  for_of (J := Ite S K a) (n := xs.length) (Y := fun i H x H1 => ∃ T v, H T = none ∧ x = .ref T ∧ H1 = upd H T (.tup [.int i, v]) ∧ xs[i]? = some v) Pv h0 (fun i σ H hi w => ⟨xs, xs[i], hl i σ H (Nat.le_of_lt hi) w, by simp [hi]⟩) (fun σ H w => ⟨xs, hl _ σ H (Nat.le_refl _) w, rfl⟩)
    (fun i σ H x H1 hi w y => by
      obtain ⟨T, v, e1, e2, e3, e4⟩ := y
      exact ⟨T, v, e1, e2, e3, e4 xs (hl i σ H (Nat.le_of_lt hi) w)⟩) (fun i x σ H H1 hi w y => by
      obtain ⟨T, v, e1, rfl, rfl, e4⟩ := y
      exact hs i v T σ H e4 w e1) hd
theorem comp_enum {S : Src} {K : PySem.W.Frag} {a : Addr} {xs : List V} {g : CF TG} {tt : CF TT} {te : CF TE} {σ₀ : St} {p : Addr} {Q : VK} {H : Hp} (Pv : Nat → List V → Hp → Prop) (h0 : Pv 0 [] (upd H p (.lst []))) (hp : ∀ i acc H, i ≤ xs.length → Pv i acc H → H p = some (.lst acc) ∧ acc.length ≤ i) (hl : ∀ i acc H, i ≤ xs.length → Pv i acc H → S.Sq K H a xs) (hz : xs.length ≤ sizeLine)
    (hs : ∀ C s' H' fp, ∀ i x T acc H, xs[i]? = some x → Pv i acc H → H T = none → g C s' H' fp (.ref T) σ₀ (upd H T (.tup [.int i, x])) fun σ2 H2 => tt C s' H' fp σ2 H2 fun b H3 => if b = true then te C s' H' fp σ2 H3 fun y H4 => H4 p = some (.lst acc) ∧ Pv (i + 1) (acc ++ [y]) (upd H4 p (.lst (acc ++ [y]))) else Pv (i + 1) acc H3)
    (hd : ∀ acc H, Pv xs.length acc H → Q (.ref p) H) :
    ∃ W : Nat → Nat → List V → Hp → Prop, (∃ m, W 0 m [] (upd H p (.lst []))) ∧ ∀ C s' H' fp, CompBody (Ite S K a) (g C s' H' fp) (tt C s' H' fp) (te C s' H' fp) σ₀ p Q W :=
  comp_of (Y := fun i H x H1 => ∃ T v, H T = none ∧ x = .ref T ∧ H1 = upd H T (.tup [.int i, v]) ∧ xs[i]? = some v) Pv h0 hp hz (fun i acc H hi w => ⟨xs, xs[i], hl i acc H (Nat.le_of_lt hi) w, by simp [hi]⟩) (fun acc H w => ⟨xs, hl _ acc H (Nat.le_refl _) w, rfl⟩)
    (fun i acc H x H1 hi w y => by
      obtain ⟨T, v, e1, e2, e3, e4⟩ := y
      exact ⟨T, v, e1, e2, e3, e4 xs (hl i acc H (Nat.le_of_lt hi) w)⟩) (fun C s' H' fp i x acc H H1 hi w y => by
      obtain ⟨T, v, e1, rfl, rfl, e4⟩ := y
      exact hs C s' H' fp i v T acc H e4 w e1) hd

/-! ### two names at once -/
/-! ### heaps -/
theorem same_new {H : Hp} {p : Addr} (h : H p = none) (o : HO) : Same H (upd H p o) := fun b u q => by rw [upd_ne (ne_of_none q h)]; exact q
theorem Same.upd {H H' : Hp} {p : Addr} (s : Same H H') (h : H p = none) (o : HO) : Same H (upd H' p o) := fun b u q => by rw [upd_ne (ne_of_none q h)]; exact s b u q
theorem Same.tup {K : PySem.W.Frag} {H H' : Hp} {a : Addr} {xs : List V} (e : Same H H') (h : SqT K H a xs) : SqT K H' a xs := by
  rcases h with (h | ⟨o, h⟩) | h
  · exact .inl (.inl (e _ _ h))
  · exact .inl (.inr ⟨o, e _ _ h⟩)
  · exact .inr h
theorem small {n : Nat} (h : n ≤ 1000) : n ≤ sizeLine := Nat.le_of_lt (small1000 h)
theorem atI_ints {ns : List Int} {k : Int} (h0 : 0 ≤ k) (h1 : k < (ns.length : Int)) : atI (ns.map V.int) k = some (.int (ns.getD k.toNat 0)) := by
  have hk : k.toNat < ns.length := by omega
  have e : k = ((k.toNat : Nat) : Int) := by omega
  have q : atI (ns.map V.int) ((k.toNat : Nat) : Int) = some (.int (ns.getD k.toNat 0)) := atI_nat (by rw [List.getElem?_map, List.getElem?_eq_getElem hk, List.getD_eq_getElem?_getD, List.getElem?_eq_getElem hk] <;> rfl)
  rw [← e] at q
  exact q
theorem ite_of {c : Bool} {A B : Prop} (h1 : c = true → A) (h2 : c = false → B) : if c = true then A else B := by
  cases c with
  | true => rw [if_pos rfl]; exact h1 rfl
  | false => rw [if_neg Bool.false_ne_true]; exact h2 rfl

/-! ### the numbers out of a script: within it the cell, beyond it a draw -/
theorem ScriptOk.same {K : PySem.W.Frag} {H H' : Hp} {a : Addr} {ns : List Int} (h : ScriptOk K H a ns) (s : Same H H') : ScriptOk K H' a ns := ⟨s.seq h.1, h.2⟩
structure Blt (mg : Str → Option Value) : Prop where
  len : mg "len" = none
  range : mg "range" = none
  tuple : mg "tuple" = none
  list : mg "list" = none
  int : mg "int" = none
  bool : mg "bool" = none
  str : mg "str" = none
  dict : mg "dict" = none
  sum : mg "sum" = none
  all : mg "all" = none
  min : mg "min" = none
  max : mg "max" = none
  sorted : mg "sorted" = none
  enumerate : mg "enumerate" = none
  zip : mg "zip" = none
  isinstance : mg "isinstance" = none
end L2

end

section
-- KcZip
set_option Elab.async false
set_option linter.all false
set_option maxRecDepth 100000
set_option maxHeartbeats 4000000
namespace L2
open PySem PySem.Spec PyProof.Rows

/-! ### zip of two sources, its tuples unpacked -/
structure ZApart (z TI TO j1 j2 : Addr) (fp1 fp2 : List Addr) : Prop where
  a1 : TI ≠ z
  a2 : TO ≠ z
  a3 : j1 ≠ z
  a4 : j2 ≠ z
  a5 : TI ≠ TO
  a6 : TI ≠ j1
  a7 : TI ≠ j2
  a8 : TO ≠ j1
  a9 : TO ≠ j2
  b0 : j1 ≠ j2
  b1 : z ∉ fp1
  b2 : TO ∉ fp1
  b3 : j2 ∉ fp1
  b4 : z ∉ fp2
  b5 : TO ∉ fp2
  b6 : j1 ∉ fp2
section
variable {prog : Program} {w : World} {A : Around} {E : Value → Shared → Prop} {s : Shared}
theorem _root_.PySem.Draws.but {it : Addr} {fp : List Addr} {n i : Nat} {P : Nat → Value → Prop} {St : Nat → Heap → Prop} {h h' : Heap} {c : Addr} (D : Draws prog w A it fp n P St) (hst : St i h) (hs : Heap.SameBut c h h') (hc : c ∉ fp) : St i h' :=
  D.frame i _ _ hst fun b hb o e => hs.extBut b o (fun z => hc (by rw [← z]; exact hb)) e
theorem zip_itemD {z TI TO j1 j2 : Addr} {fp1 fp2 : List Addr} {n1 n2 k : Nat} {P1 P2 : Nat → Value → Prop} {S1 S2 : Nat → Heap → Prop} {a b : Value} {Q : Value → Shared → Prop} (Z : ZApart z TI TO j1 j2 fp1 fp2)
    (D1 : Draws prog w A j1 fp1 n1 P1 S1) (D2 : Draws prog w A j2 fp2 n2 P2 S2) (hz : IsZip s.heap z TI TO .none) (hTI : IsPair s.heap TI (.ref j1) (.ref j2)) (hTO : IsPair s.heap TO a b) (h1 : S1 k s.heap) (h2 : S2 k s.heap) (l1 : k < n1) (l2 : k < n2)
    (hQ : ∀ x y h' tk, P1 k x → P2 k y → IsZip h' z TI TO (rawInt s.heap.objs.size) → (∃ a b, IsPair h' TO a b) → S1 (k + 1) h' → S2 (k + 1) h' → IsPair h' s.heap.objs.size x y →
      (∀ c o, c ∉ [z, TI, TO, j1, j2] → s.heap.get? c = some o → h'.get? c = some o) → IsPair h' TI (.ref j1) (.ref j2) → Q (.ref s.heap.objs.size) { s with heap := h', toks := tk }) :
    wpAny (model prog w) A (Builtin.«zip.__next__» ⟨[.ref z], []⟩) (fun fin s' => ∃ v, fin = .done (.ret v) ∧ Q v s') E s := by
  obtain ⟨hp, g, d, tk₀, os⟩ := s
  show wpAny _ _ (field (.ref z) 2 >>= _) _ _ _
  refine wpAny_bind (wpAny_field hz rfl (x := .bool false) rfl ?_)
  show wpAny _ _ (field (.ref z) 3 >>= _) _ _ _
  refine wpAny_bind (wpAny_field hz rfl (x := .ref TI) rfl ?_)
  refine wpAny_bind (wpAny_seqItems hTI rfl ?_)
  show wpAny _ _ (Builtin.SmallTypes.ownedTupleIsFree (.ref z) >>= _) _ _ _
  refine wpAny_bind ?_
  unfold Builtin.SmallTypes.ownedTupleIsFree
  refine wpAny_bind (wpAny_field hz rfl (x := .none) rfl (wpAny_pure ?_))
  simp only [if_true]
  refine wpAny_bind (wpAny_rule ?_)
  refine wpAny_bind (wpAny_field hz rfl (x := .ref TO) rfl ?_)
  refine wpAny_bind (wpAny_setField_rec hz (by simp) fun g1 hz1 hs1 => ?_)
  replace hz1 : IsZip g1 z TI TO .ellipsis := hz1
  replace hs1 : Heap.SameBut z hp g1 := hs1
  refine wpAny_bind ?_
  simp only [List.zipIdx_cons, List.zipIdx_nil, List.forIn_cons, List.forIn_nil]
  refine wpAny_bind (wpAny_bind (wpAny_onRaise ?_))
  show wpAny _ _ (Builtin.SmallTypes.nextOf (.ref j1) >>= _) _ _ _
  refine wpAny_bind (D1.item k ⟨g1, g, d, tk₀, os⟩ _ _ l1 (D1.but h1 hs1 Z.b1) fun x g2 tk1 px st1 hs2 => wpAny_pure ?_)
  replace hs2 : Heap.SameBut j1 g1 g2 := hs2
  have hTO2 : IsPair g2 TO a b := hs2.extBut _ _ Z.a8 (hs1.extBut _ _ Z.a2 hTO)
  refine wpAny_bind (wpAny_seqItems hTO2 rfl ?_)
  refine wpAny_bind (wpAny_updateSeq_pair hTO2 fun g3 hTO3 hs3 => ?_)
  replace hTO3 : IsPair g3 TO x b := hTO3
  replace hs3 : Heap.SameBut TO g2 g3 := hs3
  refine wpAny_bind (wpAny_letGo (wpAny_pure ?_))
  refine wpAny_bind (wpAny_bind (wpAny_onRaise ?_))
  show wpAny _ _ (Builtin.SmallTypes.nextOf (.ref j2) >>= _) _ _ _
  refine wpAny_bind (D2.item k ⟨g3, g, d, tk1, os⟩ _ _ l2 (D2.but (D2.but (D2.but h2 hs1 Z.b4) hs2 Z.b6) hs3 Z.b5) fun y g4 tk2 py st2 hs4 => wpAny_pure ?_)
  replace hs4 : Heap.SameBut j2 g3 g4 := hs4
  have hTO4 : IsPair g4 TO x b := hs4.extBut _ _ Z.a9 hTO3
  refine wpAny_bind (wpAny_seqItems hTO4 rfl ?_)
  refine wpAny_bind (wpAny_updateSeq_pair hTO4 fun g5 hTO5 hs5 => ?_)
  replace hTO5 : IsPair g5 TO x y := hTO5
  replace hs5 : Heap.SameBut TO g4 g5 := hs5
  refine wpAny_bind (wpAny_letGo (wpAny_pure (wpAny_pure ?_)))
  refine wpAny_bind (wpAny_seqItems hTO5 rfl ?_)
  refine wpAny_bind (wpAny_newTuple ?_)
  have hsz : g5.objs.size = hp.objs.size := by rw [hs5.1, hs4.1, hs3.1, hs2.1, hs1.1]
  have hz5 : IsZip g5 z TI TO .ellipsis := hs5.extBut _ _ Z.a2.symm (hs4.extBut _ _ Z.a4.symm (hs3.extBut _ _ Z.a2.symm (hs2.extBut _ _ Z.a3.symm hz1)))
  have k5 : ∀ c o, c ≠ z → c ≠ TO → c ≠ j1 → c ≠ j2 → hp.get? c = some o → g5.get? c = some o := fun c o c1 c2 c3 c4 e =>
    hs5.extBut _ _ c2 (hs4.extBut _ _ c4 (hs3.extBut _ _ c2 (hs2.extBut _ _ c3 (hs1.extBut _ _ c1 e))))
  have st15 : S1 (k + 1) g5 := D1.but (D1.but (D1.but st1 hs3 Z.b2) hs4 Z.b3) hs5 Z.b2
  have st25 : S2 (k + 1) g5 := D2.but st2 hs5 Z.b5
  have zlt : z < g5.objs.size := Heap.lt_size hz5
  show wpAny _ _ (Builtin.SmallTypes.ownedTupleHandOut (.ref z) (.ref g5.objs.size) >>= _) _ _ _
  refine wpAny_bind ?_
  unfold Builtin.SmallTypes.ownedTupleHandOut
  have hz6 : IsZip (g5.push { cls := .type "tuple", data := .seq #[x, y] }) z TI TO .ellipsis := Heap.get?_push_of_some _ hz5
  refine wpAny_bind (wpAny_setField_rec hz6 (by simp) fun g7 hz7 hs7 => ?_)
  replace hz7 : IsZip g7 z TI TO (rawInt g5.objs.size) := hz7
  refine wpAny_setField_rec hz7 (by simp) fun g8 hz8 hs8 => ?_
  replace hz8 : IsZip g8 z TI TO (rawInt g5.objs.size) := hz8
  have up : ∀ c o, c ≠ z → g5.get? c = some o → g8.get? c = some o := fun c o c1 e => hs8.extBut _ _ c1 (hs7.extBut _ _ c1 (Heap.get?_push_of_some _ e))
  have hT8 : IsPair g8 g5.objs.size x y := hs8.extBut _ _ (Nat.ne_of_gt zlt) (hs7.extBut _ _ (Nat.ne_of_gt zlt) (Heap.get?_push_size _ rfl))
  rw [hsz] at hz8 hT8
  refine wpAny_pure ⟨_, rfl, ?_⟩
  show Q (.ref g5.objs.size) _
  rw [hsz]
  exact hQ x y g8 tk2 px py hz8 ⟨x, y, up _ _ Z.a2 hTO5⟩ (D1.frame _ _ _ st15 fun c hc o e => up c o (fun q => Z.b1 (by rw [← q]; exact hc)) e) (D2.frame _ _ _ st25 fun c hc o e => up c o (fun q => Z.b4 (by rw [← q]; exact hc)) e) hT8
    (fun c o hc e => by
      simp only [List.mem_cons, List.not_mem_nil, or_false, not_or] at hc
      exact up c o hc.1 (k5 c o hc.1 hc.2.2.1 hc.2.2.2.1 hc.2.2.2.2 e)) (up _ _ Z.a1 (k5 _ _ Z.a1 Z.a5 Z.a6 Z.a7 hTI))
theorem zip_endD {z TI TO j1 j2 : Addr} {fp1 fp2 : List Addr} {n1 n2 k : Nat} {P1 P2 : Nat → Value → Prop} {S1 S2 : Nat → Heap → Prop} {a b : Value} {Q : Fin → Shared → Prop} (Z : ZApart z TI TO j1 j2 fp1 fp2)
    (D1 : Draws prog w A j1 fp1 n1 P1 S1) (D2 : Draws prog w A j2 fp2 n2 P2 S2) (hz : IsZip s.heap z TI TO .none) (hTI : IsPair s.heap TI (.ref j1) (.ref j2)) (hTO : IsPair s.heap TO a b) (h1 : S1 k s.heap) (h2 : S2 k s.heap) (l : k = min n1 n2)
    (hE : ∀ h' e tk, (∀ c o, c ∉ [z, TI, TO, j1, j2] → s.heap.get? c = some o → h'.get? c = some o) → (∃ o, h'.get? e = some o ∧ o.cls = .type "StopIteration") → E (.ref e) { s with heap := h', toks := tk }) :
    wpAny (model prog w) A (Builtin.«zip.__next__» ⟨[.ref z], []⟩) Q E s := by
  obtain ⟨hp, g, d, tk₀, os⟩ := s
  have kp : ∀ {h' : Heap}, (∀ c o, c ≠ z → c ≠ TO → c ≠ j1 → c ≠ j2 → hp.get? c = some o → h'.get? c = some o) → ∀ c o, c ∉ [z, TI, TO, j1, j2] → hp.get? c = some o → h'.get? c = some o := fun {h'} q c o hc e => by
    simp only [List.mem_cons, List.not_mem_nil, or_false, not_or] at hc
    exact q c o hc.1 hc.2.2.1 hc.2.2.2.1 hc.2.2.2.2 e
  show wpAny _ _ (field (.ref z) 2 >>= _) _ _ _
  refine wpAny_bind (wpAny_field hz rfl (x := .bool false) rfl ?_)
  show wpAny _ _ (field (.ref z) 3 >>= _) _ _ _
  refine wpAny_bind (wpAny_field hz rfl (x := .ref TI) rfl ?_)
  refine wpAny_bind (wpAny_seqItems hTI rfl ?_)
  show wpAny _ _ (Builtin.SmallTypes.ownedTupleIsFree (.ref z) >>= _) _ _ _
  refine wpAny_bind ?_
  unfold Builtin.SmallTypes.ownedTupleIsFree
  refine wpAny_bind (wpAny_field hz rfl (x := .none) rfl (wpAny_pure ?_))
  simp only [if_true]
  refine wpAny_bind (wpAny_rule ?_)
  refine wpAny_bind (wpAny_field hz rfl (x := .ref TO) rfl ?_)
  refine wpAny_bind (wpAny_setField_rec hz (by simp) fun g1 hz1 hs1 => ?_)
  replace hz1 : IsZip g1 z TI TO .ellipsis := hz1
  replace hs1 : Heap.SameBut z hp g1 := hs1
  refine wpAny_bind ?_
  simp only [List.zipIdx_cons, List.zipIdx_nil, List.forIn_cons, List.forIn_nil]
  refine wpAny_bind (wpAny_bind (wpAny_onRaise ?_))
  show wpAny _ _ (Builtin.SmallTypes.nextOf (.ref j1) >>= _) _ _ _
  by_cases hk : k = n1
  · subst hk
    refine wpAny_bind (D1.done ⟨g1, g, d, tk₀, os⟩ _ _ (D1.but h1 hs1 Z.b1) fun g2 e hs2 he => ?_)
    replace hs2 : Heap.ExtBut j1 g1 g2 := hs2
    obtain ⟨oe, hoe, hce⟩ := he
    have hz2 : IsZip g2 z TI TO .ellipsis := hs2 _ _ Z.a3.symm hz1
    have nez : e ≠ z := fun q => by
      subst q
      rw [hz2] at hoe
      cases hoe
      simp at hce
    refine wpAny_setField_rec hz2 (by simp) fun g3 _ hs3 => hE g3 e tk₀ (kp fun c o c1 _ c3 _ q => hs3.extBut _ _ c1 (hs2 _ _ c3 (hs1.extBut _ _ c1 q))) ⟨oe, hs3.extBut _ _ nez hoe, hce⟩
  · have hlt : k < n1 := by omega
    have hk2 : k = n2 := by omega
    refine wpAny_bind (D1.item k ⟨g1, g, d, tk₀, os⟩ _ _ hlt (D1.but h1 hs1 Z.b1) fun x g2 tk1 px st1 hs2 => wpAny_pure ?_)
    replace hs2 : Heap.SameBut j1 g1 g2 := hs2
    have hTO2 : IsPair g2 TO a b := hs2.extBut _ _ Z.a8 (hs1.extBut _ _ Z.a2 hTO)
    refine wpAny_bind (wpAny_seqItems hTO2 rfl ?_)
    refine wpAny_bind (wpAny_updateSeq_pair hTO2 fun g3 hTO3 hs3 => ?_)
    replace hs3 : Heap.SameBut TO g2 g3 := hs3
    refine wpAny_bind (wpAny_letGo (wpAny_pure ?_))
    refine wpAny_bind (wpAny_bind (wpAny_onRaise ?_))
    show wpAny _ _ (Builtin.SmallTypes.nextOf (.ref j2) >>= _) _ _ _
    subst hk2
    refine wpAny_bind (D2.done ⟨g3, g, d, tk1, os⟩ _ _ (D2.but (D2.but (D2.but h2 hs1 Z.b4) hs2 Z.b6) hs3 Z.b5) fun g4 e hs4 he => ?_)
    replace hs4 : Heap.ExtBut j2 g3 g4 := hs4
    obtain ⟨oe, hoe, hce⟩ := he
    have hz4 : IsZip g4 z TI TO .ellipsis := hs4 _ _ Z.a4.symm (hs3.extBut _ _ Z.a2.symm (hs2.extBut _ _ Z.a3.symm hz1))
    have nez : e ≠ z := fun q => by
      subst q
      rw [hz4] at hoe
      cases hoe
      simp at hce
    refine wpAny_setField_rec hz4 (by simp) fun g5 _ hs5 => hE g5 e tk1 (kp fun c o c1 c2 c3 c4 q => hs5.extBut _ _ c1 (hs4 _ _ c4 (hs3.extBut _ _ c2 (hs2.extBut _ _ c3 (hs1.extBut _ _ c1 q))))) ⟨oe, hs5.extBut _ _ nez hoe, hce⟩
end
noncomputable abbrev zh1 (S1 : Src) (h : Heap) (l1 : Addr) : Heap := h.push { cls := .type S1.icls, data := .fields #[.ref l1, .int 0 0] }
noncomputable abbrev zh2 (S1 S2 : Src) (h : Heap) (l1 l2 : Addr) : Heap := (zh1 S1 h l1).push { cls := .type S2.icls, data := .fields #[.ref l2, .int 0 0] }
noncomputable abbrev zh3 (S1 S2 : Src) (h : Heap) (l1 l2 : Addr) : Heap := (zh2 S1 S2 h l1 l2).push { cls := .type "tuple", data := .seq #[.ref h.objs.size, .ref (zh1 S1 h l1).objs.size] }
noncomputable abbrev zh4 (S1 S2 : Src) (h : Heap) (l1 l2 : Addr) : Heap := (zh3 S1 S2 h l1 l2).push { cls := .type "tuple", data := .seq #[.none, .none] }
noncomputable abbrev zh5 (S1 S2 : Src) (h : Heap) (l1 l2 : Addr) : Heap := (zh4 S1 S2 h l1 l2).push { cls := .type "zip", data := .fields #[.none, .bool false, .bool false, .ref (zh2 S1 S2 h l1 l2).objs.size, .ref (zh3 S1 S2 h l1 l2).objs.size] }
theorem new_zip (S1 S2 : Src) (l1 l2 : Addr) (xs ys : Array Value) :
    Meets (Builtin.«zip.__new__» ⟨[.type "zip", .ref l1, .ref l2], []⟩) (fun _ R s => S1.Is s.heap l1 xs ∧ S2.Is s.heap l2 ys ∧ R (.ok (.ret (.ref (zh4 S1 S2 s.heap l1 l2).objs.size))) { s with heap := zh5 S1 S2 s.heap l1 l2 }) :=
  .of_wp fun prog w A R s h => by
    obtain ⟨hp, g, d, tk, os⟩ := s
    obtain ⟨q1, q2, h⟩ := h
    have hsub := sub_zip
    have hL1 : S1.Is (Shared.heap ⟨hp, g, d, tk, os⟩) l1 xs := q1
    have hL2 : S2.Is (Shared.heap ⟨zh1 S1 hp l1, g, d, tk, os⟩) l2 ys := S2.isKeep q2 fun o e => Heap.get?_push_of_some _ e
    wp_walk using S1.iter hL1, S2.iter hL2
    exact ⟨_, rfl, h⟩
noncomputable def Itz (S1 S2 : Src) (K : PySem.W.Frag) (a b : Addr) : It :=
  ⟨fun i H => ∃ xs ys x y, S1.Sq K H a xs ∧ S2.Sq K H b ys ∧ xs[i]? = some x ∧ ys[i]? = some y,
   fun i H x H' => ∃ T u v, H T = none ∧ x = .ref T ∧ H' = upd H T (.tup [u, v]) ∧ ∀ xs ys, S1.Sq K H a xs → S2.Sq K H b ys → xs[i]? = some u ∧ ys[i]? = some v,
   fun i H => ∃ xs ys, S1.Sq K H a xs ∧ S2.Sq K H b ys ∧ min xs.length ys.length = i⟩
theorem zap {z TI TO j1 j2 a b : Addr} (nd : [z, TI, TO, j1, j2].Nodup) (h1 : ∀ c ∈ [z, TI, TO, j1, j2], c ≠ a) (h2 : ∀ c ∈ [z, TI, TO, j1, j2], c ≠ b) : ZApart z TI TO j1 j2 [j1, a] [j2, b] := by
  simp only [List.nodup_cons, List.mem_cons, List.not_mem_nil, or_false, not_or] at nd
  obtain ⟨⟨c1, c2, c3, c4⟩, ⟨c5, c6, c7⟩, ⟨c8, c9⟩, c10, _⟩ := nd
  have g1 := h1 z (by simp)
  have g2 := h1 TO (by simp)
  have g3 := h1 j2 (by simp)
  have g4 := h2 z (by simp)
  have g5 := h2 TO (by simp)
  have g6 := h2 j1 (by simp)
  exact ⟨Ne.symm c1, Ne.symm c2, Ne.symm c3, Ne.symm c4, c5, c6, c7, c8, c9, c10, by simp [c3, g1], by simp [c8, g2], by simp [Ne.symm c10, g3], by simp [c4, g4], by simp [c9, g5], by simp [c10, g6]⟩
theorem turn_zip {P : Program} {w : World} {K : PySem.W.Frag} {elts : List Expr} {k0 : Nat} {pos : Pos} (S1 S2 : Src) (a b z TI TO j1 j2 : Addr) (nd : [z, TI, TO, j1, j2].Nodup) :
    Turn P w K (.Tuple elts k0 pos) (Itz S1 S2 K a b) [z, TI, TO, j1, j2] z (fun i h => IsZip h z TI TO .none ∧ IsPair h TI (.ref j1) (.ref j2) ∧ (∃ u v, IsPair h TO u v) ∧ S1.It h j1 a i ∧ S2.It h j2 b i) where
  mem := by simp
  obj := fun i h st c hc => by
    obtain ⟨q1, q2, ⟨u, v, q3⟩, q4, q5⟩ := st
    simp only [List.mem_cons, List.not_mem_nil, or_false] at hc
    rcases hc with rfl | rfl | rfl | rfl | rfl
    · exact ⟨_, q1, fun v z => nomatch z⟩
    · exact ⟨_, q2, fun v z => nomatch z⟩
    · exact ⟨_, q3, fun v z => nomatch z⟩
    · obtain ⟨o, ho, _, hd⟩ := S1.isIt q4
      exact ⟨o, ho, fun v z => by rw [hd] at z; cases z⟩
    · obtain ⟨o, ho, _, hd⟩ := S2.isIt q5
      exact ⟨o, ho, fun v z => by rw [hd] at z; cases z⟩
  keep := fun i h h' st k => by
    obtain ⟨q1, q2, ⟨u, v, q3⟩, q4, q5⟩ := st
    exact ⟨k z (by simp) _ q1, k TI (by simp) _ q2, ⟨u, v, k TO (by simp) _ q3⟩, S1.itKeep q4 fun o q => k j1 (by simp) o q, S2.itKeep q5 fun o q => k j2 (by simp) o q⟩
  item := by
    intro X hP hw hK hc i pins s σ H E I hf st hg
    subst hP hw hK
    obtain ⟨xs, ys, x, y, hq1, hq2, hx, hy⟩ := hg
    obtain ⟨us, r1, p1, _⟩ := S1.get I hq1
    obtain ⟨vs, r2, p2, _⟩ := S2.get I hq2
    obtain ⟨q1, q2, ⟨u0, v0, q3⟩, q4, q5⟩ := st
    obtain ⟨u, hu, ru⟩ := r1.get hx
    obtain ⟨v, hv, rv⟩ := r2.get hy
    have Z := zap nd (fun c hc' => S1.off I hq1 (hf c hc')) (fun c hc' => S2.off I hq2 (hf c hc'))
    have hh : X.A.in1.handled = none := I.ok.hd hc
    have n1 : a ≠ j1 := Ne.symm (S1.off I hq1 (hf j1 (by simp)))
    have n2 : b ≠ j2 := Ne.symm (S2.off I hq2 (hf j2 (by simp)))
    have l1 : i < us.toArray.size := by have := (List.getElem?_eq_some_iff.mp hu).1; simpa using this
    have l2 : i < vs.toArray.size := by have := (List.getElem?_eq_some_iff.mp hv).1; simpa using this
    have hT : s.TypeIs (.ref z) "zip" := ⟨_, q1, rfl⟩
    unfold pyNext
    refine wpAny_bind (wpAny_attempt (wpAny_callSpecial?_slot (name := Str.ofString "__next__") hT F.slot_zip_next (wpAny_call_entry F.slot_zip_next hT F.entry_zip_next
      (zip_itemD (A := X.A.in1) Z (S1.draws hh j1 a n1 us.toArray) (S2.draws hh j2 b n2 vs.toArray) q1 q2 q3 ⟨q4, p1⟩ ⟨q5, p2⟩ l1 l2 fun x' y' h' tk px py z1 z2 z3 z4 z5 z6 z7 => wpAny_pure ?_) (F.args_zip_next_1 _))))
    have ex : x' = u := by
      have : us.toArray[i]? = some u := by simpa using hu
      rw [this] at px
      exact (Option.some.inj px).symm
    have ey : y' = v := by
      have : vs.toArray[i]? = some v := by simpa using hv
      rw [this] at py
      exact (Option.some.inj py).symm
    subst ex ey
    refine ⟨_, rfl, wpAny_letOwnedTupleGo_zip z1 fun h2 w1 hs2 => ?_⟩
    have nz : ∀ c, c ∈ [TI, TO, j1, j2] → c ≠ z := fun c hc' e => by
      subst e
      exact (List.nodup_cons.mp nd).1 hc'
    have zlt : z < s.heap.objs.size := Heap.lt_size q1
    have hT2 : h2.get? s.heap.objs.size = some { cls := .type "tuple", data := .seq #[x', y'] } := hs2.extBut _ _ (neLt (Nat.le_refl _) zlt) z5
    have kept : ∀ c ob, c ∉ [z, TI, TO, j1, j2] → s.heap.get? c = some ob → h2.get? c = some ob := fun c ob hc' q => hs2.extBut _ _ (fun e => hc' (by simp [e])) (z6 c ob hc' q)
    obtain ⟨u1, v1, z2⟩ := z2
    refine ⟨.ref s.heap.objs.size, upd H s.heap.objs.size (.tup [x, y]), ?_, rfl, ⟨_, x, y, I.fresh, rfl, rfl, fun xs' ys' h1 h2 => by rw [S1.inj I h1 hq1, S2.inj I h2 hq2]; exact ⟨hx, hy⟩⟩,
      ⟨w1, hs2.extBut _ _ (nz TI (by simp)) z7, ⟨u1, v1, hs2.extBut _ _ (nz TO (by simp)) z2⟩, S1.itKeep z3.1 fun o q => hs2.extBut _ _ (nz j1 (by simp)) q, S2.itKeep z4.1 fun o q => hs2.extBut _ _ (nz j2 (by simp)) q⟩, fun c hc' => ?_⟩
    · exact I.turns (t' := tk) hf kept (Nat.le_refl _) ⟨(by show 2 ≤ sizeLine; decide), [x', y'], .cons ru (.cons rv .nil), _, hT2, rfl, ⟨0, rfl⟩, rfl⟩
    · have lt : c < s.heap.objs.size := by
        have st' : IsZip s.heap z TI TO .none ∧ IsPair s.heap TI (.ref j1) (.ref j2) ∧ (∃ u v, IsPair s.heap TO u v) ∧ S1.It s.heap j1 a i ∧ S2.It s.heap j2 b i := ⟨q1, q2, ⟨u0, v0, q3⟩, q4, q5⟩
        simp only [List.mem_cons, List.not_mem_nil, or_false] at hc'
        rcases hc' with rfl | rfl | rfl | rfl | rfl
        · exact zlt
        · exact Heap.lt_size q2
        · exact Heap.lt_size q3
        · obtain ⟨o, ho, _⟩ := S1.isIt q4
          exact Heap.lt_size ho
        · obtain ⟨o, ho, _⟩ := S2.isIt q5
          exact Heap.lt_size ho
      rw [upd_ne (ltNe lt (Nat.le_refl _))]
      exact (hf c hc').1
  done := by
    intro X hP hw hK hc i pins s σ H E I hf st hg
    subst hP hw hK
    obtain ⟨xs, ys, hq1, hq2, hi⟩ := hg
    obtain ⟨us, r1, p1, _⟩ := S1.get I hq1
    obtain ⟨vs, r2, p2, _⟩ := S2.get I hq2
    obtain ⟨q1, q2, ⟨u0, v0, q3⟩, q4, q5⟩ := st
    have Z := zap nd (fun c hc' => S1.off I hq1 (hf c hc')) (fun c hc' => S2.off I hq2 (hf c hc'))
    have hh : X.A.in1.handled = none := I.ok.hd hc
    have n1 : a ≠ j1 := Ne.symm (S1.off I hq1 (hf j1 (by simp)))
    have n2 : b ≠ j2 := Ne.symm (S2.off I hq2 (hf j2 (by simp)))
    have hT : s.TypeIs (.ref z) "zip" := ⟨_, q1, rfl⟩
    have hl : i = min us.toArray.size vs.toArray.size := by
      have := r1.length
      have := r2.length
      simp only [List.size_toArray]
      omega
    unfold pyNext
    refine wpAny_bind (wpAny_attempt (wpAny_callSpecial?_slot (name := Str.ofString "__next__") hT F.slot_zip_next (wpAny_call_entry F.slot_zip_next hT F.entry_zip_next
      (zip_endD (A := X.A.in1) Z (S1.draws hh j1 a n1 us.toArray) (S2.draws hh j2 b n2 vs.toArray) q1 q2 q3 ⟨q4, p1⟩ ⟨q5, p2⟩ hl fun h' e tk kp he => ?_) (F.args_zip_next_1 _))))
    obtain ⟨o, ho, hcl⟩ := he
    refine wpAny_bind (wpAny_isInstance (T := "StopIteration") (b := true) ⟨o, ho, hcl⟩ isSubtype_stop ?_)
    exact wpAny_pure ⟨rfl, I.turnsN (t' := tk) hf kp⟩
  self := fun _ _ _ _ _ st h => wpAny_pyIter_zip st.1 h
section
variable {X : Cx} {elts : List Expr} {k0 : Nat} {tpos : Pos}
noncomputable def iZip (S1 S2 : Src) (K : PySem.W.Frag) (ta : TA) : TI := fun σ H R => ta σ H fun vs H1 => ∃ a b xs ys, vs = [.ref a, .ref b] ∧ S1.Sq K H1 a xs ∧ S2.Sq K H1 b ys ∧ R (Itz S1 S2 K a b) H1
theorem pi_zip (S1 S2 : Src) {a b : Expr} {ta : TA} {p pos : Pos} (hg : Gl X "zip") (hm : X.mg "zip" = none) (ha : PA X [a, b] ta) (hs : starEach [a, b] X.env = [(false, eval a X.env), (false, eval b X.env)] := by rfl) (hs2 : starEach [b] X.env = [(false, eval b X.env)] := by rfl) :
    PI X (.Tuple elts k0 tpos) (.Call (.Name "zip" p) [a, b] [] pos) (iZip S1 S2 X.K ta) := by
  intro pins s σ H R I h
  refine Call_ (ld_blt I hg hm boot_zip (PyProof.Rows.callWith_type1 (thn (ha pos pins s σ H _ I h) fun us s1 ⟨vs, H1, I1, r1, q1⟩ => ?_) (by rw [hs, hs2]) (by rw [hs2]; rfl)))
  obtain ⟨l1, l2, xs, ys, e, hq1, hq2, q⟩ := q1
  subst e
  obtain ⟨u, v, rfl, ru, rv⟩ := r1.two
  cases ru
  cases rv
  obtain ⟨us1, _, p1, _⟩ := S1.get I1 hq1
  obtain ⟨us2, _, p2, _⟩ := S2.get I1 hq2
  refine callType_new F.called_zip (by decide) (F.typeCall_zip_2 _ _) (F.newCall_zip_2 _ _) (fun obj => F.args_object_init_3 obj _ _) F.entry_zip_new (new_zip S1 S2 l1 l2 us1.toArray us2.toArray) ⟨p1, p2, ?_⟩
  generalize hn : s1.heap.objs.size = n
  have z1 : (zh1 S1 s1.heap l1).objs.size = n + 1 := by rw [Heap.size_push, hn]
  have z2 : (zh2 S1 S2 s1.heap l1 l2).objs.size = n + 2 := by rw [Heap.size_push, z1]
  have z3 : (zh3 S1 S2 s1.heap l1 l2).objs.size = n + 3 := by rw [Heap.size_push, z2]
  have z4 : (zh4 S1 S2 s1.heap l1 l2).objs.size = n + 4 := by rw [Heap.size_push, z3]
  have g5 : (zh5 S1 S2 s1.heap l1 l2).get? (zh4 S1 S2 s1.heap l1 l2).objs.size = some _ := Heap.get?_push_size _ rfl
  have g4 : (zh5 S1 S2 s1.heap l1 l2).get? (zh3 S1 S2 s1.heap l1 l2).objs.size = some _ := Heap.get?_push_of_some _ (Heap.get?_push_size _ rfl)
  have g3 : (zh5 S1 S2 s1.heap l1 l2).get? (zh2 S1 S2 s1.heap l1 l2).objs.size = some _ := Heap.get?_push_of_some _ (Heap.get?_push_of_some _ (Heap.get?_push_size _ rfl))
  have g2 : (zh5 S1 S2 s1.heap l1 l2).get? (zh1 S1 s1.heap l1).objs.size = some _ := Heap.get?_push_of_some _ (Heap.get?_push_of_some _ (Heap.get?_push_of_some _ (Heap.get?_push_size _ rfl)))
  have g1 : (zh5 S1 S2 s1.heap l1 l2).get? s1.heap.objs.size = some _ := Heap.get?_push_of_some _ (Heap.get?_push_of_some _ (Heap.get?_push_of_some _ (Heap.get?_push_of_some _ (Heap.get?_push_size _ rfl))))
  have kp : ∀ c o, s1.heap.get? c = some o → (zh5 S1 S2 s1.heap l1 l2).get? c = some o := fun c o e =>
    Heap.get?_push_of_some _ (Heap.get?_push_of_some _ (Heap.get?_push_of_some _ (Heap.get?_push_of_some _ (Heap.get?_push_of_some _ e))))
  show _ ∧ _
  rw [z2, z3, z4] at g5
  rw [z1, z2, hn] at g3
  rw [z3] at g4
  rw [z1] at g2
  rw [hn] at g1
  rw [z4]
  refine ⟨⟨_, g5, rfl⟩, wpAny_pyIter_zip g5 ?_⟩
  have I2 : Inv X pins σ H1 { s1 with heap := zh5 S1 S2 s1.heap l1 l2 } := I1.kept (t' := s1.toks) kp
  refine ⟨n + 4, [n + 4, n + 2, n + 3, n, n + 1], _, _, H1, rfl, I2, turn_zip S1 S2 l1 l2 _ _ _ _ _ (by simp), ⟨g5, g3, ⟨_, _, g4⟩, S1.mkI g1 rfl rfl, S2.mkI g2 rfl rfl⟩, fun c hc => ?_, q⟩
  have hc' : s1.heap.objs.size ≤ c := by
    rw [hn]
    simp only [List.mem_cons, List.not_mem_nil, or_false] at hc
    rcases hc with rfl | rfl | rfl | rfl | rfl
    · exact Nat.le_add_right _ _
    · exact Nat.le_add_right _ _
    · exact Nat.le_add_right _ _
    · exact Nat.le_refl _
    · exact Nat.le_add_right _ _
  exact I1.fpOk hc' (I1.hok.fresh hc')
end
end L2

end

section
-- KcMore
set_option Elab.async false
set_option linter.all false
set_option maxRecDepth 100000
set_option maxHeartbeats 4000000
namespace L2
open PySem PySem.Spec PyProof.Rows

section
variable {X : Cx}
/-! ### t + u, whatever is empty -/
noncomputable def rCatG (K : PySem.W.Frag) : R2 := fun x y H Q => ∃ a b xs ys, x = .ref a ∧ y = .ref b ∧ SqT K H a xs ∧ SqT K H b ys ∧ xs.length + ys.length ≤ sizeLine ∧
  (xs = [] → Q (.ref b) H) ∧ (xs ≠ [] → ys = [] → Q (.ref a) H) ∧ (xs ≠ [] → ys ≠ [] → ∀ p, H p = none → Q (.ref p) (upd H p (.tup (xs ++ ys))))
theorem op_catG : OpR X (binaryOp .Add) (rCatG X.K) := by
  intro pins s σ H x y v u Q I rx ry h
  obtain ⟨a, b, xs, ys, rfl, rfl, ha, hb, hz, q0, q1, q2⟩ := h
  by_cases hx : xs = []
  · cases rx
    cases ry
    obtain ⟨its, r1, p1, _⟩ := I.tuple ha
    obtain ⟨its2, r2, p2, _⟩ := I.tuple hb
    obtain ⟨⟨cls, dd, data, sl⟩, ho, hc, n, hd⟩ := id p1
    obtain ⟨⟨cls2, dd2, data2, sl2⟩, ho2, hc2, n2, hd2⟩ := id p2
    simp only at hc hd hc2 hd2
    subst hc hd hc2 hd2
    have e : its = [] := r1.nil_iff.mpr hx
    exact concat_meets ⟨_, ho, rfl⟩ ⟨_, ho2, rfl⟩ noFill_tuple_add seq_tuple_add PySem.F.slot_tuple_add PySem.F.entry_tuple_add (PySem.F.args_tuple_add_2 _ _)
      (tuple_addW0 a b its.toArray its2.toArray n n2 dd dd2 sl sl2 (by simp [e])) ⟨ho, ho2, ⟨.ref b, H, I, rfl, q0 hx⟩⟩
  · exact op_catT pins s σ H _ _ v u Q I rx ry ⟨a, b, xs, ys, rfl, rfl, ha, hb, hx, hz, q1 hx, q2 hx⟩

/-! ### t.count(x): flat items -/
theorem count_eqU {x : V} : ∀ {xs : List V} {us : List Value}, Vals xs us → xs.all flatV = true → us.countP (eqU x) = xs.countP fun y => eqV y x
  | _, _, .nil, _ => rfl
  | y :: xs, u :: us, .cons r t, f => by
    rw [List.all_cons, Bool.and_eq_true] at f
    rw [List.countP_cons, List.countP_cons, eqU_of r f.1, count_eqU t f.2]
noncomputable def tBT (r : V → List V → Hp → VK → Prop) (to : TE) (t : TA) : TE := fun σ H Q => to σ H fun x H1 => (∃ a xs, x = .ref a ∧ H1 a = some (.tup xs)) ∧ t σ H1 fun xs H2 => r x xs H2 Q
theorem pe_bt {o e : Expr} {es : List Expr} {to : TE} {t : TA} {name : Str} {apos cpos : Pos} {id : String} {r : V → List V → Hp → VK → Prop} (pa : PlainAttrs "tuple") (slot : Slot "tuple" name id) (hty : typeOf (.builtin id) = pure (.type "method_descriptor")) (hm : MtR X id r) (ho : PE X o to) (ha : PA X (e :: es) t)
    (hbase : attributeBase o name X.env (eval o X.env) = eval o X.env := by rfl)
    (hfew : ((backTo cpos (starEach (e :: es) X.env)).all (fun x => !x.1) && (backToKw cpos (keywordEach [] X.env)).all (fun x => x.1.isSome)
      && decide ((e :: es).length + ([] : List Keyword).length + (if ([] : List Keyword).isEmpty then 0 else 1) < 30)) = true := by rfl)
    (hline : (apos.endLine == cpos.line) = true := by rfl) (hs : starEach (e :: es) X.env = (false, eval e X.env) :: starEach es X.env := by rfl) (hplain : (backTo cpos (starEach es X.env)).any (·.1) = false := by rfl) :
    PE X (.Call (.Attribute o name apos) (e :: es) [] cpos) (tBT r to t) := by
  intro pins s σ H Q I h
  refine wpAny_Call_method_late hbase hfew hline rfl (thn (ho pins s σ H _ I h) fun v s1 ⟨x, H1, I1, r1, ty, q1⟩ => ?_)
  obtain ⟨a, xs, rfl, hx⟩ := ty
  cases r1
  obtain ⟨_, its, _, o', ho', hc', _, hd'⟩ := I1.hok a _ hx
  refine ⟨"tuple", id, pa, slot, hty, ⟨o', ho', hc'⟩, fun b e => ?_, ?_⟩
  · cases e
    exact ⟨o', ho', hd'⟩
  have hA := ha cpos pins s1 σ H1 _ I1 q1
  rw [hs] at hA ⊢
  refine Calls.callWith_builtin (by show (false || (backTo cpos (starEach es X.env)).any (·.1)) = false; rw [hplain] <;> rfl) (Calls.evalArgs_plain ?_)
  exact thn hA fun us s2 ⟨vs, H2, I2, r2, q2⟩ => hm pins s2 σ H2 (.ref a) vs (.ref a) us Q I2 rfl r2 q2
noncomputable def rCountT : V → List V → Hp → VK → Prop := fun x vs H Q => ∃ l xs y, x = .ref l ∧ vs = [y] ∧ H l = some (.tup xs) ∧ flatV y = true ∧ xs.all flatV = true ∧ Q (.int (xs.countP fun z => eqV z y : Nat)) H
theorem mt_countT : MtR X "tuple.count" rCountT := by
  intro pins s σ H x vs v us Q I rx rv h
  obtain ⟨l, xs, y, rfl, rfl, hH, fy, fx, q⟩ := h
  cases rx
  obtain ⟨u, rfl, ru⟩ := rv.one
  obtain ⟨_, its, r, ⟨cls, dd, data, sl⟩, ho, hc, ⟨n, hd⟩, hdd⟩ := I.hok l _ hH
  simp only at hc hd hdd
  subst hc hd hdd
  refine call_meets PySem.F.slot_tuple_count ⟨_, ho, rfl⟩ PySem.F.entry_tuple_count (PySem.F.args_tuple_count_2 _ _) (SeqAt.tuple_countAt l its.toArray n none sl u (eqU y)) ⟨ho, fun z hz => mem_eqAt ru fy r fx z (by simpa using hz), ?_⟩
  refine ⟨.int (xs.countP fun z => eqV z y : Nat), H, I.tok _, ⟨s.toks, ?_⟩, q⟩
  show Value.int ((its.toArray.toList.countP (eqU y) : Nat) : Int) s.toks = _
  rw [show its.toArray.toList = its from rfl, count_eqU r fx]

/-! ### max of a list of ints, xs.index(m) -/
noncomputable def rIndex : V → List V → Hp → VK → Prop := fun x vs H Q => ∃ (l : Addr) (ns : List Int) (m : Int) (j : Nat), x = .ref l ∧ vs = [.int m] ∧ H l = some (.lst (ns.map V.int)) ∧ ns[j]? = some m ∧ (∀ i, i < j → ns[i]? ≠ some m) ∧ j ≤ 1000 ∧ Q (.int j) H
theorem mt_index : MtR X "list.index" rIndex := by
  intro pins s σ H x vs v us Q I rx rv h
  obtain ⟨l, ns, m, j, rfl, rfl, hH, hj, hno, h1000, q⟩ := h
  cases rx
  obtain ⟨u, rfl, t, rfl⟩ := rv.one
  obtain ⟨z, its, n, r, hl, e⟩ := I.lstM hH
  have at_ : ∀ (i : Nat) (hi : i < its.toArray.size), ∃ k t', ns[i]? = some k ∧ its.toArray[i] = .int k t' := fun i hi => by
    have hi' : i < ns.length := by
      rw [List.length_map] at hl
      have : i < its.length := by simpa using hi
      omega
    obtain ⟨w', hw, rw'⟩ := r.get (i := i) (x := .int ns[i]) (by rw [List.getElem?_map, List.getElem?_eq_getElem hi'] <;> rfl)
    obtain ⟨t', e'⟩ := (show ∃ t', w' = Value.int ns[i] t' from rw')
    have := (List.getElem?_eq_some_iff.mp hw).2
    exact ⟨ns[i], t', List.getElem?_eq_getElem hi', by rw [← e']; simpa using this⟩
  have hjs : j < its.toArray.size := by
    have := (List.getElem?_eq_some_iff.mp hj).1
    rw [List.length_map] at hl
    simp only [List.size_toArray]
    omega
  refine call_meets PySem.F.slot_list_index ⟨_, e, rfl⟩ PySem.F.entry_list_index (PySem.F.args_list_index_2 _ _) (SeqAt.list_indexAt l its.toArray n none #[] (.int m t) (eqU (.int m)) j hjs (by omega) ?_ ?_) ⟨e, fun y hy => ?_, ?_⟩
  · obtain ⟨k, t', e1, e2⟩ := at_ j hjs
    rw [e2]
    rw [hj] at e1
    cases e1
    exact beq_self_eq_true m
  · intro i hi hlt
    obtain ⟨k, t', e1, e2⟩ := at_ i hi
    rw [e2]
    show (k == m) = false
    exact beq_eq_false_iff_ne.mpr fun z => hno i hlt (by rw [e1, z])
  · exact mem_eqAt (x := .int m) ⟨t, rfl⟩ rfl r (by rw [List.all_map]; simp [flatV]) y (by simpa using hy)
  · exact ⟨.int j, H, I.tok _, ⟨_, rfl⟩, q⟩
end
end L2

end

section
-- KcRd
set_option Elab.async false
set_option linter.all false
set_option maxRecDepth 100000
set_option maxHeartbeats 4000000
namespace L2
open PySem
/-! ### the reading of a term, one step a row -/
section
variable {σ : St} {H : Hp} {Q : VK} {D : Ends} {K : PySem.W.Frag}
theorem r_seq {t u : TS} (h : t { nx := u D, rt := D.rt, bk := D.bk, ct := D.ct } σ H) : tSeq t u D σ H := h
theorem r_seq_n {t u : TS} (h : ∀ NX : St → Hp → Prop, (∀ σ H, u D σ H → NX σ H) → t { nx := NX, rt := D.rt, bk := D.bk, ct := D.ct } σ H) : tSeq t u D σ H := h _ fun _ _ h => h
theorem r_next (h : D.nx σ H) : tNext D σ H := h
theorem r_asg {te : TE} {g : TG} (h : te σ H fun x H1 => g x σ H1 D.nx) : tAsg te g D σ H := h
theorem r_ret {te : TE} (h : te σ H D.rt) : tRet te D σ H := h
theorem r_retN (h : D.rt .non H) : tRetN D σ H := h
theorem r_drop {te : TE} (h : te σ H fun _ H1 => D.nx σ H1) : tDrop te D σ H := h
theorem r_ifS {c : TT} {t u : TS} (h : c σ H fun b H1 => if b = true then t D σ H1 else u D σ H1) : tIfS c t u D σ H := h
theorem r_break (h : D.bk σ H) : tBreak D σ H := h
theorem r_cont (h : D.ct σ H) : tCont D σ H := h
theorem r_name {i : Nat} {v : V} {R : St → Hp → Prop} (h : R (σ.set i (some v)) H) : gName i v σ H R := h
theorem r_gsub {to ti : TE} {t : TSet} {v : V} {R : St → Hp → Prop} (h : to σ H fun o H1 => ti σ H1 fun i H2 => t o i v H2 fun H3 => R σ H3) : gSub to ti t v σ H R := h
theorem r_var {i : Nat} {v : V} (e : σ[i]? = some (some v)) (h : Q v H) : tVar i σ H Q := ⟨v, e, h⟩
theorem r_c {v : V} (h : Q v H) : tC v σ H Q := h
theorem r_op {r : R2} {ta tb : TE} (h : ta σ H fun x H1 => tb σ H1 fun y H2 => r x y H2 Q) : tOp r ta tb σ H Q := h
theorem r_un {r : V → Hp → VK → Prop} {ta : TE} (h : ta σ H fun x H1 => r x H1 Q) : tUn r ta σ H Q := h
theorem r_I0 {g : Int → Int → V} {i j : Int} (h : Q (g i j) H) : rI0 g (.int i) (.int j) H Q := ⟨i, j, rfl, rfl, h⟩
theorem r_I {C : Int → Int → Prop} {g : Int → Int → V} {i j : Int} (c : C i j) (h : Q (g i j) H) : rI C g (.int i) (.int j) H Q := ⟨i, j, rfl, rfl, c, h⟩
theorem r_U {g : Int → V} {i : Int} (h : Q (g i) H) : rU g (.int i) H Q := ⟨i, rfl, h⟩
theorem r_eqI {i j : Int} (h : Q (.bl (decide (i = j))) H) : rEq (.int i) (.int j) H Q := ⟨rfl, by rw [show decide (V.int i = V.int j) = decide (i = j) from decide_eq_decide.mpr ⟨fun e => by injection e, fun e => by rw [e]⟩]; exact h⟩
theorem r_neI {i j : Int} (h : Q (.bl (!decide (i = j))) H) : rNe (.int i) (.int j) H Q := ⟨rfl, by rw [show decide (V.int i = V.int j) = decide (i = j) from decide_eq_decide.mpr ⟨fun e => by injection e, fun e => by rw [e]⟩]; exact h⟩
theorem r_eqB {i j : Bool} (h : Q (.bl (i == j)) H) : rEq (.bl i) (.bl j) H Q := ⟨rfl, by rw [show decide (V.bl i = V.bl j) = (i == j) by cases i <;> cases j <;> rfl]; exact h⟩
theorem r_neB {i j : Bool} (h : Q (.bl (!(i == j))) H) : rNe (.bl i) (.bl j) H Q := ⟨rfl, by rw [show decide (V.bl i = V.bl j) = (i == j) by cases i <;> cases j <;> rfl]; exact h⟩
theorem r_test {t : TE} {R : Bool → Hp → Prop} (h : t σ H fun x H' => ∃ k, x = .bl k ∧ R k H') : tTest t σ H R := h
theorem r_tb {t : TE} {R : Bool → Hp → Prop} (h : t σ H fun x H' => ∃ k, x = .bl k ∧ R k H') : tB t σ H R := h
theorem r_bl {b : Bool} {R : Bool → Prop} (h : R b) : ∃ k, V.bl b = .bl k ∧ R k := ⟨b, rfl, h⟩
theorem r_and {t u : TT} {R : Bool → Hp → Prop} (h : t σ H fun c H1 => if c = true then u σ H1 R else R false H1) : tAnd t u σ H R := h
theorem r_or {t u : TT} {R : Bool → Hp → Prop} (h : t σ H fun c H1 => if c = true then R true H1 else u σ H1 R) : tOr t u σ H R := h
theorem r_not {t : TT} {R : Bool → Hp → Prop} (h : t σ H fun c H1 => R (!c) H1) : tNot t σ H R := h
theorem r_andV {ta tb : TE} (h : ta σ H fun x H1 => ∃ c, x = .bl c ∧ if c = true then tb σ H1 Q else Q (.bl false) H1) : tAndV ta tb σ H Q := h
theorem r_orV {ta tb : TE} (h : ta σ H fun x H1 => ∃ c, x = .bl c ∧ if c = true then Q (.bl true) H1 else tb σ H1 Q) : tOrV ta tb σ H Q := h
theorem r_notV {ta : TE} (h : ta σ H fun x H1 => ∃ c, x = .bl c ∧ Q (.bl (!c)) H1) : tNotV ta σ H Q := h
theorem r_if {t : TT} {ta tb : TE} (h : t σ H fun c H1 => if c = true then ta σ H1 Q else tb σ H1 Q) : tIf t ta tb σ H Q := h
theorem r_chain {r r' : R2} {ta tb tc : TE} (h : ta σ H fun x H1 => tb σ H1 fun y H2 => r x y H2 fun z H3 => ∃ k, z = .bl k ∧ (if k = true then tc σ H3 fun w' H4 => r' y w' H4 Q else Q (.bl false) H3)) : tChain r r' ta tb tc σ H Q := h
theorem r_nil {R : List V → Hp → Prop} (h : R [] H) : tNil σ H R := h
theorem r_cons {ta : TE} {tr : TA} {R : List V → Hp → Prop} (h : ta σ H fun x H1 => tr σ H1 fun xs H2 => R (x :: xs) H2) : tCons ta tr σ H R := h
theorem r_call {sp : Sp} {E : XK} {t : TA} (h : t σ H fun vs H1 => sp vs H1 Q E) : tCall sp [] E t σ H Q := by
  show t σ H fun vs H1 => sp (vs ++ []) H1 Q E
  simpa only [List.append_nil] using h
theorem r_cb {r : List V → Hp → VK → Prop} {t : TA} (h : t σ H fun vs H1 => r vs H1 Q) : tCB r t σ H Q := h
theorem r_bm {T : String} {r : V → List V → Hp → VK → Prop} {to : TE} {t : TA} (h : to σ H fun x H1 => tyV K T x H1 ∧ t σ H1 fun xs H2 => r x xs H2 Q) : tBM K T r to t σ H Q := h
theorem r_bm0 {T : String} {r : V → List V → Hp → VK → Prop} {to : TE} (h : to σ H fun x H1 => tyV K T x H1 ∧ r x [] H1 Q) : tBM0 K T r to σ H Q := h
theorem r_bt {r : V → List V → Hp → VK → Prop} {to : TE} {t : TA} (h : to σ H fun x H1 => (∃ a xs, x = .ref a ∧ H1 a = some (.tup xs)) ∧ t σ H1 fun xs H2 => r x xs H2 Q) : tBT r to t σ H Q := h
theorem r_sl {r : V → Option Int → Option Int → Hp → VK → Prop} {te : TE} {tl th : TO} (h : te σ H fun x H1 => tl σ H1 fun l H2 => th σ H2 fun u H3 => r x l u H3 Q) : tSl r te tl th σ H Q := h
theorem r_nopart {R : Option Int → Hp → Prop} (h : R none H) : tNoPart σ H R := h
theorem r_part {t : TE} {R : Option Int → Hp → Prop} (h : t σ H fun x H1 => ∃ i, x = .int i ∧ R (some i) H1) : tPart t σ H R := h
theorem r_int {i : Int} {R : Int → Prop} (h : R i) : ∃ j, V.int i = .int j ∧ R j := ⟨i, rfl, h⟩
/-! loops: their sources -/
theorem r_for {wi : TI} {g : TG} {tb : TS} (h : wi σ H fun J H1 => ∃ W : Nat → Nat → St → Hp → Prop, (∃ m, W 0 m σ H1) ∧ ∀ i m σ H, W i m σ H →
    (J.stop i H ∧ D.nx σ H) ∨ (J.go i H ∧ ∃ N : St → Hp → Prop, (∀ σ' H', N σ' H' → ∃ m', m' < m ∧ W (i + 1) m' σ' H') ∧ ∀ x H', J.yld i H x H' → g x σ H' fun σ2 H2 => tb { D with nx := N, ct := N, bk := D.nx } σ2 H2)) : tFor wi g tb D σ H := h
theorem r_comp {wi : TI} {g : CF TG} {tt : CF TT} {te : CF TE} {ix : List (Option Nat)} (h : wi σ H fun J H1 => ∀ p, H1 p = none →
    ∃ W : Nat → Nat → List V → Hp → Prop, (∃ m, W 0 m [] (upd H1 p (.lst []))) ∧ ∀ C s' H' fp, CompBody J (g C s' H' fp) (tt C s' H' fp) (te C s' H' fp) (sub ix σ) p Q W) : tComp wi g tt te ix σ H Q := h
section
variable {R : It → Hp → Prop}
theorem r_iList {tl : TE} (h : tl σ H fun x H1 => ∃ a, x = .ref a ∧ (∃ xs, SqL K H1 a xs) ∧ R (Itl K a) H1) : iList K tl σ H R := h
theorem r_iTup {tl : TE} (h : tl σ H fun x H1 => ∃ a, x = .ref a ∧ (∃ xs, SqT K H1 a xs) ∧ R (Itt K a) H1) : iTup K tl σ H R := h
theorem r_iRng1 {ta : TA} (h : ta σ H fun vs H1 => ∃ j : Int, vs = [.int j] ∧ -(2 ^ 62) ≤ j ∧ j < 2 ^ 62 ∧ R (Itr 0 j.toNat) H1) : iRng1 ta σ H R := h
theorem r_iRng2 {ta : TA} (h : ta σ H fun vs H1 => ∃ i j : Int, vs = [.int i, .int j] ∧ (-(2 ^ 62) ≤ i ∧ i < 2 ^ 62 ∧ -(2 ^ 62) ≤ j ∧ j < 2 ^ 62) ∧ R (Itr i (j - i).toNat) H1) : iRng2 ta σ H R := h
theorem r_iEnum {S : Src} {ta : TA} (h : ta σ H fun vs H1 => ∃ a xs, vs = [.ref a] ∧ S.Sq K H1 a xs ∧ R (Ite S K a) H1) : iEnum S K ta σ H R := h
theorem r_iZip {S1 S2 : Src} {ta : TA} (h : ta σ H fun vs H1 => ∃ a b xs ys, vs = [.ref a, .ref b] ∧ S1.Sq K H1 a xs ∧ S2.Sq K H1 b ys ∧ R (Itz S1 S2 K a b) H1) : iZip S1 S2 K ta σ H R := h
end
/-! the heap -/
noncomputable def Off (l : Addr) (H H' : Hp) : Prop := ∀ b, b ≠ l → H' b = H b
theorem off_upd {l : Addr} {o : HO} : Off l H (upd H l o) := fun b hb => upd_ne hb
theorem Same.off {H0 H' : Hp} {l : Addr} (s : Same H0 H) (h : H0 l = none) (o : Off l H H') : Same H0 H' := fun b u q => by rw [o b (ne_of_none q h)]; exact s b u q
noncomputable def Keep (H H' : Hp) : Prop := ∀ b xs, H b = some (.tup xs) → H' b = some (.tup xs)
theorem Keep.refl (H : Hp) : Keep H H := fun _ _ h => h
theorem Same.keep {H' : Hp} (s : Same H H') : Keep H H' := fun b _ h => s b _ h
theorem Keep.trans {H1 H2 : Hp} (a : Keep H H1) (b : Keep H1 H2) : Keep H H2 := fun c o h => b c o (a c o h)
theorem Off.keep {H' : Hp} {l : Addr} {xs : List V} (o : Off l H H') (e : H l = some (.lst xs)) : Keep H H' := fun b ys q => by
  rw [o b (ne_of q e (by intro z; cases z))]
  exact q
theorem r_tup0 {t : TA} (h : t σ H fun xs H1 => xs.length ≤ sizeLine ∧ ∀ p, H1 p = none → Q (.ref p) (upd H1 p (.tup xs))) : tTup t σ H Q := h
theorem r_lst0 {t : TA} (h : t σ H fun xs H1 => xs.length ≤ sizeLine ∧ ∀ p, H1 p = none → Q (.ref p) (upd H1 p (.lst xs))) : tLst t σ H Q := h
theorem r_append {l : Addr} {xs : List V} {y : V} (e : H l = some (.lst xs)) (hz : xs.length < sizeLine) (h : ∀ H', Off l H H' → H' l = some (.lst (xs ++ [y])) → Q .non H') : rAppend (.ref l) [y] H Q := ⟨l, xs, y, rfl, rfl, e, hz, h _ off_upd upd_same⟩
theorem r_tyL {l : Addr} {xs : List V} (e : H l = some (.lst xs)) : tyV K "list" (.ref l) H := .inl ⟨rfl, xs, SqL.of e⟩
theorem r_ixL {l : Addr} {xs : List V} {i : Int} {v : V} (e : SqL K H l xs) (hv : atI xs i = some v) (h : Q v H) : rIxL K (.ref l) (.int i) H Q := ⟨l, xs, i, v, rfl, rfl, e, hv, h⟩
theorem r_ixT {l : Addr} {xs : List V} {i : Int} {v : V} (e : SqT K H l xs) (hv : atI xs i = some v) (h : Q v H) : rIxT K (.ref l) (.int i) H Q := ⟨l, xs, i, v, rfl, rfl, e, hv, h⟩
end
/-! ### tests -/
theorem ite_dec {p A B : Prop} [Decidable p] (h1 : p → A) (h2 : ¬ p → B) : if decide p = true then A else B := by
  by_cases h : p
  · rw [if_pos (decide_eq_true h)]; exact h1 h
  · rw [if_neg (by rw [decide_eq_false h]; exact Bool.false_ne_true)]; exact h2 h
theorem ite_ndec {p A B : Prop} [Decidable p] (h1 : ¬ p → A) (h2 : p → B) : if (!decide p) = true then A else B := by
  by_cases h : p
  · rw [if_neg (by rw [decide_eq_true h]; exact Bool.false_ne_true)]; exact h2 h
  · rw [if_pos (by rw [decide_eq_false h]; rfl)]; exact h1 h
theorem iteNT {A B : Prop} (h : B) : if (!true) = true then A else B := by exact iteF h
theorem iteNF {A B : Prop} (h : A) : if (!false) = true then A else B := by exact iteT h
theorem r_always {σ : St} {H : Hp} {R : Bool → Hp → Prop} (h : R true H) : tAlways σ H R := h
/-! ### the calls of built-ins, by their names -/
noncomputable def cLen (K : PySem.W.Frag) : List V → Hp → VK → Prop := fun xs H Q => ∃ p ys, xs = [.ref p] ∧ (SqL K H p ys ∨ SqT K H p ys) ∧ Q (.int ys.length) H
noncomputable def cSum (K : PySem.W.Frag) : List V → Hp → VK → Prop := fun xs H Q => ∃ (p : Addr) (ns : List Int), xs = [.ref p] ∧ SqL K H p (ns.map V.int) ∧ Q (.int ns.sum) H
noncomputable def cAll (K : PySem.W.Frag) : List V → Hp → VK → Prop := fun xs H Q => ∃ (p : Addr) (bs : List Bool), xs = [.ref p] ∧ SqL K H p (bs.map V.bl) ∧ Q (.bl (bs.all id)) H
noncomputable def cMin2 : List V → Hp → VK → Prop := fun xs H Q => ∃ i j, xs = [.int i, .int j] ∧ Q (.int (if j < i then j else i)) H
noncomputable def cMax2 : List V → Hp → VK → Prop := fun xs H Q => ∃ i j, xs = [.int i, .int j] ∧ Q (.int (if j > i then j else i)) H
noncomputable def cInt : List V → Hp → VK → Prop := fun xs H Q => (∃ i, xs = [.int i] ∧ Q (.int i) H) ∨ ∃ k, xs = [.bl k] ∧ Q (.int (if k then 1 else 0)) H
noncomputable def cTuple (K : PySem.W.Frag) : List V → Hp → VK → Prop := fun xs H Q => ∃ p ys, xs = [.ref p] ∧ ((SqL K H p ys ∧ ∀ l, H l = none → Q (.ref l) (upd H l (.tup ys))) ∨ (SqT K H p ys ∧ Q (.ref p) H))
section
variable {K : PySem.W.Frag} {H : Hp} {Q : VK}
theorem r_len {l : Addr} {ys : List V} (e : SqL K H l ys) (h : Q (.int ys.length) H) : cLen K [.ref l] H Q := ⟨l, ys, rfl, .inl e, h⟩
theorem r_lenTu {l : Addr} {ys : List V} (e : SqT K H l ys) (h : Q (.int ys.length) H) : cLen K [.ref l] H Q := ⟨l, ys, rfl, .inr e, h⟩
theorem r_min2 {i j : Int} (h : Q (.int (if j < i then j else i)) H) : cMin2 [.int i, .int j] H Q := ⟨i, j, rfl, h⟩
theorem r_max2 {i j : Int} (h : Q (.int (if j > i then j else i)) H) : cMax2 [.int i, .int j] H Q := ⟨i, j, rfl, h⟩
theorem r_intI {i : Int} (h : Q (.int i) H) : cInt [.int i] H Q := .inl ⟨i, rfl, h⟩
theorem r_intB {k : Bool} (h : Q (.int (if k then 1 else 0)) H) : cInt [.bl k] H Q := .inr ⟨k, rfl, h⟩
end
/-! ### new things: any heap that has one more -/
noncomputable def New (H : Hp) (o : HO) (Q : Addr → Hp → Prop) : Prop := ∀ p H', H p = none → Same H H' → H' p = some o → Q p H'
theorem New.upd {H : Hp} {o : HO} {Q : Addr → Hp → Prop} (h : New H o Q) : ∀ p, H p = none → Q p (upd H p o) := fun p hp => h p _ hp (same_new hp _) upd_same
noncomputable def mTup (t : TA) : TE := fun σ H Q => t σ H fun xs H1 => xs.length ≤ sizeLine ∧ New H1 (.tup xs) fun p H2 => Q (.ref p) H2
noncomputable def mLst (t : TA) : TE := fun σ H Q => t σ H fun xs H1 => xs.length ≤ sizeLine ∧ New H1 (.lst xs) fun p H2 => Q (.ref p) H2
noncomputable def mCat : R2 := fun x y H Q => ∃ l b xs zs, x = .ref l ∧ y = .ref b ∧ H l = some (.lst xs) ∧ H b = some (.lst zs) ∧ xs.length + zs.length ≤ sizeLine ∧ New H (.lst (xs ++ zs)) fun p H2 => Q (.ref p) H2
noncomputable def mCList (K : PySem.W.Frag) : List V → Hp → VK → Prop := fun xs H Q => ∃ p ys, xs = [.ref p] ∧ (SqL K H p ys ∨ SqT K H p ys) ∧ New H (.lst ys) fun l H2 => Q (.ref l) H2
noncomputable def mCTuple (K : PySem.W.Frag) : List V → Hp → VK → Prop := fun xs H Q => ∃ p ys, xs = [.ref p] ∧ SqL K H p ys ∧ New H (.tup ys) fun l H2 => Q (.ref l) H2
noncomputable def mSlL (K : PySem.W.Frag) : V → Option Int → Option Int → Hp → VK → Prop := fun x lo hi H Q => ∃ a xs, x = .ref a ∧ SqL K H a xs ∧ New H (.lst (cutV xs lo hi)) fun p H2 => Q (.ref p) H2
section
variable {σ : St} {H : Hp} {Q : VK} {K : PySem.W.Frag}
theorem m_tup {t : TA} (h : t σ H fun xs H1 => xs.length ≤ sizeLine ∧ New H1 (.tup xs) fun p H2 => Q (.ref p) H2) : mTup t σ H Q := h
theorem m_lst {t : TA} (h : t σ H fun xs H1 => xs.length ≤ sizeLine ∧ New H1 (.lst xs) fun p H2 => Q (.ref p) H2) : mLst t σ H Q := h
theorem m_cat {l b : Addr} {xs zs : List V} (h1 : H l = some (.lst xs)) (h2 : H b = some (.lst zs)) (hz : xs.length + zs.length ≤ sizeLine) (h : ∀ p H', H p = none → Same H H' → H' p = some (.lst (xs ++ zs)) → Q (.ref p) H') : mCat (.ref l) (.ref b) H Q := ⟨l, b, xs, zs, rfl, rfl, h1, h2, hz, h⟩
theorem m_list {p : Addr} {ys : List V} (e : SqL K H p ys) (h : ∀ l H', H l = none → Same H H' → H' l = some (.lst ys) → Q (.ref l) H') : mCList K [.ref p] H Q := ⟨p, ys, rfl, .inl e, h⟩
theorem m_tuple {p : Addr} {ys : List V} (e : SqL K H p ys) (h : ∀ l H', H l = none → Same H H' → H' l = some (.tup ys) → Q (.ref l) H') : mCTuple K [.ref p] H Q := ⟨p, ys, rfl, e, h⟩
theorem m_slL {a : Addr} {xs : List V} {lo hi : Option Int} (e : SqL K H a xs) (h : ∀ p H', H p = none → Same H H' → H' p = some (.lst (cutV xs lo hi)) → Q (.ref p) H') : mSlL K (.ref a) lo hi H Q := ⟨a, xs, rfl, e, h⟩
end
/-! ### loops, as the reading leaves them -/
section
variable {g : TG} {tb : TS} {NX : St → Hp → Prop} {RT : VK} {σ : St} {H : Hp} {K : PySem.W.Frag}
theorem lp_range {j : Int} (n : Nat) (hn : j.toNat = n) (hj : j ≤ 1000000000) (hj0 : -1000000000 ≤ j) (Pv : Nat → St → Hp → Prop) (h0 : Pv 0 σ H) (hs : ∀ i σ H, i < n → Pv i σ H → g (.int i) σ H fun σ2 H2 => tb { nx := Pv (i + 1), rt := RT, bk := NX, ct := Pv (i + 1) } σ2 H2) (hd : ∀ σ H, Pv n σ H → NX σ H) :
    ∃ j' : Int, [V.int j] = [.int j'] ∧ -(2 ^ 62) ≤ j' ∧ j' < 2 ^ 62 ∧ ∃ W : Nat → Nat → St → Hp → Prop, (∃ m, W 0 m σ H) ∧ ∀ i m σ H, W i m σ H →
      ((Itr 0 j'.toNat).stop i H ∧ NX σ H) ∨ ((Itr 0 j'.toNat).go i H ∧ ∃ N : St → Hp → Prop, (∀ σ' H', N σ' H' → ∃ m', m' < m ∧ W (i + 1) m' σ' H') ∧ ∀ x H', (Itr 0 j'.toNat).yld i H x H' → g x σ H' fun σ2 H2 => tb { nx := N, rt := RT, bk := NX, ct := N } σ2 H2) := by
  refine ⟨j, rfl, by omega, by omega, ?_⟩
  subst hn
  exact for_range (lo := 0) (D := { nx := NX, rt := RT }) Pv h0 (fun i σ H hi p => by rw [Int.zero_add]; exact hs i σ H hi p) hd
theorem lp_list {a : Addr} (xs : List V) (hx : SqL K H a xs) (Pv : Nat → St → Hp → Prop) (h0 : Pv 0 σ H) (hl : ∀ i σ H, i ≤ xs.length → Pv i σ H → SqL K H a xs) (hs : ∀ i x σ H, xs[i]? = some x → Pv i σ H → g x σ H fun σ2 H2 => tb { nx := Pv (i + 1), rt := RT, bk := NX, ct := Pv (i + 1) } σ2 H2) (hd : ∀ σ H, Pv xs.length σ H → NX σ H) :
    ∃ a', V.ref a = .ref a' ∧ (∃ xs, SqL K H a' xs) ∧ ∃ W : Nat → Nat → St → Hp → Prop, (∃ m, W 0 m σ H) ∧ ∀ i m σ H, W i m σ H →
      ((Itl K a').stop i H ∧ NX σ H) ∨ ((Itl K a').go i H ∧ ∃ N : St → Hp → Prop, (∀ σ' H', N σ' H' → ∃ m', m' < m ∧ W (i + 1) m' σ' H') ∧ ∀ x H', (Itl K a').yld i H x H' → g x σ H' fun σ2 H2 => tb { nx := N, rt := RT, bk := NX, ct := N } σ2 H2) :=
  ⟨a, rfl, ⟨xs, hx⟩, for_list (D := { nx := NX, rt := RT }) Pv h0 hl hs hd⟩
theorem lp_enum {S : Src} {a : Addr} (xs : List V) (hx : S.Sq K H a xs) (Pv : Nat → St → Hp → Prop) (h0 : Pv 0 σ H) (hl : ∀ i σ H, i ≤ xs.length → Pv i σ H → S.Sq K H a xs)
    (hs : ∀ i x T σ H H', xs[i]? = some x → Pv i σ H → H T = none → Same H H' → H' T = some (.tup [.int i, x]) → g (.ref T) σ H' fun σ2 H2 => tb { nx := Pv (i + 1), rt := RT, bk := NX, ct := Pv (i + 1) } σ2 H2) (hd : ∀ σ H, Pv xs.length σ H → NX σ H) :
    ∃ a' xs', [V.ref a] = [.ref a'] ∧ S.Sq K H a' xs' ∧ ∃ W : Nat → Nat → St → Hp → Prop, (∃ m, W 0 m σ H) ∧ ∀ i m σ H, W i m σ H →
      ((Ite S K a').stop i H ∧ NX σ H) ∨ ((Ite S K a').go i H ∧ ∃ N : St → Hp → Prop, (∀ σ' H', N σ' H' → ∃ m', m' < m ∧ W (i + 1) m' σ' H') ∧ ∀ x H', (Ite S K a').yld i H x H' → g x σ H' fun σ2 H2 => tb { nx := N, rt := RT, bk := NX, ct := N } σ2 H2) :=
  ⟨a, xs, rfl, hx, for_enum (D := { nx := NX, rt := RT }) Pv h0 hl (fun i x T σ H e p hT => hs i x T σ H _ e p hT (same_new hT _) upd_same) hd⟩
end
/-! two names at once -/
theorem g_pair {K : PySem.W.Frag} {i j : Nat} {a : Addr} {x y : V} {σ : St} {H : Hp} {R : St → Hp → Prop} (e : SqT K H a [x, y]) (h : R ((σ.set i (some x)).set j (some y)) H) : gTup K 2 (gCons (gName i) (gCons (gName j) gNil)) (.ref a) σ H R :=
  ⟨a, [x, y], rfl, e, rfl, x, [y], rfl, y, [], rfl, rfl, h⟩
/-! ### comprehensions, as the reading leaves them -/
noncomputable def CInv (H : Hp) (p : Addr) (R : Nat → List V → Hp → Prop) (i : Nat) (acc : List V) (H2 : Hp) : Prop := Same H H2 ∧ H2 p = some (.lst acc) ∧ acc.length ≤ i ∧ R i acc H2
theorem CInv.put {H H4 : Hp} {p : Addr} {R : Nat → List V → Hp → Prop} {i : Nat} {acc : List V} {y : V} (hp : H p = none) (st : ∀ i acc H H', R i acc H → Keep H H' → R i acc H') (s : Same H H4) (e : H4 p = some (.lst acc)) (l : acc.length ≤ i) (r : R (i + 1) (acc ++ [y]) H4) :
    H4 p = some (.lst acc) ∧ CInv H p R (i + 1) (acc ++ [y]) (upd H4 p (.lst (acc ++ [y]))) :=
  ⟨e, s.upd hp _, upd_same, by rw [List.length_append]; exact Nat.add_le_add_right l 1, st _ _ _ _ r (off_upd.keep e)⟩
theorem CInv.skip {H H4 : Hp} {p : Addr} {R : Nat → List V → Hp → Prop} {i : Nat} {acc : List V} (s : Same H H4) (e : H4 p = some (.lst acc)) (l : acc.length ≤ i) (r : R (i + 1) acc H4) : CInv H p R (i + 1) acc H4 := ⟨s, e, by omega, r⟩
section
variable {g : CF TG} {tt : CF TT} {te : CF TE} {σ₀ : St} {Q : VK} {H : Hp} {K : PySem.W.Frag}
theorem lc_range {j : Int} (n : Nat) (hn : j.toNat = n) (hj : j ≤ 1000000) (hj0 : -1000000 ≤ j) (R : Nat → List V → Hp → Prop) (h0 : ∀ H', Same H H' → R 0 [] H')
    (hs : ∀ p, H p = none → ∀ C s' H' fp, ∀ i acc H2, i < n → CInv H p R i acc H2 → g C s' H' fp (.int i) σ₀ H2 fun σ2 H3 => tt C s' H' fp σ2 H3 fun b H4 => if b = true then te C s' H' fp σ2 H4 fun y H5 => H5 p = some (.lst acc) ∧ CInv H p R (i + 1) (acc ++ [y]) (upd H5 p (.lst (acc ++ [y]))) else CInv H p R (i + 1) acc H4)
    (hd : ∀ p acc H2, H p = none → Same H H2 → H2 p = some (.lst acc) → R n acc H2 → Q (.ref p) H2) :
    ∃ j' : Int, [V.int j] = [.int j'] ∧ -(2 ^ 62) ≤ j' ∧ j' < 2 ^ 62 ∧ ∀ p, H p = none → ∃ W : Nat → Nat → List V → Hp → Prop, (∃ m, W 0 m [] (upd H p (.lst []))) ∧ ∀ C s' H' fp, CompBody (Itr 0 j'.toNat) (g C s' H' fp) (tt C s' H' fp) (te C s' H' fp) σ₀ p Q W := by
  refine ⟨j, rfl, by omega, by omega, fun p hp => ?_⟩
  subst hn
  exact comp_range (lo := 0) (CInv H p R) ⟨same_new hp _, upd_same, Nat.le_refl _, h0 _ (same_new hp _)⟩ (fun i acc H2 _ c => ⟨c.2.1, c.2.2.1⟩) (by rw [sizeLine_eq]; omega) (fun C s' H' fp i acc H2 hi c => by rw [Int.zero_add]; exact hs p hp C s' H' fp i acc H2 hi c) fun acc H2 c => hd p acc H2 hp c.1 c.2.1 c.2.2.2
theorem lc_list {a : Addr} (xs : List V) (hx : SqL K H a xs) (hz : xs.length ≤ 1000000) (R : Nat → List V → Hp → Prop) (h0 : ∀ H', Same H H' → R 0 [] H')
    (hs : ∀ p, H p = none → ∀ C s' H' fp, ∀ i x acc H2, xs[i]? = some x → CInv H p R i acc H2 → g C s' H' fp x σ₀ H2 fun σ2 H3 => tt C s' H' fp σ2 H3 fun b H4 => if b = true then te C s' H' fp σ2 H4 fun y H5 => H5 p = some (.lst acc) ∧ CInv H p R (i + 1) (acc ++ [y]) (upd H5 p (.lst (acc ++ [y]))) else CInv H p R (i + 1) acc H4)
    (hd : ∀ p acc H2, H p = none → Same H H2 → H2 p = some (.lst acc) → R xs.length acc H2 → Q (.ref p) H2) :
    ∃ a', V.ref a = .ref a' ∧ (∃ xs, SqL K H a' xs) ∧ ∀ p, H p = none → ∃ W : Nat → Nat → List V → Hp → Prop, (∃ m, W 0 m [] (upd H p (.lst []))) ∧ ∀ C s' H' fp, CompBody (Itl K a') (g C s' H' fp) (tt C s' H' fp) (te C s' H' fp) σ₀ p Q W :=
  ⟨a, rfl, ⟨xs, hx⟩, fun p hp => comp_list (CInv H p R) ⟨same_new hp _, upd_same, Nat.le_refl _, h0 _ (same_new hp _)⟩ (fun i acc H2 _ c => ⟨c.2.1, c.2.2.1⟩) (fun i acc H2 _ c => c.1.seq hx) (by rw [sizeLine_eq]; omega) (fun C s' H' fp i x acc H2 hi c => hs p hp C s' H' fp i x acc H2 hi c) fun acc H2 c => hd p acc H2 hp c.1 c.2.1 c.2.2.2⟩
theorem lc_tup {a : Addr} (xs : List V) (hx : SqT K H a xs) (hz : xs.length ≤ 1000000) (R : Nat → List V → Hp → Prop) (h0 : ∀ H', Same H H' → R 0 [] H')
    (hs : ∀ p, H p = none → ∀ C s' H' fp, ∀ i x acc H2, xs[i]? = some x → CInv H p R i acc H2 → g C s' H' fp x σ₀ H2 fun σ2 H3 => tt C s' H' fp σ2 H3 fun b H4 => if b = true then te C s' H' fp σ2 H4 fun y H5 => H5 p = some (.lst acc) ∧ CInv H p R (i + 1) (acc ++ [y]) (upd H5 p (.lst (acc ++ [y]))) else CInv H p R (i + 1) acc H4)
    (hd : ∀ p acc H2, H p = none → Same H H2 → H2 p = some (.lst acc) → R xs.length acc H2 → Q (.ref p) H2) :
    ∃ a', V.ref a = .ref a' ∧ (∃ xs, SqT K H a' xs) ∧ ∀ p, H p = none → ∃ W : Nat → Nat → List V → Hp → Prop, (∃ m, W 0 m [] (upd H p (.lst []))) ∧ ∀ C s' H' fp, CompBody (Itt K a') (g C s' H' fp) (tt C s' H' fp) (te C s' H' fp) σ₀ p Q W :=
  ⟨a, rfl, ⟨xs, hx⟩, fun p hp => comp_tup (CInv H p R) ⟨same_new hp _, upd_same, Nat.le_refl _, h0 _ (same_new hp _)⟩ (fun i acc H2 _ c => ⟨c.2.1, c.2.2.1⟩) (fun i acc H2 _ c => c.1.tup hx) (by rw [sizeLine_eq]; omega) (fun C s' H' fp i x acc H2 hi c => hs p hp C s' H' fp i x acc H2 hi c) fun acc H2 c => hd p acc H2 hp c.1 c.2.1 c.2.2.2⟩
end
/-! ### zip -/
section
variable {g : TG} {tb : TS} {NX : St → Hp → Prop} {RT : VK} {σ : St} {H : Hp} {K : PySem.W.Frag}
theorem lp_zip {S1 S2 : Src} {a b : Addr} (xs ys : List V) (hx : S1.Sq K H a xs) (hy : S2.Sq K H b ys) (Pv : Nat → St → Hp → Prop) (h0 : Pv 0 σ H) (hl : ∀ i σ H, Pv i σ H → S1.Sq K H a xs ∧ S2.Sq K H b ys)
    (hs : ∀ i x y T σ H H', xs[i]? = some x → ys[i]? = some y → Pv i σ H → H T = none → Same H H' → H' T = some (.tup [x, y]) → g (.ref T) σ H' fun σ2 H2 => tb { nx := Pv (i + 1), rt := RT, bk := NX, ct := Pv (i + 1) } σ2 H2) (hd : ∀ σ H, Pv (min xs.length ys.length) σ H → NX σ H) :
    ∃ a' b' xs' ys', [V.ref a, V.ref b] = [.ref a', .ref b'] ∧ S1.Sq K H a' xs' ∧ S2.Sq K H b' ys' ∧ ∃ W : Nat → Nat → St → Hp → Prop, (∃ m, W 0 m σ H) ∧ ∀ i m σ H, W i m σ H →
      ((Itz S1 S2 K a' b').stop i H ∧ NX σ H) ∨ ((Itz S1 S2 K a' b').go i H ∧ ∃ N : St → Hp → Prop, (∀ σ' H', N σ' H' → ∃ m', m' < m ∧ W (i + 1) m' σ' H') ∧ ∀ x H', (Itz S1 S2 K a' b').yld i H x H' → g x σ H' fun σ2 H2 => tb { nx := N, rt := RT, bk := NX, ct := N } σ2 H2) := by
  refine ⟨a, b, xs, ys, rfl, hx, hy, for_of (J := Itz S1 S2 K a b) (n := min xs.length ys.length) (D := { nx := NX, rt := RT }) (Y := fun i H x H1 => ∃ T u v, H T = none ∧ x = .ref T ∧ H1 = upd H T (.tup [u, v]) ∧ xs[i]? = some u ∧ ys[i]? = some v) Pv h0 (fun i σ H hi w => ?_) (fun σ H w => ?_) (fun i σ H x H1 hi w y => ?_) (fun i x σ H H1 hi w y => ?_) hd⟩
  · obtain ⟨q1, q2⟩ := hl i σ H w
    exact ⟨xs, ys, xs[i], ys[i], q1, q2, by simp [show i < xs.length by omega], by simp [show i < ys.length by omega]⟩
  · obtain ⟨q1, q2⟩ := hl _ σ H w
    exact ⟨xs, ys, q1, q2, rfl⟩
  · obtain ⟨T, u, v, e1, e2, e3, e4⟩ := y
    obtain ⟨q1, q2⟩ := hl _ σ H w
    obtain ⟨e5, e6⟩ := e4 xs ys q1 q2
    exact ⟨T, u, v, e1, e2, e3, e5, e6⟩
  · obtain ⟨T, u, v, e1, rfl, rfl, e4, e5⟩ := y
    exact hs i u v T σ H _ e4 e5 w e1 (same_new e1 _) upd_same
end
/-! ### lists of ints compared -/
section
variable {K : PySem.W.Frag} {H : Hp} {Q : VK} {a b : Addr} {ns ms : List Int}
end
/-! ### comprehensions over pairs; slices of tuples; texts -/
section
variable {g : CF TG} {tt : CF TT} {te : CF TE} {σ₀ : St} {Q : VK} {H : Hp} {K : PySem.W.Frag}
theorem lc_zip {S1 S2 : Src} {a b : Addr} (xs ys : List V) (hx : S1.Sq K H a xs) (hy : S2.Sq K H b ys) (kx : ∀ H', Same H H' → S1.Sq K H' a xs) (ky : ∀ H', Same H H' → S2.Sq K H' b ys) (hz : xs.length ≤ 1000000) (R : Nat → List V → Hp → Prop) (h0 : ∀ H', Same H H' → R 0 [] H')
    (hs : ∀ p, H p = none → ∀ C s' H' fp, ∀ i x y T acc H2 H3, xs[i]? = some x → ys[i]? = some y → CInv H p R i acc H2 → H2 T = none → Same H2 H3 → H3 T = some (.tup [x, y]) → H3 p = some (.lst acc) → g C s' H' fp (.ref T) σ₀ H3 fun σ2 H3 => tt C s' H' fp σ2 H3 fun b H4 => if b = true then te C s' H' fp σ2 H4 fun y H5 => H5 p = some (.lst acc) ∧ CInv H p R (i + 1) (acc ++ [y]) (upd H5 p (.lst (acc ++ [y]))) else CInv H p R (i + 1) acc H4)
    (hd : ∀ p acc H2, H p = none → Same H H2 → H2 p = some (.lst acc) → R (min xs.length ys.length) acc H2 → Q (.ref p) H2) :
    ∃ a' b' xs' ys', [V.ref a, V.ref b] = [.ref a', .ref b'] ∧ S1.Sq K H a' xs' ∧ S2.Sq K H b' ys' ∧ ∀ p, H p = none → ∃ W : Nat → Nat → List V → Hp → Prop, (∃ m, W 0 m [] (upd H p (.lst []))) ∧ ∀ C s' H' fp, CompBody (Itz S1 S2 K a' b') (g C s' H' fp) (tt C s' H' fp) (te C s' H' fp) σ₀ p Q W := by
  refine ⟨a, b, xs, ys, rfl, hx, hy, fun p hp => comp_of (n := min xs.length ys.length) (Y := fun i H x H1 => ∃ T u v, H T = none ∧ x = .ref T ∧ H1 = upd H T (.tup [u, v]) ∧ xs[i]? = some u ∧ ys[i]? = some v) (CInv H p R)
    ⟨same_new hp _, upd_same, Nat.le_refl _, h0 _ (same_new hp _)⟩ (fun i acc H2 _ c => ⟨c.2.1, c.2.2.1⟩) (by rw [sizeLine_eq]; omega) (fun i acc H2 hi c => ?_) (fun acc H2 c => ?_) (fun i acc H2 x H3 hi c y => ?_) (fun C s' H' fp i x acc H2 H3 hi c y => ?_) fun acc H2 c => hd p acc H2 hp c.1 c.2.1 c.2.2.2⟩
  · exact ⟨xs, ys, xs[i], ys[i], kx _ c.1, ky _ c.1, by simp [show i < xs.length by omega], by simp [show i < ys.length by omega]⟩
  · exact ⟨xs, ys, kx _ c.1, ky _ c.1, rfl⟩
  · obtain ⟨T, u, v, e1, e2, e3, e4⟩ := y
    obtain ⟨e5, e6⟩ := e4 xs ys (kx _ c.1) (ky _ c.1)
    exact ⟨T, u, v, e1, e2, e3, e5, e6⟩
  · obtain ⟨T, u, v, e1, rfl, rfl, e4, e5⟩ := y
    exact hs p hp C s' H' fp i u v T acc H2 _ e4 e5 c e1 (same_new e1 _) upd_same (by rw [upd_ne (ne_of_none c.2.1 e1)]; exact c.2.1)
theorem r_eqS {x y : Str} (h : Q (.bl (decide (x = y))) H) : rEq (.str x) (.str y) H Q := ⟨rfl, by rw [show decide (V.str x = V.str y) = decide (x = y) from decide_eq_decide.mpr ⟨fun e => by injection e, fun e => by rw [e]⟩]; exact h⟩
theorem r_neS {x y : Str} (h : Q (.bl (!decide (x = y))) H) : rNe (.str x) (.str y) H Q := ⟨rfl, by rw [show decide (V.str x = V.str y) = decide (x = y) from decide_eq_decide.mpr ⟨fun e => by injection e, fun e => by rw [e]⟩]; exact h⟩
end
/-! ### pop, extend; three names at once -/
section
variable {H : Hp} {Q : VK} {K : PySem.W.Frag}
end
theorem at_mod (xs : List V) (z : Int) {m : Nat} (hl : xs.length = m) (hm : 0 < m) : ∃ x, atI xs (z % (m : Int)) = some x ∧ x ∈ xs := by
  have m1 := Int.emod_nonneg z (b := (m : Int)) (by omega)
  have m2 := Int.emod_lt_of_pos z (b := (m : Int)) (by omega)
  have hk : (z % (m : Int)).toNat < xs.length := by omega
  refine ⟨xs[(z % (m : Int)).toNat], ?_, List.getElem_mem hk⟩
  have e : z % (m : Int) = (((z % (m : Int)).toNat : Nat) : Int) := by omega
  have q : atI xs (((z % (m : Int)).toNat : Nat) : Int) = some xs[(z % (m : Int)).toNat] := atI_nat (List.getElem?_eq_getElem hk)
  rw [← e] at q
  exact q
/-! ### is not, of truths; != of one thing and itself -/
noncomputable def rIsnB : R2 := fun x y H Q => ∃ a b, x = .bl a ∧ y = .bl b ∧ Q (.bl (!(a == b))) H
theorem r_isnB {a b : Bool} {H : Hp} {Q : VK} (h : Q (.bl (!(a == b))) H) : rIsnB (.bl a) (.bl b) H Q := ⟨a, b, rfl, rfl, h⟩
end L2

end
local macro_rules | `(tactic| walk_at "rb1") => `(tactic| first
  | ((with_reducible refine' L2.r_var (v := ?v) ?e ?h); (case e => exact rfl))
  | (with_reducible first | refine L2.r_next ?_ | refine L2.r_asg ?_ | refine L2.r_ret ?_ | refine L2.r_retN ?_ | refine L2.r_drop ?_ | refine L2.r_break ?_ | refine L2.r_cont ?_ | refine L2.r_name ?_ | refine L2.r_gsub ?_ | refine L2.r_c ?_ | refine L2.r_op ?_ | refine L2.r_un ?_ | refine L2.r_I0 ?_ | refine L2.r_U ?_ | refine L2.r_eqI ?_ | refine L2.r_neI ?_ | refine L2.r_eqS ?_ | refine L2.r_neS ?_ | refine L2.r_eqB ?_ | refine L2.r_neB ?_ | refine L2.r_isnB ?_ | refine L2.r_test ?_ | refine L2.r_tb ?_ | refine L2.r_bl ?_ | refine L2.r_int ?_ | refine L2.r_and ?_ | refine L2.r_or ?_ | refine L2.r_not ?_ | refine L2.r_andV ?_ | refine L2.r_orV ?_ | refine L2.r_notV ?_ | refine L2.r_if ?_ | refine L2.r_chain ?_ | refine L2.r_nil ?_ | refine L2.r_cons ?_ | refine L2.r_call ?_ | refine L2.r_cb ?_ | refine L2.r_bm ?_ | refine L2.r_bm0 ?_ | refine L2.r_bt ?_ | refine L2.r_sl ?_ | refine L2.r_nopart ?_ | refine L2.r_part ?_ | refine L2.r_for ?_ | refine L2.r_comp ?_ | refine L2.r_iList ?_ | refine L2.r_iTup ?_ | refine L2.r_iRng1 ?_ | refine L2.r_iRng2 ?_ | refine L2.r_iEnum ?_ | refine L2.r_iZip ?_ | refine L2.r_tup0 ?_ | refine L2.r_lst0 ?_ | refine L2.m_tup ?_ | refine L2.m_lst ?_ | refine L2.r_min2 ?_ | refine L2.r_max2 ?_ | refine L2.r_intI ?_ | refine L2.r_intB ?_ | refine L2.iteT ?_ | refine L2.iteF ?_ | refine L2.iteNT ?_ | refine L2.iteNF ?_ | refine L2.r_always ?_)
  | ((with_reducible refine L2.r_I ?_ ?_); (first | (show (0 : Int) < _; omega) | (show (0 : Int) < _; decide) | exact ⟨by decide, by decide, by decide⟩ | exact And.intro (by omega) (by omega) | exact (PySem.IntMulOk.of_right (PySem.intBits_le_64 (by omega) (by omega))) | exact (PySem.IntMulOk.of_left (PySem.intBits_le_64 (by omega) (by omega)))))
  | ((with_reducible refine' L2.r_len (ys := ?y) ?e ?h); (case e => first | assumption | exact L2.SqL.of (by assumption)))
  | ((with_reducible refine' L2.r_lenTu (ys := ?y) ?e ?h); (case e => first | assumption | exact L2.SqT.of (by assumption)))
  | dsimp only [List.set_cons_zero, List.set_cons_succ, L2.sub, List.map_cons, List.map_nil, List.getElem?_cons_zero, List.getElem?_cons_succ])
local macro_rules | `(tactic| walk_at "rd") => `(tactic| repeat (first | (with_reducible first | refine L2.r_seq ?_ | refine L2.r_ifS ?_) | walk_at "rb1"))
local macro_rules | `(tactic| walk_at "rs") => `(tactic| repeat (first | (with_reducible refine L2.r_ifS ?_) | walk_at "rb1"))
local macro_rules | `(tactic| walk_at "ra") => `(tactic| repeat (walk_at "rb1"))

section
-- KcMapK
set_option Elab.async false
set_option linter.all false
set_option maxRecDepth 100000
set_option maxHeartbeats 4000000
namespace L2
open PySem PyProof.Rows
/-! ### keys: None, truths and whole numbers; tuples of these; tuples that have such tuples in them -/
noncomputable abbrev IA := Option Int
noncomputable abbrev IK := Sum IA (List IA)
noncomputable abbrev MK := Sum IA (List IK)
noncomputable def iaV : V → Option IA
  | .non => some none
  | .bl b => some (some (if b then 1 else 0))
  | .int i => some (some i)
  | _ => none
noncomputable def ItemV (H : Hp) (x : V) : IK → Prop
  | .inl a => iaV x = some a
  | .inr as => ∃ c ys, x = .ref c ∧ H c = some (.tup ys) ∧ ys.map iaV = as.map some
noncomputable def KeyV (H : Hp) (x : V) : MK → Prop
  | .inl a => iaV x = some a
  | .inr is => ∃ c xs, x = .ref c ∧ H c = some (.tup xs) ∧ Paired (ItemV H) xs is
noncomputable def kSort : MK → Bool
  | .inl _ => false
  | .inr _ => true
theorem ItemV.keep {H H' : Hp} {x : V} {k : IK} (h : ItemV H x k) (kp : Keep H H') : ItemV H' x k := by
  cases k with
  | inl a => exact h
  | inr as => obtain ⟨c, ys, e, q, r⟩ := h; exact ⟨c, ys, e, kp _ _ q, r⟩
theorem KeyV.keep {H H' : Hp} {x : V} {k : MK} (h : KeyV H x k) (kp : Keep H H') : KeyV H' x k := by
  cases k with
  | inl a => exact h
  | inr as => obtain ⟨c, xs, e, q, r⟩ := h; exact ⟨c, xs, e, kp _ _ q, Paired.mapP r fun _ _ z => ItemV.keep z kp⟩
theorem keys_keep {H H' : Hp} {xs : List V} {ks : List MK} (h : Paired (KeyV H) xs ks) (kp : Keep H H') : Paired (KeyV H') xs ks := Paired.mapP h fun _ _ z => KeyV.keep z kp
theorem paired_at {α β : Type} {F : α → β → Prop} : ∀ {xs : List α} {ys : List β} {i : Nat} {x : α}, Paired F xs ys → xs[i]? = some x → ∃ y, ys[i]? = some y ∧ F x y
  | _, _, _, _, .nil, e => by simp at e
  | _, _, 0, _, .cons r _, e => by simp at e; subst e; exact ⟨_, rfl, r⟩
  | _, _, i + 1, x, .cons _ t, e => by
    obtain ⟨u, h1, h2⟩ := paired_at (i := i) (x := x) t (by simpa using e)
    exact ⟨u, by simpa using h1, h2⟩
theorem items_ints (H : Hp) : ∀ ns : List Int, Paired (ItemV H) (ns.map V.int) (ns.map fun n => (Sum.inl (some n) : IK))
  | [] => .nil
  | n :: r => .cons rfl (items_ints H r)
theorem key_tup {H : Hp} {c : Addr} {ns : List Int} (e : H c = some (.tup (ns.map V.int))) : KeyV H (.ref c) (.inr (ns.map fun n => (Sum.inl (some n) : IK))) := ⟨c, _, rfl, e, items_ints H ns⟩
theorem Off.keepD {H H' : Hp} {l : Addr} (o : Off l H H') (h : ∀ xs, H l ≠ some (.tup xs)) : Keep H H' := fun b ys q => by
  rw [o b (fun z => by subst z; exact h _ q)]
  exact q
noncomputable def leastOf {α : Type} [DecidableEq α] (ks : List α) : List Nat := ks.map fun k => ks.idxOf k
theorem length_leastOf {α : Type} [DecidableEq α] (ks : List α) : (leastOf ks).length = ks.length := List.length_map _
theorem idxOf_take {α : Type} [DecidableEq α] {ks : List α} {i : Nat} {k : α} (h : k ∈ ks.take i) : (ks.take i).idxOf k = ks.idxOf k := by
  have := List.idxOf_append (l₁ := ks.take i) (l₂ := ks.drop i) (a := k)
  rw [List.take_append_drop, if_pos h] at this
  exact this.symm
theorem idxOf_new {α : Type} [DecidableEq α] {ks : List α} {i : Nat} {k : α} (hk : ks[i]? = some k) (h : k ∉ ks.take i) : ks.idxOf k = i := by
  obtain ⟨hi, e⟩ := List.getElem?_eq_some_iff.mp hk
  have e1 : ks = ks.take i ++ (k :: ks.drop (i + 1)) := by
    rw [← e, List.getElem_cons_drop, List.take_append_drop]
  have := List.idxOf_append (l₁ := ks.take i) (l₂ := k :: ks.drop (i + 1)) (a := k)
  rw [← e1, if_neg h, List.idxOf_cons_self, List.length_take] at this
  omega
theorem take_snoc {α : Type} {ks : List α} {i : Nat} {k : α} (hk : ks[i]? = some k) : ks.take (i + 1) = ks.take i ++ [k] := by
  rw [List.take_add_one, hk]; rfl
theorem leastOf_map {α β : Type} [DecidableEq α] [DecidableEq β] {f : α → β} (inj : ∀ a b, f a = f b → a = b) (ks : List α) : leastOf (ks.map f) = leastOf ks := by
  unfold leastOf
  rw [List.map_map]
  refine List.map_congr_left fun k hk => ?_
  show (ks.map f).idxOf (f k) = ks.idxOf k
  clear hk
  induction ks with
  | nil => rfl
  | cons a r ih =>
    rw [List.map_cons, List.idxOf_cons, List.idxOf_cons, ih]
    by_cases e : a = k
    · rw [e, beq_self_eq_true, beq_self_eq_true]
    · rw [beq_eq_false_iff_ne.mpr e, beq_eq_false_iff_ne.mpr (fun z => e (inj _ _ z))]
theorem leastOf_at {α : Type} [DecidableEq α] {ks : List α} {i : Nat} {z : Nat} (h : (leastOf ks)[i]? = some z) : ∃ k, ks[i]? = some k ∧ z = ks.idxOf k ∧ z ≤ i := by
  unfold leastOf at h
  rw [List.getElem?_map] at h
  cases e : ks[i]? with
  | none => rw [e] at h; cases h
  | some k =>
    rw [e] at h
    refine ⟨k, rfl, (Option.some.inj h).symm, ?_⟩
    rw [← Option.some.inj h]
    show ks.idxOf k ≤ i
    by_cases q : k ∈ ks.take i
    · have := List.idxOf_lt_length_of_mem q
      rw [idxOf_take q, List.length_take] at this
      omega
    · rw [idxOf_new e q]; exact Nat.le_refl _
end L2

end

section
-- KcDict
set_option Elab.async false
set_option linter.all false
set_option maxRecDepth 100000
set_option maxHeartbeats 4000000
namespace L2
open PySem PySem.Spec PyProof.Rows

/-! ### lists of pairs as tables -/
section
variable {κ : Type} [DecidableEq κ]
noncomputable def valV (kvs : List (κ × V)) (k : κ) : Option V := (kvs.find? fun kv => decide (kv.1 = k)).map (·.2)
noncomputable def putK (kvs : List (κ × V)) (k : κ) (v : V) : List (κ × V) :=
  if (kvs.any fun kv => decide (kv.1 = k)) = true then kvs.map (fun kv => if kv.1 = k then (kv.1, v) else kv) else kvs ++ [(k, v)]
noncomputable def dropK (kvs : List (κ × V)) (k : κ) : List (κ × V) := kvs.filter fun kv => decide (kv.1 ≠ k)

theorem valV_pos {p : κ × V} {r : List (κ × V)} {k : κ} (e : p.1 = k) : valV (p :: r) k = some p.2 := by simp [valV, List.find?_cons, e]
theorem valV_neg {p : κ × V} {r : List (κ × V)} {k : κ} (e : ¬ p.1 = k) : valV (p :: r) k = valV r k := by simp [valV, List.find?_cons, e]
theorem valV_any (k : κ) : ∀ kvs : List (κ × V), (kvs.any fun kv => decide (kv.1 = k)) = (valV kvs k).isSome
  | [] => rfl
  | p :: r => by
    rw [List.any_cons]
    by_cases e : p.1 = k
    · simp only [valV_pos e, decide_eq_true e, Bool.true_or, Option.isSome_some]
    · rw [valV_neg e, decide_eq_false e, Bool.false_or]; exact valV_any k r
theorem valV_map (k j : κ) (y : V) : ∀ kvs : List (κ × V), valV (kvs.map fun kv => if kv.1 = k then (kv.1, y) else kv) j = (valV kvs j).map fun x => if j = k then y else x
  | [] => rfl
  | p :: r => by
    have ih := valV_map k j y r
    rw [List.map_cons]
    by_cases h : p.1 = k
    · rw [if_pos h]
      by_cases e : p.1 = j
      · rw [valV_pos (p := (p.1, y)) e, valV_pos e, Option.map_some, if_pos (e.symm.trans h)]
      · rw [valV_neg (p := (p.1, y)) e, valV_neg e, ih]
    · rw [if_neg h]
      by_cases e : p.1 = j
      · rw [valV_pos (p := p) e, valV_pos e, Option.map_some, if_neg (fun z => h (e.trans z))]
      · rw [valV_neg (p := p) e, valV_neg e, ih]
theorem valV_snoc (k j : κ) (y : V) : ∀ kvs : List (κ × V), valV kvs k = none → valV (kvs ++ [(k, y)]) j = if j = k then some y else valV kvs j
  | [], _ => by
    by_cases e : k = j
    · rw [if_pos e.symm]; exact valV_pos (p := (k, y)) e
    · rw [if_neg (fun z => e z.symm)]; exact valV_neg (p := (k, y)) e
  | p :: r, hn => by
    rw [List.cons_append]
    have hk : ¬ p.1 = k := fun z => by rw [valV_pos z] at hn; cases hn
    rw [valV_neg hk] at hn
    have ih := valV_snoc k j y r hn
    by_cases e : p.1 = j
    · rw [valV_pos e, valV_pos e, if_neg (fun z => hk (e.trans z))]
    · rw [valV_neg e, valV_neg e, ih]
theorem valV_put (kvs : List (κ × V)) (k j : κ) (y : V) : valV (putK kvs k y) j = if j = k then some y else valV kvs j := by
  unfold putK
  by_cases a : (kvs.any fun kv => decide (kv.1 = k)) = true
  · rw [if_pos a, valV_map]
    rw [valV_any] at a
    by_cases e : j = k
    · obtain ⟨x, hx⟩ := Option.isSome_iff_exists.mp a
      rw [if_pos e, e, hx, Option.map_some, if_pos rfl]
    · rw [if_neg e]
      cases valV kvs j with
      | none => rfl
      | some x => rw [Option.map_some, if_neg e]
  · rw [if_neg a]
    refine valV_snoc k j y kvs ?_
    rw [valV_any] at a
    cases q : valV kvs k with
    | none => rfl
    | some x => rw [q] at a; exact (a rfl).elim
theorem length_putK (kvs : List (κ × V)) (k : κ) (v : V) : (putK kvs k v).length ≤ kvs.length + 1 := by
  unfold putK
  split
  · rw [List.length_map]; omega
  · rw [List.length_append, List.length_cons, List.length_nil]; omega
theorem RelO.isSome_eq {o : Option V} {u : Option Value} (r : RelO o u) : o.isSome = u.isSome := by
  cases o with
  | none => cases u with
    | none => rfl
    | some _ => exact (show False from r).elim
  | some _ => cases u with
    | none => exact (show False from r).elim
    | some _ => rfl
theorem RelO.getD {o : Option V} {u : Option Value} {d : V} {d' : Value} (r : RelO o u) (rd : RelV d d') : RelV (o.getD d) (u.getD d') := by
  cases o with
  | none => cases u with
    | none => exact rd
    | some _ => exact (show False from r).elim
  | some _ => cases u with
    | none => exact (show False from r).elim
    | some _ => exact r

theorem KV.val {kvs : List (κ × V)} {vs : List (κ × Value)} (r : KV kvs vs) (k : κ) : RelO (valV kvs k) (valueAt vs k) := by
  unfold KV at r
  induction r with
  | nil => exact True.intro
  | @cons p q ps qs h t ih =>
    obtain ⟨h1, h2⟩ := h
    by_cases e : p.1 = k
    · have e' : q.1 = k := h1.symm.trans e
      have b : valueAt (q :: qs) k = some q.2 := by simp [valueAt, List.find?_cons, e']
      rw [valV_pos e, b]; exact h2
    · have e' : ¬ q.1 = k := fun z => e (h1.trans z)
      have b : valueAt (q :: qs) k = valueAt qs k := by simp [valueAt, List.find?_cons, e']
      rw [valV_neg e, b]; exact ih
theorem KV.any {kvs : List (κ × V)} {vs : List (κ × Value)} (r : KV kvs vs) (k : κ) : (kvs.any fun kv => decide (kv.1 = k)) = vs.any fun kv => decide (kv.1 = k) := by
  unfold KV at r
  induction r with
  | nil => rfl
  | cons h t ih => rw [List.any_cons, List.any_cons, ih, h.1]
theorem KV.repl {kvs : List (κ × V)} {vs : List (κ × Value)} (r : KV kvs vs) (k : κ) {y : V} {u : Value} (ry : RelV y u) :
    KV (kvs.map fun kv => if kv.1 = k then (kv.1, y) else kv) (vs.map fun kv => if kv.1 = k then (kv.1, u) else kv) := by
  unfold KV at r ⊢
  induction r with
  | nil => exact .nil
  | @cons p q ps qs h t ih =>
    rw [List.map_cons, List.map_cons]
    refine .cons ?_ ih
    obtain ⟨h1, h2⟩ := h
    by_cases e : p.1 = k
    · rw [if_pos e, if_pos (h1.symm.trans e)]; exact ⟨h1, ry⟩
    · rw [if_neg e, if_neg (fun z => e (h1.trans z))]; exact ⟨h1, h2⟩
theorem KV.put {kvs : List (κ × V)} {vs : List (κ × Value)} (r : KV kvs vs) (k : κ) {y : V} {u : Value} (ry : RelV y u) : KV (putK kvs k y) (stored vs k u) := by
  unfold putK stored
  rw [r.any k]
  by_cases e : (vs.any fun kv => decide (kv.1 = k)) = true
  · rw [if_pos e, if_pos e]; exact r.repl k ry
  · rw [if_neg e, if_neg e]; exact Paired.snoc r ⟨rfl, ry⟩
theorem KV.drop {kvs : List (κ × V)} {vs : List (κ × Value)} (r : KV kvs vs) (k : κ) : KV (dropK kvs k) (without vs k) := by
  unfold KV at r ⊢
  unfold dropK without
  induction r with
  | nil => exact .nil
  | @cons p q ps qs h t ih =>
    obtain ⟨h1, h2⟩ := h
    rw [List.filter_cons, List.filter_cons]
    by_cases e : p.1 = k
    · have a : ¬ decide (p.1 ≠ k) = true := by simp [e]
      have b : ¬ decide (q.1 ≠ k) = true := by simp [h1.symm.trans e]
      rw [if_neg a, if_neg b]; exact ih
    · have e' : ¬ q.1 = k := fun z => e (h1.trans z)
      have a : decide (p.1 ≠ k) = true := by simp [e]
      have b : decide (q.1 ≠ k) = true := by simp [e']
      rw [if_pos a, if_pos b]; exact .cons ⟨h1, h2⟩ ih
theorem KV.keys {kvs : List (κ × V)} {vs : List (κ × Value)} (r : KV kvs vs) : kvs.map (·.1) = vs.map (·.1) := by
  unfold KV at r
  induction r with
  | nil => rfl
  | cons h t ih => rw [List.map_cons, List.map_cons, ih, h.1]
theorem KV.length {kvs : List (κ × V)} {vs : List (κ × Value)} (r : KV kvs vs) : kvs.length = vs.length := Paired.length r
end


/-! ### a tracked dict, its keys ints and texts or tuples of these -/
noncomputable abbrev KT (H : Hp) : List (List Key × V) → List (List Key × Addr × Value) → Prop := Paired fun p q => p.1 = q.1 ∧ H q.2.1 = some (.tup (p.1.map kV)) ∧ RelV p.2 q.2.2
theorem KT.val {H : Hp} {kvs : List (List Key × V)} {xs : List (List Key × Addr × Value)} (r : KT H kvs xs) (k : List Key) : RelO (valV kvs k) ((atKey xs k).map (·.2)) := by
  induction r with
  | nil => exact True.intro
  | @cons p q ps qs h t ih =>
    obtain ⟨h1, _, h2⟩ := h
    by_cases e : p.1 = k
    · have e' : q.1 = k := h1.symm.trans e
      have b : atKey (q :: qs) k = some q.2 := by simp [atKey, List.find?_cons, e']
      rw [valV_pos e, b]; exact h2
    · have e' : ¬ q.1 = k := fun z => e (h1.trans z)
      have b : atKey (q :: qs) k = atKey qs k := by simp [atKey, List.find?_cons, e']
      rw [valV_neg e, b]; exact ih
theorem KT.repl {H : Hp} {kvs : List (List Key × V)} {xs : List (List Key × Addr × Value)} (r : KT H kvs xs) (k : List Key) {y : V} {u : Value} (ry : RelV y u) :
    KT H (kvs.map fun kv => if kv.1 = k then (kv.1, y) else kv) (xs.map (putAt k u)) := by
  induction r with
  | nil => exact .nil
  | @cons p q ps qs h t ih =>
    rw [List.map_cons, List.map_cons]
    refine .cons ?_ ih
    obtain ⟨h1, h2, h3⟩ := h
    unfold putAt
    by_cases e : p.1 = k
    · rw [if_pos e, if_pos (h1.symm.trans e)]; exact ⟨h1, h2, ry⟩
    · rw [if_neg e, if_neg (fun z => e (h1.trans z))]; exact ⟨h1, h2, h3⟩
theorem KT.put {H : Hp} {kvs : List (List Key × V)} {xs : List (List Key × Addr × Value)} (r : KT H kvs xs) (k : List Key) {b : Addr} {y : V} {u : Value} (hb : H b = some (.tup (k.map kV))) (ry : RelV y u) :
    KT H (putK kvs k y) (storedH xs k b u) := by
  have e : (kvs.any fun kv => decide (kv.1 = k)) = (atKey xs k).isSome := by
    rw [valV_any, (r.val k).isSome_eq, Option.isSome_map]
  unfold putK storedH
  rw [e]
  by_cases q : (atKey xs k).isSome = true
  · rw [if_pos q, if_pos q]; exact r.repl k ry
  · rw [if_neg q, if_neg q]; exact Paired.snoc r ⟨rfl, hb, ry⟩
theorem KT.keeps {H H' : Hp} {kvs : List (List Key × V)} {xs : List (List Key × Addr × Value)} (r : KT H kvs xs) (ht : ∀ b ys, H b = some (.tup ys) → H' b = some (.tup ys)) : KT H' kvs xs :=
  Paired.mapP r fun _ _ z => ⟨z.1, ht _ _ z.2.1, z.2.2⟩

section
variable {P : Program} {w : World} {H : Hp} {h : Heap} {a : Addr}
end

noncomputable def DGet (H : Hp) (a : Addr) (y : V) (r : Option V) : Prop :=
  (∃ kvs k, Rd H a (.dK kvs) ∧ y = kV k ∧ r = valV kvs k) ∨ ∃ kvs k b, Rd H a (.dT kvs) ∧ y = .ref b ∧ H b = some (.tup (k.map kV)) ∧ r = valV kvs k
noncomputable def DPut (H : Hp) (a : Addr) (y v : V) (H' : Hp) : Prop :=
  (∃ kvs k, H a = some (.dK kvs) ∧ y = kV k ∧ kvs.length < sizeLine ∧ H' = upd H a (.dK (putK kvs k v))) ∨
  ∃ kvs k b, H a = some (.dT kvs) ∧ y = .ref b ∧ H b = some (.tup (k.map kV)) ∧ kvs.length < sizeLine ∧ H' = upd H a (.dT (putK kvs k v))
theorem DGet.k {H : Hp} {a : Addr} {kvs : List (Key × V)} {k : Key} (e : H a = some (.dK kvs)) : DGet H a (kV k) (valV kvs k) := .inl ⟨kvs, k, .inl e, rfl, rfl⟩
theorem DGet.t {H : Hp} {a b : Addr} {kvs : List (List Key × V)} {k : List Key} (e : H a = some (.dT kvs)) (eb : H b = some (.tup (k.map kV))) : DGet H a (.ref b) (valV kvs k) := .inr ⟨kvs, k, b, .inl e, rfl, eb, rfl⟩
theorem DPut.k {H : Hp} {a : Addr} {kvs : List (Key × V)} {k : Key} {v : V} (e : H a = some (.dK kvs)) (hl : kvs.length < sizeLine) : DPut H a (kV k) v (upd H a (.dK (putK kvs k v))) := .inl ⟨kvs, k, e, rfl, hl, rfl⟩
theorem DPut.t {H : Hp} {a b : Addr} {kvs : List (List Key × V)} {k : List Key} {v : V} (e : H a = some (.dT kvs)) (eb : H b = some (.tup (k.map kV))) (hl : kvs.length < sizeLine) :
    DPut H a (.ref b) v (upd H a (.dT (putK kvs k v))) := .inr ⟨kvs, k, b, e, rfl, eb, hl, rfl⟩


section
variable {X : Cx} {pins : List (Addr × Obj)} {σ : St} {H : Hp} {s : Shared} {a : Addr} {y v : V} {u r : Value} {o : Option V} {A : Around} {E : Value → Shared → Prop}

theorem Inv.big (I : Inv X pins σ H s) : sysModules < s.heap.objs.size := by
  have h : mainGlobals < s.heap.objs.size := (I.mod.glob.keeps I.bk).lt
  exact Nat.lt_trans (by decide) h

theorem d_write {h' : Heap} {t' : Nat} {ob : HO} (I : Inv X pins σ H s) (mu : Mut (H a)) (hs : Heap.SameBut a s.heap h') (he : ∃ q, h'.get? a = some q) (new : ObjOk X.prog X.w (upd H a ob) h' a ob) :
    Inv X pins σ (upd H a ob) { s with heap := h', toks := t' } :=
  I.write (x := a) (e := a) mu (.inl rfl) (fun b q hb z => (hs.2 b hb).trans z) he new
end

section
variable {X : Cx} {pins : List (Addr × Obj)} {σ : St} {H : Hp} {s : Shared} {a : Addr} {kvs : List (Key × V)} {k : Key} {u : Value} {A : Around} {E : Value → Shared → Prop}
end


/-! ### readings and rules -/
noncomputable def NoSl (i : Expr) : Prop := ∀ ov iv, subscripted i false ov iv = operate [ov, iv] (getItem ov iv)
theorem subD_of {prog : Program} {w : World} {A : Around} {E : Value → Shared → Prop} {s : Shared} {env : Env} {value slice : Expr} {pos : Pos} {T id : String} {Q : Value → Shared → Prop}
    (hl : typeLookup (.type T) "__getitem__" = pure (some (.builtin id))) (hs : NoSl slice)
    (h : wpAny (model prog w) A (eval value env) (fun o s₁ => wpAny (model prog w) A (eval slice env) (fun i s₂ => s₂.TypeIs o T ∧ wpAny (model prog w) A (getItem o i) Q E s₂) E s₁) E s) :
    wpAny (model prog w) A (eval (.Subscript value slice pos) env) Q E s := by
  refine Subscript_ (wpAny_mono h (fun o s₁ h₁ => wpAny_mono h₁ (fun i s₂ h₂ => ?_) fun _ _ x => x) fun _ _ x => x)
  obtain ⟨hT, h₂⟩ := h₂
  unfold subscriptTail
  refine wpAny_bind ?_
  rw [getitemInPython_of_ne hT.not_modules]
  refine wpAny_bind (wpAny_specialOf hT hl ?_)
  have fin : wpAny (model prog w) A (subscripted slice false o i) (fun r s₃ => wpAny (model prog w) A (letTemporaryGo value o r >>= fun _ => pure r) Q E s₃) E s₂ := by
    rw [hs o i]
    exact wpAny_operating (wpAny_mono h₂ (fun r s₃ h₃ => wpAny_bind (wpAny_letTemporaryGo (wpAny_pure h₃))) fun _ _ x => x)
  first
    | exact wpAny_pure (wpAny_bind fin)
    | exact wpAny_bind (wpAny_pure (wpAny_bind fin))
    | exact wpAny_bind fin

section
variable {X : Cx} {o i e value : Expr} {pos pos' tpos : Pos} {td ty tv : TE}
end


/-! ### displays -/
section
variable {X : Cx} {pos : Pos}
end

/-! ### methods -/
structure M1 (X : Cx) (o : Expr) (m : Str) (apos : Pos) (e : Expr) (cpos : Pos) : Prop where
  base : attributeBase o m X.env (eval o X.env) = eval o X.env
  few : ((backTo cpos (starEach [e] X.env)).all (fun x => !x.1) && (backToKw cpos (keywordEach [] X.env)).all (fun x => x.1.isSome)
    && decide (([e] : List Expr).length + ([] : List Keyword).length + (if ([] : List Keyword).isEmpty then 0 else 1) < 30)) = true
  line : (apos.endLine == cpos.line) = true
  trees : backTo cpos (starEach [e] X.env) = [(false, eval e X.env)]
structure M2 (X : Cx) (o : Expr) (m : Str) (apos : Pos) (e f : Expr) (cpos : Pos) : Prop where
  base : attributeBase o m X.env (eval o X.env) = eval o X.env
  few : ((backTo cpos (starEach [e, f] X.env)).all (fun x => !x.1) && (backToKw cpos (keywordEach [] X.env)).all (fun x => x.1.isSome)
    && decide (([e, f] : List Expr).length + ([] : List Keyword).length + (if ([] : List Keyword).isEmpty then 0 else 1) < 30)) = true
  line : (apos.endLine == cpos.line) = true
  trees : backTo cpos (starEach [e, f] X.env) = [(false, eval e X.env), (false, eval f X.env)]

section
variable {X : Cx} {pins : List (Addr × Obj)} {σ : St} {H : Hp} {s : Shared} {a : Addr} {y d : V} {u r : Value} {o : Option V} {A : Around} {E : Value → Shared → Prop}
end

section
variable {X : Cx} {o e f : Expr} {apos cpos : Pos} {td ty tx : TE}
end

/-! ### dict(d): a copy -/
section
variable {X : Cx} {pins : List (Addr × Obj)} {σ : St} {H : Hp} {s : Shared} {a : Addr} {kvs : List (Key × V)} {A : Around} {E : Value → Shared → Prop}
end


section
variable {X : Cx} {pins : List (Addr × Obj)} {σ : St} {H : Hp} {s : Shared} {a : Addr} {y : V} {u : Value} {A : Around} {E : Value → Shared → Prop}
end
end L2

end

section
-- KcMapD
set_option Elab.async false
set_option linter.all false
set_option maxRecDepth 100000
set_option maxHeartbeats 4000000
namespace L2
open PySem PySem.Spec PyProof.Rows
section
variable {prog : Program} {w : World} {A : Around} {E : Value → Shared → Prop} {s : Shared}
theorem wpAny_pyHash_bool {b : Bool} {Q : Int → Shared → Prop} (h : Q (hashInt (if b then 1 else 0)) { s with toks := s.toks + 1 }) : wpAny (model prog w) A (pyHash (.bool b)) Q E s := by
  have hr := rawHash_range (if b then 1 else 0)
  unfold pyHash
  have hv : [Value.bool b].any Value.onHeap = false := rfl
  refine wpAny_bind ?_
  rw [cRoomFor, if_neg (by rw [hv]; exact Bool.false_ne_true)]; refine wpAny_pure ?_
  have hT : s.TypeIs (.bool b) "bool" := rfl
  refine wpAny_bind (wpAny_specialOf hT PySem.F.slot_bool_hash.lookup ?_)
  show wpAny _ _ (if (some (Value.builtin "int.__hash__") == some Value.none) = true then _ else _) Q E s
  rw [if_neg (by rw [beq_builtin_none]; exact Bool.false_ne_true)]
  refine wpAny_bind (wpAny_specialOf hT PySem.F.slot_bool_hash.lookup ?_)
  show wpAny _ _ (callSpecialIfBoundUnlessNone? (.bool b) "__hash__" _ >>= _) Q E s
  refine wpAny_bind (wpAny_callSpecialIfBoundUnlessNone?_slot hT PySem.F.slot_bool_hash (wpAny_call_entry PySem.F.slot_bool_hash hT entry_int_hash ?_ (args_int_hash _)))
  cases b with
  | true =>
    refine (show wpAny _ _ (do ret (← mkInt (rawHash 1))) _ _ s from wpAny_ret_mkInt ?_)
    show wpAny _ _ (if (decide (-(2 : Int) ^ 63 ≤ rawHash 1) && decide (rawHash 1 < 2 ^ 63)) = true then _ else _) Q E _
    rw [if_pos (by decide)]
    exact wpAny_pure h
  | false =>
    refine (show wpAny _ _ (do ret (← mkInt (rawHash 0))) _ _ s from wpAny_ret_mkInt ?_)
    show wpAny _ _ (if (decide (-(2 : Int) ^ 63 ≤ rawHash 0) && decide (rawHash 0 < 2 ^ 63)) = true then _ else _) Q E _
    rw [if_pos (by decide)]
    exact wpAny_pure h
theorem wpAny_pyHash_none {Q : Int → Shared → Prop} (h : Q 4238894112 { s with toks := s.toks + 1 }) : wpAny (model prog w) A (pyHash .none) Q E s := by
  unfold pyHash
  have hv : [Value.none].any Value.onHeap = false := rfl
  refine wpAny_bind ?_
  rw [cRoomFor, if_neg (by rw [hv]; exact Bool.false_ne_true)]; refine wpAny_pure ?_
  have hT : s.TypeIs .none "NoneType" := rfl
  refine wpAny_bind (wpAny_specialOf hT PySem.F.slot_NoneType_hash.lookup ?_)
  show wpAny _ _ (if (some (Value.builtin "NoneType.__hash__") == some Value.none) = true then _ else _) Q E s
  rw [if_neg (by rw [beq_builtin_none]; exact Bool.false_ne_true)]
  refine wpAny_bind (wpAny_specialOf hT PySem.F.slot_NoneType_hash.lookup ?_)
  show wpAny _ _ (callSpecialIfBoundUnlessNone? .none "__hash__" _ >>= _) Q E s
  refine wpAny_bind (wpAny_callSpecialIfBoundUnlessNone?_slot hT PySem.F.slot_NoneType_hash (wpAny_call_entry PySem.F.slot_NoneType_hash hT PySem.F.entry_NoneType_hash ?_ (PySem.F.args_NoneType_hash_1 _)))
  refine (show wpAny _ _ (do ret (← mkInt 4238894112)) _ _ s from wpAny_ret_mkInt ?_)
  show wpAny _ _ (if (decide (-(2 : Int) ^ 63 ≤ 4238894112) && decide ((4238894112 : Int) < 2 ^ 63)) = true then _ else _) Q E _
  rw [if_pos (by decide)]
  exact wpAny_pure h
end
/-! ### keys that are None, truths, whole numbers -/
noncomputable def hashIA : IA → Int
  | none => 4238894112
  | some i => hashInt i
noncomputable def iaIs : IA → Value → Bool
  | none, .none => true
  | some i, .int j _ => i == j
  | some i, .bool b => i == (if b then 1 else 0)
  | _, _ => false
theorem ia_shape {k : IA} {v : Value} (h : iaIs k v = true) : (k = none ∧ v = .none) ∨ (∃ i t, k = some i ∧ v = .int i t) ∨ ∃ b, k = some (if b then 1 else 0) ∧ v = .bool b := by
  rcases k with _ | i <;> cases v <;> (delta iaIs at h; simp at h)
  · exact .inl ⟨rfl, rfl⟩
  · subst h; exact .inr (.inr ⟨_, rfl, rfl⟩)
  · subst h; exact .inr (.inl ⟨_, _, rfl, rfl⟩)
noncomputable def iaKind (prog : Program) (w : World) : PySem.KeyKind prog w IA where
  is := iaIs
  hash := hashIA
  inj := fun v a b ha hb => by
    rcases ia_shape ha with ⟨rfl, rfl⟩ | ⟨i, t, rfl, rfl⟩ | ⟨c, rfl, rfl⟩ <;> rcases ia_shape hb with ⟨rfl, e⟩ | ⟨j, u, rfl, e⟩ | ⟨d, rfl, e⟩ <;> first | rfl | (cases e; rfl) | cases e
  byValue := fun k v h => by
    rcases ia_shape h with ⟨rfl, rfl⟩ | ⟨i, t, rfl, rfl⟩ | ⟨c, rfl, rfl⟩ <;> rfl
  pyHash := fun hv h => by
    rcases ia_shape hv with ⟨rfl, rfl⟩ | ⟨i, t, rfl, rfl⟩ | ⟨c, rfl, rfl⟩
    · exact wpAny_pyHash_none h
    · exact wpAny_pyHash_int h
    · exact wpAny_pyHash_bool h
  eqBool := fun {A E s a b u v Q} hu hv h => by
    rcases ia_shape hu with ⟨rfl, rfl⟩ | ⟨i, t, rfl, rfl⟩ | ⟨c, rfl, rfl⟩ <;> rcases ia_shape hv with ⟨rfl, rfl⟩ | ⟨j, u, rfl, rfl⟩ | ⟨d, rfl, rfl⟩
    · exact SeqAt.EqAt.same _ _ _ _ _ (by simpa using h)
    · exact SeqAt.EqAt.none_int _ _ _ _ _ _ (by simpa using h)
    · exact SeqAt.EqAt.none_bool _ _ _ _ _ (by simpa using h)
    · exact SeqAt.EqAt.int_none _ _ _ _ _ _ (by simpa using h)
    · exact SeqAt.EqAt.int_int _ _ _ _ _ _ _ _ (by simpa [Bool.beq_eq_decide_eq] using h)
    · exact SeqAt.EqAt.int_bool _ _ _ _ _ _ _ (by simpa [Bool.beq_eq_decide_eq] using h)
    · exact SeqAt.EqAt.bool_none _ _ _ _ _ (by simpa using h)
    · exact SeqAt.EqAt.bool_int _ _ _ _ _ _ _ (by simpa [Bool.beq_eq_decide_eq] using h)
    · refine SeqAt.EqAt.bool_bool _ _ _ _ _ _ ?_
      cases c <;> cases d <;> simpa using h
  «strs» := fun k x t v h => by
    rcases ia_shape h with ⟨rfl, e⟩ | ⟨i, u, rfl, e⟩ | ⟨c, rfl, e⟩ <;> cases e
/-! ### tuples of these, and of tuples of these -/
noncomputable def hashIK : IK → Int
  | .inl a => hashIA a
  | .inr as => reduceHash (Builtin.Tuple.tupleHashOf (as.map hashIA))
noncomputable def hashT (is : List IK) : Int := reduceHash (Builtin.Tuple.tupleHashOf (is.map hashIK))
noncomputable def drawsK : IK → Nat
  | .inl _ => 1
  | .inr as => as.length + 1
section
variable (prog : Program) (w : World)
noncomputable def ItemIs (h : Heap) : IK → Value → Prop
  | .inl a, v => iaIs a v = true
  | .inr as, v => ∃ b, v = .ref b ∧ IsTupleKey (iaKind prog w) h as b
noncomputable def IsTk (h : Heap) (is : List IK) (a : Addr) : Prop := ∃ o items n, h.get? a = some o ∧ o.cls = .type "tuple" ∧ o.data = .seq items n ∧ Paired (ItemIs prog w h) is items.toList
end
section
variable {prog : Program} {w : World}
theorem ItemIs.inj {h : Heap} {x y : IK} {v : Value} (hx : ItemIs prog w h x v) (hy : ItemIs prog w h y v) : x = y := by
  cases x with
  | inl a => cases y with
    | inl b => rw [(iaKind prog w).inj v a b hx hy]
    | inr bs =>
      obtain ⟨c, rfl, _⟩ := hy
      rcases ia_shape hx with ⟨_, e⟩ | ⟨_, _, _, e⟩ | ⟨_, _, e⟩ <;> cases e
  | inr as => cases y with
    | inl b =>
      obtain ⟨c, rfl, _⟩ := hx
      rcases ia_shape hy with ⟨_, e⟩ | ⟨_, _, _, e⟩ | ⟨_, _, e⟩ <;> cases e
    | inr bs =>
      obtain ⟨c, rfl, h1⟩ := hx
      obtain ⟨d, e, h2⟩ := hy
      cases e
      rw [h1.inj h2]
theorem items_inj {h : Heap} {xs ys : List IK} {vs : List Value} (p : Paired (ItemIs prog w h) xs vs) : Paired (ItemIs prog w h) ys vs → xs = ys := by
  induction p generalizing ys with
  | nil => intro q; cases q; rfl
  | cons a t ih => intro q; cases q with
    | cons b u => rw [a.inj b, ih u]
theorem IsTk.inj {h : Heap} {a : Addr} {x y : List IK} (hx : IsTk prog w h x a) (hy : IsTk prog w h y a) : x = y := by
  obtain ⟨o, items, n, ho, _, hd, hi⟩ := hx
  obtain ⟨o', items', n', ho', _, hd', hi'⟩ := hy
  obtain rfl : o = o' := Option.some.inj (ho.symm.trans ho')
  rw [hd] at hd'
  injection hd' with h1 _
  subst h1
  exact items_inj hi hi'
theorem ItemIs.keeps {h h' : Heap} {k : IK} {v : Value} {d : Addr} {o : Obj} {es ep} (x : ItemIs prog w h k v) (ho : h.get? d = some o) (hd : o.data = .dict es ep) (hs : Heap.SameBut d h h') : ItemIs prog w h' k v := by
  cases k with
  | inl a => exact x
  | inr as => obtain ⟨b, e, q⟩ := x; exact ⟨b, e, q.keeps ho hd hs⟩
theorem IsTk.keeps {h h' : Heap} {ks : List IK} {a d : Addr} {o : Obj} {es ep} (x : IsTk prog w h ks a) (ho : h.get? d = some o) (hd : o.data = .dict es ep) (hs : Heap.SameBut d h h') : IsTk prog w h' ks a := by
  obtain ⟨o', items, n, ho', hc, hd', hi⟩ := x
  have hne : a ≠ d := by
    rintro rfl
    obtain rfl : o' = o := Option.some.inj (ho'.symm.trans ho)
    rw [hd] at hd'; exact nomatch hd'
  exact ⟨o', items, n, (hs.2 a hne).trans ho', hc, hd', Paired.mapP hi fun _ _ z => z.keeps ho hd hs⟩
theorem IsTk.typeIs {s : Shared} {ks : List IK} {a : Addr} (x : IsTk prog w s.heap ks a) : s.TypeIs (.ref a) "tuple" := let ⟨o, _, _, ho, hc, _⟩ := x; ⟨o, ho, hc⟩
theorem tk_isTuple {h : Heap} {ks : List IA} {a : Addr} (x : IsTupleKey (iaKind prog w) h ks a) : ∃ items, h.IsTuple a items := let ⟨o, items, n, h1, h2, h3, _⟩ := x; ⟨items, o, h1, h2, n, h3⟩
variable {A : Around} {E : Value → Shared → Prop} {s : Shared}
theorem item_hash {k : IK} {v : Value} {Q : Int → Shared → Prop} (hu : A.units < cLine) (hk : ItemIs prog w s.heap k v) (h : Q (hashIK k) { s with toks := s.toks + drawsK k }) : wpAny (model prog w) A (pyHash v) Q E s := by
  cases k with
  | inl a => exact (iaKind prog w).pyHash (k := a) hk h
  | inr as =>
    obtain ⟨b, rfl, q⟩ := hk
    exact wpAny_pyHash_tuple (knd := iaKind prog w) hu q h
theorem ia_tuple {a : IA} {v : Value} {b : Addr} {items : Array Value} {Q : Bool → Shared → Prop} (hu : A.units < cLine) (hk : iaIs a v = true) (ht : s.heap.IsTuple b items) (h : Q false s) : wpAny (model prog w) A (PySem.eqBool v (.ref b)) Q E s := by
  rcases ia_shape hk with ⟨rfl, rfl⟩ | ⟨i, t, rfl, rfl⟩ | ⟨c, rfl, rfl⟩
  · exact SeqAt.EqAt.none_tuple ht hu _ _ _ _ h
  · exact SeqAt.EqAt.int_tuple _ _ ht hu _ _ _ _ h
  · exact SeqAt.EqAt.bool_tuple _ ht hu _ _ _ _ h
theorem tuple_ia {a : IA} {v : Value} {b : Addr} {items : Array Value} {Q : Bool → Shared → Prop} (hu : A.units < cLine) (hk : iaIs a v = true) (ht : s.heap.IsTuple b items) (h : Q false s) : wpAny (model prog w) A (PySem.eqBool (.ref b) v) Q E s := by
  rcases ia_shape hk with ⟨rfl, rfl⟩ | ⟨i, t, rfl, rfl⟩ | ⟨c, rfl, rfl⟩
  · exact SeqAt.EqAt.tuple_none ht hu _ _ _ _ h
  · exact SeqAt.EqAt.tuple_int _ _ ht hu _ _ _ _ h
  · exact SeqAt.EqAt.tuple_bool _ ht hu _ _ _ _ h
theorem item_eq {x y : IK} {u v : Value} {Q : Bool → Shared → Prop} (hu : A.units < cLine) (hx : ItemIs prog w s.heap x u) (hy : ItemIs prog w s.heap y v) (h : Q (decide (x = y)) s) : wpAny (model prog w) A (PySem.eqBool u v) Q E s := by
  cases x with
  | inl a => cases y with
    | inl b =>
      refine (iaKind prog w).eqBool (a := a) (b := b) hx hy ?_
      rw [show decide (a = b) = decide ((Sum.inl a : IK) = Sum.inl b) from decide_eq_decide.mpr ⟨fun e => by rw [e], fun e => Sum.inl.inj e⟩]
      exact h
    | inr bs =>
      obtain ⟨c, rfl, q⟩ := hy
      obtain ⟨items, ht⟩ := tk_isTuple q
      refine ia_tuple hu hx ht ?_
      rw [decide_eq_false (fun e => nomatch e)] at h
      exact h
  | inr as => cases y with
    | inl b =>
      obtain ⟨c, rfl, q⟩ := hx
      obtain ⟨items, ht⟩ := tk_isTuple q
      refine tuple_ia hu hy ht ?_
      rw [decide_eq_false (fun e => nomatch e)] at h
      exact h
    | inr bs =>
      obtain ⟨c, rfl, q⟩ := hx
      obtain ⟨d, rfl, q'⟩ := hy
      refine wpAny_eqBool_tuple (knd := iaKind prog w) hu q q' ?_
      rw [show decide (as = bs) = decide ((Sum.inr as : IK) = Sum.inr bs) from decide_eq_decide.mpr ⟨fun e => by rw [e], fun e => Sum.inr.inj e⟩]
      exact h
noncomputable def drawsT (ks : List IK) : Nat := (ks.map drawsK).sum + 1
theorem tk_pyHash {ks : List IK} {a : Addr} {Q : Int → Shared → Prop} (hu : A.units + 1 < cLine) (hk : IsTk prog w s.heap ks a) (h : Q (hashT ks) { s with toks := s.toks + drawsT ks }) :
    wpAny (model prog w) A (pyHash (.ref a)) Q E s := by
  have hT := hk.typeIs
  obtain ⟨o, items, n, ho, _, hd, hi⟩ := hk
  have hu0 : A.units < cLine := by omega
  unfold pyHash
  first | unfold pyHashByItsType | skip
  first | refine wpAny_bind (wpAny_cRoomFor_or (.inr hu0) ?_) | skip
  refine wpAny_bind (wpAny_specialOf hT F.slot_tuple_hash.lookup ?_)
  show wpAny _ _ (if (some (Value.builtin "tuple.__hash__") == some Value.none) = true then _ else _) Q E s
  rw [if_neg (by rw [beq_builtin_none]; exact Bool.false_ne_true)]
  refine wpAny_bind (wpAny_specialOf hT F.slot_tuple_hash.lookup ?_)
  show wpAny _ _ (callSpecialIfBoundUnlessNone? (.ref a) "__hash__" _ >>= _) Q E s
  refine wpAny_bind (wpAny_callSpecialIfBoundUnlessNone?_slot hT F.slot_tuple_hash (wpAny_call_entry F.slot_tuple_hash hT F.entry_tuple_hash ?_ (F.args_tuple_hash_1 _)))
  show wpAny _ _ (Builtin.Tuple.tupleItemsOf (.ref a) >>= _) _ _ s
  refine wpAny_bind (wpAny_tupleItemsOf ho hd ?_)
  refine wpAny_bind ?_
  rw [← Array.forIn_toList]
  refine wpAny_forIn_list _
    (fun rest (b : Array Int) s' => ∃ done left, ks = done ++ left ∧ Paired (ItemIs prog w s.heap) left rest ∧ b.toList = done.map hashIK ∧ s' = { s with toks := s.toks + (done.map drawsK).sum })
    _ ?_ ?_ _ _ ⟨[], ks, rfl, hi, rfl, rfl⟩
  · rintro x rest b s' ⟨done, left, rfl, hl, hb, rfl⟩
    cases hl with
    | @cons k _ ks' _ h1 hl' =>
      refine wpAny_bind (item_hash (k := k) hu h1 ?_)
      have e : (done.map drawsK).sum + drawsK k = ((done ++ [k]).map drawsK).sum := by simp
      first
        | exact wpAny_pure ⟨done ++ [k], ks', by simp, hl', by simp [hb], by rw [← e]; simp [Nat.add_assoc]⟩
        | exact wpAny_bind (wpAny_pure (wpAny_pure ⟨done ++ [k], ks', by simp, hl', by simp [hb], by rw [← e]; simp [Nat.add_assoc]⟩))
  · rintro b s' ⟨done, left, rfl, hl, hb, rfl⟩
    cases hl
    rw [List.append_nil] at h
    show wpAny _ _ (retInt (Builtin.Tuple.tupleHashOf b.toList)) _ _ _
    rw [hb]
    refine wpAny_ret_mkInt ?_
    show wpAny _ _ (if (decide (-(2 : Int) ^ 63 ≤ Builtin.Tuple.tupleHashOf (done.map hashIK)) && decide (Builtin.Tuple.tupleHashOf (done.map hashIK) < 2 ^ 63)) = true then _ else _) Q E _
    unfold hashT reduceHash drawsT at h
    by_cases hr : (decide (-(2 : Int) ^ 63 ≤ Builtin.Tuple.tupleHashOf (done.map hashIK)) && decide (Builtin.Tuple.tupleHashOf (done.map hashIK) < 2 ^ 63)) = true
    · rw [if_pos hr]
      rw [if_pos hr] at h
      exact wpAny_pure (by simpa [Nat.add_assoc] using h)
    · rw [if_neg hr]
      rw [if_neg hr] at h
      exact wpAny_bind (wpAny_rule (wpAny_pure (by simpa [Nat.add_assoc] using h)))
theorem tk_eq_tree {x y : List IK} {a b : Addr} {P : Fin → Shared → Prop} (hu : A.units < cLine) (hx : IsTk prog w s.heap x a) (hy : IsTk prog w s.heap y b) (h : P (.done (.ret (.bool (decide (x = y))))) s) :
    wpAny (model prog w) A (Builtin.«tuple.__eq__» ⟨[.ref a, .ref b], []⟩) P E s := by
  have hTb := hy.typeIs
  obtain ⟨oa, xs, na, hoa, _, hda, hia⟩ := hx
  obtain ⟨ob, ys, nb, hob, _, hdb, hib⟩ := hy
  show wpAny _ _ (isInstance (.ref b) (.type "tuple") >>= _) _ _ s
  refine wpAny_bind (wpAny_isInstance hTb isSubtype_tuple_tuple ?_)
  simp only [Bool.not_true, Bool.false_eq_true, if_false]
  refine wpAny_bind (wpAny_tupleItemsOf hoa hda ?_)
  refine wpAny_bind (wpAny_tupleItemsOf hob hdb ?_)
  refine wpAny_bind ?_
  refine wpAny_forIn_list _
    (fun rest r s' => r.1 = none ∧ s' = s ∧ ∃ x' y' xs' ys', rest = List.zip xs' ys' ∧ Paired (ItemIs prog w s.heap) x' xs' ∧ Paired (ItemIs prog w s.heap) y' ys' ∧ decide (x' = y') = decide (x = y) ∧ (xs'.length == ys'.length) = (xs.size == ys.size))
    _ ?_ ?_ _ _ ⟨rfl, rfl, x, y, xs.toList, ys.toList, rfl, hia, hib, rfl, by simp⟩
  · rintro ⟨u, v⟩ rest r s' ⟨hr, rfl, x', y', xs', ys', hz, hx', hy', hdec, hlen⟩
    cases hx' with
    | nil => simp at hz
    | @cons k1 u' x'' xs'' h1 hx'' =>
      cases hy' with
      | nil => simp at hz
      | @cons k2 v' y'' ys'' h2 hy'' =>
        simp only [List.zip_cons_cons, List.cons.injEq, Prod.mk.injEq] at hz
        obtain ⟨⟨rfl, rfl⟩, rfl⟩ := hz
        refine wpAny_bind (item_eq (x := k1) (y := k2) hu h1 h2 ?_)
        by_cases hk : k1 = k2
        · subst hk
          rw [decide_eq_true rfl]
          simp only [Bool.not_true, Bool.false_eq_true, if_false]
          refine wpAny_pure ⟨rfl, rfl, x'', y'', xs'', ys'', rfl, hx'', hy'', ?_, by simpa using hlen⟩
          rw [← hdec]
          by_cases hxy : x'' = y''
          · simp [hxy]
          · simp [hxy]
        · rw [decide_eq_false hk]
          simp only [Bool.not_false, if_true]
          have hf : decide (x = y) = false := by rw [← hdec]; simp [hk]
          rw [hf] at h
          exact wpAny_bind (wpAny_pure (wpAny_pure (wpAny_pure h)))
  · rintro ⟨r1, r2⟩ s' ⟨hr, rfl, x', y', xs', ys', hz, hx', hy', hdec, hlen⟩
    simp only at hr
    subst hr
    refine wpAny_pure ?_
    have hfin : (xs.size == ys.size) = decide (x = y) := by
      rw [← hdec, ← hlen]
      cases hx' with
      | nil =>
        cases hy' with
        | nil => simp
        | cons _ _ => simp
      | cons _ _ =>
        cases hy' with
        | nil => simp
        | cons _ _ => simp at hz
    show P (.done (.ret (.bool (xs.size == ys.size)))) s'
    rw [hfin]; exact h
theorem tk_eqBool {x y : List IK} {a b : Addr} {Q : Bool → Shared → Prop} (hu : A.units + 1 < cLine) (hx : IsTk prog w s.heap x a) (hy : IsTk prog w s.heap y b) (h : Q (decide (x = y)) s) :
    wpAny (model prog w) A (eqBool (.ref a) (.ref b)) Q E s := by
  unfold eqBool
  try with_reducible refine wpAny_holding ?_
  show wpAny _ _ (if (Value.ref a == Value.ref b) = true then _ else _) Q E s
  by_cases hab : (Value.ref a == Value.ref b) = true
  · rw [if_pos hab]
    have e : a = b := by have := eq_of_beq hab; injection this
    subst e
    obtain rfl := hx.inj hy
    exact wpAny_bind (wpAny_rule (wpAny_pure (by simpa using h)))
  · rw [if_neg hab]
    exact wpAny_bind (wpAny_richCompare_same_room (op := .Eq) hx.typeIs hy.typeIs F.slot_tuple_eq
      (wpAny_call_entry F.slot_tuple_eq hx.typeIs F.entry_tuple_eq (tk_eq_tree hu hx hy ⟨_, rfl, (fun e => nomatch e), wpAny_truthy_bool h⟩) (F.args_tuple_eq_2 _ _)) (by omega))
theorem quiet_tuple {n : Nat} {ks : List IA} {a : Addr} {Q : Bool → Shared → Prop} (hk : IsTupleKey (iaKind prog w) s.heap ks a) (h : Q true s) : wpAny (model prog w) A (eqIsQuiet (n + 1) (.ref a)) Q E s := by
  have hT := hk.typeIs
  obtain ⟨o, items, _, ho, _, hd, hi⟩ := hk
  unfold eqIsQuiet
  refine wpAny_bind (wpAny_specialOf hT F.slot_tuple_eq.lookup ?_)
  show wpAny _ _ (isInstance (.ref a) (.type "tuple") >>= _) _ _ s
  refine wpAny_bind (wpAny_isInstance hT isSubtype_tuple_tuple ?_)
  simp only [Bool.not_true, Bool.false_eq_true, if_false]
  refine wpAny_bind (wpAny_seqItems ho hd ?_)
  refine wpAny_bind ?_
  show wpAny _ _ (forIn items _ _) _ _ s
  rw [← Array.forIn_toList]
  refine wpAny_forIn_list _ (fun rest r s' => r.1 = none ∧ s' = s ∧ ∀ v ∈ rest, carriedByValue v = true) _ ?_ ?_ _ _ ⟨rfl, rfl, hi.byValue⟩
  · rintro v rest r s' ⟨hr, rfl, hall⟩
    rw [eqIsQuiet_byValue _ (hall v List.mem_cons_self)]
    refine wpAny_bind (wpAny_pure ?_)
    simp only [Bool.not_true, Bool.false_eq_true, if_false]
    exact wpAny_pure ⟨rfl, rfl, fun u hu' => hall u (List.mem_cons_of_mem _ hu')⟩
  · rintro ⟨r1, r2⟩ s' ⟨hr, rfl, _⟩
    simp only at hr
    subst hr
    exact wpAny_pure h
theorem tk_quiet {ks : List IK} {a : Addr} {Q : Bool → Shared → Prop} (hk : IsTk prog w s.heap ks a) (h : Q true s) : wpAny (model prog w) A (eqIsQuiet 8 (.ref a)) Q E s := by
  have hT := hk.typeIs
  obtain ⟨o, items, n, ho, _, hd, hi⟩ := hk
  unfold eqIsQuiet
  refine wpAny_bind (wpAny_specialOf hT F.slot_tuple_eq.lookup ?_)
  show wpAny _ _ (isInstance (.ref a) (.type "tuple") >>= _) _ _ s
  refine wpAny_bind (wpAny_isInstance hT isSubtype_tuple_tuple ?_)
  simp only [Bool.not_true, Bool.false_eq_true, if_false]
  refine wpAny_bind (wpAny_seqItems ho hd ?_)
  refine wpAny_bind ?_
  show wpAny _ _ (forIn items _ _) _ _ s
  rw [← Array.forIn_toList]
  refine wpAny_forIn_list _ (fun rest r s' => r.1 = none ∧ s' = s ∧ ∃ ks, Paired (ItemIs prog w s.heap) ks rest) _ ?_ ?_ _ _ ⟨rfl, rfl, ks, hi⟩
  · rintro v rest r s' ⟨hr, rfl, ks, hall⟩
    cases hall with
    | @cons k _ ks' _ h1 hl =>
      refine wpAny_bind ?_
      have fin : wpAny (model prog w) A (eqIsQuiet 7 v) (fun b s2 => b = true ∧ s2 = s') E s' := by
        cases k with
        | inl a' => rw [eqIsQuiet_byValue _ ((iaKind prog w).byValue _ _ h1)]; exact wpAny_pure ⟨rfl, rfl⟩
        | inr as => obtain ⟨b, rfl, q⟩ := h1; exact quiet_tuple (n := 6) q ⟨rfl, rfl⟩
      refine wpAny_mono fin (fun b s2 ⟨e1, e2⟩ => ?_) fun _ _ x => x
      subst e1 e2
      simp only [Bool.not_true, Bool.false_eq_true, if_false]
      exact wpAny_pure ⟨rfl, rfl, ks', hl⟩
  · rintro ⟨r1, r2⟩ s' ⟨hr, rfl, _⟩
    simp only at hr
    subst hr
    exact wpAny_pure h
end
noncomputable def tkKind (prog : Program) (w : World) : HeapKind prog w (List IK) where
  is := IsTk prog w
  hash := hashT
  draws := drawsT
  room := fun A => A.units + 1 < cLine
  inj := fun hx hy => hx.inj hy
  keeps := fun x ho hd hs => x.keeps ho hd hs
  pyHash := fun hu hk h => tk_pyHash hu hk h
  eqBool := fun hu hx hy h => tk_eqBool hu hx hy h
  quiet := fun hk h => tk_quiet hk h
/-! ### a dict with such keys -/
noncomputable def DA (a : Addr) (kvs : List (IA × V)) (h : Heap) : Prop := kvs.length ≤ sizeLine ∧ (a == sysModules) = false ∧ ∃ (P : Program) (w : World) (vs : List (IA × Value)), KV kvs vs ∧ h.DictOf (iaKind P w) a vs
noncomputable def ZX : List (List IK × Addr × V) → List (List IK × Addr × Value) → Prop := Paired fun z x => z.1 = x.1 ∧ z.2.1 = x.2.1 ∧ RelV z.2.2 x.2.2
noncomputable def DB (a : Addr) (zs : List (List IK × Addr × V)) (h : Heap) : Prop := zs.length ≤ sizeLine ∧ (a == sysModules) = false ∧ ∃ xs : List (List IK × Addr × Value), ZX zs xs ∧
  ∃ o es ep, h.get? a = some o ∧ o.ExactDict ∧ o.data = .dict es ep ∧ es.toList = xs.map (fun x => ⟨hashT x.1, .ref x.2.1, x.2.2⟩) ∧ (xs.map (·.1)).Nodup
noncomputable def dA (a : Addr) (kvs : List (IA × V)) : HO := .ext (DA a kvs)
noncomputable def dB (a : Addr) (zs : List (List IK × Addr × V)) : HO := .ext (DB a zs)
noncomputable def atZ (zs : List (List IK × Addr × V)) (k : List IK) : Option V := (zs.find? fun p => decide (p.1 = k)).map (·.2.2)
noncomputable def Dx (H : Hp) (a : Addr) (s : Bool) (f : MK → Option V) (n : Nat) : Prop :=
  (s = false ∧ ∃ kvs, H a = some (dA a kvs) ∧ (∀ k, valV kvs k = f (.inl k)) ∧ kvs.length ≤ n) ∨
  (s = true ∧ ∃ zs, H a = some (dB a zs) ∧ (∀ z ∈ zs, KeyV H (.ref z.2.1) (.inr z.1)) ∧ (∀ k, atZ zs k = f (.inr k)) ∧ zs.length ≤ n)
section
variable {H H' : Hp} {a b : Addr} {s : Bool} {f g : MK → Option V} {n m : Nat}
theorem Dx.ext (h : Dx H a s f n) : ∃ φ, H a = some (.ext φ) := by
  rcases h with ⟨_, kvs, e, _⟩ | ⟨_, zs, e, _⟩
  · exact ⟨_, e⟩
  · exact ⟨_, e⟩
theorem Dx.keep (h : Dx H a s f n) (e : H' a = H a) (kp : Keep H H') : Dx H' a s f n := by
  rcases h with ⟨hs, kvs, h1, h2⟩ | ⟨hs, zs, h1, h2, h3⟩
  · exact .inl ⟨hs, kvs, e.trans h1, h2⟩
  · exact .inr ⟨hs, zs, e.trans h1, fun z hz => (h2 z hz).keep kp, h3⟩
theorem Dx.same (h : Dx H a s f n) (q : Same H H') : Dx H' a s f n := by
  obtain ⟨φ, h1⟩ := h.ext
  exact h.keep ((q _ _ h1).trans h1.symm) q.keep
theorem Dx.ne_lst {xs : List V} (h : Dx H a s f n) (e : H b = some (.lst xs)) : b ≠ a := by
  obtain ⟨φ, h1⟩ := h.ext
  exact ne_of e h1 (fun z => nomatch z)
theorem Dx.ne_tup {xs : List V} (h : Dx H a s f n) (e : H b = some (.tup xs)) : b ≠ a := by
  obtain ⟨φ, h1⟩ := h.ext
  exact ne_of e h1 (fun z => nomatch z)
theorem Dx.le (h : Dx H a s f n) (e : n ≤ m) : Dx H a s f m := by
  rcases h with ⟨hs, kvs, h1, h2, h3⟩ | ⟨hs, zs, h1, h2, h3, h4⟩
  · exact .inl ⟨hs, kvs, h1, h2, Nat.le_trans h3 e⟩
  · exact .inr ⟨hs, zs, h1, h2, h3, Nat.le_trans h4 e⟩
theorem Dx.congr (h : Dx H a s f n) (e : ∀ k, f k = g k) : Dx H a s g n := by
  rcases h with ⟨hs, kvs, h1, h2, h3⟩ | ⟨hs, zs, h1, h2, h3, h4⟩
  · exact .inl ⟨hs, kvs, h1, fun k => (h2 k).trans (e _), h3⟩
  · exact .inr ⟨hs, zs, h1, h2, fun k => (h3 k).trans (e _), h4⟩
end
end L2

end

section
-- KcMapR
set_option Elab.async false
set_option linter.all false
set_option maxRecDepth 100000
set_option maxHeartbeats 4000000
namespace L2
open PySem PyProof.Rows
theorem Dx.off {H H' : Hp} {a l : Addr} {s : Bool} {f : MK → Option V} {n : Nat} {xs : List V} (h : Dx H a s f n) (e : H l = some (.lst xs)) (o : Off l H H') : Dx H' a s f n :=
  h.keep (o a (h.ne_lst e).symm) (o.keep e)
noncomputable def mDnewX : TE := fun _ H Q => ∃ s, ∀ p H', H p = none → Same H H' → Dx H' p s (fun _ => none) 0 → Q (.ref p) H'
theorem m_dnewX {σ : St} {H : Hp} {Q : VK} (s : Bool) (h : ∀ p H', H p = none → Same H H' → Dx H' p s (fun _ => none) 0 → Q (.ref p) H') : mDnewX σ H Q := ⟨s, h⟩
noncomputable def rXIn (neg : Bool) : R2 := fun y x H Q => ∃ a s f n k, x = .ref a ∧ Dx H a s f n ∧ KeyV H y k ∧ kSort k = s ∧ Q (.bl (if neg then (f k).isNone else (f k).isSome)) H
noncomputable def rXGet : R2 := fun x y H Q => ∃ a s f n k v, x = .ref a ∧ Dx H a s f n ∧ KeyV H y k ∧ kSort k = s ∧ f k = some v ∧ Q v H
noncomputable def putF_ (f : MK → Option V) (k : MK) (v : V) : MK → Option V := fun j => if j = k then some v else f j
noncomputable def rXSet : TSet := fun o i v H R => ∃ a s f n k, o = .ref a ∧ Dx H a s f n ∧ KeyV H i k ∧ kSort k = s ∧ n < sizeLine ∧ ∀ H', Off a H H' → Dx H' a s (putF_ f k v) (n + 1) → R H'
noncomputable def rXSetd : V → List V → Hp → VK → Prop := fun x ys H Q => ∃ a s f n k y v, x = .ref a ∧ ys = [y, v] ∧ Dx H a s f n ∧ KeyV H y k ∧ kSort k = s ∧ n < sizeLine ∧ (∀ u, f k = some u → Q u H) ∧
  (f k = none → ∀ H', Off a H H' → Dx H' a s (putF_ f k v) (n + 1) → Q v H')
noncomputable def tXM (r : V → List V → Hp → VK → Prop) (to : TE) (t : TA) : TE := fun σ H Q => to σ H fun x H1 => (∃ a s f n, x = .ref a ∧ Dx H1 a s f n) ∧ t σ H1 fun ys H2 => r x ys H2 Q
section
variable {σ : St} {H : Hp} {Q : VK} {a : Addr} {s : Bool} {f : MK → Option V} {n : Nat} {k : MK} {y v : V}
theorem r_xnotin (d : Dx H a s f n) (hk : KeyV H y k) (hs : kSort k = s) (h : Q (.bl (f k).isNone) H) : rXIn true y (.ref a) H Q := ⟨a, s, f, n, k, rfl, d, hk, hs, h⟩
theorem r_xget (d : Dx H a s f n) (hk : KeyV H y k) (hs : kSort k = s) (e : f k = some v) (h : Q v H) : rXGet (.ref a) y H Q := ⟨a, s, f, n, k, v, rfl, d, hk, hs, e, h⟩
theorem r_xset {R : Hp → Prop} (d : Dx H a s f n) (hk : KeyV H y k) (hs : kSort k = s) (hn : n < sizeLine) (h : ∀ H', Off a H H' → Dx H' a s (putF_ f k v) (n + 1) → R H') : rXSet (.ref a) y v H R := ⟨a, s, f, n, k, rfl, d, hk, hs, hn, h⟩
theorem r_xsetd (d : Dx H a s f n) (hk : KeyV H y k) (hs : kSort k = s) (hn : n < sizeLine) (h1 : ∀ u, f k = some u → Q u H) (h2 : f k = none → ∀ H', Off a H H' → Dx H' a s (putF_ f k v) (n + 1) → Q v H') : rXSetd (.ref a) [y, v] H Q := ⟨a, s, f, n, k, y, v, rfl, rfl, d, hk, hs, hn, h1, h2⟩
theorem r_xm {r : V → List V → Hp → VK → Prop} {to : TE} {t : TA} (h : to σ H fun x H1 => (∃ a s f n, x = .ref a ∧ Dx H1 a s f n) ∧ t σ H1 fun ys H2 => r x ys H2 Q) : tXM r to t σ H Q := h
end
/-! what the firsts are behind i of the keys -/
section
variable {α : Type} [DecidableEq α] {ks : List α} {i : Nat} {k : α}
noncomputable def firsts (ks : List α) (i : Nat) : α → Option V := fun k => if k ∈ ks.take i then some (.int (ks.idxOf k : Nat)) else none
theorem firsts_old (hk : ks[i]? = some k) (h : k ∈ ks.take i) (j : α) : firsts ks i j = firsts ks (i + 1) j := by
  unfold firsts
  rw [take_snoc hk]
  by_cases q : j ∈ ks.take i
  · rw [if_pos q, if_pos (List.mem_append_left _ q)]
  · rw [if_neg q, if_neg]
    intro z
    rcases List.mem_append.mp z with z | z
    · exact q z
    · rw [List.mem_singleton.mp z] at q; exact q h
theorem firsts_new (hk : ks[i]? = some k) (h : k ∉ ks.take i) (j : α) : (if j = k then some (V.int (i : Nat)) else firsts ks i j) = firsts ks (i + 1) j := by
  unfold firsts
  rw [take_snoc hk]
  by_cases q : j = k
  · subst q
    rw [if_pos rfl, if_pos (by simp), idxOf_new hk h]
  · rw [if_neg q]
    by_cases z : j ∈ ks.take i
    · rw [if_pos z, if_pos (List.mem_append_left _ z)]
    · rw [if_neg z, if_neg]
      intro w
      rcases List.mem_append.mp w with w | w
      · exact z w
      · exact q (List.mem_singleton.mp w)
theorem firsts_at (h : k ∈ ks.take i) : firsts ks i k = some (.int (ks.idxOf k : Nat)) := if_pos h
theorem firsts_none (h : k ∉ ks.take i) : firsts ks i k = none := if_neg h
theorem firsts_zero (k : α) : none = firsts ks 0 k := (if_neg (by simp)).symm
theorem leastOf_snoc (hk : ks[i]? = some k) : (leastOf ks).take (i + 1) = (leastOf ks).take i ++ [ks.idxOf k] := take_snoc (by unfold leastOf; rw [List.getElem?_map, hk]; rfl)
end
end L2

end

section
-- KcMath
set_option linter.all false
namespace KM
noncomputable def fact : Nat → Nat
  | 0 => 1
  | n + 1 => fact n * (n + 1)
noncomputable def choose : Nat → Nat → Nat
  | _, 0 => 1
  | 0, _ + 1 => 0
  | n + 1, k + 1 => choose n k + choose n (k + 1)
theorem fact_pos : ∀ n, 0 < fact n
  | 0 => by decide
  | n + 1 => Nat.mul_pos (fact_pos n) (Nat.succ_pos n)
theorem choose_zero (n : Nat) : choose n 0 = 1 := by cases n <;> rfl
theorem choose_gt : ∀ (n k : Nat), n < k → choose n k = 0
  | _, 0, h => absurd h (Nat.not_lt_zero _)
  | 0, _ + 1, _ => rfl
  | n + 1, k + 1, h => by rw [choose, choose_gt n k (by omega), choose_gt n (k + 1) (by omega)]
theorem choose_self : ∀ n, choose n n = 1
  | 0 => rfl
  | n + 1 => by rw [choose, choose_self n, choose_gt n (n + 1) (by omega)]
theorem choose_fact : ∀ (n k : Nat), k ≤ n → choose n k * (fact k * fact (n - k)) = fact n
  | n, 0, _ => by rw [choose_zero, fact, Nat.sub_zero, Nat.one_mul, Nat.one_mul]
  | 0, _ + 1, h => absurd h (by omega)
  | n + 1, k + 1, h => by
    rw [choose, Nat.add_mul]
    by_cases hk : k = n
    · subst hk
      rw [choose_self, choose_gt k (k + 1) (by omega), Nat.sub_self]
      simp [fact]
    · have hk' : k + 1 ≤ n := by omega
      have e1 := choose_fact n k (by omega)
      have e2 := choose_fact n (k + 1) hk'
      have s1 : n + 1 - (k + 1) = n - k := by omega
      have s2 : n - k = (n - (k + 1)) + 1 := by omega
      rw [s1]
      have a1 : choose n k * (fact (k + 1) * fact (n - k)) = (k + 1) * fact n := by
        rw [← e1, fact]
        simp only [Nat.mul_assoc, Nat.mul_comm, Nat.mul_left_comm]
      have a2 : choose n (k + 1) * (fact (k + 1) * fact (n - k)) = (n - k) * fact n := by
        have s3 : fact (n - k) = fact (n - (k + 1)) * (n - k) := by
          rw [s2, fact, ← s2]
        rw [← e2, s3]
        simp only [Nat.mul_assoc, Nat.mul_comm, Nat.mul_left_comm]
      rw [a1, a2, ← Nat.add_mul, fact, Nat.mul_comm]
      congr 1
      omega
theorem choose_step (n k : Nat) (h : k + 1 ≤ n) : choose n k * (n - k) / (k + 1) = choose n (k + 1) := by
  have e1 := choose_fact n k (by omega)
  have e2 := choose_fact n (k + 1) h
  have s2 : n - k = (n - (k + 1)) + 1 := by omega
  have p : 0 < fact k * fact (n - (k + 1)) := Nat.mul_pos (fact_pos _) (fact_pos _)
  have q : choose n k * (n - k) = choose n (k + 1) * (k + 1) := by
    have : choose n k * (n - k) * (fact k * fact (n - (k + 1))) = choose n (k + 1) * (k + 1) * (fact k * fact (n - (k + 1))) := by
      have l : choose n k * (n - k) * (fact k * fact (n - (k + 1))) = fact n := by
        rw [← e1, show fact (n - k) = fact (n - (k + 1)) * (n - k) by rw [s2, fact, ← s2]]
        simp only [Nat.mul_assoc, Nat.mul_comm, Nat.mul_left_comm]
      have r : choose n (k + 1) * (k + 1) * (fact k * fact (n - (k + 1))) = fact n := by
        rw [← e2, fact]
        simp only [Nat.mul_assoc, Nat.mul_comm, Nat.mul_left_comm]
      rw [l, r]
    exact Nat.eq_of_mul_eq_mul_right p this
  rw [q, Nat.mul_div_cancel _ (Nat.succ_pos k)]
noncomputable def multi : Nat → List Nat → Nat
  | _, [] => 1
  | n, s :: r => choose n s * multi (n - s) r
theorem multi_fact : ∀ (ss : List Nat) (n : Nat), ss.sum ≤ n → multi n ss * ((ss.map fact).foldr (· * ·) 1 * fact (n - ss.sum)) = fact n
  | [], n, _ => by simp [multi]
  | s :: r, n, h => by
    rw [List.sum_cons] at h
    have ih := multi_fact r (n - s) (by omega)
    have c := choose_fact n s (by omega)
    rw [multi, List.map_cons, List.foldr_cons, List.sum_cons, ← c, ← ih, Nat.sub_sub]
    simp only [Nat.mul_assoc, Nat.mul_comm, Nat.mul_left_comm]
end KM

end

section
-- KcDeal
set_option linter.all false
namespace KM
/-! ### deals, built card by card -/
noncomputable def nexts (room : List Nat) (w : List Nat) : List Nat := (List.range room.length).filter fun j => decide (w.count j < room.getD j 0)
noncomputable def grow (room : List Nat) (ws : List (List Nat)) : List (List Nat) := ws.flatMap fun w => (nexts room w).map fun j => w ++ [j]
noncomputable def level (room : List Nat) : Nat → List (List Nat)
  | 0 => [[]]
  | i + 1 => grow room (level room i)
noncomputable def words : Nat → List Nat → Nat
  | 0, _ => 1
  | n + 1, r => (((List.range r.length).filter fun j => decide (0 < r.getD j 0)).map fun j => words n (r.set j (r.getD j 0 - 1))).sum
noncomputable def left (room w : List Nat) : List Nat := (List.range room.length).map fun j => room.getD j 0 - w.count j
theorem left_len (room w : List Nat) : (left room w).length = room.length := by unfold left; rw [List.length_map, List.length_range]
theorem left_get (room w : List Nat) (j : Nat) (h : j < room.length) : (left room w).getD j 0 = room.getD j 0 - w.count j := by
  unfold left
  rw [List.getD_eq_getElem?_getD, List.getElem?_map, List.getElem?_range h]
  rfl
theorem left_snoc (room w : List Nat) (j : Nat) (h : j < room.length) : left room (w ++ [j]) = (left room w).set j ((left room w).getD j 0 - 1) := by
  apply List.ext_getElem?
  intro k
  by_cases hk : k < room.length
  · have e1 : (left room (w ++ [j]))[k]? = some (room.getD k 0 - (w ++ [j]).count k) := by
      unfold left
      rw [List.getElem?_map, List.getElem?_range hk]
      rfl
    rw [e1, List.getElem?_set, left_get room w j h, left_len]
    by_cases hjk : j = k
    · subst hjk
      rw [if_pos rfl, if_pos h, List.count_append]
      simp
      omega
    · rw [if_neg hjk]
      unfold left
      rw [List.getElem?_map, List.getElem?_range hk, List.count_append]
      simp [List.count_cons, hjk]
  · rw [List.getElem?_eq_none (by rw [left_len]; omega), List.getElem?_eq_none (by rw [List.length_set, left_len]; omega)]
theorem nexts_left (room w : List Nat) : nexts room w = (List.range (left room w).length).filter fun j => decide (0 < (left room w).getD j 0) := by
  unfold nexts
  rw [left_len]
  apply List.filter_congr
  intro j hj
  rw [List.mem_range] at hj
  rw [left_get room w j hj]
  by_cases h : w.count j < room.getD j 0
  · simp [h]
    omega
  · simp [h]
    omega
noncomputable def growN (room : List Nat) : Nat → List (List Nat) → List (List Nat)
  | 0, ws => ws
  | n + 1, ws => growN room n (grow room ws)
theorem growN_level (room : List Nat) : ∀ n i, growN room n (level room i) = level room (i + n)
  | 0, i => rfl
  | n + 1, i => by
    rw [growN, show grow room (level room i) = level room (i + 1) from rfl, growN_level room n (i + 1)]
    congr 1
    omega
theorem sum_flatMap_len (f : List Nat → Nat) (room : List Nat) : ∀ ws : List (List Nat), ((grow room ws).map f).sum = (ws.map fun w => ((nexts room w).map fun j => f (w ++ [j])).sum).sum
  | [] => rfl
  | w :: r => by
    have ih := sum_flatMap_len f room r
    unfold grow at ih ⊢
    rw [List.flatMap_cons, List.map_append, List.sum_append, ih, List.map_cons, List.sum_cons, List.map_map]
    rfl
theorem growN_len (room : List Nat) : ∀ (n : Nat) (ws : List (List Nat)), (growN room n ws).length = (ws.map fun w => words n (left room w)).sum
  | 0, ws => by
    rw [growN]
    induction ws with
    | nil => rfl
    | cons w r ih => rw [List.length_cons, ih, List.map_cons, List.sum_cons, words]; omega
  | n + 1, ws => by
    rw [growN, growN_len room n, sum_flatMap_len]
    congr 1
    apply List.map_congr_left
    intro w _
    rw [words, nexts_left]
    congr 1
    apply List.map_congr_left
    intro j hj
    have hj' := List.mem_filter.mp hj
    rw [List.mem_range, left_len] at hj'
    rw [left_snoc room w j hj'.1]
/-! the words are counted by the factorials -/
noncomputable def prodF (r : List Nat) : Nat := (r.map fact).foldr (· * ·) 1
theorem prodF_cons (a : Nat) (r : List Nat) : prodF (a :: r) = fact a * prodF r := rfl
theorem prodF_pos : ∀ r, 0 < prodF r
  | [] => by decide
  | a :: r => Nat.mul_pos (fact_pos a) (prodF_pos r)
theorem prodF_set : ∀ (r : List Nat) (j : Nat), j < r.length → 0 < r.getD j 0 → prodF r = prodF (r.set j (r.getD j 0 - 1)) * r.getD j 0
  | [], j, h, _ => absurd h (by simp)
  | a :: r, 0, _, h => by
    have h' : 0 < a := h
    show prodF (a :: r) = prodF ((a - 1) :: r) * a
    rw [prodF_cons, prodF_cons]
    obtain ⟨b, rfl⟩ : ∃ b, a = b + 1 := ⟨a - 1, by omega⟩
    rw [show b + 1 - 1 = b by omega, fact]
    simp only [Nat.mul_assoc, Nat.mul_comm, Nat.mul_left_comm]
  | a :: r, j + 1, h, hp => by
    have ih := prodF_set r j (by simpa using h) hp
    show prodF (a :: r) = prodF (a :: r.set j (r.getD j 0 - 1)) * r.getD j 0
    rw [prodF_cons, prodF_cons, ih]
    simp only [Nat.mul_assoc, Nat.mul_comm, Nat.mul_left_comm]
theorem sum_set : ∀ (r : List Nat) (j : Nat), j < r.length → 0 < r.getD j 0 → (r.set j (r.getD j 0 - 1)).sum + 1 = r.sum
  | [], j, h, _ => absurd h (by simp)
  | a :: r, 0, _, h => by
    have h' : 0 < a := h
    show ((a - 1) :: r).sum + 1 = (a :: r).sum
    rw [List.sum_cons, List.sum_cons]
    omega
  | a :: r, j + 1, h, hp => by
    have ih := sum_set r j (by simpa using h) hp
    show (a :: r.set j (r.getD j 0 - 1)).sum + 1 = (a :: r).sum
    rw [List.sum_cons, List.sum_cons]
    omega
theorem sum_mul (c : Nat) (f : Nat → Nat) : ∀ l : List Nat, (l.map f).sum * c = (l.map fun j => f j * c).sum
  | [] => by simp
  | a :: r => by rw [List.map_cons, List.sum_cons, Nat.add_mul, sum_mul c f r, List.map_cons, List.sum_cons]
theorem sum_pos_only (r : List Nat) : (((List.range r.length).filter fun j => decide (0 < r.getD j 0)).map fun j => r.getD j 0).sum = r.sum := by
  have go : ∀ (l : List Nat) (g : Nat → Nat), ((l.filter fun j => decide (0 < g j)).map g).sum = (l.map g).sum := by
    intro l g
    induction l with
    | nil => rfl
    | cons a t ih =>
      rw [List.filter_cons]
      by_cases h : 0 < g a
      · rw [if_pos (by simpa using h), List.map_cons, List.sum_cons, ih, List.map_cons, List.sum_cons]
      · rw [if_neg (by simpa using h), ih, List.map_cons, List.sum_cons]
        omega
  rw [go]
  congr 1
  apply List.ext_getElem?
  intro k
  rw [List.getElem?_map]
  by_cases hk : k < r.length
  · rw [List.getElem?_range hk, List.getElem?_eq_getElem hk]
    show some (r.getD k 0) = some r[k]
    rw [List.getD_eq_getElem?_getD, List.getElem?_eq_getElem hk]
    rfl
  · rw [List.getElem?_eq_none (by simpa using hk), List.getElem?_eq_none (by simpa using hk)]
    rfl
theorem words_fact : ∀ (n : Nat) (r : List Nat), r.sum = n → words n r * prodF r = fact n
  | 0, r, h => by
    have : prodF r = 1 := by
      induction r with
      | nil => rfl
      | cons a t ih =>
        rw [List.sum_cons] at h
        have ha : a = 0 := by omega
        subst ha
        rw [prodF_cons, ih (by omega)]
        rfl
    rw [words, this]
    rfl
  | n + 1, r, h => by
    rw [words, sum_mul]
    have e : ((List.range r.length).filter fun j => decide (0 < r.getD j 0)).map (fun j => words n (r.set j (r.getD j 0 - 1)) * prodF r) = ((List.range r.length).filter fun j => decide (0 < r.getD j 0)).map (fun j => r.getD j 0 * fact n) := by
      apply List.map_congr_left
      intro j hj
      have hj' := List.mem_filter.mp hj
      rw [List.mem_range] at hj'
      have hp : 0 < r.getD j 0 := of_decide_eq_true hj'.2
      rw [prodF_set r j hj'.1 hp, ← Nat.mul_assoc, words_fact n _ (by have := sum_set r j hj'.1 hp; omega), Nat.mul_comm]
    rw [e, ← sum_mul, sum_pos_only, h, fact, Nat.mul_comm]
theorem left_nil (room : List Nat) : left room [] = room := by
  apply List.ext_getElem?
  intro k
  unfold left
  rw [List.getElem?_map]
  by_cases hk : k < room.length
  · rw [List.getElem?_range hk, List.getElem?_eq_getElem hk]
    show some (room.getD k 0 - ([] : List Nat).count k) = some room[k]
    rw [List.getD_eq_getElem?_getD, List.getElem?_eq_getElem hk]
    simp
  · rw [List.getElem?_eq_none (by simpa using hk), List.getElem?_eq_none (by simpa using hk)]
    rfl
theorem level_len (room : List Nat) : (level room room.sum).length * prodF room = fact room.sum := by
  have e := growN_level room room.sum 0
  rw [Nat.zero_add] at e
  rw [← e, growN_len]
  show (List.map (fun w => words room.sum (left room w)) [[]]).sum * prodF room = fact room.sum
  rw [List.map_cons, List.map_nil, List.sum_cons, List.sum_nil, left_nil, Nat.add_zero]
  exact words_fact _ _ rfl
/-! ### what holds of each beginning -/
structure Begun (room : List Nat) (i : Nat) (w : List Nat) : Prop where
  len : w.length = i
  all : ∀ j ∈ w, j < room.length
  cnt : ∀ j, j < room.length → w.count j ≤ room.getD j 0
theorem level_begun (room : List Nat) : ∀ i, ∀ w ∈ level room i, Begun room i w
  | 0, w, h => by
    have : w = [] := by simpa [level] using h
    subst this
    exact ⟨rfl, fun _ h => (nomatch h), fun j _ => by simp⟩
  | i + 1, w, h => by
    rw [level, grow, List.mem_flatMap] at h
    obtain ⟨v, hv, h⟩ := h
    obtain ⟨j, hj, rfl⟩ := List.mem_map.mp h
    have b := level_begun room i v hv
    have hj' := List.mem_filter.mp hj
    rw [List.mem_range] at hj'
    have hc : v.count j < room.getD j 0 := of_decide_eq_true hj'.2
    refine ⟨by rw [List.length_append, b.len]; rfl, fun k hk => ?_, fun k hk => ?_⟩
    · rcases List.mem_append.mp hk with hk | hk
      · exact b.all k hk
      · rw [List.mem_singleton] at hk
        omega
    · rw [List.count_append]
      by_cases e : j = k
      · subst e
        rw [List.count_singleton_self]
        omega
      · have := b.cnt k hk
        rw [List.count_singleton, if_neg (by simpa using e)]
        omega
theorem sum_counts : ∀ (n : Nat) (w : List Nat), (∀ j ∈ w, j < n) → ((List.range n).map fun j => w.count j).sum = w.length
  | n, [] , _ => by
    have : ((List.range n).map fun j => ([] : List Nat).count j) = (List.range n).map fun _ => 0 := by simp
    rw [this]
    have go : ∀ m, ((List.range m).map fun _ => 0).sum = 0 := by
      intro m
      induction m with
      | zero => rfl
      | succ m ih => rw [List.range_succ, List.map_append, List.sum_append, ih]; rfl
    exact go n
  | n, a :: w, h => by
    have ih := sum_counts n w fun j hj => h j (List.mem_cons_of_mem _ hj)
    have ha : a < n := h a List.mem_cons_self
    rw [List.length_cons, ← ih]
    clear ih h
    have go : ∀ m, ((List.range m).map fun j => (a :: w).count j).sum = ((List.range m).map fun j => w.count j).sum + (if a < m then 1 else 0) := by
      intro m
      induction m with
      | zero => simp
      | succ m ih =>
        rw [List.range_succ, List.map_append, List.sum_append, List.map_append, List.sum_append, ih]
        simp only [List.map_cons, List.map_nil, List.sum_cons, List.sum_nil, List.count_cons]
        by_cases e : a = m
        · subst e
          rw [if_neg (Nat.lt_irrefl a), if_pos (Nat.lt_succ_self a), if_pos (beq_self_eq_true a)]
          omega
        · rw [if_neg (show ¬ (a == m) = true by simpa using e)]
          by_cases hl : a < m
          · rw [if_pos hl, if_pos (show a < m + 1 by omega)]
            omega
          · rw [if_neg hl, if_neg (show ¬ a < m + 1 by omega)]
            omega
    rw [go, if_pos ha]
theorem sums_eq : ∀ (n : Nat) (f g : Nat → Nat), (∀ j, j < n → f j ≤ g j) → ((List.range n).map f).sum = ((List.range n).map g).sum → ∀ j, j < n → f j = g j
  | 0, _, _, _, _, j, hj => absurd hj (by omega)
  | n + 1, f, g, hle, hs, j, hj => by
    rw [List.range_succ, List.map_append, List.sum_append, List.map_append, List.sum_append] at hs
    simp only [List.map_cons, List.map_nil, List.sum_cons, List.sum_nil, Nat.add_zero] at hs
    have hle' : ∀ k, k < n → f k ≤ g k := fun k hk => hle k (by omega)
    have mono : ∀ m, m ≤ n → ((List.range m).map f).sum ≤ ((List.range m).map g).sum := by
      intro m
      induction m with
      | zero => intro _; exact Nat.le_refl _
      | succ m ih =>
        intro hm
        rw [List.range_succ, List.map_append, List.sum_append, List.map_append, List.sum_append]
        simp only [List.map_cons, List.map_nil, List.sum_cons, List.sum_nil, Nat.add_zero]
        have := ih (by omega)
        have := hle' m (by omega)
        omega
    have m1 := mono n (Nat.le_refl _)
    have m2 := hle n (by omega)
    by_cases e : j = n
    · subst e
      omega
    · exact sums_eq n f g hle' (by omega) j (by omega)
theorem range_getD (room : List Nat) : (List.range room.length).map (fun j => room.getD j 0) = room := by
  apply List.ext_getElem?
  intro k
  rw [List.getElem?_map]
  by_cases hk : k < room.length
  · rw [List.getElem?_range hk, List.getElem?_eq_getElem hk]
    show some (room.getD k 0) = some room[k]
    rw [List.getD_eq_getElem?_getD, List.getElem?_eq_getElem hk]
    rfl
  · rw [List.getElem?_eq_none (by simpa using hk), List.getElem?_eq_none (by simpa using hk)]
    rfl
theorem whole_counts {room w : List Nat} (h : Begun room room.sum w) : ∀ j, j < room.length → w.count j = room.getD j 0 := by
  refine sums_eq room.length (fun j => w.count j) (fun j => room.getD j 0) h.cnt ?_
  rw [sum_counts room.length w h.all, range_getD, h.len]
/-! ### their order -/
end KM

end

section
-- KcNum
set_option linter.all false
namespace KM
theorem choose_le (n k : Nat) : choose n k ≤ 2 ^ n := by
  induction n generalizing k with
  | zero => cases k <;> simp [choose]
  | succ n ih =>
    cases k with
    | zero => rw [choose_zero]; exact Nat.one_le_two_pow
    | succ k =>
      rw [choose, Nat.pow_succ]
      have := ih k
      have := ih (k + 1)
      omega
theorem choose_stepZ {n i : Nat} (h : i + 1 ≤ n) : ((choose n i : Nat) : Int) * ((n : Int) - (0 + (i : Int))) / (0 + (i : Int) + 1) = ((choose n (i + 1) : Nat) : Int) := by
  have e1 : (n : Int) - (0 + (i : Int)) = ((n - i : Nat) : Int) := by omega
  have e2 : (0 + (i : Int) + 1) = ((i + 1 : Nat) : Int) := by omega
  rw [e1, e2, ← Int.natCast_mul, ← Int.natCast_ediv, choose_step n i h]
theorem prodF_multi (n : Nat) (ss : List Nat) (h : ss.sum ≤ n) : multi n ss * prodF (ss ++ [n - ss.sum]) = fact n := by
  have e : prodF (ss ++ [n - ss.sum]) = (ss.map fact).foldr (· * ·) 1 * fact (n - ss.sum) := by
    generalize n - ss.sum = k
    induction ss with
    | nil => simp [prodF]
    | cons a r ih =>
      have hr : r.sum ≤ n := by rw [List.sum_cons] at h; omega
      show fact a * prodF (r ++ [k]) = fact a * (r.map fact).foldr (· * ·) 1 * fact k
      rw [ih hr, Nat.mul_assoc]
  rw [e]
  exact multi_fact ss n h
theorem multi_pos {n : Nat} {ss : List Nat} (h : ss.sum ≤ n) : 0 < multi n ss := by
  have e := prodF_multi n ss h
  have f := fact_pos n
  rcases Nat.eq_zero_or_pos (multi n ss) with z | z
  · rw [z, Nat.zero_mul] at e
    omega
  · exact z
theorem level_multi {n : Nat} {ss : List Nat} (h : ss.sum ≤ n) : (level (ss ++ [n - ss.sum]) n).length = multi n ss := by
  have e1 := prodF_multi n ss h
  have hs : (ss ++ [n - ss.sum]).sum = n := by
    rw [List.sum_append, List.sum_cons, List.sum_nil]
    omega
  have e2 := level_len (ss ++ [n - ss.sum])
  rw [hs] at e2
  exact Nat.eq_of_mul_eq_mul_right (prodF_pos _) (e2.trans e1.symm)
theorem words_pos (n : Nat) (r : List Nat) (h : r.sum = n) : 0 < words n r := by
  have e := words_fact n r h
  have f := fact_pos n
  rcases Nat.eq_zero_or_pos (words n r) with z | z
  · rw [z, Nat.zero_mul] at e
    omega
  · exact z
theorem left_sum {room w : List Nat} {i : Nat} (h : Begun room i w) : (left room w).sum + i = room.sum := by
  have go : ∀ m, m ≤ room.length → ((List.range m).map fun j => room.getD j 0 - w.count j).sum + ((List.range m).map fun j => w.count j).sum = ((List.range m).map fun j => room.getD j 0).sum := by
    intro m
    induction m with
    | zero => intro _; rfl
    | succ m ih =>
      intro hm
      have := ih (by omega)
      have := h.cnt m (by omega)
      simp only [List.range_succ, List.map_append, List.sum_append, List.map_cons, List.map_nil, List.sum_cons, List.sum_nil] at *
      omega
  have e := go room.length (Nat.le_refl _)
  rw [sum_counts room.length w h.all, range_getD, h.len] at e
  exact e
theorem level_le {room : List Nat} {i : Nat} (h : i ≤ room.sum) : (level room i).length ≤ (level room room.sum).length := by
  have e := growN_level room (room.sum - i) i
  rw [show i + (room.sum - i) = room.sum by omega] at e
  rw [← e, growN_len]
  have hb := level_begun room i
  generalize level room i = ws at hb
  induction ws with
  | nil => exact Nat.zero_le _
  | cons w r ih =>
    rw [List.map_cons, List.sum_cons, List.length_cons]
    have := ih fun v hv => hb v (List.mem_cons_of_mem _ hv)
    have := words_pos (room.sum - i) (left room w) (by have := left_sum (hb w List.mem_cons_self); omega)
    omega
noncomputable def nextsTo (room w : List Nat) (k : Nat) : List Nat := (List.range k).filter fun j => decide (w.count j < room.getD j 0)
theorem nextsTo_all (room w : List Nat) : nextsTo room w room.length = nexts room w := rfl
theorem nextsTo_succ (room w : List Nat) (k : Nat) : nextsTo room w (k + 1) = nextsTo room w k ++ (if w.count k < room.getD k 0 then [k] else []) := by
  unfold nextsTo
  rw [List.range_succ, List.filter_append]
  by_cases h : w.count k < room.getD k 0
  · rw [if_pos h, List.filter_cons_of_pos (by simpa using h)]
    rfl
  · rw [if_neg h, List.filter_cons_of_neg (by simpa using h)]
    rfl
theorem grow_take (room : List Nat) (ws : List (List Nat)) (i : Nat) (w : List Nat) (h : ws[i]? = some w) : grow room (ws.take (i + 1)) = grow room (ws.take i) ++ (nexts room w).map fun j => w ++ [j] := by
  unfold grow
  rw [List.take_add_one, h, List.flatMap_append]
  simp
theorem grow_take_le (room : List Nat) (ws : List (List Nat)) (i : Nat) : (grow room (ws.take i)).length ≤ (grow room ws).length := by
  have : grow room ws = grow room (ws.take i) ++ grow room (ws.drop i) := by
    unfold grow
    rw [← List.flatMap_append, List.take_append_drop]
  rw [this, List.length_append]
  omega
end KM

end

section
-- KcPack
set_option Elab.async false
set_option linter.all false
set_option maxRecDepth 100000
set_option maxHeartbeats 4000000
namespace L2
open PySem PyProof.Rows
/-! ### things of whatever kind -/
noncomputable def wholeV : V → Bool
  | .int _ => true
  | _ => false
noncomputable def withinV : V → Int → Int → Bool
  | .int i, lo, hi => decide (lo ≤ i) && decide (i ≤ hi)
  | _, _, _ => false
noncomputable def Plain (K : PySem.W.Frag) (H : Hp) (x : V) : Prop := ∃ t b1 b2, TyOf K H x t ∧ PySem.W.kitOne K t (.type "int") = some b1 ∧ PySem.W.kitOne K t (.type "bool") = some b2 ∧ (b1 && !b2) = wholeV x
theorem Plain.int {K : PySem.W.Frag} {H : Hp} (i : Int) : Plain K H (.int i) := ⟨_, _, _, .int i, kit_int_int K, kit_int_bool K, rfl⟩
theorem tyOf_same {K : PySem.W.Frag} {H H' : Hp} {x : V} {t : Value} (h : TyOf K H x t) (s : Same H H') : TyOf K H' x t := by
  cases h with
  | non => exact .non
  | bl b => exact .bl b
  | int i => exact .int i
  | str x => exact .str x
  | flt x => exact .flt x
  | lst e => exact .lst (s _ _ e)
  | frz e => exact .frz (s _ _ e)
  | tup e => exact .tup (s _ _ e)
  | dK e => exact .dK (s _ _ e)
  | dT e => exact .dT (s _ _ e)
  | ins e cl ha hn htk hm => exact .ins (s _ _ e) cl ha hn htk hm
theorem Plain.same {K : PySem.W.Frag} {H H' : Hp} {x : V} (h : Plain K H x) (s : Same H H') : Plain K H' x := by
  obtain ⟨t, b1, b2, ty, r⟩ := h
  exact ⟨t, b1, b2, tyOf_same ty s, r⟩
noncomputable def spWhole (K : PySem.W.Frag) : Sp := fun vs H Q _ => ∃ x, vs = [x] ∧ Plain K H x ∧ Q (.bl (wholeV x)) H
noncomputable abbrev sp_is_whole (K : PySem.W.Frag) : Sp := spWhole K
noncomputable def t_is_whole (K : PySem.W.Frag) : TS := (tRet (tAndV (tCB (rIsi K) (tCons (tVar 0) (tCons (tC (.ty "int")) tNil))) (tNotV (tCB (rIsi K) (tCons (tVar 0) (tCons (tC (.ty "bool")) tNil))))))
theorem len_is_whole {K : PySem.W.Frag} {vs : List V} {H : Hp} {Q : VK} {E : XK} (h : sp_is_whole K vs H Q E) : vs.length = 1 := by
  obtain ⟨x, rfl, _⟩ := h
  rfl
theorem rd_is_whole {K : PySem.W.Frag} {vs : List V} {H : Hp} {Q : VK} {E : XK} (h : sp_is_whole K vs H Q E) : t_is_whole K { nx := fun _ H' => Q .non H', rt := Q } (start ["thing"] vs) H := by
  obtain ⟨x, rfl, ⟨t, b1, b2, ty, k1, k2, e⟩, q⟩ := h
  refine ⟨_, rfl, _, _, _, _, rfl, ty, k1, _, rfl, ite_of (fun c => ?_) (fun c => ?_)⟩
  · subst c
    refine ⟨_, rfl, _, _, _, _, rfl, ty, k2, _, rfl, ?_⟩
    rw [← e, Bool.true_and] at q
    exact q
  · subst c
    rw [← e, Bool.false_and] at q
    exact q
noncomputable def spWithin (K : PySem.W.Frag) : Sp := fun vs H Q _ => ∃ x lo hi, vs = [x, .int lo, .int hi] ∧ Plain K H x ∧ Q (.bl (withinV x lo hi)) H
noncomputable abbrev sp_is_within (K : PySem.W.Frag) : Sp := spWithin K
noncomputable def t_is_within (K : PySem.W.Frag) : TS := (tRet (tAndV (tCall (sp_is_whole K) [] E0 (tCons (tVar 0) tNil)) (tChain (rI0 fun i j => .bl (decide (i ≤ j))) (rI0 fun i j => .bl (decide (i ≤ j))) (tVar 1) (tVar 0) (tVar 2))))
theorem len_is_within {K : PySem.W.Frag} {vs : List V} {H : Hp} {Q : VK} {E : XK} (h : sp_is_within K vs H Q E) : vs.length = 3 := by
  obtain ⟨x, lo, hi, rfl, _⟩ := h
  rfl
theorem rd_is_within {K : PySem.W.Frag} {vs : List V} {H : Hp} {Q : VK} {E : XK} (h : sp_is_within K vs H Q E) : t_is_within K { nx := fun _ H' => Q .non H', rt := Q } (start ["thing", "least", "most"] vs) H := by
  obtain ⟨x, lo, hi, rfl, pl, q⟩ := h
  refine ⟨_, rfl, x, rfl, pl, _, rfl, ite_of (fun c => ?_) (fun c => ?_)⟩
  · cases x with
    | int i =>
      refine ⟨_, rfl, _, rfl, _, _, rfl, rfl, _, rfl, ite_of (fun d => ?_) (fun d => ?_)⟩
      · refine ⟨_, rfl, _, _, rfl, rfl, ?_⟩
        have q' : Q (.bl (decide (lo ≤ i) && decide (i ≤ hi))) H := q
        rw [d, Bool.true_and] at q'
        exact q'
      · have q' : Q (.bl (decide (lo ≤ i) && decide (i ≤ hi))) H := q
        rw [d, Bool.false_and] at q'
        exact q'
    | _ => cases c
  · cases x with
    | int i => cases c
    | _ => exact q
/-! ### what is a pack -/
noncomputable def sumV (zs : List V) : Int := (zs.map fun z => match z with | .int i => i | _ => 0).sum
noncomputable def packV (x : V) (zs : List V) : Bool := match x with
  | .int c => (decide (0 ≤ c) && decide (c ≤ 12)) && (decide (1 ≤ zs.length) && decide (zs.length ≤ 5)) && zs.all (fun z => withinV z 0 c) && decide (sumV zs ≤ c)
  | _ => false
theorem ints_of_within {zs : List V} {lo hi : Int} (h : zs.all (fun z => withinV z lo hi) = true) : ∃ ns : List Int, zs = ns.map V.int ∧ sumV zs = ns.sum := by
  induction zs with
  | nil => exact ⟨[], rfl, rfl⟩
  | cons z r ih =>
    rw [List.all_cons, Bool.and_eq_true] at h
    obtain ⟨ns, e, es⟩ := ih h.2
    cases z with
    | int i =>
      refine ⟨i :: ns, by rw [e]; rfl, ?_⟩
      show i + sumV r = (i :: ns).sum
      rw [es, List.sum_cons]
    | _ => exact absurd h.1 Bool.false_ne_true
noncomputable def Sizes (K : PySem.W.Frag) (H : Hp) (y : V) (zs : Option (List V)) : Prop := match zs with
  | some zs => ∃ a, y = .ref a ∧ (H a = some (.lst zs) ∨ ∃ o, H a = some (.frz o (.lst zs))) ∧ zs.length ≤ 1000 ∧ ∀ z ∈ zs, Plain K H z
  | none => ∃ t, TyOf K H y t ∧ PySem.W.kitOne K t (.type "list") = some false
noncomputable def packO (x : V) : Option (List V) → Bool
  | some zs => packV x zs
  | none => false
noncomputable def spPack (K : PySem.W.Frag) : Sp := fun vs H Q _ => ∃ x y zs, vs = [x, y] ∧ Plain K H x ∧ Sizes K H y zs ∧ ∀ H', Same H H' → Q (.bl (packO x zs)) H'
noncomputable abbrev sp_is_pack (K : PySem.W.Frag) : Sp := spPack K
noncomputable def t_is_pack (K : PySem.W.Frag) : TS := (tSeq (tIfS (tNot (tB (tCall (sp_is_within K) [] E0 (tCons (tVar 0) (tCons (tC (.int 0)) (tCons (tC (.int 12)) tNil)))))) (tRet (tC (.bl false))) tNext)
  (tSeq (tIfS (tOr (tNot (tB (tCB (rIsi K) (tCons (tVar 1) (tCons (tC (.ty "list")) tNil))))) (tNot (tB (tCall (sp_is_within K) [] E0 (tCons (tCB (cLen K) (tCons (tVar 1) tNil)) (tCons (tC (.int 1)) (tCons (tC (.int 5)) tNil))))))) (tRet (tC (.bl false))) tNext)
  (tRet (tAndV (tCB (cAll K) (tCons (tComp (iList K (tVar 1)) (fun _ _ _ _ => (gName 0)) (fun _ _ _ _ => tAlways) (fun _ _ _ _ => (tCall (sp_is_within K) [] E0 (tCons (tVar 0) (tCons (tC (.int 0)) (tCons (tVar 1) tNil))))) [none, some 0]) tNil)) (tOp (rI0 fun i j => .bl (decide (i ≤ j))) (tCB (cSum K) (tCons (tVar 1) tNil)) (tVar 0))))))
theorem len_is_pack {K : PySem.W.Frag} {vs : List V} {H : Hp} {Q : VK} {E : XK} (h : sp_is_pack K vs H Q E) : vs.length = 2 := by
  obtain ⟨x, y, zs, rfl, _⟩ := h
  rfl
theorem rd_is_pack {K : PySem.W.Frag} {vs : List V} {H : Hp} {Q : VK} {E : XK} (h : sp_is_pack K vs H Q E) : t_is_pack K { nx := fun _ H' => Q .non H', rt := Q } (start ["cards", "sizes"] vs) H := by
  obtain ⟨x, y, zs, rfl, px, hz, q⟩ := h
  refine ⟨_, rfl, x, 0, 12, rfl, px, _, rfl, ite_of (fun c => ?_) (fun c => ?_)⟩
  · -- no count of cards
    have e : packO x zs = false := by
      have c' : withinV x 0 12 = false := by simpa using c
      cases zs with
      | none => rfl
      | some zs =>
        cases x with
        | int i =>
          show ((decide (0 ≤ i) && decide (i ≤ 12)) && (decide (1 ≤ zs.length) && decide (zs.length ≤ 5)) && zs.all (fun z => withinV z 0 i) && decide (sumV zs ≤ i)) = false
          rw [show (decide (0 ≤ i) && decide (i ≤ 12)) = false from c']
          rfl
        | _ => rfl
    have := q H (Same.refl H)
    rw [e] at this
    exact this
  · have c' : withinV x 0 12 = true := by simpa using c
    cases x with
    | int i =>
      cases zs with
      | none =>
        obtain ⟨t, ty, k⟩ := hz
        refine ⟨_, rfl, _, _, _, _, rfl, ty, k, _, rfl, iteT (iteT ?_)⟩
        exact q H (Same.refl H)
      | some zs =>
        obtain ⟨a, rfl, ha, hlen, hp⟩ := hz
        have hS : SqL K H a zs := ha.elim (fun h => .inl (.inl h)) (fun h => .inl (.inr h))
        have ty : TyOf K H (.ref a) (.type "list") := ha.elim (fun h => .lst h) (fun ⟨o, h⟩ => .frz h)
        refine ⟨_, rfl, _, _, _, _, rfl, ty, kit_lst_lst K, _, rfl, iteF ?_⟩
        refine ⟨_, rfl, a, _, rfl, .inl hS, _, 1, 5, rfl, Plain.int _, _, rfl, ite_of (fun d => ?_) (fun d => ?_)⟩
        · have e : packO (.int i) (some zs) = false := by
            have d0 : withinV (.int (zs.length : Int)) 1 5 = false := by simpa using d
            have d' : (decide ((1 : Int) ≤ (zs.length : Int)) && decide ((zs.length : Int) ≤ 5)) = false := d0
            show ((decide (0 ≤ i) && decide (i ≤ 12)) && (decide (1 ≤ zs.length) && decide (zs.length ≤ 5)) && zs.all (fun z => withinV z 0 i) && decide (sumV zs ≤ i)) = false
            have e1 : decide (1 ≤ zs.length) = decide ((1 : Int) ≤ (zs.length : Int)) := decide_eq_decide.mpr (by omega)
            have e2 : decide (zs.length ≤ 5) = decide ((zs.length : Int) ≤ 5) := decide_eq_decide.mpr (by omega)
            rw [e1, e2, d', Bool.and_false]
            rfl
          have := q H (Same.refl H)
          rw [e] at this
          exact this
        · have d0 : withinV (.int (zs.length : Int)) 1 5 = true := by simpa using d
          have d' : (decide ((1 : Int) ≤ (zs.length : Int)) && decide ((zs.length : Int) ≤ 5)) = true := d0
          have e0 : packO (.int i) (some zs) = (zs.all (fun z => withinV z 0 i) && decide (sumV zs ≤ i)) := by
            show ((decide (0 ≤ i) && decide (i ≤ 12)) && (decide (1 ≤ zs.length) && decide (zs.length ≤ 5)) && zs.all (fun z => withinV z 0 i) && decide (sumV zs ≤ i)) = _
            have e1 : decide (1 ≤ zs.length) = decide ((1 : Int) ≤ (zs.length : Int)) := decide_eq_decide.mpr (by omega)
            have e2 : decide (zs.length ≤ 5) = decide ((zs.length : Int) ≤ 5) := decide_eq_decide.mpr (by omega)
            rw [e1, e2, d', show (decide (0 ≤ i) && decide (i ≤ 12)) = true from c', Bool.true_and, Bool.true_and]
          rw [e0] at q
          refine ⟨_, rfl, a, rfl, ⟨_, hS⟩, fun p hp' => comp_list (K := K) (a := a) (xs := zs) (fun k acc H2 => acc = ((zs.take k).map fun z => withinV z 0 i).map V.bl ∧ Same H H2 ∧ H2 p = some (.lst acc)) ⟨rfl, same_new hp' _, upd_same⟩ ?_ ?_ (small hlen) ?_ ?_⟩
          · rintro k acc H2 hk ⟨rfl, s2, e2⟩
            exact ⟨e2, by rw [List.length_map, List.length_map, List.length_take]; omega⟩
          · rintro k acc H2 hk ⟨rfl, s2, e2⟩
            exact s2.seq hS
          · rintro _ _ _ _ k z acc H2 hzk ⟨rfl, s2, e2⟩
            refine ⟨_, rfl, _, rfl, z, 0, i, rfl, (hp z (List.mem_of_getElem? hzk)).same s2, e2, ?_, s2.upd hp' _, upd_same⟩
            rw [List.take_add_one, hzk, List.map_append, List.map_append]
            rfl
          · rintro acc H2 ⟨rfl, s2, e2⟩
            rw [List.take_length] at e2
            refine ⟨p, _, rfl, SqL.of e2, _, rfl, ?_⟩
            have ea : (zs.map fun z => withinV z 0 i).all id = zs.all fun z => withinV z 0 i := by
              rw [List.all_map]
              rfl
            rw [ea]
            refine ite_of (fun g => ?_) (fun g => ?_)
            · obtain ⟨ns, en, es⟩ := ints_of_within g
              rw [g, Bool.true_and, es] at q
              refine ⟨_, rfl, a, ns, rfl, by rw [← en]; exact s2.seq hS, _, rfl, _, _, rfl, rfl, ?_⟩
              exact q H2 s2
            · rw [g, Bool.false_and] at q
              exact q H2 s2
    | _ => exact absurd c' Bool.false_ne_true

/-! ### how many -/
noncomputable def spChoices : Sp := fun vs H Q _ => ∃ n k : Nat, vs = [.int n, .int k] ∧ k ≤ n ∧ n ≤ 50 ∧ Q (.int (KM.choose n k : Nat)) H
noncomputable abbrev sp_choices (K : PySem.W.Frag) : Sp := spChoices
noncomputable def t_choices (K : PySem.W.Frag) : TS := (tSeq (tAsg (tC (.int 1)) (gName 2))
  (tSeq (tFor (iRng1 (tCons (tVar 1) tNil)) (gName 3) (tAsg (tOp (rI CDiv fun i j => .int (i / j)) (tOp (rI IntMulOk fun i j => .int (i * j)) (tVar 2) (tOp (rI0 fun i j => .int (i - j)) (tVar 0) (tVar 3))) (tOp (rI0 fun i j => .int (i + j)) (tVar 3) (tC (.int 1)))) (gName 2)))
  (tRet (tVar 2))))
theorem len_choices {K : PySem.W.Frag} {vs : List V} {H : Hp} {Q : VK} {E : XK} (h : sp_choices K vs H Q E) : vs.length = 2 := by
  obtain ⟨n, k, rfl, _⟩ := h
  rfl
theorem rd_choices {K : PySem.W.Frag} {vs : List V} {H : Hp} {Q : VK} {E : XK} (h : sp_choices K vs H Q E) : t_choices K { nx := fun _ H' => Q .non H', rt := Q } (start ["many", "taken", "ways", "step"] vs) H := by
  obtain ⟨n, k, rfl, hk, hn, q⟩ := h
  refine ⟨_, rfl, _, rfl, by omega, by omega, for_range (lo := 0) (n := ((k : Nat) : Int).toNat) (fun i σ H2 => ∃ st, σ = [some (.int n), some (.int k), some (.int (KM.choose n i : Nat)), st] ∧ H2 = H) ⟨none, by rw [KM.choose_zero]; rfl, rfl⟩ ?_ ?_⟩
  · rintro i σ H2 hi ⟨st, rfl, rfl⟩
    have hi' : i + 1 ≤ n := by omega
    refine ⟨_, rfl, _, rfl, _, rfl, _, _, rfl, rfl, _, _, rfl, rfl, .of_right (intBits_le_64 (by omega) (by omega)), _, rfl, _, _, rfl, rfl, _, _, rfl, rfl, ⟨by omega, by omega⟩, ?_⟩
    dsimp only
    rw [KM.choose_stepZ hi']
    exact ⟨_, rfl, rfl⟩
  · rintro σ H2 ⟨st, rfl, rfl⟩
    refine ⟨_, rfl, ?_⟩
    rw [show ((k : Nat) : Int).toNat = k by omega]
    exact q
structure Pack (c : Nat) (ss : List Nat) : Prop where
  c12 : c ≤ 12
  l1 : 1 ≤ ss.length
  l5 : ss.length ≤ 5
  sum : ss.sum ≤ c
noncomputable def natV (ss : List Nat) : List V := ss.map fun (s : Nat) => V.int ((s : Nat) : Int)
theorem natV_ints (ss : List Nat) : natV ss = (ss.map fun (s : Nat) => ((s : Nat) : Int)).map V.int := by unfold natV; rw [List.map_map]; rfl
theorem natV_len (ss : List Nat) : (natV ss).length = ss.length := List.length_map _
theorem sum_cast : ∀ ss : List Nat, (ss.map fun (s : Nat) => ((s : Nat) : Int)).sum = ((ss.sum : Nat) : Int)
  | [] => rfl
  | a :: r => by rw [List.map_cons, List.sum_cons, List.sum_cons, sum_cast r]; omega
theorem mem_le_sum : ∀ {ss : List Nat} {s : Nat}, s ∈ ss → s ≤ ss.sum
  | a :: r, s, h => by
    rw [List.sum_cons]
    rcases List.mem_cons.mp h with rfl | h
    · omega
    · have := mem_le_sum h
      omega
theorem packV_of {c : Nat} {ss : List Nat} (p : Pack c ss) : packV (.int c) (natV ss) = true := by
  have h1 := p.c12
  have h2 := p.l1
  have h3 := p.l5
  have h4 := p.sum
  show ((decide ((0 : Int) ≤ (c : Int)) && decide ((c : Int) ≤ 12)) && (decide (1 ≤ (natV ss).length) && decide ((natV ss).length ≤ 5)) && (natV ss).all (fun z => withinV z 0 c) && decide (sumV (natV ss) ≤ c)) = true
  have e1 : (natV ss).all (fun z => withinV z 0 c) = true := by
    unfold natV
    rw [List.all_map, List.all_eq_true]
    intro s hs
    have := mem_le_sum hs
    show (decide ((0 : Int) ≤ (s : Int)) && decide ((s : Int) ≤ (c : Int))) = true
    rw [decide_eq_true (by omega), decide_eq_true (by omega)]
    rfl
  have e2 : sumV (natV ss) = ((ss.sum : Nat) : Int) := by
    rw [← sum_cast]
    unfold sumV natV
    rw [List.map_map]
    rfl
  rw [e1, e2, natV_len, decide_eq_true (by omega), decide_eq_true (by omega), decide_eq_true h2, decide_eq_true h3, decide_eq_true (by omega)]
  rfl
theorem sizes_of {K : PySem.W.Frag} {H : Hp} {a : Addr} {ss : List Nat} (h : H a = some (.lst (natV ss))) (hl : ss.length ≤ 1000) : Sizes K H (.ref a) (some (natV ss)) :=
  ⟨a, rfl, .inl h, by rw [natV_len]; exact hl, fun z hz => by
    obtain ⟨s, _, rfl⟩ := List.mem_map.mp hz
    exact Plain.int _⟩
noncomputable def spHow (K : PySem.W.Frag) : Sp := fun vs H Q _ => ∃ (c : Nat) (a : Addr) (ss : List Nat), vs = [.int c, .ref a] ∧ H a = some (.lst (natV ss)) ∧ Pack c ss ∧ ∀ H', Same H H' → Q (.int (KM.multi c ss : Nat)) H'
noncomputable abbrev sp_how_many (K : PySem.W.Frag) : Sp := spHow K
noncomputable def t_how_many (K : PySem.W.Frag) : TS := (tSeq (tIfS (tNot (tB (tCall (sp_is_pack K) [] E0 (tCons (tVar 0) (tCons (tVar 1) tNil))))) tNever tNext)
  (tSeq (tAsg (tC (.int 1)) (gName 2))
  (tSeq (tAsg (tVar 0) (gName 3))
  (tSeq (tFor (iList K (tVar 1)) (gName 4) (tSeq (tAsg (tOp (rI IntMulOk fun i j => .int (i * j)) (tVar 2) (tCall (sp_choices K) [] E0 (tCons (tVar 3) (tCons (tVar 4) tNil)))) (gName 2))
  (tAsg (tOp (rI0 fun i j => .int (i - j)) (tVar 3) (tVar 4)) (gName 3))))
  (tRet (tVar 2))))))
theorem len_how_many {K : PySem.W.Frag} {vs : List V} {H : Hp} {Q : VK} {E : XK} (h : sp_how_many K vs H Q E) : vs.length = 2 := by
  obtain ⟨c, a, ss, rfl, _⟩ := h
  rfl
theorem rd_how_many {K : PySem.W.Frag} {vs : List V} {H : Hp} {Q : VK} {E : XK} (h : sp_how_many K vs H Q E) : t_how_many K { nx := fun _ H' => Q .non H', rt := Q } (start ["cards", "sizes", "many", "left", "size"] vs) H := by
  obtain ⟨c, a, ss, rfl, ha, p, q⟩ := h
  have h12 := p.c12
  have h5 := p.l5
  refine ⟨_, rfl, _, rfl, _, _, some (natV ss), rfl, Plain.int _, sizes_of ha (by omega), fun H1 s1 => ⟨_, rfl, ?_⟩⟩
  rw [show packO (.int c) (some (natV ss)) = true from packV_of p]
  refine iteF ?_
  refine ⟨_, rfl, ?_⟩
  refine ⟨_, rfl, a, rfl, ⟨_, SqL.of (s1 _ _ ha)⟩, for_list (K := K) (a := a) (xs := natV ss) (fun i σ H2 => ∃ (m l : Nat) (st : Option V), σ = [some (.int c), some (.ref a), some (.int m), some (.int l), st] ∧ H2 = H1 ∧ m * KM.multi l (ss.drop i) = KM.multi c ss ∧ (ss.drop i).sum ≤ l ∧ l ≤ 12)
    ⟨1, c, none, rfl, rfl, by rw [Nat.one_mul]; rfl, p.sum, h12⟩ (fun i σ H2 _ ⟨_, _, _, _, e, _⟩ => by subst e; exact SqL.of (s1 _ _ ha)) ?_ ?_⟩
  · rintro i x σ H2 hx ⟨m, l, st, rfl, rfl, hm, hs, hl⟩
    obtain ⟨z, hz, rfl⟩ : ∃ z : Nat, ss[i]? = some z ∧ x = .int (z : Int) := by
      unfold natV at hx
      rw [List.getElem?_map] at hx
      cases e : ss[i]? with
      | none => rw [e] at hx; cases hx
      | some z => rw [e] at hx; exact ⟨z, rfl, (Option.some.inj hx).symm⟩
    have hd : ss.drop i = z :: ss.drop (i + 1) := by
      obtain ⟨h1, h2⟩ := List.getElem?_eq_some_iff.mp hz
      rw [List.drop_eq_getElem_cons h1, h2]
    rw [hd, List.sum_cons] at hs
    rw [hd, KM.multi] at hm
    have hle := KM.choose_le l z
    have h2 : (2 : Nat) ^ l ≤ 2 ^ 12 := Nat.pow_le_pow_right (by decide) hl
    refine ⟨_, rfl, _, rfl, _, rfl, l, z, rfl, by omega, by omega, _, _, rfl, rfl, .of_right (intBits_le_64 (by omega) (by omega)), ?_⟩
    refine ⟨_, rfl, _, rfl, _, _, rfl, rfl, m * KM.choose l z, l - z, some (.int (z : Int)), ?_, rfl, by rw [Nat.mul_assoc]; exact hm, by omega, by omega⟩
    have e1 : ((m : Nat) : Int) * ((KM.choose l z : Nat) : Int) = ((m * KM.choose l z : Nat) : Int) := (Int.natCast_mul _ _).symm
    have e2 : ((l : Nat) : Int) - ((z : Nat) : Int) = ((l - z : Nat) : Int) := by omega
    dsimp only
    rw [e1, e2]
    rfl
  · rintro σ H2 ⟨m, l, st, rfl, rfl, hm, hs, hl⟩
    refine ⟨_, rfl, ?_⟩
    rw [natV_len, List.drop_length, KM.multi, Nat.mul_one] at hm
    rw [hm]
    exact q _ s1
/-! ### deals, one more card -/
noncomputable def DealsAt (H : Hp) (p : Addr) (ws : List (List Nat)) : Prop := ∃ rs : List Addr, H p = some (.lst (rs.map V.ref)) ∧ Paired (fun (a : Addr) (w : List Nat) => H a = some (.tup (natV w))) rs ws
theorem paired_same {H H' : Hp} {rs : List Addr} {ws : List (List Nat)} (h : Paired (fun (a : Addr) (w : List Nat) => H a = some (.tup (natV w))) rs ws) (s : ∀ a xs, H a = some (.tup xs) → H' a = some (.tup xs)) : Paired (fun (a : Addr) (w : List Nat) => H' a = some (.tup (natV w))) rs ws :=
  Paired.mapP h fun a w e => s _ _ e
theorem paired_get {α β : Type} {F : α → β → Prop} : ∀ {l : List α} {m : List β} {i : Nat} {a : α}, Paired F l m → l[i]? = some a → ∃ b, m[i]? = some b ∧ F a b
  | _, _, _, _, .nil, h => by simp at h
  | _, _, 0, _, .cons r _, h => by simp at h; subst h; exact ⟨_, rfl, r⟩
  | _, _, i + 1, a, .cons _ t, h => by
    obtain ⟨b, h1, h2⟩ := paired_get (i := i) (a := a) t (by simpa using h)
    exact ⟨b, by simpa using h1, h2⟩
theorem paired_app {α β : Type} {F : α → β → Prop} : ∀ {l : List α} {m : List β} {l' : List α} {m' : List β}, Paired F l m → Paired F l' m' → Paired F (l ++ l') (m ++ m')
  | _, _, _, _, .nil, h => h
  | _, _, _, _, .cons r t, h => .cons r (paired_app t h)
theorem count_natV (w : List Nat) (j : Nat) : (natV w).countP (fun z => eqV z (.int (j : Int))) = w.count j := by
  unfold natV
  rw [List.countP_map, List.count_eq_countP]
  congr 1
  funext k
  show ((k : Int) == (j : Int)) = (k == j)
  by_cases h : k = j
  · subst h; simp
  · rw [beq_eq_false_iff_ne.mpr h, beq_eq_false_iff_ne.mpr (by omega)]
theorem flat_natV (w : List Nat) : (natV w).all flatV = true := by unfold natV; rw [List.all_map]; simp [flatV]
noncomputable def spMore (K : PySem.W.Frag) : Sp := fun vs H Q _ => ∃ (b r : Addr) (ws : List (List Nat)) (room : List Nat), vs = [.ref b, .ref r] ∧ DealsAt H b ws ∧ H r = some (.lst (natV room)) ∧ room.length ≤ 6 ∧ (KM.grow room ws).length ≤ 2000 ∧ (∀ w ∈ ws, w.length ≤ 12) ∧
  ∀ (p : Addr) (H' : Hp), Same H H' → H p = none → DealsAt H' p (KM.grow room ws) → Q (.ref p) H'
noncomputable abbrev sp_with_one_more (K : PySem.W.Frag) : Sp := spMore K
noncomputable def t_with_one_more (K : PySem.W.Frag) : TS := (tSeq (tAsg (tLst tNil) (gName 2))
  (tSeq (tFor (iList K (tVar 0)) (gName 3) (tFor (iEnum srcL K (tCons (tVar 1) tNil)) (gTup K 2 (gCons (gName 4) (gCons (gName 5) gNil))) (tIfS (tTest (tOp (rI0 fun i j => .bl (decide (i < j))) (tBT rCountT (tVar 3) (tCons (tVar 4) tNil)) (tVar 5))) (tDrop (tBM K "list" rAppend (tVar 2) (tCons (tOp (rCatG K) (tVar 3) (tTup (tCons (tVar 4) tNil))) tNil))) tNext)))
  (tRet (tVar 2))))
theorem len_with_one_more {K : PySem.W.Frag} {vs : List V} {H : Hp} {Q : VK} {E : XK} (h : sp_with_one_more K vs H Q E) : vs.length = 2 := by
  obtain ⟨b, r, ws, room, rfl, _⟩ := h
  rfl
theorem rd_with_one_more {K : PySem.W.Frag} {vs : List V} {H : Hp} {Q : VK} {E : XK} (h : sp_with_one_more K vs H Q E) : t_with_one_more K { nx := fun _ H' => Q .non H', rt := Q } (start ["begun", "room", "longer", "deal", "who", "most"] vs) H := by
  obtain ⟨b, r, ws, room, rfl, ⟨rs, hb, hp⟩, hrm, h6, h2000, h12, q⟩ := h
  refine ⟨(by show 0 ≤ sizeLine; decide), fun l hl => ?_⟩
  have sl : Same H (upd H l (.lst [])) := same_new hl _
  have hrl : ws.length = rs.length := hp.length.symm
  refine ⟨_, rfl, b, rfl, ⟨_, SqL.of (sl _ _ hb)⟩, for_list (K := K) (a := b) (xs := rs.map V.ref)
    (fun i σ H2 => ∃ d wh mo : Option V, σ = [some (.ref b), some (.ref r), some (.ref l), d, wh, mo] ∧ Same H H2 ∧ DealsAt H2 l (KM.grow room (ws.take i)))
    ⟨none, none, none, rfl, sl, [], by rw [upd_same]; rfl, .nil⟩ (fun i σ H2 _ ⟨_, _, _, _, s2, _⟩ => SqL.of (s2 _ _ hb)) ?_ ?_⟩
  · rintro i x σ H2 hx ⟨d, wh, mo, rfl, s2, D2⟩
    obtain ⟨a, ea, rfl⟩ : ∃ a, rs[i]? = some a ∧ x = .ref a := by
      rw [List.getElem?_map] at hx
      cases e : rs[i]? with
      | none => rw [e] at hx; cases hx
      | some a => rw [e] at hx; exact ⟨a, rfl, (Option.some.inj hx).symm⟩
    obtain ⟨u, hu, ha⟩ := paired_get hp ea
    have hu12 := h12 u (List.mem_of_getElem? hu)
    have gt := KM.grow_take room ws i u hu
    have gle := KM.grow_take_le room ws (i + 1)
    refine ⟨_, rfl, r, _, rfl, SqL.of (s2 _ _ hrm), for_enum (S := srcL) (K := K) (a := r) (xs := natV room)
      (fun j σ H3 => ∃ wh mo : Option V, σ = [some (.ref b), some (.ref r), some (.ref l), some (.ref a), wh, mo] ∧ Same H H3 ∧ DealsAt H3 l (KM.grow room (ws.take i) ++ (KM.nextsTo room u j).map fun k => u ++ [k]))
      ⟨wh, mo, rfl, s2, by simpa [KM.nextsTo] using D2⟩ (fun j σ H3 _ ⟨_, _, _, s3, _⟩ => SqL.of (s3 _ _ hrm)) ?_ ?_⟩
    · rintro j x T σ H3 hxj ⟨wh', mo', rfl, s3, qs, hq, pq⟩ hT
      obtain ⟨m, hm, rfl⟩ : ∃ m : Nat, room[j]? = some m ∧ x = .int (m : Int) := by
        unfold natV at hxj
        rw [List.getElem?_map] at hxj
        cases e : room[j]? with
        | none => rw [e] at hxj; cases hxj
        | some z => rw [e] at hxj; exact ⟨z, rfl, (Option.some.inj hxj).symm⟩
      have hmD : room.getD j 0 = m := by rw [List.getD_eq_getElem?_getD, hm]; rfl
      have hjl : j < room.length := (List.getElem?_eq_some_iff.mp hm).1
      have nT : H T = none := s3.free hT
      have s4 : Same H (upd H3 T (.tup [.int (j : Int), .int (m : Int)])) := s3.upd nT _
      have a4 : (upd H3 T (.tup [.int (j : Int), .int (m : Int)])) a = some (.tup (natV u)) := s4 _ _ ha
      have nlT : l ≠ T := ne_of_none hq hT
      have q4 : (upd H3 T (.tup [.int (j : Int), .int (m : Int)])) l = some (.lst (qs.map V.ref)) := by rw [upd_ne nlT]; exact hq
      have p4 : Paired (fun (a : Addr) (w : List Nat) => (upd H3 T (.tup [.int (j : Int), .int (m : Int)])) a = some (.tup (natV w))) qs (KM.grow room (ws.take i) ++ (KM.nextsTo room u j).map fun k => u ++ [k]) :=
        paired_same pq fun a xs e => by rw [upd_ne (ne_of_none e hT)]; exact e
      have hqlen : qs.length ≤ 2000 := by
        have e1 := pq.length
        rw [List.length_append, List.length_map] at e1
        rw [gt, List.length_append, List.length_map, ← KM.nextsTo_all] at gle
        have e3 : (KM.nextsTo room u j).length ≤ (KM.nextsTo room u room.length).length := by
          unfold KM.nextsTo
          have : (List.range j).Sublist (List.range room.length) := List.range_sublist.mpr (by omega)
          exact (this.filter _).length_le
        omega
      have t4 : (upd H3 T (.tup [.int (j : Int), .int (m : Int)])) T = some (.tup [.int (j : Int), .int (m : Int)]) := upd_same
      generalize upd H3 T (.tup [.int (j : Int), .int (m : Int)]) = H4 at s4 a4 q4 p4 t4
      have ns := KM.nextsTo_succ room u j
      rw [hmD] at ns
      refine ⟨T, _, rfl, SqT.of t4, rfl, _, _, rfl, _, _, rfl, rfl, ?_⟩
      refine ⟨_, rfl, ⟨a, _, rfl, a4⟩, _, rfl, a, _, _, rfl, rfl, a4, rfl, flat_natV u, _, rfl, _, _, rfl, rfl, _, rfl, ?_⟩
      rw [count_natV]
      refine ite_of (fun c => ?_) (fun c => ?_)
      · have c' : u.count j < m := by have := of_decide_eq_true c; omega
        rw [if_pos c'] at ns
        have fin : ∀ (d : Addr) (H5 : Hp), Same H4 H5 → H5 d = some (.tup (natV (u ++ [j]))) → ∃ (l' : Addr) (xs : List V) (y : V), V.ref l = .ref l' ∧ [V.ref d] = [y] ∧ H5 l' = some (.lst xs) ∧ xs.length < sizeLine ∧
            ∃ wh mo : Option V, ([some (.ref b), some (.ref r), some (.ref l), some (.ref a), some (.int (j : Int)), some (.int (m : Int))] : L2.St) = [some (.ref b), some (.ref r), some (.ref l), some (.ref a), wh, mo] ∧ Same H (upd H5 l' (.lst (xs ++ [y]))) ∧
              DealsAt (upd H5 l' (.lst (xs ++ [y]))) l (KM.grow room (ws.take i) ++ (KM.nextsTo room u (j + 1)).map fun k => u ++ [k]) := by
          intro d H5 s5 e5
          refine ⟨l, _, _, rfl, rfl, s5 _ _ q4, Nat.lt_of_le_of_lt (by rw [List.length_map]; exact hqlen) (by decide), _, _, rfl, (s4.trans s5).upd hl _, qs ++ [d], by rw [upd_same, List.map_append]; rfl, ?_⟩
          have keep : ∀ (c : Addr) (xs : List V), H5 c = some (.tup xs) → upd H5 l (.lst (qs.map V.ref ++ [V.ref d])) c = some (.tup xs) := fun c xs e => by
            rw [upd_ne (ne_of e (s5 _ _ q4) (by intro z; cases z))]
            exact e
          rw [ns, List.map_append, ← List.append_assoc]
          exact paired_app (paired_same (paired_same p4 fun c xs e => s5 _ _ e) keep) (.cons (keep _ _ e5) .nil)
        refine ⟨_, rfl, .inl ⟨rfl, _, SqL.of q4⟩, _, rfl, _, rfl, (by show 1 ≤ sizeLine; decide), fun t ht => ?_⟩
        have st : Same H4 (upd H4 t (.tup [.int (j : Int)])) := same_new ht _
        have ej : natV (u ++ [j]) = natV u ++ [.int (j : Int)] := by unfold natV; rw [List.map_append]; rfl
        refine ⟨a, t, natV u, [.int (j : Int)], rfl, rfl, SqT.of (st _ _ a4), SqT.of upd_same, small (by rw [natV_len]; show u.length + 1 ≤ 1000; omega), fun e0 => ?_, fun _ e0 => (nomatch e0), fun _ _ p hp' => ?_⟩
        · exact fin t _ st (by rw [upd_same, ej, e0]; rfl)
        · exact fin p _ (st.trans (same_new hp' _)) (by rw [upd_same, ej])
      · have c' : ¬ u.count j < m := by have := of_decide_eq_false c; omega
        rw [if_neg c', List.append_nil] at ns
        exact ⟨_, _, rfl, s4, qs, q4, by rw [ns]; exact p4⟩
    · rintro σ H3 ⟨wh', mo', rfl, s3, D3⟩
      rw [natV_len, KM.nextsTo_all, ← gt] at D3
      exact ⟨_, _, _, rfl, s3, D3⟩
  · rintro σ H2 ⟨d, wh, mo, rfl, s2, D2⟩
    refine ⟨_, rfl, ?_⟩
    rw [List.length_map, ← hrl, List.take_length] at D2
    exact q l H2 s2 hl D2
/-! ### the deals -/
noncomputable def spDeals (K : PySem.W.Frag) : Sp := fun vs H Q _ => ∃ (c : Nat) (a : Addr) (ss : List Nat), vs = [.int c, .ref a] ∧ H a = some (.lst (natV ss)) ∧ Pack c ss ∧ KM.multi c ss ≤ 2000 ∧
  ∀ (p : Addr) (H' : Hp), Same H H' → H p = none → DealsAt H' p (KM.level (ss ++ [c - ss.sum]) c) → Q (.ref p) H'
theorem natV_snoc (ss : List Nat) (c : Nat) : natV ss ++ [.int (c : Int)] = natV (ss ++ [c]) := by unfold natV; rw [List.map_append]; rfl
noncomputable abbrev sp_deals_of (K : PySem.W.Frag) : Sp := spDeals K
noncomputable def t_deals_of (K : PySem.W.Frag) : TS := (tSeq (tIfS (tTest (tOp (rI0 fun i j => .bl (decide (j < i))) (tCall (sp_how_many K) [] E0 (tCons (tVar 0) (tCons (tVar 1) tNil))) (tC (.int 2000)))) tNever tNext)
  (tSeq (tAsg (tOp rCat (tVar 1) (tLst (tCons (tOp (rI0 fun i j => .int (i - j)) (tVar 0) (tCB (cSum K) (tCons (tVar 1) tNil))) tNil))) (gName 2))
  (tSeq (tAsg (tLst (tCons (tTup tNil) tNil)) (gName 3))
  (tSeq (tFor (iRng1 (tCons (tVar 0) tNil)) (gName 4) (tAsg (tCall (sp_with_one_more K) [] E0 (tCons (tVar 3) (tCons (tVar 2) tNil))) (gName 3)))
  (tRet (tVar 3))))))
theorem len_deals_of {K : PySem.W.Frag} {vs : List V} {H : Hp} {Q : VK} {E : XK} (h : sp_deals_of K vs H Q E) : vs.length = 2 := by
  obtain ⟨c, a, ss, rfl, _⟩ := h
  rfl
theorem rd_deals_of {K : PySem.W.Frag} {vs : List V} {H : Hp} {Q : VK} {E : XK} (h : sp_deals_of K vs H Q E) : t_deals_of K { nx := fun _ H' => Q .non H', rt := Q } (start ["cards", "sizes", "room", "begun", "card"] vs) H := by
  obtain ⟨c, a, ss, rfl, ha, p, hm, q⟩ := h
  have h12 := p.c12
  have h5 := p.l5
  have hsum := p.sum
  refine ⟨_, rfl, _, rfl, c, a, ss, rfl, ha, p, fun H1 s1 => ?_⟩
  refine ⟨_, _, rfl, rfl, _, rfl, ite_of (fun k => ?_) (fun _ => ?_)⟩
  · have k' : (2000 : Int) < ((KM.multi c ss : Nat) : Int) := of_decide_eq_true k
    omega
  have a1 := s1 _ _ ha
  refine ⟨_, rfl, _, rfl, _, rfl, a, _, rfl, by rw [← natV_ints]; exact SqL.of a1, _, _, rfl, rfl, (by show 1 ≤ sizeLine; decide), fun l hl => ?_⟩
  have s2 : Same H (upd H1 l (.lst [.int ((c : Int) - (ss.map fun (s : Nat) => ((s : Nat) : Int)).sum)])) := s1.trans (same_new hl _)
  have e2 : (upd H1 l (.lst [.int ((c : Int) - (ss.map fun (s : Nat) => ((s : Nat) : Int)).sum)])) l = some (.lst [.int ((c : Int) - (ss.map fun (s : Nat) => ((s : Nat) : Int)).sum)]) := upd_same
  rw [show (c : Int) - (ss.map fun (s : Nat) => ((s : Nat) : Int)).sum = ((c - ss.sum : Nat) : Int) by rw [sum_cast]; omega] at s2 e2
  dsimp only
  rw [show (c : Int) - (ss.map fun (s : Nat) => ((s : Nat) : Int)).sum = ((c - ss.sum : Nat) : Int) by rw [sum_cast]; omega]
  generalize upd H1 l (.lst [.int ((c - ss.sum : Nat) : Int)]) = H2 at s2 e2
  refine ⟨a, l, _, _, rfl, rfl, s2 _ _ ha, e2, small (by rw [natV_len]; show ss.length + 1 ≤ 1000; omega), fun rm hrm => ?_⟩
  rw [natV_snoc]
  have hRs : (ss ++ [c - ss.sum]).sum = c := by rw [List.sum_append, List.sum_cons, List.sum_nil]; omega
  have hRl : (ss ++ [c - ss.sum]).length ≤ 6 := by rw [List.length_append]; show ss.length + 1 ≤ 6; omega
  have hlev := KM.level_multi hsum
  have s3 : Same H (upd H2 rm (.lst (natV (ss ++ [c - ss.sum])))) := s2.trans (same_new hrm _)
  have e3 : (upd H2 rm (.lst (natV (ss ++ [c - ss.sum])))) rm = some (.lst (natV (ss ++ [c - ss.sum]))) := upd_same
  generalize ss ++ [c - ss.sum] = R at *
  generalize upd H2 rm (.lst (natV R)) = H3 at s3 e3
  refine ⟨(by show 0 ≤ sizeLine; decide), fun t ht => ⟨(by show 1 ≤ sizeLine; decide), fun b hb => ?_⟩⟩
  have s4 : Same H3 (upd (upd H3 t (.tup [])) b (.lst [.ref t])) := (same_new ht _).trans (same_new hb _)
  have D4 : DealsAt (upd (upd H3 t (.tup [])) b (.lst [.ref t])) b (KM.level R 0) := ⟨[t], upd_same, .cons (by rw [upd_ne (ne_of_none (upd_same (o := HO.tup [])) hb)]; exact upd_same) .nil⟩
  have f4 : H b = none := by
    have : H3 b = none := (same_new ht _).free hb
    exact s3.free this
  generalize upd (upd H3 t (.tup [])) b (.lst [.ref t]) = H4 at s4 D4
  refine ⟨_, rfl, _, rfl, by omega, by omega, for_range (lo := 0) (n := ((c : Nat) : Int).toNat) (fun i σ H5 => ∃ (b : Addr) (st : Option V), σ = [some (.int c), some (.ref a), some (.ref rm), some (.ref b), st] ∧ Same H3 H5 ∧ H b = none ∧ DealsAt H5 b (KM.level R i)) ⟨b, none, rfl, s4, f4, D4⟩ ?_ ?_⟩
  · rintro i σ H5 hi ⟨b', st, rfl, s5, f5, D5⟩
    have hi' : i + 1 ≤ c := by omega
    refine ⟨_, rfl, _, rfl, b', rm, _, R, rfl, D5, s5 _ _ e3, hRl, ?_, fun u hu => ?_, fun p' H6 s6 f6 D6 => ?_⟩
    · have h1 := KM.level_le (room := R) (i := i + 1) (by omega)
      rw [hRs, hlev] at h1
      exact Nat.le_trans h1 hm
    · have := (KM.level_begun R i u hu).len
      omega
    · exact ⟨p', _, rfl, s5.trans s6, (s3.trans s5).free f6, D6⟩
  · rintro σ H5 ⟨b', st, rfl, s5, f5, D5⟩
    refine ⟨_, rfl, ?_⟩
    rw [show ((c : Nat) : Int).toNat = c by omega] at D5
    exact q b' H5 (s3.trans s5) f5 D5

noncomputable def upto (xs : List Int) (w : Int) (i : Nat) : List Int := ((List.range i).filter fun j => decide (xs[j]? = some w)).map fun (j : Nat) => ((j : Nat) : Int)
theorem upto_succ (xs : List Int) (w : Int) (i : Nat) : upto xs w (i + 1) = upto xs w i ++ (if xs[i]? = some w then [(i : Int)] else []) := by
  unfold upto
  rw [List.range_succ, List.filter_append, List.map_append]
  by_cases h : xs[i]? = some w
  · rw [if_pos h, List.filter_cons_of_pos (by simpa using h)]
    rfl
  · rw [if_neg h, List.filter_cons_of_neg (by simpa using h)]
    rfl
theorem upto_len (xs : List Int) (w : Int) (i : Nat) : (upto xs w i).length ≤ i := by
  unfold upto
  rw [List.length_map]
  have h := List.length_filter_le (fun j => decide (xs[j]? = some w)) (List.range i)
  rw [List.length_range] at h
  exact h

/-! ### the cards of a holder -/
noncomputable def spCards (K : PySem.W.Frag) : Sp := fun vs H Q _ => ∃ (d : Addr) (xs : List Int) (v : Int), vs = [.ref d, .int v] ∧ SqT K H d (xs.map V.int) ∧ xs.length ≤ 1000 ∧
  ∀ (r : Addr) (H' : Hp), Same H H' → H' r = some (.tup ((upto xs v xs.length).map V.int)) → Q (.ref r) H'
theorem int_at {xs : List Int} {i : Nat} {x : V} (h : (xs.map V.int)[i]? = some x) : ∃ z, xs[i]? = some z ∧ x = .int z := by
  rw [List.getElem?_map] at h
  cases e : xs[i]? with
  | none => rw [e] at h; cases h
  | some z => rw [e] at h; exact ⟨z, rfl, (Option.some.inj h).symm⟩
noncomputable abbrev sp_cards_of (K : PySem.W.Frag) : Sp := spCards K
noncomputable def t_cards_of (K : PySem.W.Frag) : TS := (tRet (tCB (cTuple K) (tCons (tComp (iEnum srcT K (tCons (tVar 0) tNil)) (fun _ _ _ _ => (gTup K 2 (gCons (gName 0) (gCons (gName 1) gNil)))) (fun _ _ _ _ => (tTest (tOp rEq (tVar 1) (tVar 2)))) (fun _ _ _ _ => (tVar 0)) [none, none, some 1]) tNil)))
theorem len_cards_of {K : PySem.W.Frag} {vs : List V} {H : Hp} {Q : VK} {E : XK} (h : sp_cards_of K vs H Q E) : vs.length = 2 := by
  obtain ⟨d, xs, v, rfl, _⟩ := h
  rfl
theorem rd_cards_of {K : PySem.W.Frag} {vs : List V} {H : Hp} {Q : VK} {E : XK} (h : sp_cards_of K vs H Q E) : t_cards_of K { nx := fun _ H' => Q .non H', rt := Q } (start ["deal", "who"] vs) H := by
  obtain ⟨d, xs, v, rfl, hd, hlen, q⟩ := h
  have hl : (xs.map V.int).length = xs.length := List.length_map _
  refine ⟨_, rfl, d, _, rfl, hd, fun p hp => comp_enum (S := srcT) (K := K) (a := d) (xs := xs.map V.int) (fun i acc H2 => acc = (upto xs v i).map V.int ∧ Same H H2 ∧ H2 p = some (.lst acc)) ⟨rfl, same_new hp _, upd_same⟩ ?_ ?_ ?_ ?_ ?_⟩
  · rintro i acc H2 hi ⟨rfl, s2, e2⟩
    exact ⟨e2, by rw [List.length_map]; exact upto_len _ _ _⟩
  · rintro i acc H2 hi ⟨rfl, s2, e2⟩
    exact s2.tup hd
  · rw [hl]
    exact small hlen
  · rintro _ _ _ _ i x T acc H2 hx ⟨rfl, s2, e2⟩ hT
    obtain ⟨z, hz, rfl⟩ := int_at hx
    have nTp : p ≠ T := ne_of_none e2 hT
    have nT : H T = none := s2.free hT
    refine ⟨T, _, rfl, SqT.of upd_same, rfl, _, _, rfl, _, _, rfl, rfl, _, rfl, _, rfl, rfl, _, rfl, ?_⟩
    have eu := upto_succ xs v i
    refine ite_of (fun c => ?_) (fun c => ?_)
    · have c' : z = v := by
        have := of_decide_eq_true c
        injection this
      subst c'
      rw [if_pos hz] at eu
      refine ⟨_, rfl, by rw [upd_ne nTp]; exact e2, ?_, (s2.upd nT _).upd hp _, upd_same⟩
      rw [eu, List.map_append]
      rfl
    · have c' : ¬ xs[i]? = some v := by
        rw [hz]
        intro e
        have := of_decide_eq_false c
        exact this (by rw [Option.some.inj e])
      rw [if_neg c', List.append_nil] at eu
      exact ⟨by rw [eu], s2.upd nT _, by rw [upd_ne nTp]; exact e2⟩
  · rintro acc H2 ⟨rfl, s2, e2⟩
    rw [hl] at e2
    exact ⟨p, _, rfl, .inl ⟨SqL.of e2, fun t ht => q t _ (s2.trans (same_new ht _)) upd_same⟩⟩


end L2

end

section
-- KcLawC
set_option Elab.async false
set_option linter.all false
set_option maxRecDepth 100000
set_option maxHeartbeats 4000000
namespace L2
open PySem PyProof.Rows

/-! ### the numbers out of a script -/
/-! ### products -/
/-! ### the count of deals by factorials -/
/-! ### the pack -/
end L2

end

section
-- KcLawV
set_option Elab.async false
set_option linter.all false
set_option maxRecDepth 100000
set_option maxHeartbeats 4000000
namespace L2
open PySem PyProof.Rows

/-! ### drawn numbers; lists of whole numbers -/
end L2

end

section
-- KcLawL
set_option Elab.async false
set_option linter.all false
set_option maxRecDepth 100000
set_option maxHeartbeats 4000000
namespace L2
open PySem PyProof.Rows

/-! ### for each thing the least one with the same sign -/
end L2

end

section
-- KcLawW
set_option Elab.async false
set_option linter.all false
set_option maxRecDepth 100000
set_option maxHeartbeats 4000000
namespace L2
open PySem PyProof.Rows

/-! ### a drawn view -/
end L2

end

section
-- KcSameD
set_option Elab.async false
set_option linter.all false
set_option maxRecDepth 100000
set_option maxHeartbeats 4000000
namespace L2
open PySem PyProof.Rows
/-! ### one and the same data, lists and tuples to any depth -/
noncomputable def flatD : V → Bool
  | .non => true
  | .bl _ => true
  | .int _ => true
  | _ => false
inductive SameD (K : PySem.W.Frag) (H : Hp) : Nat → V → V → Prop where
  | flat {n : Nat} {x : V} (h : flatD x = true) : SameD K H n x x
  | lst {n : Nat} {a b : Addr} {xs ys : List V} (e1 : SqL K H a xs) (e2 : SqL K H b ys) (hl : xs.length = ys.length) (h : ∀ (i : Nat) (x y : V), xs[i]? = some x → ys[i]? = some y → SameD K H n x y) : SameD K H (n + 1) (.ref a) (.ref b)
  | tup {n : Nat} {a b : Addr} {xs ys : List V} (e1 : SqT K H a xs) (e2 : SqT K H b ys) (hl : xs.length = ys.length) (h : ∀ (i : Nat) (x y : V), xs[i]? = some x → ys[i]? = some y → SameD K H n x y) : SameD K H (n + 1) (.ref a) (.ref b)
noncomputable def rSameD (K : PySem.W.Frag) (neg : Bool) : R2 := fun x y H Q => ∃ n, n ≤ 30 ∧ SameD K H n x y ∧ Q (.bl (!neg)) H
section
variable {K : PySem.W.Frag} {H : Hp} {Q : VK}
theorem SameD.up {n m : Nat} {x y : V} (h : SameD K H n x y) (hm : n ≤ m) : SameD K H m x y := by
  induction h generalizing m with
  | flat h => exact .flat h
  | lst e1 e2 hl _ ih =>
    obtain ⟨k, rfl⟩ : ∃ k, m = k + 1 := ⟨m - 1, by omega⟩
    exact .lst e1 e2 hl fun i x y hx hy => ih i x y hx hy (by omega)
  | tup e1 e2 hl _ ih =>
    obtain ⟨k, rfl⟩ : ∃ k, m = k + 1 := ⟨m - 1, by omega⟩
    exact .tup e1 e2 hl fun i x y hx hy => ih i x y hx hy (by omega)
end
/-! ### a comprehension over enumerate -/
section
variable {g : CF TG} {tt : CF TT} {te : CF TE} {σ₀ : St} {Q : VK} {H : Hp} {K : PySem.W.Frag}
theorem lc_enum {S : Src} {a : Addr} (xs : List V) (hx : S.Sq K H a xs) (kx : ∀ H', Same H H' → S.Sq K H' a xs) (hz : xs.length ≤ 1000000) (R : Nat → List V → Hp → Prop) (h0 : ∀ H', Same H H' → R 0 [] H')
    (hs : ∀ p, H p = none → ∀ C s' H' fp, ∀ i x T acc H2 H3, xs[i]? = some x → CInv H p R i acc H2 → H2 T = none → Same H2 H3 → H3 T = some (.tup [.int i, x]) → H3 p = some (.lst acc) → g C s' H' fp (.ref T) σ₀ H3 fun σ2 H4 => tt C s' H' fp σ2 H4 fun b H5 => if b = true then te C s' H' fp σ2 H5 fun y H6 => H6 p = some (.lst acc) ∧ CInv H p R (i + 1) (acc ++ [y]) (upd H6 p (.lst (acc ++ [y]))) else CInv H p R (i + 1) acc H5)
    (hd : ∀ p acc H2, H p = none → Same H H2 → H2 p = some (.lst acc) → R xs.length acc H2 → Q (.ref p) H2) :
    ∃ a' xs', [V.ref a] = [.ref a'] ∧ S.Sq K H a' xs' ∧ ∀ p, H p = none → ∃ W : Nat → Nat → List V → Hp → Prop, (∃ m, W 0 m [] (upd H p (.lst []))) ∧ ∀ C s' H' fp, CompBody (Ite S K a') (g C s' H' fp) (tt C s' H' fp) (te C s' H' fp) σ₀ p Q W :=
  ⟨a, xs, rfl, hx, fun p hp => comp_enum (CInv H p R) ⟨same_new hp _, upd_same, Nat.le_refl _, h0 _ (same_new hp _)⟩ (fun i acc H2 _ c => ⟨c.2.1, c.2.2.1⟩) (fun i acc H2 _ c => kx _ c.1) (by rw [sizeLine_eq]; omega)
    (fun C s' H' fp i x T acc H2 hi c hT => hs p hp C s' H' fp i x T acc H2 _ hi c hT (same_new hT _) upd_same (by rw [upd_ne (ne_of_none c.2.1 hT)]; exact c.2.1)) fun acc H2 c => hd p acc H2 hp c.1 c.2.1 c.2.2.2⟩
end
end L2

end

section
-- KcView
set_option Elab.async false
set_option linter.all false
set_option maxRecDepth 100000
set_option maxHeartbeats 4000000
namespace L2
open PySem PyProof.Rows

/-! ### for each thing the least one with the same mark -/
noncomputable def sp_least_with_same (K : PySem.W.Frag) : Sp := fun vs H Q _ => ∃ (a : Addr) (xs : List V) (ks : List MK) (s : Bool), vs = [.ref a] ∧ H a = some (.lst xs) ∧ Paired (KeyV H) xs ks ∧ (∀ k ∈ ks, kSort k = s) ∧ ks.length ≤ 100000 ∧
  ∀ p H', H p = none → Same H H' → H' p = some (.lst (natV (leastOf ks))) → Q (.ref p) H'
noncomputable def t_least_with_same (K : PySem.W.Frag) : TS := (tSeq (tAsg mDnewX (gName 1))
  (tSeq (tFor (iEnum srcL K (tCons (tVar 0) tNil)) (gTup K 2 (gCons (gName 2) (gCons (gName 3) gNil))) (tDrop (tXM rXSetd (tVar 1) (tCons (tVar 3) (tCons (tVar 2) tNil)))))
  (tRet (tComp (iList K (tVar 0)) (fun _ _ _ _ => (gName 0)) (fun _ _ _ _ => tAlways) (fun _ _ _ _ => (tOp rXGet (tVar 1) (tVar 0))) [none, some 1]))))
theorem len_least_with_same {K : PySem.W.Frag} {vs : List V} {H : Hp} {Q : VK} {E : XK} (h : sp_least_with_same K vs H Q E) : vs.length = 1 := by
  obtain ⟨a, xs, ks, s, rfl, e, hk, hs, hl, q⟩ := h
  rfl
theorem rd_least_with_same {K : PySem.W.Frag} {vs : List V} {H : Hp} {Q : VK} {E : XK} (h : sp_least_with_same K vs H Q E) : t_least_with_same K { nx := fun _ H' => Q .non H', rt := Q } (start ["marks", "firsts", "thing", "mark"] vs) H := by
  obtain ⟨a, xs, ks, s, rfl, e, hk, hs, hl, q⟩ := h
  show t_least_with_same K _ [some _, none, none, none] _
  unfold t_least_with_same
  have hlen : xs.length = ks.length := Paired.length hk
  walk_at "rd"
  refine m_dnewX s fun d H1 hd s1 dx1 => ?_
  walk_at "rd"
  refine lp_enum (S := srcL) xs (SqL.of (s1 _ _ e)) (fun i σ H3 => ∃ (u v : Option V), σ = [some (.ref a), some (.ref d), u, v] ∧ Same H H3 ∧ Dx H3 d s (firsts ks i) i) ?_ ?_ ?_ ?_
  · exact ⟨none, none, rfl, s1, dx1.congr firsts_zero⟩
  · rintro i σ H3 hi ⟨u, v, rfl, s3, dx3⟩
    exact SqL.of (s3 _ _ e)
  · rintro i x T σ H3 H4 hx ⟨u, v, rfl, s3, dx3⟩ hT s4 eT
    obtain ⟨k, hki, hkv⟩ := paired_at hk hx
    have hks := hs k (List.mem_of_getElem? hki)
    have hi : i < ks.length := (List.getElem?_eq_some_iff.mp hki).1
    refine g_pair (SqT.of eT) ?_
    have s34 := s3.trans s4
    have hkv4 := hkv.keep s34.keep
    have dx4 := dx3.same s4
    walk_at "rd"
    refine r_xm ?_
    walk_at "rd"
    refine ⟨⟨d, s, _, _, rfl, dx4⟩, ?_⟩
    walk_at "rd"
    refine r_xsetd dx4 hkv4 hks (by rw [sizeLine_eq]; omega) (fun w hw => ?_) (fun hn H5 o5 dx5 => ?_)
    · have hm : k ∈ ks.take i := by
        by_cases q : k ∈ ks.take i
        · exact q
        · rw [firsts_none q] at hw; cases hw
      exact ⟨_, _, rfl, s34, (dx4.congr (firsts_old hki hm)).le (Nat.le_succ i)⟩
    · have hm : k ∉ ks.take i := fun q => by rw [firsts_at q] at hn; cases hn
      exact ⟨_, _, rfl, s34.off hd o5, dx5.congr (firsts_new hki hm)⟩
  · rintro σ H3 ⟨u, v, rfl, s3, dx3⟩
    walk_at "rd"
    refine lc_list xs (SqL.of (s3 _ _ e)) (by omega) (fun i acc _ => acc = natV ((leastOf ks).take i)) (fun H' _ => rfl) ?_ ?_
    · rintro p hp C s' H' fp i x acc H4 hx ⟨s4, e4, l4, rfl⟩
      obtain ⟨k, hki, hkv⟩ := paired_at hk hx
      have hks := hs k (List.mem_of_getElem? hki)
      have hi : i < ks.length := (List.getElem?_eq_some_iff.mp hki).1
      walk_at "rd"
      refine r_xget (dx3.same s4) (hkv.keep (s3.trans s4).keep) hks (firsts_at (by rw [hlen, List.take_length]; exact List.mem_of_getElem? hki)) ?_
      refine CInv.put hp (fun _ _ _ _ r _ => r) s4 e4 l4 ?_
      rw [leastOf_snoc hki, natV_snoc]
    · rintro p acc H4 hp s4 e4 rfl
      refine q _ _ (s3.free hp) (s3.trans s4) ?_
      rw [e4, List.take_of_length_le (by rw [length_leastOf, hlen]; exact Nat.le_refl _)]
/-! ### the first view of a hand -/
noncomputable def heldI (w : List Nat) (h : Int) : List Int := upto (w.map fun (s : Nat) => ((s : Nat) : Int)) h w.length
noncomputable def keyI (ns : List Int) : MK := .inr (ns.map fun n => (Sum.inl (some n) : IK))
theorem keyI_inj (a b : List Int) (e : keyI a = keyI b) : a = b := by
  have h : a.map (fun n => (Sum.inl (some n) : IK)) = b.map (fun n => (Sum.inl (some n) : IK)) := Sum.inr.inj e
  clear e
  induction a generalizing b with
  | nil => cases b with
    | nil => rfl
    | cons _ _ => simp at h
  | cons x r ih => cases b with
    | nil => simp at h
    | cons y t =>
      rw [List.map_cons, List.map_cons] at h
      injection h with h1 h2
      injection h1 with h1
      injection h1 with h1
      rw [h1, ih t h2]
noncomputable def firstL (ws : List (List Nat)) (h : Int) : List Nat := leastOf (ws.map fun w => heldI w h)
theorem firstL_keys (ws : List (List Nat)) (h : Int) : leastOf (ws.map fun w => keyI (heldI w h)) = firstL ws h := by
  unfold firstL
  rw [← leastOf_map (f := keyI) keyI_inj, List.map_map]
  rfl
theorem firstL_len (ws : List (List Nat)) (h : Int) : (firstL ws h).length = ws.length := by unfold firstL; rw [length_leastOf, List.length_map]
theorem DealsAt.to' {H H' : Hp} {p : Addr} {ws : List (List Nat)} (d : DealsAt H p ws) (k : Keep H H') (e : ∀ rs : List Addr, H p = some (.lst (rs.map V.ref)) → H' p = some (.lst (rs.map V.ref))) : DealsAt H' p ws := by
  obtain ⟨rs, h1, h2⟩ := d
  exact ⟨rs, e rs h1, paired_same h2 fun a xs e => k _ _ e⟩
theorem DealsAt.same' {H H' : Hp} {p : Addr} {ws : List (List Nat)} (d : DealsAt H p ws) (s : Same H H') : DealsAt H' p ws := d.to' s.keep fun rs e => s _ _ e
theorem ref_at {rs : List Addr} {i : Nat} {x : V} (hx : (rs.map V.ref)[i]? = some x) : ∃ a, rs[i]? = some a ∧ x = .ref a := by
  rw [List.getElem?_map] at hx
  cases e : rs[i]? with
  | none => rw [e] at hx; cases hx
  | some z => rw [e] at hx; exact ⟨z, rfl, (Option.some.inj hx).symm⟩
noncomputable def sp_first_view (K : PySem.W.Frag) : Sp := fun vs H Q _ => ∃ (a : Addr) (ws : List (List Nat)) (h : Int), vs = [.ref a, .int h] ∧ DealsAt H a ws ∧ (∀ w ∈ ws, w.length ≤ 1000) ∧ ws.length ≤ 100000 ∧
  ∀ p H', H p = none → Same H H' → H' p = some (.lst (natV (firstL ws h))) → Q (.ref p) H'
theorem keys_snoc {H : Hp} {xs : List V} {ks : List MK} {x : V} {k : MK} (h : Paired (KeyV H) xs ks) (q : KeyV H x k) : Paired (KeyV H) (xs ++ [x]) (ks ++ [k]) := by
  induction h with
  | nil => exact .cons q .nil
  | cons r _ ih => exact .cons r ih
noncomputable def t_first_view (K : PySem.W.Frag) : TS := (tRet (tCall (sp_least_with_same K) [] E0 (tCons (tComp (iList K (tVar 0)) (fun _ _ _ _ => (gName 0)) (fun _ _ _ _ => tAlways) (fun _ _ _ _ => (tCall (sp_cards_of K) [] E0 (tCons (tVar 0) (tCons (tVar 1) tNil)))) [none, some 1]) tNil)))
theorem len_first_view {K : PySem.W.Frag} {vs : List V} {H : Hp} {Q : VK} {E : XK} (h : sp_first_view K vs H Q E) : vs.length = 2 := by
  obtain ⟨a, ws, h, rfl, hD, hw, hl, q⟩ := h
  rfl
theorem rd_first_view {K : PySem.W.Frag} {vs : List V} {H : Hp} {Q : VK} {E : XK} (h : sp_first_view K vs H Q E) : t_first_view K { nx := fun _ H' => Q .non H', rt := Q } (start ["deals", "hand"] vs) H := by
  obtain ⟨a, ws, h, rfl, hD, hw, hl, q⟩ := h
  show t_first_view K _ [some _, some _] _
  unfold t_first_view
  obtain ⟨rs, e, hr⟩ := id hD
  have hlr : rs.length = ws.length := Paired.length hr
  walk_at "rd"
  refine lc_list (rs.map V.ref) (SqL.of e) (by rw [List.length_map]; omega) (fun i acc H' => Paired (KeyV H') acc ((ws.take i).map fun w => keyI (heldI w h))) (fun H' _ => .nil) ?_ ?_
  · rintro p hp C s' H' fp i x acc H2 hx ⟨s2, e2, l2, r2⟩
    obtain ⟨b, hb, rfl⟩ := ref_at hx
    obtain ⟨w, hwi, ew⟩ := paired_at hr hb
    walk_at "rd"
    refine ⟨b, w.map fun (s : Nat) => ((s : Nat) : Int), h, rfl, by rw [← natV_ints]; exact SqT.of (s2 _ _ ew), by rw [List.length_map]; exact hw w (List.mem_of_getElem? hwi), fun r H3 s3 e3 => ?_⟩
    rw [List.length_map] at e3
    refine CInv.put hp (fun _ _ _ _ r k => keys_keep r k) (s2.trans s3) (s3 _ _ e2) l2 ?_
    rw [take_snoc hwi, List.map_append]
    exact keys_snoc (keys_keep r2 s3.keep) (key_tup (ns := heldI w h) e3)
  · rintro p acc H2 hp s2 e2 r2
    rw [List.length_map, hlr, List.take_length] at r2
    walk_at "rd"
    refine ⟨p, acc, _, true, rfl, e2, r2, ?_, by rw [List.length_map]; omega, fun p3 H3 hp3 s3 e3 => ?_⟩
    · intro k hk
      obtain ⟨w, _, rfl⟩ := List.mem_map.mp hk
      rfl
    · rw [firstL_keys] at e3
      exact q _ _ (s2.free hp3) (s2.trans s3) e3

end L2

end

section
-- KcListR
set_option Elab.async false
set_option linter.all false
set_option maxRecDepth 100000
set_option maxHeartbeats 4000000
namespace L2
open PySem PyProof.Rows
/-! ### list(range(n)), list(zip(a, b)), list(reversed(a)) -/
noncomputable def cRngV : List V → Hp → VK → Prop := fun xs H Q => ∃ n : Nat, xs = [.int (n : Int)] ∧ n ≤ 1000000 ∧ New H (.rng 0 (n : Int)) fun p H2 => Q (.ref p) H2
noncomputable def cLRng : List V → Hp → VK → Prop := fun xs H Q => ∃ (p : Addr) (n : Nat), xs = [.ref p] ∧ H p = some (.rng 0 (n : Int)) ∧ n ≤ 1000000 ∧ New H (.lst ((List.range n).map fun (i : Nat) => V.int ((i : Nat) : Int))) fun p H2 => Q (.ref p) H2
noncomputable def mLRng (ta : TA) : TE := tCB cLRng (tCons (tCB cRngV ta) tNil)
noncomputable def PairsAt (H : Hp) (ts : List Addr) (ps : List (V × V)) : Prop := Paired (fun (t : Addr) (p : V × V) => H t = some (.tup [p.1, p.2])) ts ps
noncomputable def mLZip (S1 S2 : Src) (K : PySem.W.Frag) (ta : TA) : TE := fun σ H Q => ta σ H fun vs H1 => ∃ a b xs ys, vs = [.ref a, .ref b] ∧ S1.Sq K H1 a xs ∧ S2.Sq K H1 b ys ∧ xs.length ≤ 1000000 ∧
  ∀ p H', H1 p = none → Same H1 H' → (∃ ts : List Addr, H' p = some (.lst (ts.map V.ref)) ∧ PairsAt H' ts (xs.zip ys)) → Q (.ref p) H'
section
variable {σ : St} {H : Hp} {Q : VK} {K : PySem.W.Frag}
theorem m_lrng {ta : TA} (h : ta σ H fun vs H1 => ∃ n : Nat, vs = [.int (n : Int)] ∧ n ≤ 1000000 ∧ New H1 (.rng 0 (n : Int)) fun p H2 => cLRng [.ref p] H2 Q) : mLRng ta σ H Q := h
theorem m_lzip {S1 S2 : Src} {ta : TA} (h : ta σ H fun vs H1 => ∃ a b xs ys, vs = [.ref a, .ref b] ∧ S1.Sq K H1 a xs ∧ S2.Sq K H1 b ys ∧ xs.length ≤ 1000000 ∧
  ∀ p H', H1 p = none → Same H1 H' → (∃ ts : List Addr, H' p = some (.lst (ts.map V.ref)) ∧ PairsAt H' ts (xs.zip ys)) → Q (.ref p) H') : mLZip S1 S2 K ta σ H Q := h
end
end L2

end

section
-- KcSplit
set_option Elab.async false
set_option linter.all false
set_option maxRecDepth 100000
set_option maxHeartbeats 4000000
namespace L2
open PySem PyProof.Rows

/-! ### a view split by values -/
noncomputable def splitL (v : List Nat) (as : List IA) : List Nat := leastOf (v.zip as)
noncomputable def keyP (p : Nat × IA) : MK := .inr [.inl (some ((p.1 : Nat) : Int)), .inl p.2]
theorem keyP_inj (a b : Nat × IA) (e : keyP a = keyP b) : a = b := by
  have h := Sum.inr.inj e
  injection h with h1 h2
  injection h1 with h1
  injection h1 with h1
  injection h2 with h2 _
  injection h2 with h2
  obtain ⟨a1, a2⟩ := a
  obtain ⟨b1, b2⟩ := b
  simp only at h1 h2
  rw [show a1 = b1 by omega, h2]
theorem splitL_keys (v : List Nat) (as : List IA) : leastOf ((v.zip as).map keyP) = splitL v as := leastOf_map (f := keyP) keyP_inj _
theorem splitL_len {v : List Nat} {as : List IA} (h : v.length = as.length) : (splitL v as).length = v.length := by unfold splitL; rw [length_leastOf, List.length_zip]; omega
noncomputable def sp_split (_ : PySem.W.Frag) : Sp := fun vs H Q _ => ∃ (a b : Addr) (v : List Nat) (ys : List V) (as : List IA), vs = [.ref a, .ref b] ∧ H a = some (.lst (natV v)) ∧ H b = some (.lst ys) ∧ ys.map iaV = as.map some ∧ v.length = as.length ∧ v.length ≤ 100000 ∧
  ∀ p H', H p = none → Same H H' → H' p = some (.lst (natV (splitL v as))) → Q (.ref p) H'
theorem zip_keys {H : Hp} : ∀ {ts : List Addr} {v : List Nat} {ys : List V} {as : List IA}, PairsAt H ts ((natV v).zip ys) → ys.map iaV = as.map some → Paired (KeyV H) (ts.map V.ref) ((v.zip as).map keyP)
  | ts, [], ys, as, h, _ => by
    have e : (natV []).zip ys = [] := rfl
    rw [e] at h
    cases h
    rw [show ([] : List Nat).zip as = [] from rfl]
    exact .nil
  | ts, x :: v, [], as, h, e => by
    have z : (natV (x :: v)).zip ([] : List V) = [] := by simp
    rw [z] at h
    cases h
    have : as = [] := by
      cases as with
      | nil => rfl
      | cons _ _ => simp at e
    rw [this]
    simp only [List.zip_nil_right]
    exact .nil
  | ts, x :: v, y :: ys, as, h, e => by
    cases as with
    | nil => simp at e
    | cons a as =>
      rw [List.map_cons, List.map_cons] at e
      injection e with e1 e2
      have z : (natV (x :: v)).zip (y :: ys) = (.int (x : Int), y) :: (natV v).zip ys := rfl
      rw [z] at h
      cases h with
      | cons h t =>
        rw [List.zip_cons_cons, List.map_cons, List.map_cons]
        exact .cons ⟨_, _, rfl, h, .cons rfl (.cons e1 .nil)⟩ (zip_keys t e2)
noncomputable def t_split (K : PySem.W.Frag) : TS := (tRet (tCall (sp_least_with_same K) [] E0 (tCons (mLZip srcL srcL K (tCons (tVar 0) (tCons (tVar 1) tNil))) tNil)))
theorem len_split {K : PySem.W.Frag} {vs : List V} {H : Hp} {Q : VK} {E : XK} (h : sp_split K vs H Q E) : vs.length = 2 := by
  obtain ⟨a, b, v, ys, as, rfl, ea, eb, hi, hl, hn, q⟩ := h
  rfl
theorem rd_split {K : PySem.W.Frag} {vs : List V} {H : Hp} {Q : VK} {E : XK} (h : sp_split K vs H Q E) : t_split K { nx := fun _ H' => Q .non H', rt := Q } (start ["view", "values"] vs) H := by
  obtain ⟨a, b, v, ys, as, rfl, ea, eb, hi, hl, hn, q⟩ := h
  show t_split K _ [some _, some _] _
  unfold t_split
  walk_at "rd"
  refine m_lzip ?_
  walk_at "rd"
  refine ⟨a, b, natV v, ys, rfl, SqL.of ea, SqL.of eb, by rw [natV_len]; omega, fun p H1 hp s1 ⟨ts, e1, pt⟩ => ?_⟩
  walk_at "rd"
  refine ⟨p, _, _, true, rfl, e1, zip_keys pt hi, ?_, by rw [List.length_map, List.length_zip]; omega, fun p2 H2 hp2 s2 e2 => ?_⟩
  · intro k hk
    obtain ⟨w, _, rfl⟩ := List.mem_map.mp hk
    rfl
  · rw [splitL_keys] at e2
    exact q _ _ (s1.free hp2) (s1.trans s2) e2

end L2

end

section
-- KcDealC
set_option linter.all false
namespace KM
/-! ### all deals are told; two cards exchanged -/
theorem level_all (room : List Nat) : ∀ (i : Nat) (w : List Nat), w.length = i → (∀ j ∈ w, j < room.length) → (∀ j, w.count j ≤ room.getD j 0) → w ∈ level room i
  | 0, w, hl, _, _ => by
    rw [List.length_eq_zero_iff.mp hl]
    exact List.mem_singleton.mpr rfl
  | i + 1, w, hl, hj, hc => by
    obtain ⟨v, x, rfl⟩ : ∃ v x, w = v ++ [x] := ⟨w.dropLast, w.getLast (by intro e; rw [e] at hl; simp at hl), (List.dropLast_concat_getLast _).symm⟩
    have hv : v.length = i := by simp at hl; exact hl
    have hx : x < room.length := hj x (by simp)
    have cx := hc x
    rw [List.count_append, List.count_singleton_self] at cx
    show v ++ [x] ∈ (level room i).flatMap _
    refine List.mem_flatMap.mpr ⟨v, level_all room i v hv (fun j h => hj j (List.mem_append_left _ h)) (fun j => ?_), List.mem_map.mpr ⟨x, ?_, rfl⟩⟩
    · have := hc j
      rw [List.count_append] at this
      omega
    · unfold nexts
      exact List.mem_filter.mpr ⟨List.mem_range.mpr hx, decide_eq_true (by omega)⟩
noncomputable def swap (w : List Nat) (x y : Nat) : List Nat := (w.set x (w.getD y 0)).set y (w.getD x 0)
end KM

end

section
-- KcForest
set_option Elab.async false
set_option linter.all false
namespace KF
/-! ### things that point to lesser ones -/
noncomputable def Forest (ps : List Nat) : Prop := ∀ x y : Nat, ps[x]? = some y → y ≤ x
inductive Root (ps : List Nat) : Nat → Nat → Prop where
  | stop {x : Nat} (h : ps[x]? = some x) : Root ps x x
  | step {x y r : Nat} (h : ps[x]? = some y) (hl : y < x) (t : Root ps y r) : Root ps x r
theorem Root.inj {ps : List Nat} {x r r' : Nat} (a : Root ps x r) (b : Root ps x r') : r = r' := by
  induction a with
  | stop h => cases b with
    | stop _ => rfl
    | step h' hl _ => rw [h] at h'; cases h'; omega
  | step h hl _ ih => cases b with
    | stop h' => rw [h] at h'; cases h'; omega
    | step h' _ t => rw [h] at h'; cases h'; exact ih t
theorem Forest.root {ps : List Nat} (f : Forest ps) : ∀ x, x < ps.length → ∃ r, Root ps x r := by
  intro x
  induction x using Nat.strongRecOn with
  | ind x ih =>
    intro hx
    have e := List.getElem?_eq_getElem hx
    have hy := f x _ e
    rcases Nat.lt_or_eq_of_le hy with h | h
    · obtain ⟨r, hr⟩ := ih _ h (by omega)
      exact ⟨r, .step e h hr⟩
    · rw [h] at e
      exact ⟨x, .stop e⟩
theorem Root.le {ps : List Nat} {x r : Nat} (a : Root ps x r) : r ≤ x := by
  induction a with
  | stop _ => exact Nat.le_refl _
  | step _ hl _ ih => omega
theorem Root.self {ps : List Nat} {x r : Nat} (a : Root ps x r) : ps[r]? = some r := by
  induction a with
  | stop h => exact h
  | step _ _ _ ih => exact ih
theorem Root.lt {ps : List Nat} {x r : Nat} (a : Root ps x r) : x < ps.length := by
  cases a with
  | stop h => exact (List.getElem?_eq_some_iff.mp h).1
  | step h _ _ => exact (List.getElem?_eq_some_iff.mp h).1
theorem Forest.range (n : Nat) : Forest (List.range n) := fun x y h => by
  obtain ⟨h1, h2⟩ := List.getElem?_eq_some_iff.mp h
  rw [List.getElem_range] at h2
  omega
theorem Root.range {n x : Nat} (h : x < n) : Root (List.range n) x x := .stop (by rw [List.getElem?_range h])
theorem set_at {ps : List Nat} {e g y z : Nat} (h : (ps.set e g)[y]? = some z) : (y = e ∧ z = g) ∨ (y ≠ e ∧ ps[y]? = some z) := by
  rw [List.getElem?_set] at h
  by_cases q : e = y
  · rw [if_pos q] at h
    split at h
    · cases h; exact .inl ⟨q.symm, rfl⟩
    · cases h
  · rw [if_neg q] at h
    exact .inr ⟨fun z => q z.symm, h⟩
theorem Forest.set {ps : List Nat} (f : Forest ps) {e g : Nat} (h : g ≤ e) : Forest (ps.set e g) := fun x y q => by
  rcases set_at q with ⟨rfl, rfl⟩ | ⟨_, q⟩
  · exact h
  · exact f x y q
/-! ### what is joined by steps -/
inductive Conn (P : Nat → Nat → Prop) : Nat → Nat → Prop where
  | refl (x : Nat) : Conn P x x
  | one {x y : Nat} (h : P x y) : Conn P x y
  | symm {x y : Nat} (h : Conn P x y) : Conn P y x
  | trans {x y z : Nat} (h : Conn P x y) (t : Conn P y z) : Conn P x z
theorem Conn.mono {P P' : Nat → Nat → Prop} (h : ∀ x y, P x y → P' x y) {x y : Nat} (c : Conn P x y) : Conn P' x y := by
  induction c with
  | refl x => exact .refl x
  | one q => exact .one (h _ _ q)
  | symm _ ih => exact .symm ih
  | trans _ _ a b => exact .trans a b
theorem Conn.bind {P P' : Nat → Nat → Prop} (h : ∀ x y, P x y → Conn P' x y) {x y : Nat} (c : Conn P x y) : Conn P' x y := by
  induction c with
  | refl x => exact .refl x
  | one q => exact h _ _ q
  | symm _ ih => exact .symm ih
  | trans _ _ a b => exact .trans a b
theorem Conn.keeps {P : Nat → Nat → Prop} {α : Type} {f : Nat → α} (h : ∀ x y, P x y → f x = f y) {x y : Nat} (c : Conn P x y) : f x = f y := by
  induction c with
  | refl x => rfl
  | one q => exact h _ _ q
  | symm _ ih => exact ih.symm
  | trans _ _ a b => exact a.trans b
structure JoinOf (n : Nat) (P : Nat → Nat → Prop) (r : List Nat) : Prop where
  len : r.length = n
  le : ∀ i x : Nat, r[i]? = some x → x ≤ i
  conn : ∀ i x : Nat, r[i]? = some x → Conn P i x
  same : ∀ i j : Nat, i < n → j < n → Conn P i j → r[i]? = r[j]?
theorem JoinOf.uniq {n : Nat} {P P' : Nat → Nat → Prop} {r r' : List Nat} (a : JoinOf n P r) (b : JoinOf n P' r') (h1 : ∀ x y, Conn P x y → Conn P' x y) (h2 : ∀ x y, Conn P' x y → Conn P x y) : r = r' := by
  refine List.ext_getElem? fun i => ?_
  by_cases hi : i < n
  · obtain ⟨x, e1⟩ : ∃ x, r[i]? = some x := ⟨_, List.getElem?_eq_getElem (l := r) (i := i) (by rw [a.len]; exact hi)⟩
    obtain ⟨y, e2⟩ : ∃ y, r'[i]? = some y := ⟨_, List.getElem?_eq_getElem (l := r') (i := i) (by rw [b.len]; exact hi)⟩
    have lx := a.le i x e1
    have ly := b.le i y e2
    -- x stands to its component, y too
    have c1 := a.conn i x e1
    have c2 := b.conn i y e2
    have ex : r[y]? = some x := by rw [← a.same i y hi (by omega) (h2 _ _ c2)]; exact e1
    have ey : r'[x]? = some y := by rw [← b.same i x hi (by omega) (h1 _ _ c1)]; exact e2
    have q1 := a.le y x ex
    have q2 := b.le x y ey
    rw [e1, e2, show x = y by omega]
  · rw [List.getElem?_eq_none (by rw [a.len]; omega), List.getElem?_eq_none (by rw [b.len]; omega)]
structure Told (n : Nat) (P : Nat → Nat → Prop) (ps : List Nat) : Prop where
  len : ps.length = n
  forest : Forest ps
  conn : ∀ x r, Root ps x r → Conn P x r
  same : ∀ x y, P x y → ∃ r, Root ps x r ∧ Root ps y r
theorem Told.start (n : Nat) : Told n (fun _ _ => False) (List.range n) where
  len := List.length_range
  forest := Forest.range n
  conn := fun x r h => by
    have hx : x < n := by have := h.lt; rw [List.length_range] at this; exact this
    rw [h.inj (Root.range hx)]
    exact .refl x
  same := fun _ _ h => h.elim
theorem Told.moved {n : Nat} {P : Nat → Nat → Prop} {ps ps' : List Nat} (t : Told n P ps) (f : Forest ps') (hl : ps'.length = n) (h : ∀ y r, Root ps y r → Root ps' y r) : Told n P ps' where
  len := hl
  forest := f
  conn := fun x r a => by
    obtain ⟨r', b⟩ := t.forest.root x (by rw [t.len, ← hl]; exact a.lt)
    rw [a.inj (h _ _ b)]
    exact t.conn _ _ b
  same := fun x y q => by
    obtain ⟨r, h1, h2⟩ := t.same x y q
    exact ⟨r, h _ _ h1, h _ _ h2⟩
end KF

end

section
-- KcViewM
set_option Elab.async false
set_option linter.all false
set_option maxRecDepth 100000
set_option maxHeartbeats 4000000
namespace L2
open KF
/-! ### views: kernels, splits, joins (mathematics alone) -/
section
variable {α β γ : Type} [DecidableEq α] [DecidableEq β] [DecidableEq γ]
theorem idx_at {ks : List α} {i : Nat} {k : α} (h : ks[i]? = some k) : ks[ks.idxOf k]? = some k := by
  rw [List.getElem?_eq_getElem (List.idxOf_lt_length_of_mem (List.mem_of_getElem? h)), List.getElem_idxOf]
theorem least_get {ks : List α} {i : Nat} {k : α} (h : ks[i]? = some k) : (leastOf ks)[i]? = some (ks.idxOf k) := by unfold leastOf; rw [List.getElem?_map, h]; rfl
theorem get_lt {l : List α} {i : Nat} (h : i < l.length) : ∃ x, l[i]? = some x := ⟨_, List.getElem?_eq_getElem h⟩
theorem least_ker {ks : List α} {i j : Nat} (hi : i < ks.length) (hj : j < ks.length) : (leastOf ks)[i]? = (leastOf ks)[j]? ↔ ks[i]? = ks[j]? := by
  obtain ⟨k, hk⟩ := get_lt hi
  obtain ⟨l, hL⟩ := get_lt hj
  rw [least_get hk, least_get hL, hk, hL]
  constructor
  · intro e
    rw [← idx_at hk, ← idx_at hL, Option.some.inj e]
  · intro e
    rw [Option.some.inj e]
theorem least_fin {ks : List α} {i m : Nat} (h : (leastOf ks)[i]? = some m) : ks[m]? = ks[i]? ∧ m ≤ i ∧ i < ks.length := by
  obtain ⟨k, hk, rfl, hle⟩ := leastOf_at h
  exact ⟨(idx_at hk).trans hk.symm, hle, (List.getElem?_eq_some_iff.mp hk).1⟩
theorem zip_ker {v : List α} {as : List β} (hl : v.length = as.length) {i j : Nat} (hi : i < v.length) (hj : j < v.length) : (v.zip as)[i]? = (v.zip as)[j]? ↔ v[i]? = v[j]? ∧ as[i]? = as[j]? := by
  obtain ⟨x, hx⟩ := get_lt hi
  obtain ⟨y, hy⟩ := get_lt hj
  obtain ⟨a, ha⟩ := get_lt (l := as) (i := i) (by omega)
  obtain ⟨b, hb⟩ := get_lt (l := as) (i := j) (by omega)
  have e1 : (v.zip as)[i]? = some (x, a) := by rw [List.getElem?_zip_eq_some]; exact ⟨hx, ha⟩
  have e2 : (v.zip as)[j]? = some (y, b) := by rw [List.getElem?_zip_eq_some]; exact ⟨hy, hb⟩
  rw [e1, e2, hx, hy, ha, hb]
  simp only [Option.some.injEq, Prod.mk.injEq]
end
end L2

end

section
-- KcCd
set_option Elab.async false
set_option linter.all false
set_option maxRecDepth 100000
set_option maxHeartbeats 4000000
namespace L2
open PySem
/-! ### codes, as mathematics -/
section
variable (ws : List (List Nat)) (a b e : Int) (num : List Int → Nat)
noncomputable def Fr (i : Nat) : Prop := ∃ (j : Nat) (wi wj : List Nat), ws[i]? = some wi ∧ ws[j]? = some wj ∧ heldI wj b = heldI wi b ∧ num (heldI wj a) = num (heldI wi a) ∧ heldI wj a ≠ heldI wi a
noncomputable def Th (i : Nat) : Prop := ∃ (wi : List Nat) (c h : Nat), ws[i]? = some wi ∧ wi[c]? = some h ∧ (h : Int) ≠ e ∧ ∀ (j : Nat) (wj : List Nat), ws[j]? = some wj → heldI wj e = heldI wi e → num (heldI wj a) = num (heldI wi a) → wj[c]? = some h
end
inductive FR
  | ok
  | friend (d : Nat)
  | third (d : Nat)
noncomputable def FRes (ws : List (List Nat)) (a b e : Int) (num : List Int → Nat) : FR → Prop
  | .ok => ∀ i, i < ws.length → ¬ Fr ws a b num i ∧ ¬ Th ws a e num i
  | .friend d => d < ws.length ∧ Fr ws a b num d ∧ ∀ i, i < d → ¬ Fr ws a b num i ∧ ¬ Th ws a e num i
  | .third d => d < ws.length ∧ ¬ Fr ws a b num d ∧ Th ws a e num d ∧ ∀ i, i < d → ¬ Fr ws a b num i ∧ ¬ Th ws a e num i
section
variable {ws : List (List Nat)} {a b e : Int} {num num' : List Int → Nat}
noncomputable def Coarse (ws : List (List Nat)) (a : Int) (num num' : List Int → Nat) : Prop := ∀ v ∈ ws, ∀ w ∈ ws, num (heldI v a) = num (heldI w a) → num' (heldI v a) = num' (heldI w a)
theorem Fr.coarse (h : Coarse ws a num num') {i : Nat} (f : Fr ws a b num i) : Fr ws a b num' i := by
  obtain ⟨j, wi, wj, h1, h2, h3, h4, h5⟩ := f
  exact ⟨j, wi, wj, h1, h2, h3, h _ (List.mem_of_getElem? h2) _ (List.mem_of_getElem? h1) h4, h5⟩
theorem Th.fine (h : Coarse ws a num num') {i : Nat} (f : Th ws a e num' i) : Th ws a e num i := by
  obtain ⟨wi, c, hh, h1, h2, h3, h4⟩ := f
  exact ⟨wi, c, hh, h1, h2, h3, fun j wj hj he hn => h4 j wj hj he (h _ (List.mem_of_getElem? hj) _ (List.mem_of_getElem? h1) hn)⟩
theorem fr_lt {i : Nat} (f : Fr ws a b num i) : i < ws.length := by
  obtain ⟨j, wi, wj, h1, _⟩ := f
  exact (List.getElem?_eq_some_iff.mp h1).1
theorem th_lt {i : Nat} (f : Th ws a e num i) : i < ws.length := by
  obtain ⟨wi, c, h, h1, _⟩ := f
  exact (List.getElem?_eq_some_iff.mp h1).1
noncomputable def FR.at : FR → Nat
  | .ok => 0
  | .friend d => d
  | .third d => d
end
/-! what is held -/
theorem cast_get (w : List Nat) (c : Nat) (h : Int) : (w.map fun (s : Nat) => ((s : Nat) : Int))[c]? = some h ↔ ∃ x, w[c]? = some x ∧ (x : Int) = h := by
  rw [List.getElem?_map]
  cases w[c]? with
  | none => simp
  | some x => simp
theorem held_mem {w : List Nat} {h : Int} {c : Nat} : (c : Int) ∈ heldI w h ↔ ∃ x, w[c]? = some x ∧ (x : Int) = h := by
  unfold heldI upto
  rw [List.mem_map]
  constructor
  · rintro ⟨j, hj, e⟩
    have : j = c := by omega
    subst this
    exact (cast_get w j h).mp (of_decide_eq_true (List.mem_filter.mp hj).2)
  · intro hx
    have hlt : c < w.length := by obtain ⟨x, hx, _⟩ := hx; exact (List.getElem?_eq_some_iff.mp hx).1
    exact ⟨c, List.mem_filter.mpr ⟨List.mem_range.mpr hlt, decide_eq_true ((cast_get w c h).mpr hx)⟩, rfl⟩
theorem held_same {v w : List Nat} {h : Int} (hl : v.length = w.length) (hs : ∀ c : Nat, (∃ x, v[c]? = some x ∧ (x : Int) = h) ↔ ∃ x, w[c]? = some x ∧ (x : Int) = h) : heldI v h = heldI w h := by
  unfold heldI upto
  rw [hl]
  congr 1
  refine List.filter_congr fun c _ => ?_
  exact decide_eq_decide.mpr (((cast_get v c h).trans (hs c)).trans (cast_get w c h).symm)
theorem held_len (w : List Nat) (h : Nat) : (heldI w (h : Int)).length = w.count h := by
  unfold heldI upto
  rw [List.length_map]
  have : ∀ w : List Nat, ((List.range w.length).filter fun j => decide ((w.map fun (s : Nat) => ((s : Nat) : Int))[j]? = some (h : Int))).length = w.count h := by
    have go : ∀ (n : Nat) (w : List Nat), w.length = n → ((List.range w.length).filter fun j => decide ((w.map fun (s : Nat) => ((s : Nat) : Int))[j]? = some (h : Int))).length = w.count h := by
     intro n
     induction n with
     | zero => intro w hw; rw [List.length_eq_zero_iff.mp hw]; rfl
     | succ n ih0 =>
      intro w' hw'
      obtain ⟨w, x, rfl⟩ : ∃ v x, w' = v ++ [x] := ⟨w'.dropLast, w'.getLast (by intro e; rw [e] at hw'; simp at hw'), (List.dropLast_concat_getLast _).symm⟩
      have ih := ih0 w (by simp at hw'; exact hw')
      rw [List.length_append, List.length_singleton, List.range_succ, List.filter_append, List.length_append, List.count_append]
      congr 1
      · rw [← ih]
        congr 1
        refine List.filter_congr fun c hc => ?_
        have hc' := List.mem_range.mp hc
        rw [List.map_append, List.getElem?_append_left (by rw [List.length_map]; exact hc')]
      · rw [List.map_append, List.filter_cons]
        have : ((w.map fun (s : Nat) => ((s : Nat) : Int)) ++ [x].map fun (s : Nat) => ((s : Nat) : Int))[w.length]? = some (x : Int) := by
          rw [List.getElem?_append_right (by rw [List.length_map]; exact Nat.le_refl _), List.length_map, Nat.sub_self]; rfl
        rw [this]
        by_cases e : x = h
        · subst e; simp
        · have : ¬ (x : Int) = (h : Int) := by omega
          simp [e, this, List.count_cons]
    exact fun w => go _ w rfl
  exact this w
/-! all holdings -/
noncomputable def holdOf (n bits : Nat) : List Int := ((List.range n).filter fun c => bits / 2 ^ c % 2 == 1).map fun (c : Nat) => (c : Int)
noncomputable def allH (n size : Nat) : List (List Int) := ((List.range (2 ^ n)).map (holdOf n)).filter fun x => decide (x.length = size)
theorem bits_for (p : Nat → Bool) : ∀ n : Nat, ∃ m, m < 2 ^ n ∧ ∀ c, c < n → (m / 2 ^ c % 2 == 1) = p c
  | 0 => ⟨0, by decide, fun c h => by omega⟩
  | n + 1 => by
    obtain ⟨m, hm, h⟩ := bits_for p n
    have tb : ∀ (x c : Nat), (x / 2 ^ c % 2 == 1) = x.testBit c := fun x c => by rw [Nat.testBit_eq_decide_div_mod_eq]; rfl
    cases hp : p n with
    | false =>
      refine ⟨m, by rw [Nat.pow_succ]; omega, fun c hc => ?_⟩
      rcases Nat.lt_succ_iff_lt_or_eq.mp hc with hc | hc
      · exact h c hc
      · subst hc
        rw [tb, Nat.testBit_lt_two_pow hm, hp]
    | true =>
      refine ⟨2 ^ n + m, by rw [Nat.pow_succ]; omega, fun c hc => ?_⟩
      rcases Nat.lt_succ_iff_lt_or_eq.mp hc with hc | hc
      · rw [tb, Nat.testBit_two_pow_add_gt hc, ← tb]; exact h c hc
      · subst hc
        rw [tb, Nat.testBit_two_pow_add_eq, Nat.testBit_lt_two_pow hm, hp]; rfl
theorem held_all {w : List Nat} {n size : Nat} {a : Nat} (hl : w.length = n) (hc : w.count a = size) : heldI w (a : Int) ∈ allH n size := by
  obtain ⟨m, hm, h⟩ := bits_for (fun c => decide ((w.map fun (s : Nat) => ((s : Nat) : Int))[c]? = some (a : Int))) n
  have e : heldI w (a : Int) = holdOf n m := by
    unfold heldI upto holdOf
    rw [hl]
    congr 1
    exact (List.filter_congr fun c hc => h c (List.mem_range.mp hc)).symm
  refine List.mem_filter.mpr ⟨?_, decide_eq_true (by rw [held_len, hc])⟩
  rw [e]
  exact List.mem_map_of_mem (List.mem_range.mpr hm)
theorem holdOf_inj {n x y : Nat} (hx : x < 2 ^ n) (hy : y < 2 ^ n) (h : holdOf n x = holdOf n y) : x = y := by
  apply Nat.eq_of_testBit_eq
  intro i
  have tb : ∀ (x c : Nat), (x / 2 ^ c % 2 == 1) = x.testBit c := fun x c => by rw [Nat.testBit_eq_decide_div_mod_eq]; rfl
  by_cases hi : i < n
  · have mem : ∀ z : Nat, (i : Int) ∈ holdOf n z ↔ z.testBit i = true := fun z => by
      unfold holdOf
      rw [List.mem_map]
      constructor
      · rintro ⟨c, hc, e⟩
        have : c = i := by omega
        subst this
        rw [← tb]; exact (List.mem_filter.mp hc).2
      · intro hz
        exact ⟨i, List.mem_filter.mpr ⟨List.mem_range.mpr hi, by rw [tb]; exact hz⟩, rfl⟩
    have h1 := mem x
    have h2 := mem y
    rw [h] at h1
    exact Bool.eq_iff_iff.mpr (h1.symm.trans h2)
  · have hp : 2 ^ n ≤ 2 ^ i := Nat.pow_le_pow_right (by decide) (by omega)
    rw [Nat.testBit_lt_two_pow (Nat.lt_of_lt_of_le hx hp), Nat.testBit_lt_two_pow (Nat.lt_of_lt_of_le hy hp)]
theorem allH_nd (n size : Nat) : (allH n size).Nodup := by
  unfold allH
  refine List.Pairwise.filter _ ?_
  have : ∀ l : List Nat, l.Nodup → (∀ x ∈ l, x < 2 ^ n) → (l.map (holdOf n)).Nodup := by
    intro l
    induction l with
    | nil => exact fun _ _ => List.nodup_nil
    | cons a l ih =>
      intro nd hl
      rw [List.nodup_cons] at nd
      rw [List.map_cons, List.nodup_cons]
      refine ⟨fun z => ?_, ih nd.2 fun x hx => hl x (by simp [hx])⟩
      obtain ⟨b, hb, e⟩ := List.mem_map.mp z
      have := holdOf_inj (hl b (by simp [hb])) (hl a (by simp)) e
      exact nd.1 (this ▸ hb)
  exact this _ List.nodup_range fun x hx => List.mem_range.mp hx
theorem allH_len (n size : Nat) : (allH n size).length ≤ 2 ^ n := Nat.le_trans (List.length_filter_le _ _) (by rw [List.length_map, List.length_range]; exact Nat.le_refl _)
/-! words: lists of holdings -/
structure CodeOk (L : List (List (List Int))) (hs : List (List Int)) (num : List Int → Nat) : Prop where
  mem : ∀ i l, L[i]? = some l → ∀ x ∈ l, x ∈ hs ∧ num x = i
  all : ∀ x ∈ hs, ∃ l, L[num x]? = some l ∧ x ∈ l
/-! unheard -/
section
variable {room : List Nat} {c : Nat}
theorem deal_facts {w : List Nat} (hs : room.sum = c) (h : w ∈ KM.level room c) : w.length = c ∧ (∀ j ∈ w, j < room.length) ∧ ∀ j, j < room.length → w.count j = room.getD j 0 := by
  have B := KM.level_begun room c w h
  refine ⟨B.len, B.all, ?_⟩
  subst hs
  exact KM.whole_counts B
end
end L2

end

section
-- KcXgR
set_option Elab.async false
set_option linter.all false
set_option maxRecDepth 100000
set_option maxHeartbeats 4000000
namespace L2
open PySem PyProof.Rows
/-! ### d.get(k) of a dict with plain keys -/
noncomputable def rXGet1 : V → List V → Hp → VK → Prop := fun x ys H Q => ∃ a f n k y, x = .ref a ∧ ys = [y] ∧ Dx H a false f n ∧ KeyV H y k ∧ kSort k = false ∧ Q ((f k).getD .non) H
theorem r_xget1 {H : Hp} {Q : VK} {a : Addr} {f : MK → Option V} {n : Nat} {k : MK} {y : V} (d : Dx H a false f n) (hk : KeyV H y k) (hs : kSort k = false) (h : Q ((f k).getD .non) H) : rXGet1 (.ref a) [y] H Q := ⟨a, f, n, k, y, rfl, rfl, d, hk, hs, h⟩
/-! ### sum of a tuple -/
noncomputable def cSumT (K : PySem.W.Frag) : List V → Hp → VK → Prop := fun xs H Q => ∃ (p : Addr) (ns : List Int), xs = [.ref p] ∧ SqT K H p (ns.map V.int) ∧ Q (.int ns.sum) H
theorem r_sumT {K : PySem.W.Frag} {H : Hp} {Q : VK} {p : Addr} {ns : List Int} (e : SqT K H p (ns.map V.int)) (h : Q (.int ns.sum) H) : cSumT K [.ref p] H Q := ⟨p, ns, rfl, e, h⟩
end L2

end

section
-- KcIsR
set_option Elab.async false
set_option linter.all false
set_option maxRecDepth 100000
set_option maxHeartbeats 4000000
namespace L2
open PySem PyProof.Rows
/-! ### is None, is not None -/
noncomputable def isN : V → Bool
  | .non => true
  | _ => false
noncomputable def rIsNone : R2 := fun x y H Q => y = .non ∧ Q (.bl (isN x)) H
noncomputable def rIsnNone : R2 := fun x y H Q => y = .non ∧ Q (.bl (!isN x)) H
theorem r_isNone {x : V} {H : Hp} {Q : VK} (h : Q (.bl (isN x)) H) : rIsNone x .non H Q := ⟨rfl, h⟩
theorem r_isnNone {x : V} {H : Hp} {Q : VK} (h : Q (.bl (!isN x)) H) : rIsnNone x .non H Q := ⟨rfl, h⟩
/-! ### (x,) * n -/
/-! ### len(set(xs)), min(xs), min(xs, default=None), of whole numbers -/
/-! ### range(a, -1, -1) -/
end L2

end

section
-- KcRows
set_option Elab.async false
set_option linter.all false
set_option maxRecDepth 100000
set_option maxHeartbeats 4000000
namespace L2
open PySem PyProof.Rows
/-! ### a list of lists -/
theorem rows_snoc {α : Type} {ks : List α} {i : Nat} {k : α} (hk : ks[i]? = some k) : ks.take (i + 1) = ks.take i ++ [k] := by
  rw [List.take_add_one, hk]; rfl
theorem pr_snoc {α β : Type} {R : α → β → Prop} {x : α} {y : β} : ∀ {xs : List α} {ys : List β}, Paired R xs ys → R x y → Paired R (xs ++ [x]) (ys ++ [y])
  | _, _, .nil, q => .cons q .nil
  | _, _, .cons r t, q => .cons r (pr_snoc t q)
theorem pr_at {α β : Type} {R : α → β → Prop} : ∀ {xs : List α} {ys : List β}, Paired R xs ys → ∀ {i : Nat} {x : α}, xs[i]? = some x → ∃ y, ys[i]? = some y ∧ R x y
  | _, _, .nil, i, x, e => by cases e
  | _, _, .cons r t, 0, x, e => by cases e; exact ⟨_, rfl, r⟩
  | _, _, .cons r t, i + 1, x, e => pr_at t e
theorem pr_at2 {α β : Type} {R : α → β → Prop} : ∀ {xs : List α} {ys : List β}, Paired R xs ys → ∀ {i : Nat} {y : β}, ys[i]? = some y → ∃ x, xs[i]? = some x ∧ R x y
  | _, _, .nil, i, x, e => by cases e
  | _, _, .cons r t, 0, x, e => by cases e; exact ⟨_, rfl, r⟩
  | _, _, .cons r t, i + 1, x, e => pr_at2 t e
theorem refs_at {rs : List Addr} {i : Nat} {x : V} (hx : (rs.map V.ref)[i]? = some x) : ∃ a, rs[i]? = some a ∧ x = .ref a := by
  rw [List.getElem?_map] at hx
  cases h : rs[i]? with
  | none => rw [h] at hx; cases hx
  | some a => rw [h] at hx; cases hx; exact ⟨a, rfl, rfl⟩
theorem refs_get {rs : List Addr} {i : Nat} {a : Addr} (h : rs[i]? = some a) : atI (rs.map V.ref) (i : Int) = some (.ref a) := atI_nat (by rw [List.getElem?_map, h]; rfl)
section
variable {α : Type} {f : α → List V} {H H' H2 H5 : Hp} {p r : Addr} {rs : List Addr} {fs : List α} {v : α}
noncomputable def LsP (f : α → List V) (H : Hp) (rs : List Addr) (fs : List α) : Prop := Paired (fun (a : Addr) (v : α) => H a = some (.lst (f v))) rs fs
noncomputable def LsAt (f : α → List V) (H : Hp) (p : Addr) (fs : List α) : Prop := ∃ rs : List Addr, H p = some (.lst (rs.map V.ref)) ∧ LsP f H rs fs
theorem LsP.same (h : LsP f H rs fs) (s : Same H H') : LsP f H' rs fs := Paired.mapP h fun _ _ q => s _ _ q
theorem LsAt.same (h : LsAt f H p fs) (s : Same H H') : LsAt f H' p fs := let ⟨rs, e, q⟩ := h; ⟨rs, s _ _ e, q.same s⟩
noncomputable def LsOff (f : α → List V) (p : Addr) (H : Hp) (rs : List Addr) (fs : List α) : Prop := Paired (fun (a : Addr) (v : α) => a ≠ p ∧ H a = some (.lst (f v))) rs fs
theorem LsOff.ls (h : LsOff f p H rs fs) : LsP f H rs fs := Paired.mapP h fun _ _ q => q.2
theorem LsOff.same (h : LsOff f p H rs fs) (s : Same H H') : LsOff f p H' rs fs := Paired.mapP h fun _ _ q => ⟨q.1, s _ _ q.2⟩
theorem LsOff.off (h : LsOff f p H rs fs) (o : Off p H H') : LsOff f p H' rs fs := Paired.mapP h fun _ _ q => ⟨q.1, by rw [o _ q.1]; exact q.2⟩
theorem LsP.len (h : LsP f H rs fs) : rs.length = fs.length := Paired.length h
theorem LsOff.len (h : LsOff f p H rs fs) : rs.length = fs.length := Paired.length h
theorem LsP.get (h : LsP f H rs fs) {i : Nat} {a : Addr} (e : rs[i]? = some a) : ∃ v, fs[i]? = some v ∧ H a = some (.lst (f v)) := pr_at h e
theorem LsP.of (h : LsP f H rs fs) {i : Nat} {v : α} (e : fs[i]? = some v) : ∃ a, rs[i]? = some a ∧ H a = some (.lst (f v)) := pr_at2 h e
noncomputable def NewL (f : α → List V) (H : Hp) (p : Addr) (fs : List α) (i : Nat) (acc : List V) (H2 : Hp) : Prop :=
  Same H H2 ∧ H2 p = some (.lst acc) ∧ acc.length ≤ i ∧ ∃ rs : List Addr, acc = rs.map V.ref ∧ LsOff f p H2 rs (fs.take i)
theorem NewL.put {i : Nat} {acc : List V} (hp : H p = none) (h : NewL f H p fs i acc H2) (hv : fs[i]? = some v) (hr : H2 r = none) (s : Same H2 H5) (e : H5 r = some (.lst (f v))) :
    H5 p = some (.lst acc) ∧ NewL f H p fs (i + 1) (acc ++ [.ref r]) (upd H5 p (.lst (acc ++ [.ref r]))) := by
  obtain ⟨s2, e2, l2, rs, rfl, h2⟩ := h
  have nr : r ≠ p := (ne_of_none e2 hr).symm
  refine ⟨s _ _ e2, (s2.trans s).upd hp _, upd_same, by simp at l2 ⊢; omega, rs ++ [r], by simp, ?_⟩
  rw [rows_snoc hv]
  exact pr_snoc ((h2.same s).off off_upd) ⟨nr, by rw [upd_ne nr]; exact e⟩
end
section
variable {α : Type} {f : α → List V} {g : CF TG} {tt : CF TT} {te : CF TE} {σ₀ : St} {Q : VK} {H : Hp} {K : PySem.W.Frag}
end
end L2

end

section
-- KcKit
set_option Elab.async false
set_option linter.all false
set_option maxRecDepth 100000
set_option maxHeartbeats 4000000
namespace L2
open PySem
end L2

end

section
-- KcCase
set_option Elab.async false
set_option linter.all false
set_option maxRecDepth 100000
set_option maxHeartbeats 4000000
namespace L2
open PySem PyProof.Rows

/-! ### asks, goals and deals out of a script -/
noncomputable abbrev blL (bs : List Bool) : List V := bs.map V.bl
structure Case (H : Hp) (p b c : Addr) (rows : List (List Bool)) (gs : List Int) (ds : List Nat) (m : Nat) : Prop where
  asks : LsAt blL H p rows
  goal : H b = some (.lst (gs.map V.int))
  some_ : H c = some (.lst (natV ds))
  six : rows.length ≤ 6
  four : 13 ≤ m → rows.length ≤ 4
  row : ∀ r ∈ rows, r.length = m
  gl : gs.length = m
  m0 : 0 < m
  m60 : m ≤ 60
  dl : ds.length ≤ 60
  d0 : ds ≠ []
  dm : ∀ d ∈ ds, d < m
theorem Case.same {H H' : Hp} {p b c : Addr} {rows : List (List Bool)} {gs : List Int} {ds : List Nat} {m : Nat} (h : Case H p b c rows gs ds m) (s : Same H H') : Case H' p b c rows gs ds m :=
  ⟨h.asks.same s, s _ _ h.goal, s _ _ h.some_, h.six, h.four, h.row, h.gl, h.m0, h.m60, h.dl, h.d0, h.dm⟩
end L2

end

section
-- KcNeed
set_option Elab.async false
set_option linter.all false
set_option maxRecDepth 100000
set_option maxHeartbeats 4000000
namespace L2
/-! ### the fewest asks, as mathematics -/
noncomputable def okA (d : Nat) (p : List Bool × Option Bool) : Bool := match p.2 with
  | none => true
  | some a => p.1.getD d false == a
noncomputable def okS (rows : List (List Bool)) (st : List (Option Bool)) (d : Nat) : Bool := (rows.zip st).all (okA d)
noncomputable def bitR (rows : List (List Bool)) (i k : Nat) : Bool := (rows.getD i []).getD k false
noncomputable def cntN (st : List (Option Bool)) : Nat := st.count none
noncomputable def oneG (gs : List Int) (ds : List Nat) : Prop := ∀ a ∈ ds, ∀ b ∈ ds, gs.getD a 0 = gs.getD b 0
open Classical in
noncomputable def fwN (rows : List (List Bool)) (gs : List Int) (ds : List Nat) : Nat → List (Option Bool) → Option Nat
  | 0, st => if oneG gs (ds.filter (okS rows st)) then some 0 else none
  | u + 1, st => if oneG gs (ds.filter (okS rows st)) then some 0 else
    ((List.range st.length).filterMap fun k => if st[k]? = some none then (match fwN rows gs ds u (st.set k (some true)), fwN rows gs ds u (st.set k (some false)) with
      | some a, some b => some (1 + max a b)
      | _, _ => none) else none).min?
noncomputable def need (rows : List (List Bool)) (gs : List Int) (ds : List Nat) (st : List (Option Bool)) : Option Nat := fwN rows gs ds (cntN st) st
noncomputable def cost (rows : List (List Bool)) (gs : List Int) (ds : List Nat) (st : List (Option Bool)) (k : Nat) : Option Nat :=
  if st[k]? = some none then (match need rows gs ds (st.set k (some true)), need rows gs ds (st.set k (some false)) with
      | some a, some b => some (1 + max a b)
      | _, _ => none) else none
end L2

end

section
-- KcAsk
set_option Elab.async false
set_option linter.all false
set_option maxRecDepth 100000
set_option maxHeartbeats 4000000
namespace L2
open PySem PyProof.Rows

/-! ### what a state leaves -/
noncomputable def stV : Option Bool → V
  | none => .non
  | some b => .bl b
theorem nat_of {ds : List Nat} {i : Nat} {x : V} (h : (natV ds)[i]? = some x) : ∃ d : Nat, ds[i]? = some d ∧ x = .int (d : Int) := by
  unfold natV at h
  rw [List.getElem?_map] at h
  cases e : ds[i]? with
  | none => rw [e] at h; cases h
  | some s => rw [e] at h; cases h; exact ⟨s, rfl, rfl⟩
end L2

end

section
-- KcNeedD
set_option Elab.async false
set_option linter.all false
set_option maxRecDepth 100000
set_option maxHeartbeats 4000000
namespace L2
/-! ### the fewest asks by what is left alone -/
noncomputable def Tells (rows : List (List Bool)) (gs : List Int) : Nat → List Nat → Prop
  | 0, ds => oneG gs ds
  | n + 1, ds => oneG gs ds ∨ ∃ k, k < rows.length ∧ Tells rows gs n (ds.filter fun d => bitR rows k d == true) ∧ Tells rows gs n (ds.filter fun d => bitR rows k d == false)
section
variable {rows rows' : List (List Bool)} {gs gs' : List Int}
theorem oneG.sub {ds ds' : List Nat} (h : oneG gs ds) (s : ∀ d ∈ ds', d ∈ ds) : oneG gs ds' := fun a ha b hb => h a (s a ha) b (s b hb)
theorem oneG.tells {ds : List Nat} (h : oneG gs ds) : ∀ n, Tells rows gs n ds
  | 0 => h
  | n + 1 => .inl h
theorem Tells.more {ds : List Nat} {n : Nat} (h : Tells rows gs n ds) : Tells rows gs (n + 1) ds := by
  induction n generalizing ds with
  | zero => exact .inl h
  | succ n ih =>
    rcases h with h | ⟨k, hk, h1, h2⟩
    · exact .inl h
    · exact .inr ⟨k, hk, ih h1, ih h2⟩
theorem Tells.le {ds : List Nat} {n m : Nat} (h : Tells rows gs n ds) (l : n ≤ m) : Tells rows gs m ds := by
  induction l with
  | refl => exact h
  | step _ ih => exact ih.more
theorem Tells.to {D : List Nat} (hA : ∀ k, k < rows.length → (∃ c, ∀ d ∈ D, bitR rows k d = c) ∨ ∃ k', k' < rows'.length ∧ ∃ c, ∀ d ∈ D, bitR rows' k' d = xor (bitR rows k d) c) (hG : ∀ a ∈ D, ∀ b ∈ D, gs.getD a 0 = gs.getD b 0 → gs'.getD a 0 = gs'.getD b 0) :
    ∀ (n : Nat) (ds ds' : List Nat), (∀ d ∈ ds, d ∈ D) → (∀ d ∈ ds', d ∈ ds) → Tells rows gs n ds → Tells rows' gs' n ds' := by
  have one : ∀ (ds ds' : List Nat), (∀ d ∈ ds, d ∈ D) → (∀ d ∈ ds', d ∈ ds) → oneG gs ds → oneG gs' ds' := fun ds ds' h1 h2 h a ha b hb => hG a (h1 a (h2 a ha)) b (h1 b (h2 b hb)) (h a (h2 a ha) b (h2 b hb))
  intro n
  induction n with
  | zero => exact fun ds ds' h1 h2 h => one ds ds' h1 h2 h
  | succ n ih =>
    intro ds ds' h1 h2 h
    rcases h with h | ⟨k, hk, t1, t2⟩
    · exact .inl (one ds ds' h1 h2 h)
    · have sub : ∀ (b : Bool), ∀ d ∈ ds.filter (fun d => bitR rows k d == b), d ∈ D := fun b d hd => h1 d (List.mem_filter.mp hd).1
      rcases hA k hk with ⟨c, hc⟩ | ⟨k', hk', c, hc⟩
      · -- tells nothing
        have all : ∀ d ∈ ds', d ∈ ds.filter (fun d => bitR rows k d == c) := fun d hd => List.mem_filter.mpr ⟨h2 d hd, by rw [hc d (h1 d (h2 d hd))]; exact beq_self_eq_true c⟩
        cases c with
        | true => exact (ih _ ds' (sub true) all t1).more
        | false => exact (ih _ ds' (sub false) all t2).more
      · have go : ∀ b : Bool, ∀ d ∈ ds'.filter (fun d => bitR rows' k' d == b), d ∈ ds.filter (fun d => bitR rows k d == xor b c) := fun b d hd => by
          obtain ⟨q1, q2⟩ := List.mem_filter.mp hd
          refine List.mem_filter.mpr ⟨h2 d q1, ?_⟩
          have e := hc d (h1 d (h2 d q1))
          rw [beq_iff_eq] at q2 ⊢
          rw [e] at q2
          rw [← q2]
          cases bitR rows k d <;> cases c <;> rfl
        refine .inr ⟨k', hk', ?_, ?_⟩
        · cases c with
          | false => exact ih _ _ (sub true) (go true) t1
          | true => exact ih _ _ (sub false) (go true) t2
        · cases c with
          | false => exact ih _ _ (sub false) (go false) t2
          | true => exact ih _ _ (sub true) (go false) t1
end
/-! with nothing asked -/
noncomputable def need0 (rows : List (List Bool)) (gs : List Int) (ds : List Nat) : Option Nat := need rows gs ds (List.replicate rows.length none)
section
variable {rows rows' : List (List Bool)} {gs gs' : List Int} {ds ds' : List Nat}
noncomputable def NoMore (a b : Option Nat) : Prop := ∀ m, b = some m → ∃ m', a = some m' ∧ m' ≤ m
theorem NoMore.eq {a b : Option Nat} (h1 : NoMore a b) (h2 : NoMore b a) : a = b := by
  cases a with
  | none => cases b with
    | none => rfl
    | some m => obtain ⟨m', e, _⟩ := h1 m rfl; cases e
  | some n => obtain ⟨m, e, l⟩ := h2 n rfl
              obtain ⟨n', e2, l2⟩ := h1 m e
              cases e2
              rw [e, Nat.le_antisymm l2 l]
end
end L2

end

section
-- KcFew
set_option Elab.async false
set_option linter.all false
set_option maxRecDepth 100000
set_option maxHeartbeats 4000000
namespace L2
open PySem PyProof.Rows

/-! ### fewest -/
noncomputable def optV : Option Nat → V
  | none => .non
  | some n => .int (n : Int)
theorem isN_opt (o : Option Nat) : isN (optV o) = o.isNone := by cases o <;> rfl
noncomputable def iaO : Option Bool → IA
  | none => none
  | some b => some (if b then 1 else 0)
noncomputable def keyS (st : List (Option Bool)) : MK := .inr (st.map fun s => (Sum.inl (iaO s) : IK))
theorem iaO_inj {a b : Option Bool} (h : iaO a = iaO b) : a = b := by
  cases a with
  | none => cases b with
    | none => rfl
    | some b => cases h
  | some a => cases b with
    | none => cases h
    | some b => cases a <;> cases b <;> first | rfl | (simp [iaO] at h)
theorem keyS_inj {a b : List (Option Bool)} (h : keyS a = keyS b) : a = b := by
  unfold keyS at h
  injection h with h
  induction a generalizing b with
  | nil => cases b with
    | nil => rfl
    | cons y b => cases h
  | cons x a ih => cases b with
    | nil => cases h
    | cons y b =>
      rw [List.map_cons, List.map_cons] at h
      injection h with h1 h2
      injection h1 with h1
      rw [iaO_inj h1, ih h2]
noncomputable def SameX (d : Addr) (H H' : Hp) : Prop := ∀ b u, b ≠ d → H b = some u → H' b = some u
theorem SameX.refl (d : Addr) (H : Hp) : SameX d H H := fun _ _ _ h => h
theorem SameX.trans {d : Addr} {H H1 H2 : Hp} (a : SameX d H H1) (b : SameX d H1 H2) : SameX d H H2 := fun x u n h => b x u n (a x u n h)
theorem Same.x {H H' : Hp} (s : Same H H') (d : Addr) : SameX d H H' := fun b u _ h => s b u h
section
variable {H H' : Hp} {d : Addr} {s : Bool} {f : MK → Option V} {n : Nat}
theorem SameX.lst (x : SameX d H H') (D : Dx H d s f n) {a : Addr} {xs : List V} (e : H a = some (.lst xs)) : H' a = some (.lst xs) := x a _ (D.ne_lst e) e
theorem SameX.tup (x : SameX d H H') (D : Dx H d s f n) {a : Addr} {xs : List V} (e : H a = some (.tup xs)) : H' a = some (.tup xs) := x a _ (D.ne_tup e) e
theorem SameX.lsP (x : SameX d H H') (D : Dx H d s f n) {α : Type} {g : α → List V} {rs : List Addr} {fs : List α} (h : LsP g H rs fs) : LsP g H' rs fs := Paired.mapP h fun _ _ q => x.lst D q
theorem SameX.lsAt (x : SameX d H H') (D : Dx H d s f n) {α : Type} {g : α → List V} {p : Addr} {fs : List α} (h : LsAt g H p fs) : LsAt g H' p fs := let ⟨rs, e, q⟩ := h; ⟨rs, x.lst D e, x.lsP D q⟩
theorem SameX.same (x : SameX d H H') (D : Dx H d s f n) {H0 : Hp} (s0 : Same H0 H) (h : H0 d = none) : Same H0 H' := fun b u q => x b u (ne_of_none q h) (s0 b u q)
end
noncomputable def Kids (st : List (Option Bool)) (f : MK → Option V) (i : Nat) : Prop := ∀ k a, k < i → st[k]? = some none → (f (keyS (st.set k (some a)))).isSome
noncomputable def GoodF (rows : List (List Bool)) (gs : List Int) (ds : List Nat) (f : MK → Option V) : Prop := (∀ (st : List (Option Bool)) (v : V), st.length = rows.length → f (keyS st) = some v → v = optV (need rows gs ds st)) ∧ ∀ st : List (Option Bool), st.length = rows.length → (f (keyS st)).isSome → ¬ oneG gs (ds.filter (okS rows st)) → Kids st f st.length
theorem GoodF.none (rows : List (List Bool)) (gs : List Int) (ds : List Nat) : GoodF rows gs ds (fun _ => .none) := ⟨fun _ _ _ h => (by cases h), fun _ _ h => (by cases h)⟩
noncomputable def Ext (f f' : MK → Option V) : Prop := ∀ k, (f k).isSome → (f' k).isSome
theorem Ext.refl (f : MK → Option V) : Ext f f := fun _ h => h
theorem Ext.trans {f g h : MK → Option V} (a : Ext f g) (b : Ext g h) : Ext f h := fun k z => b k (a k z)
theorem Ext.put (f : MK → Option V) (k : MK) (v : V) : Ext f (putF_ f k v) := fun k' z => by
  unfold putF_
  by_cases e : k' = k
  · rw [if_pos e]; rfl
  · rw [if_neg e]; exact z
theorem GoodF.put {rows : List (List Bool)} {gs : List Int} {ds : List Nat} {f : MK → Option V} (h : GoodF rows gs ds f) (st : List (Option Bool)) (hk : ¬ oneG gs (ds.filter (okS rows st)) → Kids st f st.length) : GoodF rows gs ds (putF_ f (keyS st) (optV (need rows gs ds st))) := ⟨fun st' v hl e => by
  unfold putF_ at e
  by_cases z : keyS st' = keyS st
  · rw [if_pos z] at e
    rw [keyS_inj z]
    exact (Option.some.inj e).symm
  · rw [if_neg z] at e
    exact h.1 st' v hl e, fun st' hl e one k a hki hs => by
  refine Ext.put _ _ _ _ ?_
  by_cases z : keyS st' = keyS st
  · have zz := keyS_inj z
    subst zz
    exact hk one k a hki hs
  · unfold putF_ at e
    rw [if_neg z] at e
    exact h.2 st' hl e one k a hki hs⟩
theorem six_nat (n d k : Nat) : HT.sIx n d (some (k : Int)) = min k n := by
  show (if (k : Int) < 0 then ((k : Int) + (n : Int)).toNat else min ((k : Int).toNat) n) = min k n
  rw [if_neg (by omega), Int.toNat_natCast]
theorem cut_head (xs : List V) (k : Nat) (h : k ≤ xs.length) : cutV xs none (some (k : Int)) = xs.take k := by
  unfold cutV
  rw [six_nat, show HT.sIx xs.length 0 none = 0 from rfl, List.drop_zero, Nat.sub_zero, Nat.min_eq_left h]
theorem cut_from (xs : List V) (k : Nat) (h : k ≤ xs.length) : cutV xs (some (k : Int)) none = xs.drop k := by
  unfold cutV
  rw [six_nat, show HT.sIx xs.length xs.length none = xs.length from rfl, Nat.min_eq_left h, List.take_of_length_le (by rw [List.length_drop]; exact Nat.le_refl _)]
structure FewAt (H : Hp) (p b c t d : Addr) (rows : List (List Bool)) (gs : List Int) (ds : List Nat) (st : List (Option Bool)) (f : MK → Option V) (m : Nat) : Prop where
  asks : LsAt blL H p rows
  goal : H b = some (.lst (gs.map V.int))
  left : H c = some (.lst (natV (ds.filter (okS rows st))))
  state : H t = some (.tup (st.map stV))
  dict : Dx H d true f m
  good : GoodF rows gs ds f
  sl : st.length = rows.length
  rl : rows.length ≤ 6
  dl : ds.length ≤ 500
  dr : ∀ x ∈ ds, ∀ r ∈ rows, x < r.length
  dg : ∀ x ∈ ds, x < gs.length
theorem FewAt.ofTo {H H' : Hp} {p b c t d : Addr} {rows : List (List Bool)} {gs : List Int} {ds : List Nat} {st : List (Option Bool)} {f f' : MK → Option V} {m m' : Nat} (h : FewAt H p b c t d rows gs ds st f m) (x : SameX d H H') (D : Dx H' d true f' m') (g : GoodF rows gs ds f') : FewAt H' p b c t d rows gs ds st f' m' :=
  ⟨x.lsAt h.dict h.asks, x.lst h.dict h.goal, x.lst h.dict h.left, x.tup h.dict h.state, D, g, h.sl, h.rl, h.dl, h.dr, h.dg⟩
theorem FewAt.same {H H' : Hp} {p b c t d : Addr} {rows : List (List Bool)} {gs : List Int} {ds : List Nat} {st : List (Option Bool)} {f : MK → Option V} {m : Nat} (h : FewAt H p b c t d rows gs ds st f m) (s : Same H H') : FewAt H' p b c t d rows gs ds st f m := h.ofTo (s.x d) (h.dict.same s) h.good
end L2

end

section
-- KcCdR
set_option Elab.async false
set_option linter.all false
set_option maxRecDepth 100000
set_option maxHeartbeats 4000000
namespace L2
open PySem PyProof.Rows

/-! ### codes told -/
theorem prLen {α β : Type} {F : α → β → Prop} {l : List α} {m : List β} (h : Paired F l m) : l.length = m.length := by
  induction h with
  | nil => rfl
  | cons _ _ ih => rw [List.length_cons, List.length_cons, ih]
theorem prGet {α β : Type} {F : α → β → Prop} {l : List α} {m : List β} (h : Paired F l m) : ∀ {i : Nat} {x : α}, l[i]? = some x → ∃ y, m[i]? = some y ∧ F x y := by
  induction h with
  | nil => intro i x e; cases e
  | cons q _ ih =>
    intro i x e
    cases i with
    | zero => cases e; exact ⟨_, rfl, q⟩
    | succ i => exact ih e
noncomputable def HoldAt (H : Hp) (l : Addr) (xs : List (List Int)) : Prop := ∃ ts : List Addr, H l = some (.lst (ts.map V.ref)) ∧ Paired (fun (t : Addr) (x : List Int) => H t = some (.tup (x.map V.int))) ts xs
theorem HoldAt.same {H H' : Hp} (s : Same H H') {l : Addr} {xs : List (List Int)} (h : HoldAt H l xs) : HoldAt H' l xs := let ⟨ts, e, p⟩ := h; ⟨ts, s _ _ e, Paired.mapP p fun _ _ q => s _ _ q⟩
noncomputable def WordsAt (H : Hp) (p : Addr) (L : List (List (List Int))) : Prop := ∃ ls : List Addr, H p = some (.lst (ls.map V.ref)) ∧ Paired (HoldAt H) ls L
theorem WordsAt.same {H H' : Hp} (s : Same H H') {p : Addr} {L : List (List (List Int))} (h : WordsAt H p L) : WordsAt H' p L := let ⟨ls, e, q⟩ := h; ⟨ls, s _ _ e, Paired.mapP q fun _ _ x => x.same s⟩
theorem key_i {H : Hp} {t : Addr} {x : List Int} (e : H t = some (.tup (x.map V.int))) : KeyV H (.ref t) (keyI x) := by
  refine ⟨t, _, rfl, e, ?_⟩
  have go : ∀ l : List Int, Paired (ItemV H) (l.map V.int) (l.map fun n => (Sum.inl (some n) : IK)) := by
    intro l
    induction l with
    | nil => exact .nil
    | cons s l ih => exact .cons rfl ih
  exact go x
noncomputable def sp_words_said (_ : PySem.W.Frag) : Sp := fun vs H Q _ => ∃ (d p : Addr) (a : Int) (ws : List (List Nat)) (L : List (List (List Int))) (hs : List (List Int)) (num : List Int → Nat), vs = [.ref d, .ref p, .int a] ∧ DealsAt H d ws ∧ WordsAt H p L ∧ CodeOk L hs num ∧ (∀ w ∈ ws, heldI w a ∈ hs ∧ w.length ≤ 12) ∧ ws.length ≤ 2000 ∧ L.length ≤ 1000 ∧ (∀ l ∈ L, l.length ≤ 1000) ∧
  ∀ f H', H f = none → Same H H' → H' f = some (.lst (natV (ws.map fun w => num (heldI w a)))) → Q (.ref f) H'
noncomputable def t_words_said (K : PySem.W.Frag) : TS := (tSeq (tAsg mDnewX (gName 3))
  (tSeq (tFor (iEnum srcL K (tCons (tVar 1) tNil)) (gTup K 2 (gCons (gName 4) (gCons (gName 5) gNil))) (tFor (iList K (tVar 5)) (gName 6) (tAsg (tVar 4) (gSub (tVar 3) (tVar 6) rXSet))))
  (tRet (tComp (iList K (tVar 0)) (fun _ _ _ _ => (gName 0)) (fun _ _ _ _ => tAlways) (fun _ _ _ _ => (tOp rXGet (tVar 1) (tCall (sp_cards_of K) [] E0 (tCons (tVar 0) (tCons (tVar 2) tNil))))) [none, some 3, some 2]))))
theorem len_words_said {K : PySem.W.Frag} {vs : List V} {H : Hp} {Q : VK} {E : XK} (h : sp_words_said K vs H Q E) : vs.length = 3 := by
  obtain ⟨d, p, a, ws, L, hs, num, rfl, DA, ⟨ls, ep, pl⟩, ok, hw, hwl, hLl, hll, q⟩ := h
  rfl
theorem rd_words_said {K : PySem.W.Frag} {vs : List V} {H : Hp} {Q : VK} {E : XK} (h : sp_words_said K vs H Q E) : t_words_said K { nx := fun _ H' => Q .non H', rt := Q } (start ["deals", "words", "a", "numbers", "number", "word", "holding"] vs) H := by
  obtain ⟨d, p, a, ws, L, hs, num, rfl, DA, ⟨ls, ep, pl⟩, ok, hw, hwl, hLl, hll, q⟩ := h
  show t_words_said K _ [some _, some _, some _, none, none, none, none] _
  unfold t_words_said
  have hlL := prLen pl
  walk_at "rd"
  refine m_dnewX true fun k H1 hk s1 D1 => ?_
  walk_at "rs"
  refine r_seq ?_
  walk_at "rs"
  refine lp_enum (S := srcL) (ls.map V.ref) (SqL.of (s1 _ _ ep)) (fun i σ H2 => ∃ (u4 u5 u6 : Option V) (f : MK → Option V), σ = [some (.ref d), some (.ref p), some (.int a), some (.ref k), u4, u5, u6] ∧ Same H H2 ∧ Dx H2 k true f (i * 1000) ∧ ∀ x ∈ hs, num x < i → f (keyI x) = some (.int (num x : Int))) ⟨_, _, _, _, rfl, s1, D1, fun x _ h => by omega⟩ ?_ ?_ ?_
  · rintro i σ H2 hi ⟨u4, u5, u6, f, rfl, s2, D2, hf⟩
    exact SqL.of (s2 _ _ ep)
  · rintro i x T σ H2 H3 hx ⟨u4, u5, u6, f, rfl, s2, D2, hf⟩ hT s3 e3
    obtain ⟨l, hl, rfl⟩ := refs_at hx
    obtain ⟨w, hwi, ts, el, pt⟩ := prGet pl hl
    have hiL : i < L.length := (List.getElem?_eq_some_iff.mp hwi).1
    have hw1 := hll w (List.mem_of_getElem? hwi)
    have htl := prLen pt
    have s23 := s2.trans s3
    walk_at "rd"
    refine g_pair (SqT.of e3) ?_
    walk_at "rd"
    refine lp_list (ts.map V.ref) (SqL.of (s23 _ _ el)) (fun j σ H4 => ∃ (u6 : Option V) (f' : MK → Option V), σ = [some (.ref d), some (.ref p), some (.int a), some (.ref k), some (.int (i : Int)), some (.ref l), u6] ∧ Same H H4 ∧ Dx H4 k true f' (i * 1000 + j) ∧ (∀ x ∈ hs, num x < i → f' (keyI x) = some (.int (num x : Int))) ∧ ∀ x ∈ w.take j, f' (keyI x) = some (.int (i : Int))) ⟨_, f, rfl, s23, D2.same s3, hf, fun x h => by cases h⟩ ?_ ?_ ?_
    · rintro j σ H4 hj ⟨u6, f', rfl, s4, D4, hf', hg'⟩
      exact SqL.of (s4 _ _ el)
    · rintro j x σ H4 hx ⟨u6, f', rfl, s4, D4, hf', hg'⟩
      obtain ⟨t, ht, rfl⟩ := refs_at hx
      obtain ⟨y, hy, et⟩ := prGet pt ht
      have hjl : j < w.length := (List.getElem?_eq_some_iff.mp hy).1
      obtain ⟨hyh, hyn⟩ := ok.mem i w hwi y (List.mem_of_getElem? hy)
      walk_at "rd"
      refine r_xset D4 (key_i (s4 _ _ et)) rfl (by rw [sizeLine_eq]; omega) fun H5 o5 D5 => ?_
      refine ⟨_, _, rfl, s4.off hk o5, D5, fun x hx hn => ?_, fun x hx => ?_⟩
      · unfold putF_
        by_cases e : keyI x = keyI y
        · have := keyI_inj _ _ e
          subst this
          omega
        · rw [if_neg e]; exact hf' x hx hn
      · unfold putF_
        rw [rows_snoc hy] at hx
        by_cases e : keyI x = keyI y
        · rw [if_pos e]
        · rw [if_neg e]
          rcases List.mem_append.mp hx with hx | hx
          · exact hg' x hx
          · exact absurd (by rw [List.mem_singleton.mp hx]) e
    · rintro σ H4 ⟨u6, f', rfl, s4, D4, hf', hg'⟩
      rw [List.length_map, htl, List.take_length] at hg'
      rw [List.length_map, htl] at D4
      refine ⟨_, _, _, f', rfl, s4, D4.le (by omega), fun x hx hn => ?_⟩
      rcases Nat.lt_succ_iff_lt_or_eq.mp hn with hn | hn
      · exact hf' x hx hn
      · obtain ⟨l', h1, h2⟩ := ok.all x hx
        rw [hn, hwi] at h1
        cases h1
        rw [hg' x h2, hn]
  · rintro σ H2 ⟨u4, u5, u6, f, rfl, s2, D2, hf⟩
    rw [List.length_map, hlL] at hf
    obtain ⟨rs, ed, pd⟩ := id DA
    have hrl := prLen pd
    walk_at "rd"
    refine lc_list (rs.map V.ref) (SqL.of (s2 _ _ ed)) (by rw [List.length_map]; omega) (fun i acc _ => acc = natV ((ws.take i).map fun w => num (heldI w a))) (fun _ _ => rfl) ?_ ?_
    · rintro w hwn C s' H' fp i x acc H3 hx ⟨s3, e3, l3, rfl⟩
      obtain ⟨r, hr, rfl⟩ := refs_at hx
      obtain ⟨v, hv, ev⟩ := prGet pd hr
      obtain ⟨hvh, hv12⟩ := hw v (List.mem_of_getElem? hv)
      have ev3 : H3 r = some (.tup ((v.map fun (s : Nat) => ((s : Nat) : Int)).map V.int)) := by rw [← natV_ints]; exact s3 _ _ (s2 _ _ ev)
      walk_at "rd"
      refine ⟨r, _, a, rfl, SqT.of ev3, by rw [List.length_map]; omega, fun t H4 s4 e4 => ?_⟩
      rw [List.length_map] at e4
      have e4' : H4 t = some (.tup ((heldI v a).map V.int)) := e4
      obtain ⟨l', h1, _⟩ := ok.all _ hvh
      refine r_xget ((D2.same s3).same s4) (key_i e4') rfl (hf _ hvh (List.getElem?_eq_some_iff.mp h1).1) ?_
      refine CInv.put hwn (fun _ _ _ _ r _ => r) (s3.trans s4) (s4 _ _ e3) l3 ?_
      rw [rows_snoc hv, List.map_append]
      show _ = natV (_ ++ [num (heldI v a)])
      rw [← natV_snoc]
    · rintro w acc H3 hwn s3 e3 rfl
      rw [List.length_map, hrl, List.take_length] at e3
      exact q w H3 (s2.free hwn) (s2.trans s3) e3
noncomputable def IsView (v : List Nat) : Prop := ∀ (i m : Nat), v[i]? = some m → v[m]? = some m ∧ m ≤ i
noncomputable def LeastN (P : Nat → Prop) (j : Nat) : Prop := P j ∧ ∀ t, t < j → ¬ P t
theorem LeastN.uniq {P P' : Nat → Prop} (h : ∀ t, P t ↔ P' t) {j j' : Nat} (a : LeastN P j) (b : LeastN P' j') : j = j' := by
  rcases Nat.lt_trichotomy j j' with z | z | z
  · exact absurd ((h j).mp a.1) (b.2 j z)
  · exact z
  · exact absurd ((h j').mpr b.1) (a.2 j' z)
theorem LeastN.of {P P' : Nat → Prop} (h : ∀ t, P t ↔ P' t) {j : Nat} (a : LeastN P j) : LeastN P' j := ⟨(h j).mp a.1, fun t ht z => a.2 t ht ((h t).mpr z)⟩
noncomputable def UnP (v o : List Nat) (i j : Nat) : Prop := j < v.length ∧ v[j]? = v[i]? ∧ o[j]? ≠ o[i]?
theorem least_view {α : Type} [DecidableEq α] (ks : List α) : IsView (leastOf ks) := fun i m h => by
  obtain ⟨h1, h2, h3⟩ := least_fin h
  have hm : m < ks.length := by omega
  refine ⟨?_, h2⟩
  rw [← h]
  exact (least_ker hm h3).mpr h1
noncomputable def keyN (m : Nat) : MK := .inl (some (m : Int))
theorem keyN_inj {a b : Nat} (h : keyN a = keyN b) : a = b := by
  unfold keyN at h
  injection h with h
  injection h with h
  omega
noncomputable def sp_least_unlike (_ : PySem.W.Frag) : Sp := fun vs H Q _ => ∃ (a b : Addr) (v o : List Nat), vs = [.ref a, .ref b] ∧ H a = some (.lst (natV v)) ∧ H b = some (.lst (natV o)) ∧ v.length = o.length ∧ v.length ≤ 2000 ∧ IsView v ∧
  ∀ f (xs : List (Option Nat)) H', H f = none → Same H H' → H' f = some (.lst (xs.map optV)) → xs.length = v.length → (∀ i, i < v.length → (xs[i]? = some none ↔ ∀ j, j < v.length → v[j]? = v[i]? → o[j]? = o[i]?)) → (∀ i j, xs[i]? = some (some j) → LeastN (UnP v o i) j) → Q (.ref f) H'
noncomputable def t_least_unlike (K : PySem.W.Frag) : TS := (tSeq (tAsg mDnewX (gName 2))
  (tSeq (tFor (iEnum srcL K (tCons (tVar 0) tNil)) (gTup K 2 (gCons (gName 3) (gCons (gName 4) gNil))) (tIfS (tTest (tOp rNe (tOp (rIxL K) (tVar 1) (tVar 3)) (tOp (rIxL K) (tVar 1) (tVar 4)))) (tDrop (tXM rXSetd (tVar 2) (tCons (tVar 4) (tCons (tVar 3) tNil)))) tNext))
  (tRet (tComp (iEnum srcL K (tCons (tVar 0) tNil)) (fun _ _ _ _ => (gTup K 2 (gCons (gName 0) (gCons (gName 1) gNil)))) (fun _ _ _ _ => tAlways) (fun _ _ _ _ => (tIf (tTest (tOp rEq (tOp (rIxL K) (tVar 2) (tVar 0)) (tOp (rIxL K) (tVar 2) (tVar 1)))) (tXM rXGet1 (tVar 3) (tCons (tVar 1) tNil)) (tVar 1))) [none, none, some 1, some 2]))))
theorem nat_at' {ds : List Nat} {i : Nat} (h : i < ds.length) : atI (natV ds) (i : Int) = some (.int (ds.getD i 0 : Int)) := atI_nat (by unfold natV; rw [List.getElem?_map, List.getD_eq_getElem?_getD, List.getElem?_eq_getElem h]; rfl)
theorem getD_some {ds : List Nat} {i : Nat} (h : i < ds.length) : ds[i]? = some (ds.getD i 0) := by rw [List.getD_eq_getElem?_getD, List.getElem?_eq_getElem h]; rfl
theorem len_least_unlike {K : PySem.W.Frag} {vs : List V} {H : Hp} {Q : VK} {E : XK} (h : sp_least_unlike K vs H Q E) : vs.length = 2 := by
  obtain ⟨a, b, v, o, rfl, ea, eb, hl, hv, iv, q⟩ := h
  rfl
theorem rd_least_unlike {K : PySem.W.Frag} {vs : List V} {H : Hp} {Q : VK} {E : XK} (h : sp_least_unlike K vs H Q E) : t_least_unlike K { nx := fun _ H' => Q .non H', rt := Q } (start ["view", "other_view", "unlike", "thing", "least"] vs) H := by
  obtain ⟨a, b, v, o, rfl, ea, eb, hl, hv, iv, q⟩ := h
  show t_least_unlike K _ [some _, some _, none, none, none] _
  unfold t_least_unlike
  have lt : ∀ {i m : Nat}, v[i]? = some m → m < v.length := fun {i m} h => (List.getElem?_eq_some_iff.mp (iv i m h).1).1
  walk_at "rd"
  refine m_dnewX false fun k H1 hk s1 D1 => ?_
  walk_at "rs"
  refine r_seq ?_
  walk_at "rs"
  refine lp_enum (S := srcL) (natV v) (SqL.of (s1 _ _ ea)) (fun i σ H2 => ∃ (u3 u4 : Option V) (f : MK → Option V), σ = [some (.ref a), some (.ref b), some (.ref k), u3, u4] ∧ Same H H2 ∧ Dx H2 k false f i ∧ (∀ m x, f (keyN m) = some x → ∃ n : Nat, x = .int (n : Int) ∧ n < v.length ∧ v[n]? = some m ∧ o[n]? ≠ o[m]? ∧ ∀ t, t < n → v[t]? = some m → o[t]? = o[m]?) ∧ ∀ m, (f (keyN m)).isSome = true ↔ ∃ t, t < i ∧ v[t]? = some m ∧ o[t]? ≠ o[m]?) ⟨_, _, _, rfl, s1, D1, (fun m x h => by cases h), fun m => ⟨fun h => (by cases h), fun ⟨t, h, _⟩ => (by omega)⟩⟩ ?_ ?_ ?_
  · rintro i σ H2 hi ⟨u3, u4, f, rfl, s2, D2, hx, hf⟩
    exact SqL.of (s2 _ _ ea)
  · rintro i x T σ H2 H3 hxi ⟨u3, u4, f, rfl, s2, D2, hx, hf⟩ hT s3 e3
    obtain ⟨m, hm, rfl⟩ := nat_of hxi
    have hil : i < v.length := (List.getElem?_eq_some_iff.mp hm).1
    have hml := lt hm
    have s23 := s2.trans s3
    have eb3 := s23 _ _ eb
    walk_at "rd"
    refine g_pair (SqT.of e3) ?_
    walk_at "rd"
    refine r_ixL (SqL.of eb3) (nat_at' (by omega)) ?_
    walk_at "rd"
    refine r_ixL (SqL.of eb3) (nat_at' (by omega)) ?_
    walk_at "rd"
    have cmp : (((o.getD i 0 : Nat) : Int) = ((o.getD m 0 : Nat) : Int)) ↔ o[i]? = o[m]? := by
      rw [getD_some (show i < o.length by omega), getD_some (show m < o.length by omega)]
      constructor
      · intro h; rw [show o.getD i 0 = o.getD m 0 by omega]
      · intro h; injection h with h; omega
    have step : ∀ m', (∃ t, t < i + 1 ∧ v[t]? = some m' ∧ o[t]? ≠ o[m']?) ↔ (∃ t, t < i ∧ v[t]? = some m' ∧ o[t]? ≠ o[m']?) ∨ (m' = m ∧ o[i]? ≠ o[m]?) := fun m' => by
      constructor
      · rintro ⟨t, h1, h2, h3⟩
        rcases Nat.lt_succ_iff_lt_or_eq.mp h1 with h | h
        · exact .inl ⟨t, h, h2, h3⟩
        · subst h
          rw [hm] at h2
          cases h2
          exact .inr ⟨rfl, h3⟩
      · rintro (⟨t, h1, h2, h3⟩ | ⟨rfl, h⟩)
        · exact ⟨t, by omega, h2, h3⟩
        · exact ⟨i, by omega, hm, h⟩
    refine ite_ndec (fun hne => ?_) (fun heq => ?_)
    · have hne' : o[i]? ≠ o[m]? := fun z => hne (cmp.mpr z)
      walk_at "rd"
      refine r_xm ?_
      walk_at "rd"
      refine ⟨⟨k, false, f, i, rfl, D2.same s3⟩, ?_⟩
      walk_at "rd"
      refine r_xsetd (y := .int (m : Int)) (k := keyN m) (D2.same s3) (show KeyV H3 (.int (m : Int)) (keyN m) from rfl) rfl (by rw [sizeLine_eq]; omega) (fun u hu => ?_) (fun hn H4 o4 D4 => ?_)
      · walk_at "rd"
        refine ⟨_, _, f, rfl, s23, (D2.same s3).le (by omega), hx, fun m' => ?_⟩
        rw [step, hf m']
        constructor
        · exact .inl
        · rintro (h | ⟨rfl, _⟩)
          · exact h
          · exact (hf m').mp (by rw [hu]; rfl)
      · walk_at "rd"
        refine ⟨_, _, _, rfl, s23.off hk o4, D4, fun m' x hx' => ?_, fun m' => ?_⟩
        · unfold putF_ at hx'
          by_cases e : keyN m' = keyN m
          · rw [if_pos e] at hx'; cases hx'; obtain rfl := keyN_inj e; exact ⟨i, rfl, hil, hm, hne', fun t ht hvt => Classical.byContradiction fun h => by have := (hf m').mpr ⟨t, ht, hvt, h⟩; rw [hn] at this; cases this⟩
          · rw [if_neg e] at hx'; exact hx m' x hx'
        · unfold putF_
          rw [step]
          by_cases e : keyN m' = keyN m
          · rw [if_pos e]
            exact ⟨fun _ => .inr ⟨keyN_inj e, hne'⟩, fun _ => rfl⟩
          · rw [if_neg e, hf m']
            constructor
            · exact .inl
            · rintro (h | ⟨rfl, _⟩)
              · exact h
              · exact absurd rfl e
    · have heq' := cmp.mp heq
      walk_at "rd"
      refine ⟨_, _, f, rfl, s23, (D2.same s3).le (by omega), hx, fun m' => ?_⟩
      rw [step, hf m']
      constructor
      · exact .inl
      · rintro (h | ⟨_, h⟩)
        · exact h
        · exact absurd heq' h
  · rintro σ H2 ⟨u3, u4, f, rfl, s2, D2, hx, hf⟩
    rw [natV_len] at hf
    walk_at "rd"
    refine lc_enum (S := srcL) (natV v) (SqL.of (s2 _ _ ea)) (fun H' s => s.seq (SqL.of (s2 _ _ ea))) (by rw [natV_len]; omega) (fun i acc _ => ∃ xs : List (Option Nat), acc = xs.map optV ∧ xs.length = i ∧ (∀ t, t < i → (xs[t]? = some none ↔ ∀ j, j < v.length → v[j]? = v[t]? → o[j]? = o[t]?)) ∧ ∀ t j, t < i → xs[t]? = some (some j) → LeastN (UnP v o t) j) (fun _ _ => ⟨[], rfl, rfl, fun t h => by omega, fun t j h => by omega⟩) ?_ ?_
    · rintro w hw C s' H' fp i x T acc H3 H4 hxi ⟨s3, e3, l3, xs, rfl, hxl, hxs, hxm⟩ hT s4 e4 e5
      obtain ⟨m, hm, rfl⟩ := nat_of hxi
      have hil : i < v.length := (List.getElem?_eq_some_iff.mp hm).1
      have hml := lt hm
      have hvm := (iv i m hm).1
      have s34 := s3.trans s4
      have eb4 := s34 _ _ (s2 _ _ eb)
      have put : ∀ (z : Option Nat), (z = none ↔ ∀ j, j < v.length → v[j]? = v[i]? → o[j]? = o[i]?) → (∀ j, z = some j → LeastN (UnP v o i) j) → H4 w = some (.lst (xs.map optV)) ∧ CInv H2 w (fun i acc _ => ∃ xs : List (Option Nat), acc = xs.map optV ∧ xs.length = i ∧ (∀ t, t < i → (xs[t]? = some none ↔ ∀ j, j < v.length → v[j]? = v[t]? → o[j]? = o[t]?)) ∧ ∀ t j, t < i → xs[t]? = some (some j) → LeastN (UnP v o t) j) (i + 1) (xs.map optV ++ [optV z]) (upd H4 w (.lst (xs.map optV ++ [optV z]))) := by
        intro z hz hzm
        refine CInv.put hw (fun _ _ _ _ r _ => r) s34 e5 l3 ⟨xs ++ [z], by rw [List.map_append]; rfl, by rw [List.length_append, hxl]; rfl, fun t ht => ?_, fun t j ht hj => ?_⟩
        rotate_left
        · rcases Nat.lt_succ_iff_lt_or_eq.mp ht with h | h
          · rw [List.getElem?_append_left (by omega)] at hj; exact hxm t j h hj
          · rw [h, List.getElem?_append_right (by omega), hxl, Nat.sub_self] at hj
            rw [h]
            exact hzm j (by injection hj)
        rcases Nat.lt_succ_iff_lt_or_eq.mp ht with h | h
        · rw [List.getElem?_append_left (by omega)]; exact hxs t h
        · rw [h, List.getElem?_append_right (by omega), hxl, Nat.sub_self]
          rw [← hz]
          exact ⟨fun q => by injection q, fun q => by rw [q]; rfl⟩
      walk_at "rd"
      refine g_pair (SqT.of e4) ?_
      walk_at "rd"
      refine r_ixL (SqL.of eb4) (nat_at' (by omega)) ?_
      walk_at "rd"
      refine r_ixL (SqL.of eb4) (nat_at' (by omega)) ?_
      walk_at "rd"
      have cmp : (((o.getD i 0 : Nat) : Int) = ((o.getD m 0 : Nat) : Int)) ↔ o[i]? = o[m]? := by
        rw [getD_some (show i < o.length by omega), getD_some (show m < o.length by omega)]
        constructor
        · intro h; rw [show o.getD i 0 = o.getD m 0 by omega]
        · intro h; injection h with h; omega
      refine ite_dec (fun heq => ?_) (fun hne => ?_)
      · have heq' := cmp.mp heq
        walk_at "rd"
        refine r_xm ?_
        walk_at "rd"
        refine ⟨⟨k, false, f, _, rfl, D2.same s34⟩, ?_⟩
        walk_at "rd"
        refine r_xget1 (y := .int (m : Int)) (k := keyN m) (D2.same s34) (show KeyV H4 (.int (m : Int)) (keyN m) from rfl) rfl ?_
        have iff : (f (keyN m)).isSome = false ↔ ∀ j, j < v.length → v[j]? = v[i]? → o[j]? = o[i]? := by
          constructor
          · intro hn j hj hvj
            apply Classical.byContradiction
            intro hne
            have : (f (keyN m)).isSome = true := (hf m).mpr ⟨j, hj, by rw [hvj]; exact hm, by rw [← heq']; exact hne⟩
            rw [hn] at this
            cases this
          · intro hall
            cases hs : (f (keyN m)).isSome with
            | false => rfl
            | true =>
              obtain ⟨t, h1, h2, h3⟩ := (hf m).mp hs
              exact absurd ((hall t h1 (by rw [h2, hm])).trans heq') h3
        cases hfk : f (keyN m) with
        | none =>
          rw [hfk] at iff
          exact put none ⟨fun _ => iff.mp rfl, fun _ => rfl⟩ (fun j z => by cases z)
        | some x =>
          obtain ⟨n, rfl, hnl, hnv, hno, hnm⟩ := hx m x hfk
          rw [hfk] at iff
          refine put (some n) ⟨fun z => (by cases z), fun z => absurd (iff.mpr z) (by simp)⟩ (fun j z => ?_)
          cases z
          exact ⟨⟨hnl, by rw [hnv, hm], by rw [heq']; exact hno⟩, fun t ht ⟨_, h1, h2⟩ => h2 (by rw [heq']; exact hnm t ht (by rw [h1, hm]))⟩
      · walk_at "rd"
        refine put (some m) ⟨fun z => (by cases z), fun z => absurd (cmp.mpr ?_) hne⟩ (fun j z => ?_)
        · exact (z m hml (by rw [hvm, hm])).symm
        · cases z
          exact ⟨⟨hml, by rw [hvm, hm], fun z => hne (cmp.mpr z.symm)⟩, fun t ht ⟨_, h1, _⟩ => absurd (iv t m (by rw [h1, hm])).2 (by omega)⟩
    · rintro w acc H3 hw s3 e3 ⟨xs, rfl, hxl, hxs, hxm⟩
      rw [natV_len] at hxl hxs hxm
      exact q w xs H3 (s2.free hw) (s2.trans s3) e3 hxl hxs fun i j h => hxm i j (by rw [← hxl]; exact (List.getElem?_eq_some_iff.mp h).1) h

/-! ### what the third one is told -/
noncomputable def keyM (m c : Nat) : MK := .inr [.inl (some (m : Int)), .inl (some (c : Int))]
theorem keyM_inj {m c m' c' : Nat} (h : keyM m c = keyM m' c') : m = m' ∧ c = c' := by
  unfold keyM at h
  injection h with h
  injection h with h1 h2
  injection h1 with h1
  injection h1 with h1
  injection h2 with h2 _
  injection h2 with h2
  injection h2 with h2
  exact ⟨by omega, by omega⟩
theorem key_m {H : Hp} {t : Addr} {m c : Nat} (e : H t = some (.tup [.int (m : Int), .int (c : Int)])) : KeyV H (.ref t) (keyM m c) := ⟨t, _, rfl, e, .cons rfl (.cons rfl .nil)⟩
noncomputable def sp_least_unmoved (_ : PySem.W.Frag) : Sp := fun vs H Q _ => ∃ (r k : Addr) (w : List Nat) (m e : Nat) (f : MK → Option V) (n : Nat), vs = [.ref r, .int (m : Int), .ref k, .int (e : Int)] ∧ H r = some (.tup (natV w)) ∧ w.length ≤ 12 ∧ Dx H k true f n ∧
  ∀ (z : Option Nat) (H' : Hp), Same H H' → (z = none ↔ ∀ (c h : Nat), w[c]? = some h → h ≠ e → (f (keyM m c)).isSome = true) → (∀ c, z = some c → LeastN (fun c => ∃ h, w[c]? = some h ∧ h ≠ e ∧ (f (keyM m c)).isSome = false) c) → Q (optV z) H'
noncomputable def t_least_unmoved (K : PySem.W.Frag) : TS := (tSeq (tFor (iEnum srcT K (tCons (tVar 0) tNil)) (gTup K 2 (gCons (gName 4) (gCons (gName 5) gNil))) (tIfS (tAnd (tTest (tOp rNe (tVar 5) (tVar 3))) (tTest (tOp (rXIn true) (mTup (tCons (tVar 1) (tCons (tVar 4) tNil))) (tVar 2)))) (tRet (tVar 4)) tNext))
  (tRet (tC .non)))
theorem len_least_unmoved {K : PySem.W.Frag} {vs : List V} {H : Hp} {Q : VK} {E : XK} (h : sp_least_unmoved K vs H Q E) : vs.length = 4 := by
  obtain ⟨r, k, w, m, e, f, n, rfl, er, hw, D, q⟩ := h
  rfl
theorem rd_least_unmoved {K : PySem.W.Frag} {vs : List V} {H : Hp} {Q : VK} {E : XK} (h : sp_least_unmoved K vs H Q E) : t_least_unmoved K { nx := fun _ H' => Q .non H', rt := Q } (start ["deal", "least", "moved", "e", "card", "holder"] vs) H := by
  obtain ⟨r, k, w, m, e, f, n, rfl, er, hw, D, q⟩ := h
  show t_least_unmoved K _ [some _, some _, some _, some _, none, none] _
  unfold t_least_unmoved
  walk_at "rd"
  refine lp_enum (S := srcT) (natV w) (SqT.of er) (fun i σ H2 => ∃ (u4 u5 : Option V), σ = [some (.ref r), some (.int (m : Int)), some (.ref k), some (.int (e : Int)), u4, u5] ∧ Same H H2 ∧ ∀ c h, c < i → w[c]? = some h → h ≠ e → (f (keyM m c)).isSome = true) ⟨_, _, rfl, Same.refl _, fun c h z => by omega⟩ ?_ ?_ ?_
  · rintro i σ H2 hi ⟨u4, u5, rfl, s2, hf⟩
    exact SqT.of (s2 _ _ er)
  · rintro i x T σ H2 H3 hx ⟨u4, u5, rfl, s2, hf⟩ hT s3 e3
    obtain ⟨h, hh, rfl⟩ := nat_of hx
    have s23 := s2.trans s3
    have more : ((f (keyM m i)).isSome = true ∨ h = e) → ∀ c h', c < i + 1 → w[c]? = some h' → h' ≠ e → (f (keyM m c)).isSome = true := fun ho c h' hc hw' hne => by
      rcases Nat.lt_succ_iff_lt_or_eq.mp hc with z | z
      · exact hf c h' z hw' hne
      · subst z
        rw [hh] at hw'
        cases hw'
        exact ho.resolve_right hne
    walk_at "rd"
    refine g_pair (SqT.of e3) ?_
    walk_at "rd"
    refine ite_ndec (fun hne => ?_) (fun heq => ?_)
    · walk_at "rd"
      refine ⟨by simp [sizeLine_eq], fun t H4 ht s4 e4 => ?_⟩
      walk_at "rd"
      refine r_xnotin (D.same (s23.trans s4)) (key_m e4) rfl ?_
      cases hk : f (keyM m i) with
      | none =>
        walk_at "rd"
        refine iteT ?_
        walk_at "rd"
        refine q (some i) _ (s23.trans s4) ⟨fun z => (by cases z), fun z => ?_⟩ (fun c z => ?_)
        · have := z i h hh (fun y => hne (by rw [y]))
          rw [hk] at this
          cases this
        · cases z
          refine ⟨⟨h, hh, fun y => hne (by rw [y]), by rw [hk]; rfl⟩, fun t ht ⟨h', h1, h2, h3⟩ => ?_⟩
          have := hf t h' ht h1 h2
          rw [h3] at this
          cases this
      | some v =>
        walk_at "rd"
        refine iteF ?_
        walk_at "rd"
        exact ⟨_, _, rfl, s23.trans s4, more (.inl (by rw [hk]; rfl))⟩
    · walk_at "rd"
      exact ⟨_, _, rfl, s23, more (.inr (by omega))⟩
  · rintro σ H2 ⟨u4, u5, rfl, s2, hf⟩
    walk_at "rd"
    refine q none _ s2 ⟨fun _ c h hc hne => ?_, fun _ => rfl⟩ (fun c z => by cases z)
    exact hf c h (by rw [natV_len]; exact (List.getElem?_eq_some_iff.mp hc).1) hc hne
noncomputable def sp_least_told (_ : PySem.W.Frag) : Sp := fun vs H Q _ => ∃ (d p : Addr) (ws : List (List Nat)) (v : List Nat) (e : Nat) (n : Nat), vs = [.ref d, .ref p, .int (e : Int)] ∧ DealsAt H d ws ∧ H p = some (.lst (natV v)) ∧ v.length = ws.length ∧ ws.length ≤ 2000 ∧ n ≤ 12 ∧ (∀ w ∈ ws, w.length = n) ∧ IsView v ∧
  ∀ f (xs : List (Option Nat)) H', H f = none → Same H H' → H' f = some (.lst (xs.map optV)) → xs.length = ws.length → (∀ (i : Nat) (w : List Nat), ws[i]? = some w → (xs[i]? = some none ↔ ∀ (c h : Nat), w[c]? = some h → h ≠ e → ∃ (j : Nat) (w' : List Nat), ws[j]? = some w' ∧ v[j]? = v[i]? ∧ w'[c]? ≠ some h)) → (∀ (i : Nat) (w : List Nat) (c : Nat), ws[i]? = some w → xs[i]? = some (some c) → LeastN (fun c => ∃ h, w[c]? = some h ∧ h ≠ e ∧ ∀ (j : Nat) (w' : List Nat), ws[j]? = some w' → v[j]? = v[i]? → w'[c]? = some h) c) → Q (.ref f) H'
noncomputable def t_least_told (K : PySem.W.Frag) : TS := (tSeq (tAsg mDnewX (gName 3))
  (tSeq (tFor (iZip srcL srcL K (tCons (tVar 0) (tCons (tVar 1) tNil))) (gTup K 2 (gCons (gName 4) (gCons (gName 5) gNil))) (tFor (iEnum srcT K (tCons (tVar 4) tNil)) (gTup K 2 (gCons (gName 6) (gCons (gName 7) gNil))) (tIfS (tTest (tOp rNe (tVar 7) (tOp (rIxT K) (tOp (rIxL K) (tVar 0) (tVar 5)) (tVar 6)))) (tAsg (tC (.bl true)) (gSub (tVar 3) (mTup (tCons (tVar 5) (tCons (tVar 6) tNil))) rXSet)) tNext)))
  (tRet (tComp (iZip srcL srcL K (tCons (tVar 0) (tCons (tVar 1) tNil))) (fun _ _ _ _ => (gTup K 2 (gCons (gName 0) (gCons (gName 1) gNil)))) (fun _ _ _ _ => tAlways) (fun _ _ _ _ => (tCall (sp_least_unmoved K) [] E0 (tCons (tVar 0) (tCons (tVar 1) (tCons (tVar 2) (tCons (tVar 3) tNil)))))) [none, none, some 3, some 2]))))
theorem len_least_told {K : PySem.W.Frag} {vs : List V} {H : Hp} {Q : VK} {E : XK} (h : sp_least_told K vs H Q E) : vs.length = 3 := by
  obtain ⟨d, p, ws, v, e, n, rfl, DA, ep, hvl, hwl, hn, hwn, iv, q⟩ := h
  rfl
theorem rd_least_told {K : PySem.W.Frag} {vs : List V} {H : Hp} {Q : VK} {E : XK} (h : sp_least_told K vs H Q E) : t_least_told K { nx := fun _ H' => Q .non H', rt := Q } (start ["deals", "view", "e", "moved", "deal", "least", "card", "holder"] vs) H := by
  obtain ⟨d, p, ws, v, e, n, rfl, DA, ep, hvl, hwl, hn, hwn, iv, q⟩ := h
  show t_least_told K _ [some _, some _, some _, none, none, none, none, none] _
  unfold t_least_told
  obtain ⟨rs, ed, pd⟩ := id DA
  have hrl := prLen pd
  have lt : ∀ {i m : Nat}, v[i]? = some m → m < v.length := fun {i m} h => (List.getElem?_eq_some_iff.mp (iv i m h).1).1
  -- what is moved behind i deals
  let Mv : Nat → Nat → Nat → Prop := fun i m c => ∃ (j : Nat) (w' wm : List Nat), j < i ∧ ws[j]? = some w' ∧ v[j]? = some m ∧ ws[m]? = some wm ∧ w'[c]? ≠ wm[c]? ∧ c < n
  walk_at "rd"
  refine m_dnewX true fun k H1 hk s1 D1 => ?_
  walk_at "rs"
  refine r_seq ?_
  walk_at "rs"
  refine lp_zip (S1 := srcL) (S2 := srcL) (rs.map V.ref) (natV v) (SqL.of (s1 _ _ ed)) (SqL.of (s1 _ _ ep)) (fun i σ H2 => ∃ (u4 u5 u6 u7 : Option V) (f : MK → Option V), σ = [some (.ref d), some (.ref p), some (.int (e : Int)), some (.ref k), u4, u5, u6, u7] ∧ Same H H2 ∧ Dx H2 k true f (i * 12) ∧ ∀ m c, (f (keyM m c)).isSome = true ↔ Mv i m c) ⟨_, _, _, _, _, rfl, s1, D1, fun m c => ⟨fun h => (by cases h), fun ⟨j, _, _, h, _⟩ => (by omega)⟩⟩ ?_ ?_ ?_
  · rintro i σ H2 ⟨u4, u5, u6, u7, f, rfl, s2, D2, hf⟩
    exact ⟨SqL.of (s2 _ _ ed), SqL.of (s2 _ _ ep)⟩
  · rintro i x y T σ H2 H3 hx hy ⟨u4, u5, u6, u7, f, rfl, s2, D2, hf⟩ hT s3 e3
    obtain ⟨r, hr, rfl⟩ := refs_at hx
    obtain ⟨m, hm, rfl⟩ := nat_of hy
    obtain ⟨w, hw, ew⟩ := prGet pd hr
    have hwl' := hwn w (List.mem_of_getElem? hw)
    have hml := lt hm
    obtain ⟨rm, hrm⟩ : ∃ rm, rs[m]? = some rm := ⟨rs[m]'(by omega), List.getElem?_eq_getElem (by omega)⟩
    obtain ⟨wm, hwm, ewm⟩ := prGet pd hrm
    have hwml := hwn wm (List.mem_of_getElem? hwm)
    have hi2 : i < ws.length := (List.getElem?_eq_some_iff.mp hw).1
    have s23 := s2.trans s3
    walk_at "rd"
    refine g_pair (SqT.of e3) ?_
    walk_at "rd"
    refine lp_enum (S := srcT) (natV w) (SqT.of (s23 _ _ ew)) (fun c σ H4 => ∃ (u6 u7 : Option V) (f' : MK → Option V), σ = [some (.ref d), some (.ref p), some (.int (e : Int)), some (.ref k), some (.ref r), some (.int (m : Int)), u6, u7] ∧ Same H H4 ∧ Dx H4 k true f' (i * 12 + c) ∧ ∀ m' c', (f' (keyM m' c')).isSome = true ↔ Mv i m' c' ∨ (m' = m ∧ c' < c ∧ w[c']? ≠ wm[c']?)) ⟨_, _, f, rfl, s23, D2.same s3, fun m' c' => by rw [hf]; exact ⟨.inl, fun h => h.elim id fun ⟨_, z, _⟩ => by omega⟩⟩ ?_ ?_ ?_
    · rintro c σ H4 hc ⟨u6, u7, f', rfl, s4, D4, hf'⟩
      exact SqT.of (s4 _ _ ew)
    · rintro c x T' σ H4 H5 hx ⟨u6, u7, f', rfl, s4, D4, hf'⟩ hT' s5 e5
      obtain ⟨h, hh, rfl⟩ := nat_of hx
      have hcn : c < n := by rw [← hwl']; exact (List.getElem?_eq_some_iff.mp hh).1
      have s45 := s4.trans s5
      walk_at "rd"
      refine g_pair (SqT.of e5) ?_
      walk_at "rd"
      refine r_ixL (SqL.of (s45 _ _ ed)) (refs_get hrm) ?_
      walk_at "rd"
      refine r_ixT (SqT.of (s45 _ _ ewm)) (nat_at' (by omega)) ?_
      walk_at "rd"
      have hgm : wm[c]? = some (wm.getD c 0) := getD_some (by omega)
      have upd' : ∀ (P : Prop), (P ↔ w[c]? ≠ wm[c]?) → ∀ m' c', (Mv i m' c' ∨ (m' = m ∧ c' < c + 1 ∧ w[c']? ≠ wm[c']?)) ↔ (Mv i m' c' ∨ (m' = m ∧ c' < c ∧ w[c']? ≠ wm[c']?)) ∨ (m' = m ∧ c' = c ∧ P) := fun P hP m' c' => by
        constructor
        · rintro (h | ⟨rfl, h1, h2⟩)
          · exact .inl (.inl h)
          · rcases Nat.lt_succ_iff_lt_or_eq.mp h1 with z | z
            · exact .inl (.inr ⟨rfl, z, h2⟩)
            · subst z; exact .inr ⟨rfl, rfl, hP.mpr h2⟩
        · rintro ((h | ⟨rfl, h1, h2⟩) | ⟨rfl, rfl, h⟩)
          · exact .inl h
          · exact .inr ⟨rfl, by omega, h2⟩
          · exact .inr ⟨rfl, by omega, hP.mp h⟩
      refine ite_ndec (fun hne => ?_) (fun heq => ?_)
      · have hne' : w[c]? ≠ wm[c]? := fun z => by rw [hh, hgm] at z; injection z with z; exact hne (by omega)
        walk_at "rd"
        refine ⟨by simp [sizeLine_eq], fun t H6 ht s6 e6 => ?_⟩
        walk_at "rd"
        refine r_xset (D4.same (s5.trans s6)) (key_m e6) rfl (by rw [sizeLine_eq]; omega) fun H7 o7 D7 => ?_
        refine ⟨_, _, _, rfl, (s45.trans s6).off hk o7, D7, fun m' c' => ?_⟩
        rw [upd' True ⟨fun _ => hne', fun _ => trivial⟩]
        unfold putF_
        by_cases z : keyM m' c' = keyM m c
        · rw [if_pos z]
          obtain ⟨z1, z2⟩ := keyM_inj z
          exact ⟨fun _ => .inr ⟨z1, z2, trivial⟩, fun _ => rfl⟩
        · rw [if_neg z, hf']
          exact ⟨.inl, fun h => h.elim id fun ⟨z1, z2, _⟩ => absurd (by rw [z1, z2]) z⟩
      · have heq' : w[c]? = wm[c]? := by rw [hh, hgm, show h = wm.getD c 0 by omega]
        walk_at "rd"
        refine ⟨_, _, f', rfl, s45, (D4.same s5).le (by omega), fun m' c' => ?_⟩
        rw [upd' False ⟨False.elim, fun z => absurd heq' z⟩, hf']
        exact ⟨.inl, fun h => h.elim id fun ⟨_, _, z⟩ => z.elim⟩
    · rintro σ H4 ⟨u6, u7, f', rfl, s4, D4, hf'⟩
      rw [natV_len, hwl'] at hf' D4
      refine ⟨_, _, _, _, f', rfl, s4, D4.le (by omega), fun m' c' => ?_⟩
      rw [hf']
      constructor
      · rintro (⟨j, w', wm', h1, h2, h3, h4, h5, h6⟩ | ⟨rfl, h1, h2⟩)
        · exact ⟨j, w', wm', by omega, h2, h3, h4, h5, h6⟩
        · exact ⟨i, w, wm, by omega, hw, hm, hwm, h2, h1⟩
      · rintro ⟨j, w', wm', h1, h2, h3, h4, h5, h6⟩
        rcases Nat.lt_succ_iff_lt_or_eq.mp h1 with z | z
        · exact .inl ⟨j, w', wm', z, h2, h3, h4, h5, h6⟩
        · subst z
          rw [hw] at h2
          cases h2
          rw [hm] at h3
          cases h3
          rw [hwm] at h4
          cases h4
          exact .inr ⟨rfl, h6, h5⟩
  · rintro σ H2 ⟨u4, u5, u6, u7, f, rfl, s2, D2, hf⟩
    have hmin : min (rs.map V.ref).length (natV v).length = ws.length := by rw [List.length_map, natV_len]; omega
    rw [hmin] at hf
    walk_at "rd"
    refine lc_zip (S1 := srcL) (S2 := srcL) (rs.map V.ref) (natV v) (SqL.of (s2 _ _ ed)) (SqL.of (s2 _ _ ep)) (fun H' s => s.seq (SqL.of (s2 _ _ ed))) (fun H' s => s.seq (SqL.of (s2 _ _ ep))) (by rw [List.length_map]; omega) (fun i acc _ => ∃ xs : List (Option Nat), acc = xs.map optV ∧ xs.length = i ∧ (∀ (t : Nat) (w : List Nat), t < i → ws[t]? = some w → (xs[t]? = some none ↔ ∀ (c h : Nat), w[c]? = some h → h ≠ e → ∃ (j : Nat) (w' : List Nat), ws[j]? = some w' ∧ v[j]? = v[t]? ∧ w'[c]? ≠ some h)) ∧ ∀ (t : Nat) (w : List Nat) (c : Nat), t < i → ws[t]? = some w → xs[t]? = some (some c) → LeastN (fun c => ∃ h, w[c]? = some h ∧ h ≠ e ∧ ∀ (j : Nat) (w' : List Nat), ws[j]? = some w' → v[j]? = v[t]? → w'[c]? = some h) c) (fun _ _ => ⟨[], rfl, rfl, fun t w h => by omega, fun t w c h => by omega⟩) ?_ ?_
    · rintro wl hwl2 C s' H' fp i x y T acc H3 H4 hx hy ⟨s3, e3, l3, xs, rfl, hxl, hxs, hxm⟩ hT s4 e4 e5
      obtain ⟨r, hr, rfl⟩ := refs_at hx
      obtain ⟨m, hm, rfl⟩ := nat_of hy
      obtain ⟨w, hw, ew⟩ := prGet pd hr
      have hwl' := hwn w (List.mem_of_getElem? hw)
      have hml := lt hm
      have hi2 : i < ws.length := (List.getElem?_eq_some_iff.mp hw).1
      obtain ⟨wm, hwm⟩ : ∃ wm, ws[m]? = some wm := ⟨ws[m]'(by omega), List.getElem?_eq_getElem (by omega)⟩
      have hvm := (iv i m hm).1
      have s34 := s3.trans s4
      walk_at "rd"
      refine g_pair (SqT.of e4) ?_
      walk_at "rd"
      refine ⟨r, k, w, m, e, f, _, rfl, s34 _ _ (s2 _ _ ew), by omega, D2.same s34, fun z H6 s6 hz hzm => ?_⟩
      have key : ∀ (c h : Nat), w[c]? = some h → ((f (keyM m c)).isSome = true ↔ ∃ (j : Nat) (w' : List Nat), ws[j]? = some w' ∧ v[j]? = v[i]? ∧ w'[c]? ≠ some h) := fun c h hc => by
        have hcn : c < n := by rw [← hwl']; exact (List.getElem?_eq_some_iff.mp hc).1
        rw [hf]
        constructor
        · rintro ⟨j, w', wm', h1, h2, h3, h4, h5, h6⟩
          rw [hwm] at h4
          cases h4
          by_cases hcm : wm[c]? = some h
          · exact ⟨j, w', h2, by rw [h3, hm], by rw [← hcm]; exact h5⟩
          · exact ⟨m, wm, hwm, by rw [hvm, hm], hcm⟩
        · rintro ⟨j, w', h1, h2, h3⟩
          have hjl : j < ws.length := (List.getElem?_eq_some_iff.mp h1).1
          by_cases hcm : wm[c]? = some h
          · exact ⟨j, w', wm, hjl, h1, by rw [h2, hm], hwm, by rw [hcm]; exact h3, hcn⟩
          · exact ⟨i, w, wm, hi2, hw, hm, hwm, by rw [hc]; exact fun z => hcm z.symm, hcn⟩
      refine CInv.put hwl2 (fun _ _ _ _ r _ => r) (s34.trans s6) (s6 _ _ e5) l3 ⟨xs ++ [z], by rw [List.map_append]; rfl, by rw [List.length_append, hxl]; rfl, fun t w' ht hw' => ?_, fun t w' c ht hw' hj => ?_⟩
      rotate_left
      · rcases Nat.lt_succ_iff_lt_or_eq.mp ht with h | h
        · rw [List.getElem?_append_left (by omega)] at hj; exact hxm t w' c h hw' hj
        · subst h
          rw [hw] at hw'
          cases hw'
          rw [List.getElem?_append_right (by omega), hxl, Nat.sub_self] at hj
          refine (hzm c (by injection hj)).of fun c => ?_
          constructor
          · rintro ⟨h, h1, h2, h3⟩
            refine ⟨h, h1, h2, fun j w' hj hv => Classical.byContradiction fun hno => ?_⟩
            have := (key c h h1).mpr ⟨j, w', hj, hv, hno⟩
            rw [h3] at this
            cases this
          · rintro ⟨h, h1, h2, h3⟩
            refine ⟨h, h1, h2, ?_⟩
            cases hb : (f (keyM m c)).isSome with
            | false => rfl
            | true =>
              obtain ⟨j, w', g1, g2, g3⟩ := (key c h h1).mp hb
              exact absurd (h3 j w' g1 g2) g3
      rcases Nat.lt_succ_iff_lt_or_eq.mp ht with h | h
      · rw [List.getElem?_append_left (by omega)]; exact hxs t w' h hw'
      · subst h
        rw [hw] at hw'
        cases hw'
        rw [List.getElem?_append_right (by omega), hxl, Nat.sub_self]
        have hz' : ([z][0]? = some none) ↔ z = none := ⟨fun q => by injection q, fun q => by rw [q]; rfl⟩
        rw [hz', hz]
        constructor
        · intro hh c h hc hne; exact (key c h hc).mp (hh c h hc hne)
        · intro hh c h hc hne; exact (key c h hc).mpr (hh c h hc hne)
    · rintro wl acc H3 hwl2 s3 e3 ⟨xs, rfl, hxl, hxs, hxm⟩
      rw [hmin] at hxl hxs hxm
      exact q wl xs H3 (s2.free hwl2) (s2.trans s3) e3 hxl (fun i w hw => hxs i w (List.getElem?_eq_some_iff.mp hw).1 hw) fun i w c hw => hxm i w c (List.getElem?_eq_some_iff.mp hw).1 hw

end L2

end

section
-- KcRdW
set_option Elab.async false
set_option linter.all false
set_option maxRecDepth 100000
set_option maxHeartbeats 4000000
namespace L2
open PySem PyProof.Rows
theorem CInv.putW {H H4 : Hp} {p : Addr} {R : Nat → List V → Hp → Prop} {i : Nat} {acc : List V} {y : V} (hp : H p = none) (s : Same H H4) (e : H4 p = some (.lst acc)) (l : acc.length ≤ i) (r : ∀ H6, Off p H4 H6 → R (i + 1) (acc ++ [y]) H6) :
    H4 p = some (.lst acc) ∧ CInv H p R (i + 1) (acc ++ [y]) (upd H4 p (.lst (acc ++ [y]))) :=
  ⟨e, s.upd hp _, upd_same, by rw [List.length_append]; exact Nat.add_le_add_right l 1, r _ off_upd⟩
section
variable {g : CF TG} {tt : CF TT} {te : CF TE} {σ₀ : St} {Q : VK} {H : Hp} {K : PySem.W.Frag}
theorem lc_listW {a : Addr} (xs : List V) (hx : SqL K H a xs) (hz : xs.length ≤ 1000000) (R : Addr → Nat → List V → Hp → Prop) (h0 : ∀ p H', Same H H' → R p 0 [] H')
    (hs : ∀ p, H p = none → ∀ C s' H' fp, ∀ i x acc H2, xs[i]? = some x → CInv H p (R p) i acc H2 → g C s' H' fp x σ₀ H2 fun σ2 H3 => tt C s' H' fp σ2 H3 fun b H4 => if b = true then te C s' H' fp σ2 H4 fun y H5 => H5 p = some (.lst acc) ∧ CInv H p (R p) (i + 1) (acc ++ [y]) (upd H5 p (.lst (acc ++ [y]))) else CInv H p (R p) (i + 1) acc H4)
    (hd : ∀ p acc H2, H p = none → Same H H2 → H2 p = some (.lst acc) → R p xs.length acc H2 → Q (.ref p) H2) :
    ∃ a', V.ref a = .ref a' ∧ (∃ xs, SqL K H a' xs) ∧ ∀ p, H p = none → ∃ W : Nat → Nat → List V → Hp → Prop, (∃ m, W 0 m [] (upd H p (.lst []))) ∧ ∀ C s' H' fp, CompBody (Itl K a') (g C s' H' fp) (tt C s' H' fp) (te C s' H' fp) σ₀ p Q W :=
  ⟨a, rfl, ⟨xs, hx⟩, fun p hp => comp_list (CInv H p (R p)) ⟨same_new hp _, upd_same, Nat.le_refl _, h0 _ _ (same_new hp _)⟩ (fun i acc H2 _ c => ⟨c.2.1, c.2.2.1⟩) (fun i acc H2 _ c => c.1.seq hx) (by rw [sizeLine_eq]; omega) (fun C s' H' fp i x acc H2 hi c => hs p hp C s' H' fp i x acc H2 hi c) fun acc H2 c => hd p acc H2 hp c.1 c.2.1 c.2.2.2⟩
theorem lc_rangeW {j : Int} (n : Nat) (hn : j.toNat = n) (hj : j ≤ 1000000) (hj0 : -1000000 ≤ j) (R : Addr → Nat → List V → Hp → Prop) (h0 : ∀ p H', Same H H' → R p 0 [] H')
    (hs : ∀ p, H p = none → ∀ C s' H' fp, ∀ i acc H2, i < n → CInv H p (R p) i acc H2 → g C s' H' fp (.int i) σ₀ H2 fun σ2 H3 => tt C s' H' fp σ2 H3 fun b H4 => if b = true then te C s' H' fp σ2 H4 fun y H5 => H5 p = some (.lst acc) ∧ CInv H p (R p) (i + 1) (acc ++ [y]) (upd H5 p (.lst (acc ++ [y]))) else CInv H p (R p) (i + 1) acc H4)
    (hd : ∀ p acc H2, H p = none → Same H H2 → H2 p = some (.lst acc) → R p n acc H2 → Q (.ref p) H2) :
    ∃ j' : Int, [V.int j] = [.int j'] ∧ -(2 ^ 62) ≤ j' ∧ j' < 2 ^ 62 ∧ ∀ p, H p = none → ∃ W : Nat → Nat → List V → Hp → Prop, (∃ m, W 0 m [] (upd H p (.lst []))) ∧ ∀ C s' H' fp, CompBody (Itr 0 j'.toNat) (g C s' H' fp) (tt C s' H' fp) (te C s' H' fp) σ₀ p Q W := by
  refine ⟨j, rfl, by omega, by omega, fun p hp => ?_⟩
  subst hn
  exact comp_range (lo := 0) (CInv H p (R p)) ⟨same_new hp _, upd_same, Nat.le_refl _, h0 _ _ (same_new hp _)⟩ (fun i acc H2 _ c => ⟨c.2.1, c.2.2.1⟩) (by rw [sizeLine_eq]; omega) (fun C s' H' fp i acc H2 hi c => by rw [Int.zero_add]; exact hs p hp C s' H' fp i acc H2 hi c) fun acc H2 c => hd p acc H2 hp c.1 c.2.1 c.2.2.2
end
end L2

end

section
-- KcFl
set_option Elab.async false
set_option linter.all false
set_option maxRecDepth 100000
set_option maxHeartbeats 4000000
namespace L2
open PySem PyProof.Rows

/-! ### fails -/
noncomputable def FrV (H : Hp) : FR → V → Prop
  | .ok, v => v = .non
  | .friend d, v => ∃ t x, v = .ref t ∧ H t = some (.tup [.str "friend", .int (d : Int), x])
  | .third d, v => ∃ t x, v = .ref t ∧ H t = some (.tup [.str "third", .int (d : Int), x])
theorem FrV.same {H H' : Hp} (s : Same H H') {r : FR} {v : V} (h : FrV H r v) : FrV H' r v := by
  cases r with
  | ok => exact h
  | friend d => obtain ⟨t, x, e, q⟩ := h; exact ⟨t, x, e, s _ _ q⟩
  | third d => obtain ⟨t, x, e, q⟩ := h; exact ⟨t, x, e, s _ _ q⟩
noncomputable def FrW (ws : List (List Nat)) (a b : Int) (num : List Int → Nat) (i j : Nat) : Prop := ∃ (wi wj : List Nat), ws[i]? = some wi ∧ ws[j]? = some wj ∧ heldI wj b = heldI wi b ∧ num (heldI wj a) = num (heldI wi a) ∧ heldI wj a ≠ heldI wi a
noncomputable def ThW (ws : List (List Nat)) (a e : Int) (num : List Int → Nat) (i c : Nat) : Prop := ∃ (wi : List Nat) (h : Nat), ws[i]? = some wi ∧ wi[c]? = some h ∧ (h : Int) ≠ e ∧ ∀ (j : Nat) (wj : List Nat), ws[j]? = some wj → heldI wj e = heldI wi e → num (heldI wj a) = num (heldI wi a) → wj[c]? = some h
noncomputable def FrE (ws : List (List Nat)) (a b e : Int) (num : List Int → Nat) (H : Hp) : FR → V → Prop
  | .ok, _ => True
  | .friend d, v => ∃ (t : Addr) (j : Nat), v = .ref t ∧ H t = some (.tup [.str "friend", .int (d : Int), .int (j : Int)]) ∧ LeastN (FrW ws a b num d) j
  | .third d, v => ∃ (t : Addr) (c : Nat), v = .ref t ∧ H t = some (.tup [.str "third", .int (d : Int), .int (c : Int)]) ∧ LeastN (ThW ws a e num d) c
structure PackW (c : Nat) (ss : List Nat) : Prop where
  pk : Pack c ss
  few : KM.multi c ss ≤ 2000
  c7 : c ≤ 7
  l3 : 3 ≤ ss.length
noncomputable abbrev roomOf (c : Nat) (ss : List Nat) : List Nat := ss ++ [c - ss.sum]
theorem room_sum {c : Nat} {ss : List Nat} (h : ss.sum ≤ c) : (roomOf c ss).sum = c := by
  unfold roomOf
  rw [List.sum_append]
  simp
  omega
theorem nat_ia (said : List Nat) : (natV said).map iaV = (said.map fun (n : Nat) => (some (n : Int) : IA)).map some := by
  unfold natV
  rw [List.map_map, List.map_map]
  rfl
theorem cls_iff {ws : List (List Nat)} {h a : Int} {num : List Int → Nat} {i j : Nat} {wi wj : List Nat} (hi : ws[i]? = some wi) (hj : ws[j]? = some wj) :
    (splitL (firstL ws h) ((ws.map fun w => num (heldI w a)).map fun (n : Nat) => (some (n : Int) : IA)))[i]? = (splitL (firstL ws h) ((ws.map fun w => num (heldI w a)).map fun (n : Nat) => (some (n : Int) : IA)))[j]? ↔ heldI wi h = heldI wj h ∧ num (heldI wi a) = num (heldI wj a) := by
  have hil : i < ws.length := (List.getElem?_eq_some_iff.mp hi).1
  have hjl : j < ws.length := (List.getElem?_eq_some_iff.mp hj).1
  have hl : (firstL ws h).length = ((ws.map fun w => num (heldI w a)).map fun (n : Nat) => (some (n : Int) : IA)).length := by rw [firstL_len, List.length_map, List.length_map]
  unfold splitL
  rw [least_ker (by rw [List.length_zip, ← hl, firstL_len]; omega) (by rw [List.length_zip, ← hl, firstL_len]; omega), zip_ker hl (by rw [firstL_len]; exact hil) (by rw [firstL_len]; exact hjl)]
  unfold firstL
  rw [least_ker (by rw [List.length_map]; exact hil) (by rw [List.length_map]; exact hjl), List.getElem?_map, List.getElem?_map, hi, hj, List.getElem?_map, List.getElem?_map, List.getElem?_map, List.getElem?_map, hi, hj]
  constructor
  · rintro ⟨h1, h2⟩
    refine ⟨Option.some.inj h1, ?_⟩
    have h3 : (some ((num (heldI wi a) : Nat) : Int) : IA) = some ((num (heldI wj a) : Nat) : Int) := Option.some.inj h2
    injection h3 with h3
    omega
  · rintro ⟨h1, h2⟩
    exact ⟨congrArg some h1, congrArg (fun (n : Nat) => some (some (n : Int))) h2⟩
theorem first_iff {ws : List (List Nat)} {h : Int} {i j : Nat} {wi wj : List Nat} (hi : ws[i]? = some wi) (hj : ws[j]? = some wj) : (firstL ws h)[i]? = (firstL ws h)[j]? ↔ heldI wi h = heldI wj h := by
  have hil : i < ws.length := (List.getElem?_eq_some_iff.mp hi).1
  have hjl : j < ws.length := (List.getElem?_eq_some_iff.mp hj).1
  unfold firstL
  rw [least_ker (by rw [List.length_map]; exact hil) (by rw [List.length_map]; exact hjl), List.getElem?_map, List.getElem?_map, hi, hj]
  exact ⟨fun h => Option.some.inj h, fun h => congrArg some h⟩
noncomputable def sp_fails (_ : PySem.W.Frag) : Sp := fun vs H Q _ => ∃ (c : Nat) (z p : Addr) (ss : List Nat) (a b e : Nat) (L : List (List (List Int))) (num : List Int → Nat), vs = [.int (c : Int), .ref z, .ref p, .int (a : Int), .int (b : Int), .int (e : Int)] ∧ H z = some (.lst (natV ss)) ∧ PackW c ss ∧ a < ss.length ∧ b < ss.length ∧ e < ss.length ∧ WordsAt H p L ∧ CodeOk L (allH c (ss.getD a 0)) num ∧ L.length ≤ 1000 ∧ (∀ l ∈ L, l.length ≤ 1000) ∧
  ∀ (r : FR) (v : V) (H' : Hp), Same H H' → FRes (KM.level (roomOf c ss) c) (a : Int) (b : Int) (e : Int) num r → FrV H' r v → FrE (KM.level (roomOf c ss) c) (a : Int) (b : Int) (e : Int) num H' r v → Q v H'
noncomputable def t_fails (K : PySem.W.Frag) : TS := (tSeq (tAsg (tCall (sp_deals_of K) [] E0 (tCons (tVar 0) (tCons (tVar 1) tNil))) (gName 6))
  (tSeq (tAsg (tCall (sp_words_said K) [] E0 (tCons (tVar 6) (tCons (tVar 2) (tCons (tVar 3) tNil)))) (gName 7))
  (tSeq (tAsg (tCall (sp_least_unlike K) [] E0 (tCons (tCall (sp_split K) [] E0 (tCons (tCall (sp_first_view K) [] E0 (tCons (tVar 6) (tCons (tVar 4) tNil))) (tCons (tVar 7) tNil))) (tCons (tCall (sp_first_view K) [] E0 (tCons (tVar 6) (tCons (tVar 3) tNil))) tNil))) (gName 8))
  (tSeq (tAsg (tCall (sp_least_told K) [] E0 (tCons (tVar 6) (tCons (tCall (sp_split K) [] E0 (tCons (tCall (sp_first_view K) [] E0 (tCons (tVar 6) (tCons (tVar 5) tNil))) (tCons (tVar 7) tNil))) (tCons (tVar 5) tNil)))) (gName 9))
  (tSeq (tFor (iRng1 (tCons (tCB (cLen K) (tCons (tVar 6) tNil)) tNil)) (gName 10) (tSeq (tIfS (tTest (tOp rIsnNone (tOp (rIxL K) (tVar 8) (tVar 10)) (tC .non))) (tRet (mTup (tCons (tC (.str "friend")) (tCons (tVar 10) (tCons (tOp (rIxL K) (tVar 8) (tVar 10)) tNil))))) tNext)
  (tIfS (tTest (tOp rIsnNone (tOp (rIxL K) (tVar 9) (tVar 10)) (tC .non))) (tRet (mTup (tCons (tC (.str "third")) (tCons (tVar 10) (tCons (tOp (rIxL K) (tVar 9) (tVar 10)) tNil))))) tNext)))
  (tRet (tC .non)))))))
theorem len_fails {K : PySem.W.Frag} {vs : List V} {H : Hp} {Q : VK} {E : XK} (h : sp_fails K vs H Q E) : vs.length = 6 := by
  obtain ⟨c, z, p, ss, a, b, e, L, num, rfl, ez, pw, ha, hb, he, W, ok, hLl, hll, q⟩ := h
  rfl
theorem rd_fails {K : PySem.W.Frag} {vs : List V} {H : Hp} {Q : VK} {E : XK} (h : sp_fails K vs H Q E) : t_fails K { nx := fun _ H' => Q .non H', rt := Q } (start ["cards", "sizes", "words", "a", "b", "e", "deals", "said", "others", "told", "deal"] vs) H := by
  obtain ⟨c, z, p, ss, a, b, e, L, num, rfl, ez, pw, ha, hb, he, W, ok, hLl, hll, q⟩ := h
  show t_fails K _ [some _, some _, some _, some _, some _, some _, none, none, none, none, none] _
  unfold t_fails
  have hc7 := pw.c7
  walk_at "rd"
  refine ⟨c, z, ss, rfl, ez, pw.pk, pw.few, fun d H1 s1 hd D1 => ?_⟩
  have hsum := room_sum pw.pk.sum
  have hlen : (KM.level (roomOf c ss) c).length ≤ 2000 := by
    rw [show KM.level (roomOf c ss) c = KM.level (ss ++ [c - ss.sum]) c from rfl, KM.level_multi pw.pk.sum]
    exact pw.few
  generalize hws : KM.level (roomOf c ss) c = ws at *
  have fact : ∀ w ∈ ws, w.length = c ∧ (∀ j ∈ w, j < (roomOf c ss).length) ∧ ∀ j, j < (roomOf c ss).length → w.count j = (roomOf c ss).getD j 0 := fun w hw => deal_facts hsum (by rw [hws]; exact hw)
  have hheld : ∀ w ∈ ws, heldI w (a : Int) ∈ allH c (ss.getD a 0) ∧ w.length ≤ 12 := fun w hw => by
    obtain ⟨f1, _, f3⟩ := fact w hw
    refine ⟨held_all f1 ?_, by omega⟩
    rw [f3 a (by unfold roomOf; rw [List.length_append]; omega)]
    unfold roomOf
    rw [List.getD_eq_getElem?_getD, List.getD_eq_getElem?_getD, List.getElem?_append_left ha]
  walk_at "rd"
  refine ⟨d, p, (a : Int), ws, L, _, num, rfl, D1, W.same s1, ok, hheld, hlen, hLl, hll, fun sd H2 hsd s2 e2 => ?_⟩
  have hlw : ∀ w ∈ ws, w.length ≤ 1000 := fun w hw => by have := (fact w hw).1; omega
  have D2 := D1.same' s2
  walk_at "rd"
  refine ⟨d, ws, (b : Int), rfl, D2, hlw, by omega, fun fb H3 hfb s3 e3 => ?_⟩
  walk_at "rd"
  refine ⟨fb, sd, _, _, _, rfl, e3, s3 _ _ e2, nat_ia _, by rw [firstL_len, List.length_map, List.length_map], by rw [firstL_len]; omega, fun vb H4 hvb s4 e4 => ?_⟩
  have D4 := (D2.same' s3).same' s4
  walk_at "rd"
  refine ⟨d, ws, (a : Int), rfl, D4, hlw, by omega, fun fa H5 hfa s5 e5 => ?_⟩
  have hvl : ∀ h : Int, (splitL (firstL ws h) ((ws.map fun w => num (heldI w (a : Int))).map fun (n : Nat) => (some (n : Int) : IA))).length = ws.length := fun h => by rw [splitL_len (by rw [firstL_len, List.length_map, List.length_map]), firstL_len]
  walk_at "rd"
  refine ⟨vb, fa, _, _, rfl, s5 _ _ e4, e5, by rw [hvl, firstL_len], by rw [hvl]; omega, least_view _, fun ot xs H6 hot s6 e6 l6 x6 m6 => ?_⟩
  rw [hvl] at l6 x6
  have s26 := (s3.trans s4).trans (s5.trans s6)
  have D6 := D2.same' s26
  walk_at "rd"
  refine ⟨d, ws, (e : Int), rfl, D6, hlw, by omega, fun fe H7 hfe s7 e7 => ?_⟩
  walk_at "rd"
  refine ⟨fe, sd, _, _, _, rfl, e7, s7 _ _ (s26 _ _ e2), nat_ia _, by rw [firstL_len, List.length_map, List.length_map], by rw [firstL_len]; omega, fun ve H8 hve s8 e8 => ?_⟩
  have s68 := s7.trans s8
  walk_at "rd"
  refine ⟨d, ve, ws, _, e, c, rfl, D6.same' s68, e8, hvl _, hlen, by omega, fun w hw => (fact w hw).1, least_view _, fun tl ys H9 htl s9 e9 l9 y9 m9 => ?_⟩
  have s69 := s68.trans s9
  have e69 := s69 _ _ e6
  have D9 := D6.same' s69
  obtain ⟨rs, ed, pd⟩ := id D9
  have hrl := prLen pd
  have hFr : ∀ i, i < ws.length → (xs[i]? = some none ↔ ¬ Fr ws (a : Int) (b : Int) num i) := fun i hi => by
    have hwi : ws[i]? = some ws[i] := List.getElem?_eq_getElem hi
    rw [x6 i hi]
    constructor
    · rintro hall ⟨j, wi, wj, h1, h2, h3, h4, h5⟩
      have := hall j (List.getElem?_eq_some_iff.mp h2).1 ((cls_iff h2 h1).mpr ⟨h3, h4⟩)
      exact h5 ((first_iff h2 h1).mp this)
    · intro hn j hj hv
      have hwj : ws[j]? = some ws[j] := List.getElem?_eq_getElem hj
      obtain ⟨h3, h4⟩ := (cls_iff hwj hwi).mp hv
      refine (first_iff hwj hwi).mpr (Classical.byContradiction fun h5 => hn ⟨j, _, _, hwi, hwj, h3, h4, h5⟩)
  have hTh : ∀ i, i < ws.length → (ys[i]? = some none ↔ ¬ Th ws (a : Int) (e : Int) num i) := fun i hi => by
    have hwi : ws[i]? = some ws[i] := List.getElem?_eq_getElem hi
    rw [y9 i _ hwi]
    constructor
    · rintro hall ⟨wi, k, h, h1, h2, h3, h4⟩
      rw [hwi] at h1
      cases h1
      obtain ⟨j, w', q1, q2, q3⟩ := hall k h h2 (fun z => h3 (by rw [z]))
      obtain ⟨g1, g2⟩ := (cls_iff q1 hwi).mp q2
      exact q3 (h4 j w' q1 g1 g2)
    · intro hn k h hk hne
      apply Classical.byContradiction
      intro hno
      refine hn ⟨_, k, h, hwi, hk, fun z => hne (by omega), fun j wj hj h1 h2 => Classical.byContradiction fun h3 => hno ⟨j, wj, hj, (cls_iff hj hwi).mpr ⟨h1, h2⟩, h3⟩⟩
  have hFw : ∀ i, i < ws.length → ∀ j, xs[i]? = some (some j) → LeastN (FrW ws (a : Int) (b : Int) num i) j := fun i hi j hj => (m6 i j hj).of fun t => by
    have hwi : ws[i]? = some ws[i] := List.getElem?_eq_getElem hi
    constructor
    · rintro ⟨h1, h2, h3⟩
      rw [hvl] at h1
      have hwt : ws[t]? = some ws[t] := List.getElem?_eq_getElem h1
      obtain ⟨g1, g2⟩ := (cls_iff hwt hwi).mp h2
      exact ⟨_, _, hwi, hwt, g1, g2, fun z => h3 ((first_iff hwt hwi).mpr z)⟩
    · rintro ⟨wi, wt, h1, h2, h3, h4, h5⟩
      exact ⟨by rw [hvl]; exact (List.getElem?_eq_some_iff.mp h2).1, (cls_iff h2 h1).mpr ⟨h3, h4⟩, fun z => h5 ((first_iff h2 h1).mp z)⟩
  have hTw : ∀ i, i < ws.length → ∀ k, ys[i]? = some (some k) → LeastN (ThW ws (a : Int) (e : Int) num i) k := fun i hi k hk => by
    have hwi : ws[i]? = some ws[i] := List.getElem?_eq_getElem hi
    refine (m9 i _ k hwi hk).of fun t => ?_
    constructor
    · rintro ⟨h, h1, h2, h3⟩
      exact ⟨_, h, hwi, h1, fun z => h2 (by omega), fun j wj hj g1 g2 => h3 j wj hj ((cls_iff hj hwi).mpr ⟨g1, g2⟩)⟩
    · rintro ⟨wi, h, h1, h2, h3, h4⟩
      rw [hwi] at h1
      cases h1
      refine ⟨h, h2, fun z => h3 (by rw [z]), fun j wj hj hv => ?_⟩
      obtain ⟨g1, g2⟩ := (cls_iff hj hwi).mp hv
      exact h4 j wj hj g1 g2
  have s09 : Same H H9 := s1.trans (s2.trans (s26.trans s69))
  walk_at "rd"
  rw [List.length_map, hrl]
  refine lp_range ws.length (by omega) (by omega) (by omega) (fun i σ H10 => ∃ (u10 : Option V), σ = [some (.int (c : Int)), some (.ref z), some (.ref p), some (.int (a : Int)), some (.int (b : Int)), some (.int (e : Int)), some (.ref d), some (.ref sd), some (.ref ot), some (.ref tl), u10] ∧ H10 = H9 ∧ ∀ t, t < i → ¬ Fr ws (a : Int) (b : Int) num t ∧ ¬ Th ws (a : Int) (e : Int) num t) ⟨_, rfl, rfl, fun t h => by omega⟩ ?_ ?_
  · rintro i σ H10 hi ⟨u10, rfl, rfl, hpre⟩
    obtain ⟨x, hx⟩ : ∃ x, xs[i]? = some x := ⟨xs[i]'(by omega), List.getElem?_eq_getElem (by omega)⟩
    obtain ⟨y, hy⟩ : ∃ y, ys[i]? = some y := ⟨ys[i]'(by omega), List.getElem?_eq_getElem (by omega)⟩
    have hxo : atI (xs.map optV) (i : Int) = some (optV x) := atI_nat (by rw [List.getElem?_map, hx]; rfl)
    have hyo : atI (ys.map optV) (i : Int) = some (optV y) := atI_nat (by rw [List.getElem?_map, hy]; rfl)
    have hF := hFr i hi
    have hT := hTh i hi
    rw [hx] at hF
    rw [hy] at hT
    walk_at "rd"
    refine r_ixL (SqL.of e69) hxo ?_
    walk_at "rd"
    refine r_isnNone ?_
    rw [isN_opt]
    walk_at "rd"
    cases x with
    | some n =>
      refine iteT ?_
      walk_at "rd"
      refine r_ixL (SqL.of e69) hxo ?_
      walk_at "rd"
      refine ⟨by simp [sizeLine_eq], fun t H11 ht s11 e11 => ?_⟩
      refine q (.friend i) _ _ (s09.trans s11) ⟨hi, ?_, hpre⟩ ⟨t, _, rfl, e11⟩ ⟨t, n, rfl, e11, hFw i hi n hx⟩
      exact Classical.byContradiction fun hn => by have := hF.mpr hn; cases this
    | none =>
      refine iteF ?_
      walk_at "rd"
      refine r_ixL (SqL.of e9) hyo ?_
      walk_at "rd"
      refine r_isnNone ?_
      rw [isN_opt]
      walk_at "rd"
      cases y with
      | some n =>
        refine iteT ?_
        walk_at "rd"
        refine r_ixL (SqL.of e9) hyo ?_
        walk_at "rd"
        refine ⟨by simp [sizeLine_eq], fun t H11 ht s11 e11 => ?_⟩
        refine q (.third i) _ _ (s09.trans s11) ⟨hi, hF.mp rfl, ?_, hpre⟩ ⟨t, _, rfl, e11⟩ ⟨t, n, rfl, e11, hTw i hi n hy⟩
        exact Classical.byContradiction fun hn => by have := hT.mpr hn; cases this
      | none =>
        refine iteF ?_
        walk_at "rd"
        refine ⟨_, rfl, rfl, fun t ht => ?_⟩
        rcases Nat.lt_succ_iff_lt_or_eq.mp ht with h | h
        · exact hpre t h
        · subst h; exact ⟨hF.mp rfl, hT.mp rfl⟩
  · rintro σ H10 ⟨u10, rfl, rfl, hpre⟩
    walk_at "rd"
    exact q .ok _ _ s09 hpre rfl trivial
noncomputable def sp__law_cell_l (K : PySem.W.Frag) : Sp := fun vs H Q _ => ∃ (a : Addr) (ns : List Int) (k : Int), vs = [.ref a, .int k] ∧ ScriptOk K H a ns ∧ 0 ≤ k ∧ k ≤ 1000 ∧ ∀ z : Int, Q (.int z) H
theorem len__law_cell_l {K : PySem.W.Frag} {vs : List V} {H : Hp} {Q : VK} {E : XK} (h : sp__law_cell_l K vs H Q E) : vs.length = 2 := by
  obtain ⟨a, ns, k, rfl, h⟩ := h
  rfl
noncomputable def t__law_cell_l (K : PySem.W.Frag) : TS := (tSeq (tIfS (tTest (tOp (rI0 fun i j => .bl (decide (i < j))) (tVar 1) (tCB (cLen K) (tCons (tVar 0) tNil)))) (tRet (tOp (rIxL K) (tVar 0) (tVar 1))) tNext)
  (tSeq (tAsg (tOp (rI0 fun i j => .int (i + j)) (tOp (rI IntMulOk fun i j => .int (i * j)) (tVar 1) (tC (.int 7919))) (tC (.int 23))) (gName 2))
  (tSeq (tIfS (tTest (tOp (rI0 fun i j => .bl (decide (j < i))) (tCB (cLen K) (tCons (tVar 0) tNil)) (tC (.int 0)))) (tAsg (tOp (rI0 fun i j => .int (i + j)) (tOp (rI IntMulOk fun i j => .int (i * j)) (tOp (rI (fun _ j => 0 < j) fun i j => .int (i % j)) (tOp (rIxL K) (tVar 0) (tOp (rI (fun _ j => 0 < j) fun i j => .int (i % j)) (tOp (rI IntMulOk fun i j => .int (i * j)) (tVar 1) (tC (.int 5))) (tCB (cLen K) (tCons (tVar 0) tNil)))) (tC (.int 2147483647))) (tC (.int 48271))) (tOp (rI IntMulOk fun i j => .int (i * j)) (tVar 1) (tC (.int 7919)))) (gName 2)) tNext)
  (tSeq (tAsg (tOp (rI (fun _ j => 0 < j) fun i j => .int (i % j)) (tOp (rI IntMulOk fun i j => .int (i * j)) (tVar 2) (tVar 2)) (tC (.int 2147483629))) (gName 2))
  (tRet (tOp (rI (fun _ j => 0 < j) fun i j => .int (i % j)) (tOp (rI IntMulOk fun i j => .int (i * j)) (tVar 2) (tOp (rI0 fun i j => .int (i + j)) (tVar 2) (tC (.int 48271)))) (tC (.int 2147483647))))))))
noncomputable abbrev N__law_cell_l : List Str := ["_law_script", "_law_k", "_law_number"]
theorem rd__law_cell_l {K : PySem.W.Frag} {vs : List V} {H : Hp} {Q : VK} {E : XK} (h : sp__law_cell_l K vs H Q E) : t__law_cell_l K { nx := fun _ H' => Q .non H', rt := Q } (start N__law_cell_l vs) H := by
  obtain ⟨a, ns, k, rfl, ⟨hS, h63, hbits⟩, h0, h1, q⟩ := h
  show t__law_cell_l K _ [some _, some _, none] _
  unfold t__law_cell_l
  have hl : (ns.map V.int).length = ns.length := List.length_map _
  walk_at "rd"
  rw [hl]
  refine ite_dec (fun c => ?_) (fun c => ?_)
  · walk_at "rd"
    refine r_ixL hS (atI_ints h0 c) ?_
    exact q _
  · refine r_next ?_
    dsimp only
    refine r_seq ?_
    walk_at "rs"
    refine r_seq_n fun NX hNX => ?_
    have last : ∀ n0 : Int, 0 ≤ n0 → n0 ≤ 1000000000000000 → NX [some (.ref a), some (.int k), some (.int n0)] H := by
      intro n0 z0 z1
      refine hNX _ _ ?_
      walk_at "rd"
      exact q _
    walk_at "rs"
    rw [hl]
    refine ite_dec (fun d => ?_) (fun d => ?_)
    · have m1 : 0 ≤ k * 5 % (ns.length : Int) := Int.emod_nonneg _ (by omega)
      have m2 : k * 5 % (ns.length : Int) < (ns.length : Int) := Int.emod_lt_of_pos _ d
      walk_at "rs"
      rw [hl]
      refine r_ixL hS (atI_ints m1 m2) ?_
      walk_at "rs"
      refine last _ ?_ ?_ <;> omega
    · walk_at "rs"
      refine last _ ?_ ?_ <;> omega
noncomputable def sp__law_mixed_l (_ : PySem.W.Frag) : Sp := fun vs H Q _ => ∃ (b k : Int), vs = [.int b, .int k] ∧ 0 ≤ k ∧ k ≤ 100000 ∧ ∀ z : Int, 0 ≤ z → z ≤ 1000003 → Q (.int z) H
theorem len__law_mixed_l {K : PySem.W.Frag} {vs : List V} {H : Hp} {Q : VK} {E : XK} (h : sp__law_mixed_l K vs H Q E) : vs.length = 2 := by
  obtain ⟨b, k, rfl, h⟩ := h
  rfl
noncomputable def t__law_mixed_l (K : PySem.W.Frag) : TS := (tSeq (tAsg (tOp (rI (fun _ j => 0 < j) fun i j => .int (i % j)) (tOp (rI0 fun i j => .int (i + j)) (tOp (rI0 fun i j => .int (i + j)) (tOp (rI IntMulOk fun i j => .int (i * j)) (tOp (rI (fun _ j => 0 < j) fun i j => .int (i % j)) (tVar 0) (tC (.int 2147483647))) (tC (.int 48271))) (tOp (rI IntMulOk fun i j => .int (i * j)) (tVar 1) (tC (.int 69621)))) (tC (.int 3))) (tC (.int 2147483629))) (gName 2))
  (tSeq (tAsg (tOp (rI (fun _ j => 0 < j) fun i j => .int (i % j)) (tOp (rI IntMulOk fun i j => .int (i * j)) (tVar 2) (tOp (rI0 fun i j => .int (i + j)) (tVar 2) (tC (.int 40503)))) (tC (.int 2147483647))) (gName 2))
  (tRet (tOp (rI (fun _ j => 0 < j) fun i j => .int (i % j)) (tOp (rI IntMulOk fun i j => .int (i * j)) (tVar 2) (tOp (rI0 fun i j => .int (i + j)) (tVar 2) (tC (.int 7)))) (tC (.int 1000003))))))
noncomputable abbrev N__law_mixed_l : List Str := ["_law_cell_here", "_law_k", "_law_number"]
theorem rd__law_mixed_l {K : PySem.W.Frag} {vs : List V} {H : Hp} {Q : VK} {E : XK} (h : sp__law_mixed_l K vs H Q E) : t__law_mixed_l K { nx := fun _ H' => Q .non H', rt := Q } (start N__law_mixed_l vs) H := by
  obtain ⟨b, k, rfl, k0, k1, q⟩ := h
  show t__law_mixed_l K _ [some _, some _, none] _
  unfold t__law_mixed_l
  walk_at "rd"
  exact q _ (by omega) (by omega)

end L2

end

section
-- KcK57
set_option Elab.async false
set_option linter.all false
set_option maxRecDepth 100000
set_option maxHeartbeats 4000000
namespace L2
open PySem PyProof.Rows

/-! ### the law's holdings and lists -/
theorem r_popAt7 {l : Addr} {xs : List V} {k : Nat} {y : V} {H : Hp} {Q : VK} (e : H l = some (.lst xs)) (hk : xs[k]? = some y) (hl : xs.length ≤ 1000000) (h : ∀ H', Off l H H' → H' l = some (.lst (xs.eraseIdx k)) → Q y H') : rPopAt (.ref l) [.int (k : Int)] H Q := by
  have hlt : k < xs.length := (List.getElem?_eq_some_iff.mp hk).1
  refine ⟨l, xs, (k : Int), k, y, rfl, rfl, e, by omega, by omega, ?_, hk, h _ off_upd upd_same⟩
  unfold seqIndex?
  simp
  omega
theorem bit_one (i c : Nat) : Builtin.bitAnd ((i : Int) / 2 ^ c) 1 = ((i / 2 ^ c % 2 : Nat) : Int) := by
  have e : (i : Int) / 2 ^ c = ((i / 2 ^ c : Nat) : Int) := by rw [Int.natCast_ediv, Int.natCast_pow]; rfl
  rw [e]
  show ((((i / 2 ^ c : Nat) : Int).toNat &&& (1 : Int).toNat : Nat) : Int) = _
  rw [Int.toNat_natCast, show (1 : Int).toNat = 1 from rfl, Nat.and_one_is_mod]
noncomputable def sp__law_holdings (_ : PySem.W.Frag) : Sp := fun vs H Q _ => ∃ (c s : Nat), vs = [.int (c : Int), .int (s : Int)] ∧ c ≤ 7 ∧ ∀ f H', H f = none → Same H H' → HoldAt H' f (allH c s) → Q (.ref f) H'
noncomputable def t__law_holdings (K : PySem.W.Frag) : TS := (tSeq (tAsg (mLst tNil) (gName 2))
  (tSeq (tFor (iRng1 (tCons (tOp (rI CPow fun i j => .int (i * 2 ^ j.toNat)) (tC (.int 1)) (tVar 0)) tNil)) (gName 3) (tSeq (tAsg (tCB (mCTuple K) (tCons (tComp (iRng1 (tCons (tVar 0) tNil)) (fun _ _ _ _ => (gName 0)) (fun _ _ _ _ => (tTest (tOp rEq (tOp (rI0 fun i j => .int (Builtin.bitAnd i j)) (tOp (rI (fun _ j => 0 ≤ j) fun i j => .int (i / 2 ^ j.toNat)) (tVar 1) (tVar 0)) (tC (.int 1))) (tC (.int 1))))) (fun _ _ _ _ => (tVar 0)) [none, some 3]) tNil)) (gName 4))
  (tIfS (tTest (tOp rEq (tCB (cLen K) (tCons (tVar 4) tNil)) (tVar 1))) (tDrop (tBM K "list" rAppend (tVar 2) (tCons (tVar 4) tNil))) tNext)))
  (tRet (tVar 2))))
theorem len__law_holdings {K : PySem.W.Frag} {vs : List V} {H : Hp} {Q : VK} {E : XK} (h : sp__law_holdings K vs H Q E) : vs.length = 2 := by
  obtain ⟨c, s, rfl, hc, q⟩ := h
  rfl
theorem rd__law_holdings {K : PySem.W.Frag} {vs : List V} {H : Hp} {Q : VK} {E : XK} (h : sp__law_holdings K vs H Q E) : t__law_holdings K { nx := fun _ H' => Q .non H', rt := Q } (start ["_law_cards", "_law_size", "_law_found", "_law_bits", "_law_held"] vs) H := by
  obtain ⟨c, s, rfl, hc, q⟩ := h
  show t__law_holdings K _ [some _, some _, none, none, none] _
  unfold t__law_holdings
  have h2 : 2 ^ c ≤ 128 := Nat.pow_le_pow_right (n := 2) (by decide) hc
  walk_at "rd"
  refine ⟨by simp [sizeLine_eq], fun f H1 hf s1 e1 => ?_⟩
  walk_at "rd"
  have hp : (1 : Int) * 2 ^ ((c : Int).toNat) = ((2 ^ c : Nat) : Int) := by rw [Int.one_mul, Int.toNat_natCast, Int.natCast_pow]; rfl
  rw [hp]
  have hB : ((2 ^ c : Nat) : Int) ≤ ((128 : Nat) : Int) := Int.ofNat_le.mpr h2
  refine lp_range (2 ^ c) (Int.toNat_natCast _) (Int.le_trans hB (by decide)) (Int.le_trans (by decide) (Int.natCast_nonneg _)) (fun i σ H2 => ∃ (u3 u4 : Option V) (ts : List Addr), σ = [some (.int (c : Int)), some (.int (s : Int)), some (.ref f), u3, u4] ∧ Same H H2 ∧ H2 f = some (.lst (ts.map V.ref)) ∧ Paired (fun (t : Addr) (x : List Int) => H2 t = some (.tup (x.map V.int))) ts (((List.range i).map (holdOf c)).filter fun x => decide (x.length = s))) ⟨_, _, [], rfl, s1, e1, .nil⟩ ?_ ?_
  · rintro i σ H2 hi ⟨u3, u4, ts, rfl, s2, e2, p2⟩
    have htl : ts.length ≤ 128 := by
      have := prLen p2
      have h3 : (((List.range i).map (holdOf c)).filter fun x => decide (x.length = s)).length ≤ i := Nat.le_trans (List.length_filter_le _ _) (by rw [List.length_map, List.length_range]; exact Nat.le_refl _)
      omega
    walk_at "rd"
    refine lc_range c (by omega) (by omega) (by omega) (fun j acc _ => acc = (((List.range j).filter fun k => i / 2 ^ k % 2 == 1).map fun (k : Nat) => (k : Int)).map V.int) (fun _ _ => rfl) ?_ ?_
    · rintro w hw C s' H' fp j acc H3 hj ⟨s3, e3, l3, rfl⟩
      walk_at "rd"
      refine r_I (C := fun _ j => 0 ≤ j) (by omega) ?_
      walk_at "rd"
      rw [Int.toNat_natCast, bit_one]
      refine ite_dec (fun h => ?_) (fun h => ?_)
      · walk_at "rd"
        refine CInv.put hw (fun _ _ _ _ r _ => r) s3 e3 l3 ?_
        rw [List.range_succ, List.filter_append, List.filter_cons_of_pos (by simp; omega), List.filter_nil, List.map_append, List.map_append]
        rfl
      · refine CInv.skip s3 e3 l3 ?_
        rw [List.range_succ, List.filter_append, List.filter_cons_of_neg (by simp; omega), List.filter_nil, List.append_nil]
    rintro w acc H3 hw s3 e3 rfl
    walk_at "rd"
    refine m_tuple (SqL.of e3) fun t H4 ht s4 e4 => ?_
    have s34 := s3.trans s4
    have e24 := s34 _ _ e2
    have e4' : H4 t = some (.tup ((holdOf c i).map V.int)) := e4
    have hsn : ((List.range (i + 1)).map (holdOf c)).filter (fun x => decide (x.length = s)) = ((List.range i).map (holdOf c)).filter (fun x => decide (x.length = s)) ++ if (holdOf c i).length = s then [holdOf c i] else [] := by
      rw [List.range_succ, List.map_append, List.filter_append]
      congr 1
      by_cases z : (holdOf c i).length = s
      · rw [if_pos z]; exact List.filter_cons_of_pos (decide_eq_true z)
      · rw [if_neg z]; exact List.filter_cons_of_neg (by rw [decide_eq_false z]; exact Bool.false_ne_true)
    walk_at "rd"
    rw [List.length_map]
    refine ite_dec (fun h => ?_) (fun h => ?_)
    · have h' : (holdOf c i).length = s := by have : ((holdOf c i).length : Int) = (s : Int) := h; omega
      walk_at "rd"
      refine ⟨r_tyL e24, ?_⟩
      walk_at "rd"
      refine r_append e24 (by rw [List.length_map, sizeLine_eq]; omega) fun H5 o5 e5 => ?_
      have k5 := o5.keep e24
      walk_at "rd"
      refine ⟨_, _, ts ++ [t], rfl, (s2.trans s34).off hf o5, by rw [e5, List.map_append]; rfl, ?_⟩
      rw [hsn, if_pos h']
      exact pr_snoc (Paired.mapP p2 fun _ _ q => k5 _ _ (s34 _ _ q)) (k5 _ _ e4')
    · have h' : ¬ (holdOf c i).length = s := fun z => h (by show ((holdOf c i).length : Int) = _; omega)
      walk_at "rd"
      refine ⟨_, _, ts, rfl, s2.trans s34, e24, ?_⟩
      rw [hsn, if_neg h', List.append_nil]
      exact Paired.mapP p2 fun _ _ q => s34 _ _ q
  · rintro σ H2 ⟨u3, u4, ts, rfl, s2, e2, p2⟩
    walk_at "rd"
    exact q f H2 hf s2 ⟨ts, e2, p2⟩
noncomputable def byNum (hs : List (List Int)) (nb : Nat → Nat) (i c : Nat) : List (List Int) := ((List.range i).filter fun k => nb k == c).map fun k => hs.getD k []
theorem byNum_ok {hs : List (List Int)} (nd : hs.Nodup) {nb : Nat → Nat} {m : Nat} (hn : ∀ k, k < hs.length → nb k < m) : CodeOk ((List.range m).map (byNum hs nb hs.length)) hs (fun x => nb (hs.idxOf x)) := by
  have ix : ∀ k, k < hs.length → hs.idxOf (hs.getD k []) = k := fun k hk => by
    rw [List.getD_eq_getElem?_getD, List.getElem?_eq_getElem hk]
    show hs.idxOf hs[k] = k
    have h1 : hs.idxOf hs[k] < hs.length := List.idxOf_lt_length_iff.mpr (List.getElem_mem hk)
    have h2 : hs[hs.idxOf hs[k]]? = hs[k]? := by rw [List.getElem?_eq_getElem h1, List.getElem?_eq_getElem hk, List.getElem_idxOf]
    exact (List.getElem?_inj h1 nd).mp h2
  constructor
  · intro i l hl x hx
    rw [List.getElem?_map] at hl
    cases hr : (List.range m)[i]? with
    | none => rw [hr] at hl; cases hl
    | some i' =>
      have : i' = i := by
        obtain ⟨h1, h2⟩ := List.getElem?_eq_some_iff.mp hr
        rw [List.getElem_range] at h2
        exact h2.symm
      subst this
      rw [hr] at hl
      cases hl
      obtain ⟨k, hk, rfl⟩ := List.mem_map.mp hx
      obtain ⟨h1, h2⟩ := List.mem_filter.mp hk
      have hkl := List.mem_range.mp h1
      refine ⟨?_, ?_⟩
      · rw [List.getD_eq_getElem?_getD, List.getElem?_eq_getElem hkl]; exact List.getElem_mem hkl
      · show nb (hs.idxOf (hs.getD k [])) = _
        rw [ix k hkl]; exact beq_iff_eq.mp h2
  · intro x hx
    have hlt : hs.idxOf x < hs.length := List.idxOf_lt_length_iff.mpr hx
    refine ⟨byNum hs nb hs.length (nb (hs.idxOf x)), by rw [List.getElem?_map, List.getElem?_range (hn _ hlt)]; rfl, ?_⟩
    refine List.mem_map.mpr ⟨hs.idxOf x, List.mem_filter.mpr ⟨List.mem_range.mpr hlt, beq_self_eq_true _⟩, ?_⟩
    rw [List.getD_eq_getElem?_getD, List.getElem?_eq_getElem hlt]
    exact List.getElem_idxOf hlt
theorem byNum_len (hs : List (List Int)) (nb : Nat → Nat) (i c : Nat) : (byNum hs nb i c).length ≤ i := by
  unfold byNum
  rw [List.length_map]
  exact Nat.le_trans (List.length_filter_le _ _) (by rw [List.length_range]; exact Nat.le_refl _)
theorem paired_of {α β : Type} {F : α → β → Prop} : ∀ {l : List α} {m : List β}, l.length = m.length → (∀ (i : Nat) (x : α) (y : β), l[i]? = some x → m[i]? = some y → F x y) → Paired F l m
  | [], [], _, _ => .nil
  | x :: l, y :: m, hl, h => .cons (h 0 x y rfl rfl) (paired_of (by simpa using hl) fun i a b ha hb => h (i + 1) a b ha hb)
  | [], _ :: _, hl, _ => by simp at hl
  | _ :: _, [], hl, _ => by simp at hl
end L2

end

section
-- KcK57b
set_option Elab.async false
set_option linter.all false
set_option maxRecDepth 100000
set_option maxHeartbeats 4000000
namespace L2
open PySem PyProof.Rows

/-! ### three hands; two lists put together -/
noncomputable def sp__law_three (_ : PySem.W.Frag) : Sp := fun vs H Q _ => ∃ (z : Int) (m : Nat), vs = [.int z, .int (m : Int)] ∧ 3 ≤ m ∧ m ≤ 1000 ∧ ∀ (f : Addr) (a b e : Nat) H', H f = none → Same H H' → H' f = some (.lst [.int (a : Int), .int (b : Int), .int (e : Int)]) → a < m → b < m → e < m → Q (.ref f) H'
noncomputable def t__law_three (K : PySem.W.Frag) : TS := (tSeq (tAsg (mLRng (tCons (tVar 1) tNil)) (gName 2))
  (tSeq (tAsg (mLst tNil) (gName 3))
  (tSeq (tFor (iRng1 (tCons (tC (.int 3)) tNil)) (gName 4) (tSeq (tDrop (tBM K "list" rAppend (tVar 3) (tCons (tBM K "list" rPopAt (tVar 2) (tCons (tOp (rI (fun _ j => 0 < j) fun i j => .int (i % j)) (tVar 0) (tCB (cLen K) (tCons (tVar 2) tNil))) tNil)) tNil)))
  (tAsg (tOp (rI CDiv fun i j => .int (i / j)) (tVar 0) (tC (.int 7))) (gName 0))))
  (tRet (tVar 3)))))
theorem nat_erase (xs : List Nat) (k : Nat) : (natV xs).eraseIdx k = natV (xs.eraseIdx k) := by
  induction xs generalizing k with
  | nil => rfl
  | cons a xs ih => cases k with
    | zero => rfl
    | succ k => show _ :: (natV xs).eraseIdx k = _ ; rw [ih]; rfl
theorem len__law_three {K : PySem.W.Frag} {vs : List V} {H : Hp} {Q : VK} {E : XK} (h : sp__law_three K vs H Q E) : vs.length = 2 := by
  obtain ⟨z, m, rfl, h3, hm, q⟩ := h
  rfl
theorem rd__law_three {K : PySem.W.Frag} {vs : List V} {H : Hp} {Q : VK} {E : XK} (h : sp__law_three K vs H Q E) : t__law_three K { nx := fun _ H' => Q .non H', rt := Q } (start ["_law_cell_here", "_law_many", "_law_left", "_law_found", "_law_k"] vs) H := by
  obtain ⟨z, m, rfl, h3, hm, q⟩ := h
  show t__law_three K _ [some _, some _, none, none, none] _
  unfold t__law_three
  walk_at "rd"
  refine m_lrng ?_
  walk_at "rd"
  refine ⟨m, rfl, by omega, fun c0 H1 hc0 s1 e1 => ?_⟩
  refine ⟨c0, m, rfl, e1, by omega, fun l H2 hl s2 e2 => ?_⟩
  walk_at "rd"
  refine ⟨by simp [sizeLine_eq], fun f H3 hf s3 e3 => ?_⟩
  have s12 := s1.trans s2
  have s03 := s12.trans s3
  walk_at "rd"
  refine lp_range 3 rfl (by decide) (by decide) (fun i σ H4 => ∃ (z' : Int) (u4 : Option V) (ls fs : List Nat), σ = [some (.int z'), some (.int (m : Int)), some (.ref l), some (.ref f), u4] ∧ Same H H4 ∧ H4 l = some (.lst (natV ls)) ∧ H4 f = some (.lst (natV fs)) ∧ fs.length = i ∧ ls.length = m - i ∧ (∀ x ∈ ls, x < m) ∧ (∀ x ∈ fs, x < m)) ⟨z, _, List.range m, [], rfl, s03, by rw [s3 _ _ e2]; rfl, e3, rfl, by rw [List.length_range]; rfl, fun x hx => List.mem_range.mp hx, fun x hx => by (cases hx)⟩ ?_ ?_
  · rintro i σ H4 hi ⟨z', u4, ls, fs, rfl, s4, el, ef, lf, ll, hls, hfs⟩
    have nlf : l ≠ f := ne_of_none e2 hf
    have hzl : H l = none := s1.free hl
    have hzf : H f = none := s12.free hf
    walk_at "rd"
    refine ⟨r_tyL ef, ?_⟩
    walk_at "rd"
    refine ⟨r_tyL el, ?_⟩
    walk_at "rd"
    have hll : (natV ls).length = ls.length := List.length_map ..
    rw [hll]
    have hp : 0 < (ls.length : Int) := by omega
    walk_at "rd"
    obtain ⟨k, hk, hkl⟩ : ∃ k : Nat, z' % (ls.length : Int) = (k : Int) ∧ k < ls.length := by
      have a1 := Int.emod_nonneg z' (b := (ls.length : Int)) (by omega)
      have a2 := Int.emod_lt_of_pos z' hp
      exact ⟨(z' % (ls.length : Int)).toNat, by omega, by omega⟩
    rw [hk]
    refine r_popAt7 (y := .int ((ls.getD k 0 : Nat) : Int)) el (by unfold natV; rw [List.getElem?_map, List.getD_eq_getElem?_getD, List.getElem?_eq_getElem hkl]; rfl) (by omega) fun H5 o5 e5 => ?_
    have ef5 : H5 f = some (.lst (natV fs)) := by rw [o5 f nlf.symm]; exact ef
    have hfl : (natV fs).length = fs.length := List.length_map ..
    walk_at "rd"
    refine r_append ef5 (by rw [hfl, sizeLine_eq]; omega) fun H6 o6 e6 => ?_
    walk_at "rd"
    rw [nat_erase] at e5
    refine ⟨_, _, ls.eraseIdx k, fs ++ [ls.getD k 0], rfl, (s4.off hzl o5).off hzf o6, by rw [o6 l nlf]; exact e5, by rw [e6]; unfold natV; rw [List.map_append]; rfl, by rw [List.length_append, lf]; rfl, by rw [List.length_eraseIdx_of_lt hkl]; omega, fun x hx => hls x (List.mem_of_mem_eraseIdx hx), fun x hx => ?_⟩
    rcases List.mem_append.mp hx with hx | hx
    · exact hfs x hx
    · rw [List.mem_singleton.mp hx, List.getD_eq_getElem?_getD, List.getElem?_eq_getElem hkl]
      exact hls _ (List.getElem_mem hkl)
  · rintro σ H4 ⟨z', u4, ls, fs, rfl, s4, el, ef, lf, ll, hls, hfs⟩
    walk_at "rd"
    match fs, lf, ef, hfs with
    | [a, b, e], _, ef, hfs => exact q f a b e H4 (s12.free hf) s4 ef (hfs a (by simp)) (hfs b (by simp)) (hfs e (by simp))
noncomputable def HoldOff (p : Addr) (H : Hp) (b : Addr) (x : List (List Int)) : Prop := b ≠ p ∧ HoldAt H b x
theorem HoldOff.same {p : Addr} {H H' : Hp} (s : Same H H') {b : Addr} {x : List (List Int)} (h : HoldOff p H b x) : HoldOff p H' b x := ⟨h.1, h.2.same s⟩
theorem HoldOff.off {p : Addr} {H H' : Hp} {xs : List V} (o : Off p H H') (e : H p = some (.lst xs)) {b : Addr} {x : List (List Int)} (h : HoldOff p H b x) : HoldOff p H' b x := by
  obtain ⟨n, ts, e1, p1⟩ := h
  exact ⟨n, ts, by rw [o b n]; exact e1, Paired.mapP p1 fun _ _ q => o.keep e _ _ q⟩
noncomputable def sp__law_fails (_ : PySem.W.Frag) : Sp := fun vs H Q _ => ∃ (c : Nat) (z p h : Addr) (ss : List Nat) (a b e : Nat) (L : List (List (List Int))) (num : List Int → Nat), vs = [.int (c : Int), .ref z, .ref p, .ref h] ∧ H z = some (.lst (natV ss)) ∧ PackW c ss ∧ a < ss.length ∧ b < ss.length ∧ e < ss.length ∧ WordsAt H p L ∧ CodeOk L (allH c (ss.getD a 0)) num ∧ L.length ≤ 1000 ∧ (∀ l ∈ L, l.length ≤ 1000) ∧ H h = some (.lst [.int (a : Int), .int (b : Int), .int (e : Int)]) ∧
  ∀ (r : FR) (v : V) (H' : Hp), Same H H' → FRes (KM.level (roomOf c ss) c) (a : Int) (b : Int) (e : Int) num r → FrV H' r v → FrE (KM.level (roomOf c ss) c) (a : Int) (b : Int) (e : Int) num H' r v → Q v H'
noncomputable def t__law_fails (K : PySem.W.Frag) : TS := (tRet (tCall (sp_fails K) [] E0 (tCons (tVar 0) (tCons (tCB (mCList K) (tCons (tVar 1) tNil)) (tCons (tComp (iList K (tVar 2)) (fun _ _ _ _ => (gName 0)) (fun _ _ _ _ => tAlways) (fun _ _ _ _ => (tCB (mCList K) (tCons (tVar 0) tNil))) [none]) (tCons (tOp (rIxL K) (tVar 3) (tC (.int 0))) (tCons (tOp (rIxL K) (tVar 3) (tC (.int 1))) (tCons (tOp (rIxL K) (tVar 3) (tC (.int 2))) tNil))))))))
theorem len__law_fails {K : PySem.W.Frag} {vs : List V} {H : Hp} {Q : VK} {E : XK} (h : sp__law_fails K vs H Q E) : vs.length = 4 := by
  obtain ⟨c, z, p, h, ss, a, b, e, L, num, rfl, ez, pw, ha, hb, he, W, ok, hLl, hll, eh, q⟩ := h
  rfl
theorem rd__law_fails {K : PySem.W.Frag} {vs : List V} {H : Hp} {Q : VK} {E : XK} (h : sp__law_fails K vs H Q E) : t__law_fails K { nx := fun _ H' => Q .non H', rt := Q } (start ["_law_cards", "_law_sizes", "_law_lists_here", "_law_hands"] vs) H := by
  obtain ⟨c, z, p, h, ss, a, b, e, L, num, rfl, ez, pw, ha, hb, he, W, ok, hLl, hll, eh, q⟩ := h
  show t__law_fails K _ [some _, some _, some _, some _] _
  unfold t__law_fails
  obtain ⟨ls, ep, pl⟩ := id W
  have lll := prLen pl
  walk_at "rd"
  refine m_list (SqL.of ez) fun z1 H1 hz1 s1 e1 => ?_
  walk_at "rd"
  refine lc_listW (ls.map V.ref) (SqL.of (s1 _ _ ep)) (by rw [List.length_map]; omega) (fun w k acc H2 => ∃ bs : List Addr, acc = bs.map V.ref ∧ Paired (HoldOff w H2) bs (L.take k)) (fun w H' s => ⟨[], rfl, .nil⟩) ?_ ?_
  · rintro w hw C s' H' fp k x acc H2 hk ⟨s2, e2, l2, bs, rfl, pb⟩
    obtain ⟨a, ha, rfl⟩ : ∃ a, ls[k]? = some a ∧ x = .ref a := by
      rw [List.getElem?_map] at hk
      cases hr : ls[k]? with
      | none => rw [hr] at hk; cases hk
      | some a => rw [hr] at hk; cases hk; exact ⟨a, rfl, rfl⟩
    obtain ⟨y, hy, ts, ea, pa⟩ := prGet pl ha
    walk_at "rd"
    refine m_list (SqL.of (s2 _ _ (s1 _ _ ea))) fun b H3 hb s3 e3 => ?_
    refine CInv.putW hw (s2.trans s3) (s3 _ _ e2) l2 fun H6 o6 => ⟨bs ++ [b], by rw [List.map_append]; rfl, ?_⟩
    rw [List.take_add_one, hy]
    refine pr_snoc (Paired.mapP pb fun _ _ q => (q.same s3).off o6 (s3 _ _ e2)) ?_
    exact HoldOff.off o6 (s3 _ _ e2) ⟨(ne_of_none e2 hb).symm, ts, e3, Paired.mapP pa fun _ _ q => s3 _ _ (s2 _ _ (s1 _ _ q))⟩
  rintro w acc H2 hw s2 e2 ⟨bs, rfl, pb⟩
  rw [List.length_map, lll, List.take_length] at pb
  have s02 := s1.trans s2
  have eh2 := s02 _ _ eh
  walk_at "rd"
  refine r_ixL (SqL.of eh2) (v := .int (a : Int)) rfl ?_
  walk_at "rd"
  refine r_ixL (SqL.of eh2) (v := .int (b : Int)) rfl ?_
  walk_at "rd"
  refine r_ixL (SqL.of eh2) (v := .int (e : Int)) rfl ?_
  walk_at "rd"
  refine ⟨c, z1, w, ss, a, b, e, L, num, rfl, s2 _ _ e1, pw, ha, hb, he, ⟨bs, e2, Paired.mapP pb fun _ _ q => q.2⟩, ok, hLl, hll, fun r v H3 s3 fr fv fx => ?_⟩
  walk_at "rd"
  exact q r v H3 (s02.trans s3) fr fv fx
end L2

end

section
-- KcK58a
set_option Elab.async false
set_option linter.all false
set_option maxRecDepth 100000
set_option maxHeartbeats 4000000
namespace L2
open PySem PyProof.Rows

/-! ### the law's packs -/
structure PackR (c : Nat) (ss : List Nat) : Prop where
  c7 : c ≤ 7
  l3 : 3 ≤ ss.length
  l4 : ss.length ≤ 4
  sum : ss.sum ≤ c
  few : ∀ k, k < 5 → KM.multi c (ss.drop k ++ ss.take k) ≤ 2000
noncomputable def PkW (H : Hp) (x : V) : Prop := ∃ (t l : Addr) (c : Nat) (ss : List Nat), x = .ref t ∧ H t = some (.tup [.int (c : Int), .ref l]) ∧ H l = some (.lst (natV ss)) ∧ PackR c ss
theorem PkW.same {H H' : Hp} (s : Same H H') {x : V} (h : PkW H x) : PkW H' x := let ⟨t, l, c, ss, e, e1, e2, p⟩ := h; ⟨t, l, c, ss, e, s _ _ e1, s _ _ e2, p⟩
noncomputable def PkWs (H : Hp) (xs : List V) : Prop := ∀ x ∈ xs, PkW H x
theorem PkWs.nil (H : Hp) : PkWs H [] := fun x h => by cases h
theorem PkWs.same {H H' : Hp} (s : Same H H') {xs : List V} (h : PkWs H xs) : PkWs H' xs := fun x hx => (h x hx).same s
theorem PkWs.snoc {H : Hp} {xs : List V} {x : V} (h : PkWs H xs) (q : PkW H x) : PkWs H (xs ++ [x]) := fun y hy => by
  rcases List.mem_append.mp hy with z | z
  · exact h y z
  · rw [List.mem_singleton.mp z]; exact q
theorem PkWs.app {H : Hp} {xs ys : List V} (h : PkWs H xs) (q : PkWs H ys) : PkWs H (xs ++ ys) := fun y hy => (List.mem_append.mp hy).elim (h y) (q y)
theorem pack_rot {c : Nat} {ss : List Nat} (h : PackR c ss) {k : Nat} (hk : k ≤ ss.length) : PackW c (ss.drop k ++ ss.take k) := by
  have h4 := h.l4
  have h3 := h.l3
  have hlen : (ss.drop k ++ ss.take k).length = ss.length := by rw [List.length_append, List.length_drop, List.length_take]; omega
  have hsum : (ss.drop k ++ ss.take k).sum = ss.sum := by
    conv => rhs; rw [← List.take_append_drop k ss]
    rw [List.sum_append, List.sum_append]
    omega
  exact ⟨⟨by have := h.c7; omega, by rw [hlen]; omega, by rw [hlen]; omega, by rw [hsum]; exact h.sum⟩, h.few k (by omega), h.c7, by rw [hlen]; exact h3⟩
noncomputable def sp__law_pack_l (_ : PySem.W.Frag) : Sp := fun vs H Q _ => ∃ z : Int, vs = [.int z] ∧ ∀ (t l : Addr) (c : Nat) (ss : List Nat) (H' : Hp), Same H H' → H' t = some (.tup [.int (c : Int), .ref l]) → H' l = some (.lst (natV ss)) → PackW c ss → Q (.ref t) H'
theorem len__law_pack_l {K : PySem.W.Frag} {vs : List V} {H : Hp} {Q : VK} {E : XK} (h : sp__law_pack_l K vs H Q E) : vs.length = 1 := by
  obtain ⟨z, rfl, q⟩ := h
  rfl
noncomputable def t__law_pack_l (K : PySem.W.Frag) : TS := (tSeq (tAsg (mLst (tCons (mTup (tCons (tC (.int 3)) (tCons (mLst (tCons (tC (.int 1)) (tCons (tC (.int 1)) (tCons (tC (.int 1)) tNil)))) tNil))) (tCons (mTup (tCons (tC (.int 4)) (tCons (mLst (tCons (tC (.int 2)) (tCons (tC (.int 1)) (tCons (tC (.int 1)) tNil)))) tNil))) (tCons (mTup (tCons (tC (.int 5)) (tCons (mLst (tCons (tC (.int 2)) (tCons (tC (.int 2)) (tCons (tC (.int 1)) tNil)))) tNil))) (tCons (mTup (tCons (tC (.int 4)) (tCons (mLst (tCons (tC (.int 1)) (tCons (tC (.int 1)) (tCons (tC (.int 1)) tNil)))) tNil))) (tCons (mTup (tCons (tC (.int 2)) (tCons (mLst (tCons (tC (.int 1)) (tCons (tC (.int 1)) (tCons (tC (.int 0)) tNil)))) tNil))) (tCons (mTup (tCons (tC (.int 4)) (tCons (mLst (tCons (tC (.int 1)) (tCons (tC (.int 1)) (tCons (tC (.int 0)) tNil)))) tNil))) tNil))))))) (gName 1))
  (tSeq (tAsg (tOp mCat (tVar 1) (mLst (tCons (mTup (tCons (tC (.int 6)) (tCons (mLst (tCons (tC (.int 3)) (tCons (tC (.int 2)) (tCons (tC (.int 1)) tNil)))) tNil))) (tCons (mTup (tCons (tC (.int 5)) (tCons (mLst (tCons (tC (.int 2)) (tCons (tC (.int 1)) (tCons (tC (.int 1)) tNil)))) tNil))) (tCons (mTup (tCons (tC (.int 5)) (tCons (mLst (tCons (tC (.int 2)) (tCons (tC (.int 2)) (tCons (tC (.int 0)) tNil)))) tNil))) (tCons (mTup (tCons (tC (.int 4)) (tCons (mLst (tCons (tC (.int 1)) (tCons (tC (.int 1)) (tCons (tC (.int 1)) (tCons (tC (.int 1)) tNil))))) tNil))) (tCons (mTup (tCons (tC (.int 6)) (tCons (mLst (tCons (tC (.int 2)) (tCons (tC (.int 2)) (tCons (tC (.int 2)) tNil)))) tNil))) (tCons (mTup (tCons (tC (.int 3)) (tCons (mLst (tCons (tC (.int 1)) (tCons (tC (.int 0)) (tCons (tC (.int 1)) (tCons (tC (.int 0)) tNil))))) tNil))) tNil)))))))) (gName 1))
  (tSeq (tAsg (tOp mCat (tVar 1) (mLst (tCons (mTup (tCons (tC (.int 5)) (tCons (mLst (tCons (tC (.int 2)) (tCons (tC (.int 2)) (tCons (tC (.int 0)) tNil)))) tNil))) (tCons (mTup (tCons (tC (.int 7)) (tCons (mLst (tCons (tC (.int 3)) (tCons (tC (.int 3)) (tCons (tC (.int 1)) tNil)))) tNil))) (tCons (mTup (tCons (tC (.int 5)) (tCons (mLst (tCons (tC (.int 2)) (tCons (tC (.int 1)) (tCons (tC (.int 1)) (tCons (tC (.int 1)) tNil))))) tNil))) (tCons (mTup (tCons (tC (.int 6)) (tCons (mLst (tCons (tC (.int 2)) (tCons (tC (.int 2)) (tCons (tC (.int 1)) tNil)))) tNil))) tNil)))))) (gName 1))
  (tSeq (tAsg (tOp (rIxL K) (tVar 1) (tOp (rI (fun _ j => 0 < j) fun i j => .int (i % j)) (tVar 0) (tC (.int 16)))) (gTup K 2 (gCons (gName 2) (gCons (gName 3) gNil))))
  (tSeq (tAsg (tOp (rI (fun _ j => 0 < j) fun i j => .int (i % j)) (tOp (rI CDiv fun i j => .int (i / j)) (tVar 0) (tC (.int 512))) (tCB (cLen K) (tCons (tVar 3) tNil))) (gName 4))
  (tRet (mTup (tCons (tVar 2) (tCons (tOp mCat (tSl (mSlL K) (tVar 3) (tPart (tVar 4)) tNoPart) (tSl (mSlL K) (tVar 3) tNoPart (tPart (tVar 4)))) tNil)))))))))
noncomputable abbrev N__law_pack_l : List Str := ["_law_cell_here", "_law_some", "_law_cards", "_law_sizes", "_law_at"]
theorem rd__law_pack_l {K : PySem.W.Frag} {vs : List V} {H : Hp} {Q : VK} {E : XK} (h : sp__law_pack_l K vs H Q E) : t__law_pack_l K { nx := fun _ H' => Q .non H', rt := Q } (start N__law_pack_l vs) H := by
  obtain ⟨z, rfl, q⟩ := h
  show t__law_pack_l K _ [some _, none, none, none, none] _
  unfold t__law_pack_l
  have g0_0 := PkWs.nil H
  walk_at "rd"
  refine ⟨by simp [sizeLine_eq], fun la0 Ha0 _ sa0 ea0 => ?_⟩
  walk_at "rd"
  refine ⟨by simp [sizeLine_eq], fun ta0 Hb0 _ sb0 eb0 => ?_⟩
  have g0_1 := (g0_0.same (sa0.trans sb0)).snoc (x := .ref ta0) ⟨ta0, la0, 3, [1, 1, 1], rfl, eb0, sb0 _ _ ea0, ⟨by decide, by decide, by decide, by decide, by decide +kernel⟩⟩
  walk_at "rd"
  refine ⟨by simp [sizeLine_eq], fun la1 Ha1 _ sa1 ea1 => ?_⟩
  walk_at "rd"
  refine ⟨by simp [sizeLine_eq], fun ta1 Hb1 _ sb1 eb1 => ?_⟩
  have g0_2 := (g0_1.same (sa1.trans sb1)).snoc (x := .ref ta1) ⟨ta1, la1, 4, [2, 1, 1], rfl, eb1, sb1 _ _ ea1, ⟨by decide, by decide, by decide, by decide, by decide +kernel⟩⟩
  walk_at "rd"
  refine ⟨by simp [sizeLine_eq], fun la2 Ha2 _ sa2 ea2 => ?_⟩
  walk_at "rd"
  refine ⟨by simp [sizeLine_eq], fun ta2 Hb2 _ sb2 eb2 => ?_⟩
  have g0_3 := (g0_2.same (sa2.trans sb2)).snoc (x := .ref ta2) ⟨ta2, la2, 5, [2, 2, 1], rfl, eb2, sb2 _ _ ea2, ⟨by decide, by decide, by decide, by decide, by decide +kernel⟩⟩
  walk_at "rd"
  refine ⟨by simp [sizeLine_eq], fun la3 Ha3 _ sa3 ea3 => ?_⟩
  walk_at "rd"
  refine ⟨by simp [sizeLine_eq], fun ta3 Hb3 _ sb3 eb3 => ?_⟩
  have g0_4 := (g0_3.same (sa3.trans sb3)).snoc (x := .ref ta3) ⟨ta3, la3, 4, [1, 1, 1], rfl, eb3, sb3 _ _ ea3, ⟨by decide, by decide, by decide, by decide, by decide +kernel⟩⟩
  walk_at "rd"
  refine ⟨by simp [sizeLine_eq], fun la4 Ha4 _ sa4 ea4 => ?_⟩
  walk_at "rd"
  refine ⟨by simp [sizeLine_eq], fun ta4 Hb4 _ sb4 eb4 => ?_⟩
  have g0_5 := (g0_4.same (sa4.trans sb4)).snoc (x := .ref ta4) ⟨ta4, la4, 2, [1, 1, 0], rfl, eb4, sb4 _ _ ea4, ⟨by decide, by decide, by decide, by decide, by decide +kernel⟩⟩
  walk_at "rd"
  refine ⟨by simp [sizeLine_eq], fun la5 Ha5 _ sa5 ea5 => ?_⟩
  walk_at "rd"
  refine ⟨by simp [sizeLine_eq], fun ta5 Hb5 _ sb5 eb5 => ?_⟩
  have g0_6 := (g0_5.same (sa5.trans sb5)).snoc (x := .ref ta5) ⟨ta5, la5, 4, [1, 1, 0], rfl, eb5, sb5 _ _ ea5, ⟨by decide, by decide, by decide, by decide, by decide +kernel⟩⟩
  walk_at "rd"
  refine ⟨by simp [sizeLine_eq], fun ll0 Hl0 _ sl0 el0 => ?_⟩
  have gl0 := g0_6.same sl0
  have sg0 := (((((((Same.refl H).trans (sa0.trans sb0)).trans (sa1.trans sb1)).trans (sa2.trans sb2)).trans (sa3.trans sb3)).trans (sa4.trans sb4)).trans (sa5.trans sb5)).trans sl0
  have S0 : Same H Hl0 := sg0
  have A0 := gl0
  have g1_0 := PkWs.nil Hl0
  walk_at "rd"
  refine ⟨by simp [sizeLine_eq], fun la6 Ha6 _ sa6 ea6 => ?_⟩
  walk_at "rd"
  refine ⟨by simp [sizeLine_eq], fun ta6 Hb6 _ sb6 eb6 => ?_⟩
  have g1_7 := (g1_0.same (sa6.trans sb6)).snoc (x := .ref ta6) ⟨ta6, la6, 6, [3, 2, 1], rfl, eb6, sb6 _ _ ea6, ⟨by decide, by decide, by decide, by decide, by decide +kernel⟩⟩
  walk_at "rd"
  refine ⟨by simp [sizeLine_eq], fun la7 Ha7 _ sa7 ea7 => ?_⟩
  walk_at "rd"
  refine ⟨by simp [sizeLine_eq], fun ta7 Hb7 _ sb7 eb7 => ?_⟩
  have g1_8 := (g1_7.same (sa7.trans sb7)).snoc (x := .ref ta7) ⟨ta7, la7, 5, [2, 1, 1], rfl, eb7, sb7 _ _ ea7, ⟨by decide, by decide, by decide, by decide, by decide +kernel⟩⟩
  walk_at "rd"
  refine ⟨by simp [sizeLine_eq], fun la8 Ha8 _ sa8 ea8 => ?_⟩
  walk_at "rd"
  refine ⟨by simp [sizeLine_eq], fun ta8 Hb8 _ sb8 eb8 => ?_⟩
  have g1_9 := (g1_8.same (sa8.trans sb8)).snoc (x := .ref ta8) ⟨ta8, la8, 5, [2, 2, 0], rfl, eb8, sb8 _ _ ea8, ⟨by decide, by decide, by decide, by decide, by decide +kernel⟩⟩
  walk_at "rd"
  refine ⟨by simp [sizeLine_eq], fun la9 Ha9 _ sa9 ea9 => ?_⟩
  walk_at "rd"
  refine ⟨by simp [sizeLine_eq], fun ta9 Hb9 _ sb9 eb9 => ?_⟩
  have g1_10 := (g1_9.same (sa9.trans sb9)).snoc (x := .ref ta9) ⟨ta9, la9, 4, [1, 1, 1, 1], rfl, eb9, sb9 _ _ ea9, ⟨by decide, by decide, by decide, by decide, by decide +kernel⟩⟩
  walk_at "rd"
  refine ⟨by simp [sizeLine_eq], fun la10 Ha10 _ sa10 ea10 => ?_⟩
  walk_at "rd"
  refine ⟨by simp [sizeLine_eq], fun ta10 Hb10 _ sb10 eb10 => ?_⟩
  have g1_11 := (g1_10.same (sa10.trans sb10)).snoc (x := .ref ta10) ⟨ta10, la10, 6, [2, 2, 2], rfl, eb10, sb10 _ _ ea10, ⟨by decide, by decide, by decide, by decide, by decide +kernel⟩⟩
  walk_at "rd"
  refine ⟨by simp [sizeLine_eq], fun la11 Ha11 _ sa11 ea11 => ?_⟩
  walk_at "rd"
  refine ⟨by simp [sizeLine_eq], fun ta11 Hb11 _ sb11 eb11 => ?_⟩
  have g1_12 := (g1_11.same (sa11.trans sb11)).snoc (x := .ref ta11) ⟨ta11, la11, 3, [1, 0, 1, 0], rfl, eb11, sb11 _ _ ea11, ⟨by decide, by decide, by decide, by decide, by decide +kernel⟩⟩
  walk_at "rd"
  refine ⟨by simp [sizeLine_eq], fun ll1 Hl1 _ sl1 el1 => ?_⟩
  have gl1 := g1_12.same sl1
  have sg1 := (((((((Same.refl Hl0).trans (sa6.trans sb6)).trans (sa7.trans sb7)).trans (sa8.trans sb8)).trans (sa9.trans sb9)).trans (sa10.trans sb10)).trans (sa11.trans sb11)).trans sl1
  walk_at "rd"
  refine m_cat (sg1 _ _ el0) el1 (by simp [sizeLine_eq]) fun lc1 Hc1 _ sc1 ec1 => ?_
  have A1 := ((A0.same sg1).app gl1).same sc1
  have S1 := S0.trans (sg1.trans sc1)
  have g2_0 := PkWs.nil Hc1
  walk_at "rd"
  refine ⟨by simp [sizeLine_eq], fun la12 Ha12 _ sa12 ea12 => ?_⟩
  walk_at "rd"
  refine ⟨by simp [sizeLine_eq], fun ta12 Hb12 _ sb12 eb12 => ?_⟩
  have g2_13 := (g2_0.same (sa12.trans sb12)).snoc (x := .ref ta12) ⟨ta12, la12, 5, [2, 2, 0], rfl, eb12, sb12 _ _ ea12, ⟨by decide, by decide, by decide, by decide, by decide +kernel⟩⟩
  walk_at "rd"
  refine ⟨by simp [sizeLine_eq], fun la13 Ha13 _ sa13 ea13 => ?_⟩
  walk_at "rd"
  refine ⟨by simp [sizeLine_eq], fun ta13 Hb13 _ sb13 eb13 => ?_⟩
  have g2_14 := (g2_13.same (sa13.trans sb13)).snoc (x := .ref ta13) ⟨ta13, la13, 7, [3, 3, 1], rfl, eb13, sb13 _ _ ea13, ⟨by decide, by decide, by decide, by decide, by decide +kernel⟩⟩
  walk_at "rd"
  refine ⟨by simp [sizeLine_eq], fun la14 Ha14 _ sa14 ea14 => ?_⟩
  walk_at "rd"
  refine ⟨by simp [sizeLine_eq], fun ta14 Hb14 _ sb14 eb14 => ?_⟩
  have g2_15 := (g2_14.same (sa14.trans sb14)).snoc (x := .ref ta14) ⟨ta14, la14, 5, [2, 1, 1, 1], rfl, eb14, sb14 _ _ ea14, ⟨by decide, by decide, by decide, by decide, by decide +kernel⟩⟩
  walk_at "rd"
  refine ⟨by simp [sizeLine_eq], fun la15 Ha15 _ sa15 ea15 => ?_⟩
  walk_at "rd"
  refine ⟨by simp [sizeLine_eq], fun ta15 Hb15 _ sb15 eb15 => ?_⟩
  have g2_16 := (g2_15.same (sa15.trans sb15)).snoc (x := .ref ta15) ⟨ta15, la15, 6, [2, 2, 1], rfl, eb15, sb15 _ _ ea15, ⟨by decide, by decide, by decide, by decide, by decide +kernel⟩⟩
  walk_at "rd"
  refine ⟨by simp [sizeLine_eq], fun ll2 Hl2 _ sl2 el2 => ?_⟩
  have gl2 := g2_16.same sl2
  have sg2 := (((((Same.refl Hc1).trans (sa12.trans sb12)).trans (sa13.trans sb13)).trans (sa14.trans sb14)).trans (sa15.trans sb15)).trans sl2
  walk_at "rd"
  refine m_cat (sg2 _ _ ec1) el2 (by simp [sizeLine_eq]) fun lc2 Hc2 _ sc2 ec2 => ?_
  have A2 := ((A1.same sg2).app gl2).same sc2
  have S2 := S1.trans (sg2.trans sc2)
  walk_at "rd"
  obtain ⟨XS, eXS, lXS, pXS⟩ : ∃ XS : List V, Hc2 lc2 = some (.lst XS) ∧ XS.length = 16 ∧ PkWs Hc2 XS := ⟨_, ec2, rfl, A2⟩
  obtain ⟨x, hx, hxm⟩ := at_mod XS z (m := 16) lXS (by decide)
  refine r_ixL (SqL.of eXS) hx ?_
  obtain ⟨t, l, c, ss, rfl, e1, e2, pr⟩ := pXS x hxm
  refine g_pair (SqT.of e1) ?_
  have h3 := pr.l3
  have h4 := pr.l4
  walk_at "rd"
  rw [natV_len]
  obtain ⟨k, hk, hkl⟩ : ∃ k : Nat, z / 512 % (ss.length : Int) = (k : Int) ∧ k < ss.length := by
    have a1 := Int.emod_nonneg (z / 512) (b := (ss.length : Int)) (by omega)
    have a2 := Int.emod_lt_of_pos (z / 512) (b := (ss.length : Int)) (by omega)
    exact ⟨(z / 512 % (ss.length : Int)).toNat, by omega, by omega⟩
  walk_at "rd"
  rw [hk]
  refine m_slL (SqL.of e2) fun p1 H1 hp1 s1 f1 => ?_
  rw [cut_from _ _ (by rw [natV_len]; omega)] at f1
  walk_at "rd"
  refine m_slL (SqL.of (s1 _ _ e2)) fun p2 H2 hp2 s2 f2 => ?_
  rw [cut_head _ _ (by rw [natV_len]; omega)] at f2
  have hd : (natV ss).drop k = natV (ss.drop k) := by unfold natV; rw [List.map_drop]
  have ht : (natV ss).take k = natV (ss.take k) := by unfold natV; rw [List.map_take]
  refine m_cat (s2 _ _ f1) f2 (by rw [hd, ht, natV_len, natV_len, List.length_drop, List.length_take, sizeLine_eq]; omega) fun p3 H3 hp3 s3 f3 => ?_
  walk_at "rd"
  refine ⟨by simp [sizeLine_eq], fun p4 H4 hp4 s4 f4 => ?_⟩
  refine q p4 p3 c (ss.drop k ++ ss.take k) H4 (S2.trans ((s1.trans s2).trans (s3.trans s4))) f4 ?_ (pack_rot pr (by omega))
  rw [s4 _ _ f3, hd, ht]
  unfold natV
  rw [List.map_append]

end L2

end

section
-- KcSrtR
set_option Elab.async false
set_option linter.all false
set_option maxRecDepth 100000
set_option maxHeartbeats 4000000
namespace L2
open PySem
/-! ### sorted(xs) of whole numbers, fewer than 64; xs[::-1] -/
noncomputable def cSorted (K : PySem.W.Frag) : List V → Hp → VK → Prop := fun xs H Q => ∃ (p : Addr) (ns : List Int), xs = [.ref p] ∧ SqL K H p (ns.map V.int) ∧ ns.length < 64 ∧ ∀ (q : Addr) (H' : Hp) (ms : List Int), H q = none → Same H H' → H' q = some (.lst (ms.map V.int)) → ms.Perm ns → ms.Pairwise (· ≤ ·) → Q (.ref q) H'
theorem r_sorted {K : PySem.W.Frag} {p : Addr} {ns : List Int} {H : Hp} {Q : VK} (e : SqL K H p (ns.map V.int)) (h64 : ns.length < 64) (h : ∀ (q : Addr) (H' : Hp) (ms : List Int), H q = none → Same H H' → H' q = some (.lst (ms.map V.int)) → ms.Perm ns → ms.Pairwise (· ≤ ·) → Q (.ref q) H') : cSorted K [.ref p] H Q := ⟨p, ns, rfl, e, h64, h⟩
noncomputable def mRevL (K : PySem.W.Frag) (te : TE) (tk : TO) : TE := fun σ H Q => te σ H fun x H1 => tk σ H1 fun k H2 => ∃ (a : Addr) (xs : List V), x = .ref a ∧ k = some (-1) ∧ SqL K H2 a xs ∧ New H2 (.lst xs.reverse) fun p H3 => Q (.ref p) H3
theorem m_rev {K : PySem.W.Frag} {te : TE} {tk : TO} {σ : St} {H : Hp} {Q : VK} (h : te σ H fun x H1 => tk σ H1 fun k H2 => ∃ (a : Addr) (xs : List V), x = .ref a ∧ k = some (-1) ∧ SqL K H2 a xs ∧ New H2 (.lst xs.reverse) fun p H3 => Q (.ref p) H3) : mRevL K te tk σ H Q := h
/-! ### != of what fails tells, twice the same -/
noncomputable def rNeF (K : PySem.W.Frag) : R2 := fun x y H Q => ((x = .non ∧ y = .non) ∨ ∃ (t u : Addr) (s : Str) (d j : Int), (s = "friend" ∨ s = "third") ∧ x = .ref t ∧ y = .ref u ∧ SqT K H t [.str s, .int d, .int j] ∧ SqT K H u [.str s, .int d, .int j]) ∧ Q (.bl false) H
end L2

end

section
-- KcDkR
set_option Elab.async false
set_option linter.all false
set_option maxRecDepth 100000
set_option maxHeartbeats 4000000
namespace L2
open PySem PyProof.Rows
/-! ### a dict whose keys are whole numbers -/
noncomputable def dkP (kvs : List (Key × V)) (i : Int) (v : V) : List (Key × V) :=
  if (kvs.any fun kv => decide (kv.1 = (Sum.inl i : Key))) = true then kvs.map (fun kv => if kv.1 = (Sum.inl i : Key) then (kv.1, v) else kv) else kvs ++ [((Sum.inl i : Key), v)]
noncomputable def DkI (kvs : List (Key × V)) : Prop := ∀ p ∈ kvs, ∃ i : Int, p.1 = Sum.inl i
theorem DkI.put {kvs : List (Key × V)} (h : DkI kvs) (i : Int) (v : V) : DkI (dkP kvs i v) := by
  unfold dkP
  split
  · intro p hp
    obtain ⟨q, hq, rfl⟩ := List.mem_map.mp hp
    by_cases e : q.1 = Sum.inl i
    · rw [if_pos e]; exact ⟨i, e⟩
    · rw [if_neg e]; exact h q hq
  · intro p hp
    rcases List.mem_append.mp hp with hp | hp
    · exact h p hp
    · rw [List.mem_singleton.mp hp]; exact ⟨i, rfl⟩
section
variable {σ : St} {H : Hp} {Q : VK} {a : Addr} {kvs : List (Key × V)} {i : Int} {v : V}
end
section
variable {g : CF TG} {tt : CF TT} {te : CF TE} {σ₀ : St} {Q : VK} {H : Hp}
end
end L2

end

section
-- KcLenR
set_option Elab.async false
set_option linter.all false
set_option maxRecDepth 100000
set_option maxHeartbeats 4000000
namespace L2
open PySem PyProof.Rows
/-! ### len of a dict with whole numbers as keys; list.clear; list.insert -/
noncomputable def rInsert : V → List V → Hp → VK → Prop := fun x vs H Q => ∃ (l : Addr) (xs : List V) (k : Nat) (y : V), x = .ref l ∧ vs = [.int (k : Int), y] ∧ H l = some (.lst xs) ∧ xs.length < sizeLine ∧ k ≤ xs.length ∧ Q .non (upd H l (.lst (xs.take k ++ y :: xs.drop k)))
theorem r_insert {H : Hp} {Q : VK} {l : Addr} {xs : List V} {k : Nat} {y : V} (e : H l = some (.lst xs)) (hz : xs.length < sizeLine) (hk : k ≤ xs.length) (h : ∀ H', Off l H H' → H' l = some (.lst (xs.take k ++ y :: xs.drop k)) → Q .non H') : rInsert (.ref l) [.int (k : Int), y] H Q := ⟨l, xs, k, y, rfl, rfl, e, hz, hk, h _ off_upd upd_same⟩
end L2

end

section
-- KcEx
set_option Elab.async false
set_option linter.all false
set_option maxRecDepth 100000
set_option maxHeartbeats 4000000
namespace L2
open PySem
/-! ### codes with the same words; deals exchanged -/
section
variable {ws : List (List Nat)} {a b e : Int} {num num' : List Int → Nat}
noncomputable def KerN (ws : List (List Nat)) (a : Int) (num num' : List Int → Nat) : Prop := ∀ v ∈ ws, ∀ w ∈ ws, num (heldI v a) = num (heldI w a) ↔ num' (heldI v a) = num' (heldI w a)
theorem KerN.symm (h : KerN ws a num num') : KerN ws a num' num := fun v hv w hw => (h v hv w hw).symm
theorem KerN.to (h : KerN ws a num num') : Coarse ws a num num' := fun v hv w hw => (h v hv w hw).mp
theorem KerN.fro (h : KerN ws a num num') : Coarse ws a num' num := fun v hv w hw => (h v hv w hw).mpr
theorem frw_ker (h : KerN ws a num num') (i j : Nat) : FrW ws a b num i j ↔ FrW ws a b num' i j := by
  constructor
  · rintro ⟨wi, wj, h1, h2, h3, h4, h5⟩
    exact ⟨wi, wj, h1, h2, h3, (h _ (List.mem_of_getElem? h2) _ (List.mem_of_getElem? h1)).mp h4, h5⟩
  · rintro ⟨wi, wj, h1, h2, h3, h4, h5⟩
    exact ⟨wi, wj, h1, h2, h3, (h _ (List.mem_of_getElem? h2) _ (List.mem_of_getElem? h1)).mpr h4, h5⟩
theorem thw_ker (h : KerN ws a num num') (i c : Nat) : ThW ws a e num i c ↔ ThW ws a e num' i c := by
  constructor
  · rintro ⟨wi, hh, h1, h2, h3, h4⟩
    exact ⟨wi, hh, h1, h2, h3, fun j wj hj he hn => h4 j wj hj he ((h _ (List.mem_of_getElem? hj) _ (List.mem_of_getElem? h1)).mpr hn)⟩
  · rintro ⟨wi, hh, h1, h2, h3, h4⟩
    exact ⟨wi, hh, h1, h2, h3, fun j wj hj he hn => h4 j wj hj he ((h _ (List.mem_of_getElem? hj) _ (List.mem_of_getElem? h1)).mp hn)⟩
theorem fres_same {r r' : FR} (h : KerN ws a num num') (f : FRes ws a b e num r) (f' : FRes ws a b e num' r') : r = r' := by
  have F : ∀ i, Fr ws a b num i ↔ Fr ws a b num' i := fun i => ⟨fun x => x.coarse h.to, fun x => x.coarse h.fro⟩
  have T : ∀ i, Th ws a e num i ↔ Th ws a e num' i := fun i => ⟨fun x => x.fine h.fro, fun x => x.fine h.to⟩
  cases r with
  | ok =>
    cases r' with
    | ok => rfl
    | friend d => exact absurd ((F d).mpr f'.2.1) (f d f'.1).1
    | third d => exact absurd ((T d).mpr f'.2.2.1) (f d f'.1).2
  | friend d =>
    cases r' with
    | ok => exact absurd ((F d).mp f.2.1) (f' d f.1).1
    | friend d' =>
      rcases Nat.lt_trichotomy d d' with z | z | z
      · exact absurd ((F d).mp f.2.1) (f'.2.2 d z).1
      · rw [z]
      · exact absurd ((F d').mpr f'.2.1) (f.2.2 d' z).1
    | third d' =>
      rcases Nat.lt_trichotomy d d' with z | z | z
      · exact absurd ((F d).mp f.2.1) (f'.2.2.2 d z).1
      · subst z; exact absurd ((F d).mp f.2.1) f'.2.1
      · exact absurd ((T d').mpr f'.2.2.1) (f.2.2 d' z).2
  | third d =>
    cases r' with
    | ok => exact absurd ((T d).mp f.2.2.1) (f' d f.1).2
    | friend d' =>
      rcases Nat.lt_trichotomy d d' with z | z | z
      · exact absurd ((T d).mp f.2.2.1) (f'.2.2 d z).2
      · subst z; exact absurd ((F d).mpr f'.2.1) f.2.1
      · exact absurd ((F d').mpr f'.2.1) (f.2.2.2 d' z).1
    | third d' =>
      rcases Nat.lt_trichotomy d d' with z | z | z
      · exact absurd ((T d).mp f.2.2.1) (f'.2.2.2 d z).2
      · rw [z]
      · exact absurd ((T d').mpr f'.2.2.1) (f.2.2.2 d' z).2
theorem fres_ok {r : FR} (f : FRes ws a b e num r) : r = .ok ↔ ∀ i, ¬ Fr ws a b num i ∧ ¬ Th ws a e num i := by
  constructor
  · rintro rfl i
    exact ⟨fun x => (f i (fr_lt x)).1 x, fun x => (f i (th_lt x)).2 x⟩
  · intro h
    cases r with
    | ok => rfl
    | friend d => exact absurd f.2.1 (h d).1
    | third d => exact absurd f.2.2.1 (h d).2
end
/-! the deals of another room, one for one -/
structure Iso (ws ws' : List (List Nat)) (a b e a' b' e' : Int) (num num' : List Int → Nat) (T : List Nat → List Nat → Prop) : Prop where
  to : ∀ w ∈ ws, ∃ w' ∈ ws', T w w'
  fro : ∀ w' ∈ ws', ∃ w ∈ ws, T w w'
  ha : ∀ v v' w w', T v v' → T w w' → (heldI v a = heldI w a ↔ heldI v' a' = heldI w' a')
  hb : ∀ v v' w w', T v v' → T w w' → (heldI v b = heldI w b ↔ heldI v' b' = heldI w' b')
  he : ∀ v v' w w', T v v' → T w w' → (heldI v e = heldI w e ↔ heldI v' e' = heldI w' e')
  hn : ∀ v v' w w', T v v' → T w w' → (num (heldI v a) = num (heldI w a) ↔ num' (heldI v' a') = num' (heldI w' a'))
  card : ∀ (w w' : List Nat) (c h : Nat), T w w' → w[c]? = some h → (h : Int) ≠ e → ∃ c' h' : Nat, (h' : Int) ≠ e' ∧ ∀ v v', T v v' → (v[c]? = some h ↔ v'[c']? = some h')
theorem Iso.fr {ws ws' : List (List Nat)} {a b e a' b' e' : Int} {num num' : List Int → Nat} {T : List Nat → List Nat → Prop} (I : Iso ws ws' a b e a' b' e' num num' T) {i : Nat} (h : Fr ws a b num i) : ∃ i', Fr ws' a' b' num' i' := by
  obtain ⟨j, wi, wj, h1, h2, h3, h4, h5⟩ := h
  obtain ⟨wi', mi, ti⟩ := I.to wi (List.mem_of_getElem? h1)
  obtain ⟨wj', mj, tj⟩ := I.to wj (List.mem_of_getElem? h2)
  obtain ⟨i', hi⟩ := List.mem_iff_getElem?.mp mi
  obtain ⟨j', hj⟩ := List.mem_iff_getElem?.mp mj
  exact ⟨i', j', wi', wj', hi, hj, (I.hb _ _ _ _ tj ti).mp h3, (I.hn _ _ _ _ tj ti).mp h4, fun z => h5 ((I.ha _ _ _ _ tj ti).mpr z)⟩
theorem Iso.th {ws ws' : List (List Nat)} {a b e a' b' e' : Int} {num num' : List Int → Nat} {T : List Nat → List Nat → Prop} (I : Iso ws ws' a b e a' b' e' num num' T) {i : Nat} (h : Th ws a e num i) : ∃ i', Th ws' a' e' num' i' := by
  obtain ⟨wi, c, hh, h1, h2, h3, h4⟩ := h
  obtain ⟨wi', mi, ti⟩ := I.to wi (List.mem_of_getElem? h1)
  obtain ⟨i', hi⟩ := List.mem_iff_getElem?.mp mi
  obtain ⟨c', h', n', hc⟩ := I.card wi wi' c hh ti h2 h3
  refine ⟨i', wi', c', h', hi, (hc _ _ ti).mp h2, n', fun j' wj' hj' he hn => ?_⟩
  obtain ⟨wj, mj, tj⟩ := I.fro wj' (List.mem_of_getElem? hj')
  obtain ⟨j, hj⟩ := List.mem_iff_getElem?.mp mj
  exact (hc _ _ tj).mp (h4 j wj hj ((I.he _ _ _ _ tj ti).mpr he) ((I.hn _ _ _ _ tj ti).mpr hn))
theorem iso_ok {ws ws' : List (List Nat)} {a b e a' b' e' : Int} {num num' : List Int → Nat} {T T' : List Nat → List Nat → Prop} (I : Iso ws ws' a b e a' b' e' num num' T) (I' : Iso ws' ws a' b' e' a b e num' num T') {r r' : FR} (f : FRes ws a b e num r) (f' : FRes ws' a' b' e' num' r') : r = .ok ↔ r' = .ok := by
  rw [fres_ok f, fres_ok f']
  constructor
  · intro h i
    exact ⟨fun x => let ⟨j, y⟩ := I'.fr x; (h j).1 y, fun x => let ⟨j, y⟩ := I'.th x; (h j).2 y⟩
  · intro h i
    exact ⟨fun x => let ⟨j, y⟩ := I.fr x; (h j).1 y, fun x => let ⟨j, y⟩ := I.th x; (h j).2 y⟩
/-! cards exchanged -/
structure Perm9 (σ : List Nat) (c : Nat) : Prop where
  perm : σ.Perm (List.range c)
theorem Perm9.len {σ : List Nat} {c : Nat} (h : Perm9 σ c) : σ.length = c := by rw [h.perm.length_eq, List.length_range]
theorem Perm9.nd {σ : List Nat} {c : Nat} (h : Perm9 σ c) : σ.Nodup := h.perm.nodup_iff.mpr List.nodup_range
theorem Perm9.mem {σ : List Nat} {c : Nat} (h : Perm9 σ c) {k : Nat} : k ∈ σ ↔ k < c := by rw [h.perm.mem_iff, List.mem_range]
theorem Perm9.rev {σ : List Nat} {c : Nat} (h : Perm9 σ c) : Perm9 σ.reverse c := ⟨(List.reverse_perm σ).trans h.perm⟩
noncomputable def pull (σ : List Nat) (w : List Nat) : List Nat := σ.map fun k => w.getD k 0
theorem pull_len (σ w : List Nat) : (pull σ w).length = σ.length := List.length_map ..
theorem map_range_getD (w : List Nat) : (List.range w.length).map (fun k => w.getD k 0) = w := by
  apply List.ext_getElem?
  intro i
  rw [List.getElem?_map]
  by_cases h : i < w.length
  · rw [List.getElem?_range h, List.getElem?_eq_getElem h]
    show some (w.getD i 0) = _
    rw [List.getD_eq_getElem?_getD, List.getElem?_eq_getElem h]; rfl
  · rw [List.getElem?_eq_none (by rw [List.length_range]; omega), List.getElem?_eq_none (by omega)]; rfl
theorem pull_perm {σ : List Nat} {c : Nat} (h : Perm9 σ c) {w : List Nat} (hw : w.length = c) : (pull σ w).Perm w := by
  have := h.perm.map fun k => w.getD k 0
  rw [← hw, map_range_getD] at this
  exact this
theorem pull_get {σ : List Nat} {w : List Nat} {i k : Nat} (hi : σ[i]? = some k) (hk : k < w.length) : (pull σ w)[i]? = w[k]? := by
  unfold pull
  rw [List.getElem?_map, hi]
  show some (w.getD k 0) = _
  rw [List.getD_eq_getElem?_getD, List.getElem?_eq_getElem hk]; rfl
theorem level_perm {room : List Nat} {c : Nat} (hs : room.sum = c) {v w : List Nat} (hw : w ∈ KM.level room c) (p : v.Perm w) : v ∈ KM.level room c := by
  obtain ⟨f1, f2, f3⟩ := deal_facts hs hw
  refine KM.level_all room c _ (by rw [p.length_eq, f1]) (fun x hx => f2 x (p.mem_iff.mp hx)) fun x => ?_
  rw [p.count_eq]
  by_cases hx : x < room.length
  · rw [f3 x hx]; exact Nat.le_refl _
  · rw [List.count_eq_zero.mpr (fun z => hx (f2 x z))]; exact Nat.zero_le _
noncomputable def push (σ : List Nat) (c : Nat) (w : List Nat) : List Nat := (List.range c).map fun k => w.getD (σ.idxOf k) 0
theorem push_get {σ : List Nat} {c : Nat} (h : Perm9 σ c) {w : List Nat} (hw : w.length = c) {i k : Nat} (hi : σ[i]? = some k) : (push σ c w)[k]? = w[i]? := by
  have hil : i < σ.length := (List.getElem?_eq_some_iff.mp hi).1
  have hk : k < c := h.mem.mp (List.mem_of_getElem? hi)
  have hx : σ.idxOf k = i := by
    have hm := List.mem_of_getElem? hi
    have h1 : σ.idxOf k < σ.length := List.idxOf_lt_length_iff.mpr hm
    have h2 : σ[σ.idxOf k]? = σ[i]? := by rw [hi, List.getElem?_eq_getElem h1, List.getElem_idxOf]
    exact (List.getElem?_inj h1 h.nd).mp h2
  unfold push
  rw [List.getElem?_map, List.getElem?_range hk]
  show some (w.getD (σ.idxOf k) 0) = _
  rw [hx, List.getD_eq_getElem?_getD, List.getElem?_eq_getElem (show i < w.length by rw [hw, ← h.len]; exact hil)]; rfl
theorem pull_push {σ : List Nat} {c : Nat} (h : Perm9 σ c) {w : List Nat} (hw : w.length = c) : pull σ (push σ c w) = w := by
  apply List.ext_getElem?
  intro i
  by_cases hi : i < σ.length
  · have e := List.getElem?_eq_getElem hi
    have hk : σ[i] < c := h.mem.mp (List.getElem_mem hi)
    rw [pull_get e (by unfold push; rw [List.length_map, List.length_range]; exact hk), push_get h hw e]
  · rw [List.getElem?_eq_none (by rw [pull_len]; omega), List.getElem?_eq_none (by rw [hw, ← h.len]; omega)]
theorem push_mem {room : List Nat} {c : Nat} (hs : room.sum = c) {σ : List Nat} (h : Perm9 σ c) {w : List Nat} (hw : w ∈ KM.level room c) : push σ c w ∈ KM.level room c := by
  have hl := (deal_facts hs hw).1
  have hpl : (push σ c w).length = c := by unfold push; rw [List.length_map, List.length_range]
  have p := pull_perm h hpl
  rw [pull_push h hl] at p
  exact level_perm hs hw p.symm
end L2

end

section
-- KcEx2
set_option Elab.async false
set_option linter.all false
set_option maxRecDepth 100000
set_option maxHeartbeats 4000000
namespace L2
open PySem
theorem nd_perm {α : Type} [DecidableEq α] {l m : List α} (nl : l.Nodup) (nm : m.Nodup) (h : ∀ x, x ∈ l ↔ x ∈ m) : l.Perm m := by
  rw [List.perm_iff_count]
  intro x
  have one : ∀ {k : List α}, k.Nodup → k.count x = if x ∈ k then 1 else 0 := fun {k} nk => by
    by_cases hx : x ∈ k
    · rw [if_pos hx]
      have h1 := List.nodup_iff_count.mp nk x
      have h2 := List.count_pos_iff.mpr hx
      omega
    · rw [if_neg hx, List.count_eq_zero.mpr hx]
  rw [one nl, one nm]
  by_cases hx : x ∈ l
  · rw [if_pos hx, if_pos ((h x).mp hx)]
  · rw [if_neg hx, if_neg (fun z => hx ((h x).mpr z))]
theorem inc_ext : ∀ {l m : List Int}, l.Pairwise (· < ·) → m.Pairwise (· < ·) → (∀ z, z ∈ l ↔ z ∈ m) → l = m
  | [], [], _, _, _ => rfl
  | [], b :: m, _, _, h => absurd ((h b).mpr (by simp)) (by simp)
  | a :: l, [], _, _, h => absurd ((h a).mp (by simp)) (by simp)
  | a :: l, b :: m, hl, hm, h => by
    rw [List.pairwise_cons] at hl hm
    have hab : a = b := by
      rcases List.mem_cons.mp ((h a).mp (by simp)) with z | z
      · exact z
      · rcases List.mem_cons.mp ((h b).mpr (by simp)) with y | y
        · exact y.symm
        · have h1 := hm.1 a z
          have h2 := hl.1 b y
          omega
    subst hab
    refine congrArg _ (inc_ext hl.2 hm.2 fun z => ?_)
    constructor
    · intro hz
      rcases List.mem_cons.mp ((h z).mp (by simp [hz])) with y | y
      · have := hl.1 z hz; omega
      · exact y
    · intro hz
      rcases List.mem_cons.mp ((h z).mpr (by simp [hz])) with y | y
      · have := hm.1 z hz; omega
      · exact y
noncomputable def sel (c : Nat) (p : Nat → Bool) : List Int := ((List.range c).filter p).map fun (k : Nat) => (k : Int)
theorem sel_mem {c : Nat} {p : Nat → Bool} {z : Int} : z ∈ sel c p ↔ ∃ k : Nat, k < c ∧ p k = true ∧ z = (k : Int) := by
  unfold sel
  rw [List.mem_map]
  constructor
  · rintro ⟨k, hk, rfl⟩
    obtain ⟨h1, h2⟩ := List.mem_filter.mp hk
    exact ⟨k, List.mem_range.mp h1, h2, rfl⟩
  · rintro ⟨k, h1, h2, rfl⟩
    exact ⟨k, List.mem_filter.mpr ⟨List.mem_range.mpr h1, h2⟩, rfl⟩
theorem sel_mem' {c : Nat} {p : Nat → Bool} {k : Nat} : (k : Int) ∈ sel c p ↔ k < c ∧ p k = true := by
  rw [sel_mem]
  constructor
  · rintro ⟨j, h1, h2, h3⟩
    have : j = k := by omega
    subst this
    exact ⟨h1, h2⟩
  · rintro ⟨h1, h2⟩
    exact ⟨k, h1, h2, rfl⟩
theorem sel_inc (c : Nat) (p : Nat → Bool) : (sel c p).Pairwise (· < ·) := by
  unfold sel
  rw [List.pairwise_map]
  exact (List.pairwise_lt_range.filter _).imp fun h => by omega
theorem inc_nd {l : List Int} (h : l.Pairwise (· < ·)) : l.Nodup := h.imp fun h => by omega
theorem sel_congr {c : Nat} {p q : Nat → Bool} (h : ∀ k, k < c → p k = q k) : sel c p = sel c q := by
  unfold sel
  rw [List.filter_congr fun k hk => h k (List.mem_range.mp hk)]
theorem all_sel {c s : Nat} {x : List Int} : x ∈ allH c s ↔ x.length = s ∧ x = sel c fun k => decide ((k : Int) ∈ x) := by
  unfold allH
  rw [List.mem_filter, List.mem_map]
  constructor
  · rintro ⟨⟨b, hb, rfl⟩, h⟩
    refine ⟨of_decide_eq_true h, ?_⟩
    show sel c (fun k => b / 2 ^ k % 2 == 1) = _
    refine sel_congr fun k hk => ?_
    have : ((k : Int) ∈ holdOf c b) ↔ (b / 2 ^ k % 2 == 1) = true := by
      show (k : Int) ∈ sel c (fun k => b / 2 ^ k % 2 == 1) ↔ _
      rw [sel_mem']
      exact ⟨fun h => h.2, fun h => ⟨hk, h⟩⟩
    exact Bool.eq_iff_iff.mpr (this.symm.trans (decide_eq_true_iff).symm)
  · rintro ⟨h1, h2⟩
    refine ⟨?_, decide_eq_true h1⟩
    obtain ⟨m, hm, h⟩ := bits_for (fun k => decide ((k : Int) ∈ x)) c
    refine ⟨m, List.mem_range.mpr hm, ?_⟩
    rw [h2]
    show sel c (fun k => m / 2 ^ k % 2 == 1) = _
    exact sel_congr fun k hk => h k hk
section
variable {σ : List Nat} {c : Nat}
noncomputable def psi (σ : List Nat) (c : Nat) (y : List Int) : List Int := sel c fun k => decide (((σ.getD k 0 : Nat) : Int) ∈ y)
noncomputable def phi (σ : List Nat) (c : Nat) (x : List Int) : List Int := sel c fun j => decide (((σ.idxOf j : Nat) : Int) ∈ x)
theorem Perm9.get (h : Perm9 σ c) {k : Nat} (hk : k < c) : σ[k]? = some (σ.getD k 0) ∧ σ.getD k 0 < c ∧ σ.idxOf (σ.getD k 0) = k := by
  have hl : k < σ.length := by rw [h.len]; exact hk
  have e : σ.getD k 0 = σ[k] := by rw [List.getD_eq_getElem?_getD, List.getElem?_eq_getElem hl]; rfl
  have hi : σ[k]? = some (σ.getD k 0) := by rw [e]; exact List.getElem?_eq_getElem hl
  refine ⟨hi, h.mem.mp (List.mem_of_getElem? hi), ?_⟩
  have hm := List.mem_of_getElem? hi
  have h1 : σ.idxOf (σ.getD k 0) < σ.length := List.idxOf_lt_length_iff.mpr hm
  have h2 : σ[σ.idxOf (σ.getD k 0)]? = σ[k]? := by rw [hi, List.getElem?_eq_getElem h1, List.getElem_idxOf]
  exact (List.getElem?_inj h1 h.nd).mp h2
theorem Perm9.at (h : Perm9 σ c) {j : Nat} (hj : j < c) : σ.idxOf j < c ∧ σ.getD (σ.idxOf j) 0 = j := by
  have hm : j ∈ σ := h.mem.mpr hj
  have h1 : σ.idxOf j < σ.length := List.idxOf_lt_length_iff.mpr hm
  refine ⟨by rw [← h.len]; exact h1, ?_⟩
  rw [List.getD_eq_getElem?_getD, List.getElem?_eq_getElem h1, List.getElem_idxOf]; rfl
theorem psi_phi (h : Perm9 σ c) {s : Nat} {x : List Int} (hx : x ∈ allH c s) : psi σ c (phi σ c x) = x := by
  rw [(all_sel.mp hx).2]
  refine sel_congr fun k hk => ?_
  obtain ⟨_, h2, h3⟩ := h.get hk
  rw [← (all_sel.mp hx).2]
  refine decide_eq_decide.mpr ?_
  unfold phi
  rw [sel_mem', h3, decide_eq_true_iff]
  exact ⟨fun z => z.2, fun z => ⟨h2, z⟩⟩
theorem phi_psi (h : Perm9 σ c) {s : Nat} {y : List Int} (hy : y ∈ allH c s) : phi σ c (psi σ c y) = y := by
  rw [(all_sel.mp hy).2]
  refine sel_congr fun j hj => ?_
  obtain ⟨h2, h3⟩ := h.at hj
  rw [← (all_sel.mp hy).2]
  refine decide_eq_decide.mpr ?_
  unfold psi
  rw [sel_mem', h3, decide_eq_true_iff]
  exact ⟨fun z => z.2, fun z => ⟨h2, z⟩⟩
noncomputable def mapS (σ : List Nat) (x : List Int) : List Int := x.map fun z => ((σ.getD z.toNat 0 : Nat) : Int)
theorem mapS_nd (h : Perm9 σ c) {x : List Int} (nd : x.Nodup) (hx : ∀ z ∈ x, ∃ k : Nat, k < c ∧ z = (k : Int)) : (mapS σ x).Nodup := by
  induction x with
  | nil => exact List.nodup_nil
  | cons z x ih =>
    rw [List.nodup_cons] at nd
    show (((σ.getD z.toNat 0 : Nat) : Int) :: mapS σ x).Nodup
    rw [List.nodup_cons]
    refine ⟨fun hm => ?_, ih nd.2 fun y hy => hx y (by simp [hy])⟩
    obtain ⟨y, hy, e⟩ := List.mem_map.mp hm
    obtain ⟨k, hk, rfl⟩ := hx z (by simp)
    obtain ⟨j, hj, rfl⟩ := hx y (by simp [hy])
    have h1 := (h.get hk).2.2
    have h2 := (h.get hj).2.2
    rw [Int.toNat_natCast, Int.toNat_natCast] at e
    have e' : σ.getD j 0 = σ.getD k 0 := by omega
    rw [e', h1] at h2
    exact nd.1 (by rw [h2]; exact hy)
theorem phi_perm (h : Perm9 σ c) {s : Nat} {x : List Int} (hx : x ∈ allH c s) : (phi σ c x).Perm (mapS σ x) := by
  obtain ⟨h1, h2⟩ := all_sel.mp hx
  have hm : ∀ z ∈ x, ∃ k : Nat, k < c ∧ z = (k : Int) := fun z hz => by
    rw [h2] at hz
    obtain ⟨k, g1, _, g3⟩ := sel_mem.mp hz
    exact ⟨k, g1, g3⟩
  have nx : x.Nodup := by rw [h2]; exact inc_nd (sel_inc _ _)
  refine nd_perm (inc_nd (sel_inc _ _)) (mapS_nd h nx hm) fun z => ?_
  unfold phi
  rw [sel_mem]
  constructor
  · rintro ⟨j, g1, g2, rfl⟩
    obtain ⟨a1, a2⟩ := h.at g1
    exact List.mem_map.mpr ⟨_, of_decide_eq_true g2, by rw [Int.toNat_natCast, a2]⟩
  · intro hz
    obtain ⟨y, hy, rfl⟩ := List.mem_map.mp hz
    obtain ⟨k, hk, rfl⟩ := hm y hy
    obtain ⟨_, a2, a3⟩ := h.get hk
    rw [Int.toNat_natCast]
    exact ⟨_, a2, decide_eq_true (by rw [a3]; exact hy), rfl⟩
theorem phi_all (h : Perm9 σ c) {s : Nat} {x : List Int} (hx : x ∈ allH c s) : phi σ c x ∈ allH c s := by
  refine all_sel.mpr ⟨?_, ?_⟩
  · rw [(phi_perm h hx).length_eq]
    unfold mapS
    rw [List.length_map, (all_sel.mp hx).1]
  · show sel c _ = _
    refine sel_congr fun k hk => ?_
    have : ((k : Int) ∈ phi σ c x) ↔ ((σ.idxOf k : Nat) : Int) ∈ x := by
      unfold phi
      rw [sel_mem', decide_eq_true_iff]
      exact ⟨fun z => z.2, fun z => ⟨hk, z⟩⟩
    exact decide_eq_decide.mpr this.symm
theorem sorted_phi (h : Perm9 σ c) {s : Nat} {x ms : List Int} (hx : x ∈ allH c s) (p : ms.Perm (mapS σ x)) (o : ms.Pairwise (· ≤ ·)) : ms = phi σ c x := by
  have pp := phi_perm h hx
  have q : ms.Perm (phi σ c x) := p.trans pp.symm
  have nd : ms.Nodup := q.nodup_iff.mpr (inc_nd (sel_inc _ _))
  refine inc_ext ?_ (sel_inc _ _) fun z => q.mem_iff
  exact o.imp₂ (fun a b => by omega) nd
end
end L2

end

section
-- KcEx3
set_option Elab.async false
set_option linter.all false
set_option maxRecDepth 100000
set_option maxHeartbeats 4000000
namespace L2
open PySem
section
variable {σ : List Nat} {c : Nat}
theorem psi_perm (h : Perm9 σ c) {s : Nat} {y : List Int} (hy : y ∈ allH c s) : (mapS σ (psi σ c y)).Perm y := by
  obtain ⟨h1, h2⟩ := all_sel.mp hy
  have ny : y.Nodup := by rw [h2]; exact inc_nd (sel_inc _ _)
  have hm : ∀ z ∈ psi σ c y, ∃ k : Nat, k < c ∧ z = (k : Int) := fun z hz => by
    obtain ⟨k, g1, _, g3⟩ := sel_mem.mp hz
    exact ⟨k, g1, g3⟩
  refine nd_perm (mapS_nd h (inc_nd (sel_inc _ _)) hm) ny fun z => ?_
  constructor
  · intro hz
    obtain ⟨x, hx, rfl⟩ := List.mem_map.mp hz
    obtain ⟨k, g1, g2, rfl⟩ := sel_mem.mp hx
    rw [Int.toNat_natCast]
    exact of_decide_eq_true g2
  · intro hz
    have hz' := hz
    rw [h2] at hz'
    obtain ⟨j, g1, _, rfl⟩ := sel_mem.mp hz'
    obtain ⟨a1, a2⟩ := h.at g1
    refine List.mem_map.mpr ⟨((σ.idxOf j : Nat) : Int), sel_mem'.mpr ⟨a1, decide_eq_true (by rw [a2]; exact hz)⟩, by rw [Int.toNat_natCast, a2]⟩
theorem psi_all (h : Perm9 σ c) {s : Nat} {y : List Int} (hy : y ∈ allH c s) : psi σ c y ∈ allH c s := by
  refine all_sel.mpr ⟨?_, ?_⟩
  · have := (psi_perm h hy).length_eq
    unfold mapS at this
    rw [List.length_map] at this
    rw [this, (all_sel.mp hy).1]
  · show sel c _ = _
    refine sel_congr fun k hk => ?_
    have : ((k : Int) ∈ psi σ c y) ↔ ((σ.getD k 0 : Nat) : Int) ∈ y := by
      unfold psi
      rw [sel_mem', decide_eq_true_iff]
      exact ⟨fun z => z.2, fun z => ⟨hk, z⟩⟩
    exact decide_eq_decide.mpr this.symm
theorem exch_ok (h : Perm9 σ c) {s : Nat} {L : List (List (List Int))} {num : List Int → Nat} (ok : CodeOk L (allH c s) num) : CodeOk (L.map fun l => l.map (phi σ c)) (allH c s) (fun y => num (psi σ c y)) := by
  constructor
  · intro i l hl y hy
    rw [List.getElem?_map] at hl
    cases hr : L[i]? with
    | none => rw [hr] at hl; cases hl
    | some l0 =>
      rw [hr] at hl
      cases hl
      obtain ⟨x, hx, rfl⟩ := List.mem_map.mp hy
      obtain ⟨g1, g2⟩ := ok.mem i l0 hr x hx
      exact ⟨phi_all h g1, by show num (psi σ c (phi σ c x)) = i; rw [psi_phi h g1, g2]⟩
  · intro y hy
    obtain ⟨l, hl, hx⟩ := ok.all (psi σ c y) (psi_all h hy)
    exact ⟨l.map (phi σ c), by show (L.map _)[num (psi σ c y)]? = _; rw [List.getElem?_map, hl]; rfl, List.mem_map.mpr ⟨_, hx, phi_psi h hy⟩⟩
theorem held_sel (w : List Nat) (a : Int) : heldI w a = sel w.length fun k => decide ((k : Int) ∈ heldI w a) := by
  show sel w.length (fun j => decide ((w.map fun (s : Nat) => ((s : Nat) : Int))[j]? = some a)) = _
  refine sel_congr fun k hk => decide_eq_decide.mpr ?_
  exact (cast_get w k a).trans held_mem.symm
theorem held_pull (h : Perm9 σ c) {w : List Nat} (hw : w.length = c) (a : Int) : heldI (pull σ w) a = psi σ c (heldI w a) := by
  rw [held_sel (pull σ w) a, pull_len, h.len]
  refine sel_congr fun k hk => decide_eq_decide.mpr ?_
  obtain ⟨g1, g2, _⟩ := h.get hk
  rw [held_mem, held_mem, pull_get g1 (by rw [hw]; exact g2)]
theorem psi_inj (h : Perm9 σ c) {v w : List Nat} (hv : v.length = c) (hw : w.length = c) {a : Int} (e : psi σ c (heldI v a) = psi σ c (heldI w a)) : heldI v a = heldI w a := by
  refine held_same (hv.trans hw.symm) fun k => ?_
  by_cases hk : k < c
  · obtain ⟨a1, a2⟩ := h.at hk
    have m : ∀ u : List Nat, ((σ.idxOf k : Nat) : Int) ∈ psi σ c (heldI u a) ↔ (k : Int) ∈ heldI u a := fun u => by
      unfold psi
      rw [sel_mem', decide_eq_true_iff, a2]
      exact ⟨fun z => z.2, fun z => ⟨a1, z⟩⟩
    rw [← held_mem, ← held_mem, ← m v, ← m w, e]
  · rw [List.getElem?_eq_none (by omega), List.getElem?_eq_none (by omega)]
variable {room : List Nat} {num : List Int → Nat} {a b e : Int}
noncomputable def TC (room : List Nat) (c : Nat) (σ : List Nat) (w w' : List Nat) : Prop := w' ∈ KM.level room c ∧ w = pull σ w'
theorem iso_cards (hs : room.sum = c) (h : Perm9 σ c) : Iso (KM.level room c) (KM.level room c) a b e a b e num (fun y => num (psi σ c y)) (TC room c σ) := by
  have hl : ∀ {w}, w ∈ KM.level room c → w.length = c := fun hw => (deal_facts hs hw).1
  have hh : ∀ (x : Int) (v v' w w' : List Nat), TC room c σ v v' → TC room c σ w w' → (heldI v x = heldI w x ↔ heldI v' x = heldI w' x) := by
    rintro x v v' w w' ⟨mv, rfl⟩ ⟨mw, rfl⟩
    rw [held_pull h (hl mv), held_pull h (hl mw)]
    exact ⟨psi_inj h (hl mv) (hl mw), fun z => by rw [z]⟩
  refine ⟨fun w hw => ⟨push σ c w, push_mem hs h hw, push_mem hs h hw, (pull_push h (hl hw)).symm⟩, fun w' hw' => ⟨pull σ w', level_perm hs hw' (pull_perm h (hl hw')), hw', rfl⟩, hh a, hh b, hh e, ?_, ?_⟩
  · rintro v v' w w' ⟨mv, rfl⟩ ⟨mw, rfl⟩
    rw [held_pull h (hl mv), held_pull h (hl mw)]
  · rintro w w' i k ⟨mw, rfl⟩ hk hne
    have hi : i < c := by
      have := (List.getElem?_eq_some_iff.mp hk).1
      rw [pull_len, h.len] at this
      exact this
    obtain ⟨g1, g2, _⟩ := h.get hi
    refine ⟨σ.getD i 0, k, hne, ?_⟩
    rintro v v' ⟨mv, rfl⟩
    rw [pull_get g1 (by rw [hl mv]; exact g2)]
theorem iso_cards' (hs : room.sum = c) (h : Perm9 σ c) : Iso (KM.level room c) (KM.level room c) a b e a b e (fun y => num (psi σ c y)) num (fun w' w => TC room c σ w w') := by
  have I := iso_cards (num := num) (a := a) (b := b) (e := e) hs h
  have hl : ∀ {w}, w ∈ KM.level room c → w.length = c := fun hw => (deal_facts hs hw).1
  refine ⟨I.fro, I.to, fun v v' w w' x y => (I.ha _ _ _ _ x y).symm, fun v v' w w' x y => (I.hb _ _ _ _ x y).symm, fun v v' w w' x y => (I.he _ _ _ _ x y).symm, fun v v' w w' x y => (I.hn _ _ _ _ x y).symm, ?_⟩
  rintro w' w j k ⟨mw, rfl⟩ hk hne
  have hj : j < c := by rw [← hl mw]; exact (List.getElem?_eq_some_iff.mp hk).1
  obtain ⟨a1, a2⟩ := h.at hj
  obtain ⟨g1, g2, _⟩ := h.get a1
  refine ⟨σ.idxOf j, k, hne, ?_⟩
  rintro v' v ⟨mv, rfl⟩
  rw [pull_get g1 (by rw [hl mv]; exact g2), a2]
theorem cards_ok (hs : room.sum = c) (h : Perm9 σ c) {r r' : FR} (f : FRes (KM.level room c) a b e num r) (f' : FRes (KM.level room c) a b e (fun y => num (psi σ c y)) r') : r = .ok ↔ r' = .ok := iso_ok (iso_cards hs h) (iso_cards' hs h) f f'
end
/-! hands exchanged -/
section
variable {τ : List Nat} {n : Nat}
noncomputable def rho (τ : List Nat) (n j : Nat) : Nat := if j < n then τ.idxOf j else j
noncomputable def roh (τ : List Nat) (n j : Nat) : Nat := if j < n then τ.getD j 0 else j
theorem roh_rho (h : Perm9 τ n) (j : Nat) : roh τ n (rho τ n j) = j := by
  unfold roh rho
  by_cases z : j < n
  · obtain ⟨a1, a2⟩ := h.at z
    rw [if_pos z, if_pos a1, a2]
  · rw [if_neg z, if_neg z]
theorem rho_roh (h : Perm9 τ n) (j : Nat) : rho τ n (roh τ n j) = j := by
  unfold roh rho
  by_cases z : j < n
  · obtain ⟨_, a1, a2⟩ := h.get z
    rw [if_pos z, if_pos a1, a2]
  · rw [if_neg z, if_neg z]
theorem rho_inj (h : Perm9 τ n) {i j : Nat} (e : rho τ n i = rho τ n j) : i = j := by rw [← roh_rho h i, e, roh_rho h j]
theorem roh_inj (h : Perm9 τ n) {i j : Nat} (e : roh τ n i = roh τ n j) : i = j := by rw [← rho_roh h i, e, rho_roh h j]
theorem rho_le (h : Perm9 τ n) {j : Nat} (hj : j < n + 1) : rho τ n j < n + 1 := by
  unfold rho
  split
  · rename_i z; have := (h.at z).1; omega
  · exact hj
theorem roh_le (h : Perm9 τ n) {j : Nat} (hj : j < n + 1) : roh τ n j < n + 1 := by
  unfold roh
  split
  · rename_i z; have := (h.get z).2.1; omega
  · exact hj
theorem count_inj {f : Nat → Nat} (hf : ∀ i j, f i = f j → i = j) (w : List Nat) (j : Nat) : (w.map f).count (f j) = w.count j := by
  induction w with
  | nil => rfl
  | cons a w ih =>
    rw [List.map_cons, List.count_cons, List.count_cons, ih]
    by_cases e : a = j
    · subst e; simp
    · have : ¬ f a = f j := fun z => e (hf _ _ z)
      simp [e, this]
theorem held_map {f : Nat → Nat} (hf : ∀ i j, f i = f j → i = j) (w : List Nat) (h : Nat) : heldI (w.map f) ((f h : Nat) : Int) = heldI w (h : Int) := by
  rw [held_sel (w.map f), held_sel w, List.length_map]
  refine sel_congr fun k hk => decide_eq_decide.mpr ?_
  rw [held_mem, held_mem, List.getElem?_map]
  cases w[k]? with
  | none => simp
  | some x =>
    show (∃ y, some (f x) = some y ∧ (y : Int) = (f h : Int)) ↔ ∃ y, some x = some y ∧ (y : Int) = (h : Int)
    constructor
    · rintro ⟨y, e1, e2⟩; cases e1; exact ⟨x, rfl, by rw [hf x h (by omega)]⟩
    · rintro ⟨y, e1, e2⟩; cases e1; exact ⟨_, rfl, by rw [show x = h by omega]⟩
variable {room room' : List Nat} {c : Nat} {num : List Int → Nat} {a b e : Nat}
theorem map_level {f : Nat → Nat} (hf : ∀ i j, f i = f j → i = j) (hs : room.sum = c) (hl : room'.length = room.length) (hg : ∀ j, j < room.length → f j < room.length ∧ room'.getD (f j) 0 = room.getD j 0) {w : List Nat} (hw : w ∈ KM.level room c) : w.map f ∈ KM.level room' c := by
  obtain ⟨f1, f2, f3⟩ := deal_facts hs hw
  refine KM.level_all room' c _ (by rw [List.length_map, f1]) (fun x hx => ?_) fun x => ?_
  · obtain ⟨j, hj, rfl⟩ := List.mem_map.mp hx
    rw [hl]; exact (hg j (f2 j hj)).1
  · by_cases hx : x ∈ w.map f
    · obtain ⟨j, hj, rfl⟩ := List.mem_map.mp hx
      have hjl := f2 j hj
      rw [count_inj hf, f3 j hjl, (hg j hjl).2]
      exact Nat.le_refl _
    · rw [List.count_eq_zero.mpr hx]; exact Nat.zero_le _
theorem iso_map {f g : Nat → Nat} (hf : ∀ i j, f i = f j → i = j) (fg : ∀ j, f (g j) = j) (gi : ∀ i j, g i = g j → i = j) (hs : room.sum = c) (hs' : room'.sum = c) (hl : room'.length = room.length) (hg : ∀ j, j < room.length → f j < room.length ∧ room'.getD (f j) 0 = room.getD j 0) (hg' : ∀ j, j < room.length → g j < room.length ∧ room.getD (g j) 0 = room'.getD j 0) :
    Iso (KM.level room c) (KM.level room' c) (a : Int) (b : Int) (e : Int) ((f a : Nat) : Int) ((f b : Nat) : Int) ((f e : Nat) : Int) num num (fun w w' => w' = w.map f) := by
  refine ⟨fun w hw => ⟨w.map f, map_level hf hs hl hg hw, rfl⟩, fun w' hw' => ⟨w'.map g, map_level gi hs' hl.symm (fun j hj => by rw [hl] at hj ⊢; exact hg' j hj) hw', ?_⟩, ?_, ?_, ?_, ?_, ?_⟩
  · rw [List.map_map, show (f ∘ g) = id from funext fg, List.map_id]
  · rintro v v' w w' rfl rfl; rw [held_map hf, held_map hf]
  · rintro v v' w w' rfl rfl; rw [held_map hf, held_map hf]
  · rintro v v' w w' rfl rfl; rw [held_map hf, held_map hf]
  · rintro v v' w w' rfl rfl; rw [held_map hf, held_map hf]
  · rintro w w' i h rfl hi hne
    refine ⟨i, f h, fun z => hne (by rw [hf h e (by omega)]), ?_⟩
    rintro v v' rfl
    rw [List.getElem?_map]
    cases v[i]? with
    | none => simp
    | some x => exact ⟨fun z => by cases z; rfl, fun z => by injection z with z; rw [hf _ _ z]⟩
theorem hands_ok (h : Perm9 τ n) (hs : room.sum = c) (hs' : room'.sum = c) (hn : room.length = n + 1) (hl : room'.length = room.length) (hg : ∀ j, j < n + 1 → room'.getD (rho τ n j) 0 = room.getD j 0) {r r' : FR} (f : FRes (KM.level room c) (a : Int) (b : Int) (e : Int) num r) (f' : FRes (KM.level room' c) ((rho τ n a : Nat) : Int) ((rho τ n b : Nat) : Int) ((rho τ n e : Nat) : Int) num r') : r = .ok ↔ r' = .ok := by
  have hg' : ∀ j, j < n + 1 → room.getD (roh τ n j) 0 = room'.getD j 0 := fun j hj => by rw [← hg _ (roh_le h hj), rho_roh h]
  have A : ∀ j, j < room.length → rho τ n j < room.length ∧ room'.getD (rho τ n j) 0 = room.getD j 0 := fun j hj => by rw [hn] at hj ⊢; exact ⟨rho_le h hj, hg j hj⟩
  have B : ∀ j, j < room.length → roh τ n j < room.length ∧ room.getD (roh τ n j) 0 = room'.getD j 0 := fun j hj => by rw [hn] at hj ⊢; exact ⟨roh_le h hj, hg' j hj⟩
  have I := iso_map (num := num) (a := a) (b := b) (e := e) (f := rho τ n) (g := roh τ n) (fun i j => rho_inj h) (rho_roh h) (fun i j => roh_inj h) hs hs' hl A B
  have I' := iso_map (num := num) (a := rho τ n a) (b := rho τ n b) (e := rho τ n e) (f := roh τ n) (g := rho τ n) (fun i j => roh_inj h) (roh_rho h) (fun i j => rho_inj h) hs' hs hl.symm (fun j hj => by rw [hl] at hj ⊢; exact B j hj) (fun j hj => by rw [hl] at hj ⊢; exact A j hj)
  rw [roh_rho h, roh_rho h, roh_rho h] at I'
  exact iso_ok I I' f f'
end
end L2

end

section
-- KcK58
set_option Elab.async false
set_option linter.all false
set_option maxRecDepth 100000
set_option maxHeartbeats 4000000
namespace L2
open PySem PyProof.Rows

noncomputable def sp__law_lists_l (_ : PySem.W.Frag) : Sp := fun vs H Q _ => ∃ (z : Int) (l : Addr) (c : Nat) (hs : List (List Int)), vs = [.int z, .ref l, .int (c : Int)] ∧ HoldAt H l hs ∧ hs.Nodup ∧ hs.length ≤ 128 ∧ 1 ≤ hs.length ∧ c ≤ 7 ∧
  ∀ f (L : List (List (List Int))) (num : List Int → Nat) H', H f = none → Same H H' → WordsAt H' f L → CodeOk L hs num → 1 ≤ L.length → L.length ≤ 128 → (∀ l ∈ L, l.length ≤ 128) → Q (.ref f) H'
theorem len__law_lists_l {K : PySem.W.Frag} {vs : List V} {H : Hp} {Q : VK} {E : XK} (h : sp__law_lists_l K vs H Q E) : vs.length = 3 := by
  obtain ⟨z, l, c, hs, rfl, HA, nd, hhl, hh1, hc, q⟩ := h
  rfl
noncomputable def t__law_lists_l (K : PySem.W.Frag) : TS := (tSeq (tAsg (tOp (rIxL K) (mLst (tCons (tCB cMax2 (tCons (tC (.int 1)) (tCons (tVar 2) tNil))) (tCons (tOp (rI0 fun i j => .int (i + j)) (tC (.int 1)) (tOp (rI (fun _ j => 0 < j) fun i j => .int (i % j)) (tOp (rI CDiv fun i j => .int (i / j)) (tVar 0) (tC (.int 4))) (tC (.int 9)))) tNil))) (tOp (rI (fun _ j => 0 < j) fun i j => .int (i % j)) (tOp (rI CDiv fun i j => .int (i / j)) (tVar 0) (tC (.int 36))) (tC (.int 2)))) (gName 3))
  (tSeq (tIfS (tTest (tOp rEq (tOp (rI (fun _ j => 0 < j) fun i j => .int (i % j)) (tVar 0) (tC (.int 4))) (tC (.int 2)))) (tAsg (tCB (cLen K) (tCons (tVar 1) tNil)) (gName 3)) tNext)
  (tSeq (tAsg (tComp (iRng1 (tCons (tVar 3) tNil)) (fun _ _ _ _ => (gName 0)) (fun _ _ _ _ => tAlways) (fun _ _ _ _ => (mLst tNil)) [none]) (gName 4))
  (tSeq (tFor (iRng1 (tCons (tCB (cLen K) (tCons (tVar 1) tNil)) tNil)) (gName 5) (tSeq (tAsg (tOp (rI (fun _ j => 0 < j) fun i j => .int (i % j)) (tOp (rIxL K) (mLst (tCons (tCB (cSumT K) (tCons (tOp (rIxL K) (tVar 1) (tVar 5)) tNil)) (tCons (tCB (cSumT K) (tCons (tOp (rIxL K) (tVar 1) (tVar 5)) tNil)) (tCons (tVar 5) (tCons (tCall (sp__law_mixed_l K) [] E0 (tCons (tVar 0) (tCons (tVar 5) tNil))) tNil))))) (tOp (rI (fun _ j => 0 < j) fun i j => .int (i % j)) (tVar 0) (tC (.int 4)))) (tVar 3)) (gName 6))
  (tDrop (tBM K "list" rAppend (tOp (rIxL K) (tVar 4) (tVar 6)) (tCons (tOp (rIxL K) (tVar 1) (tVar 5)) tNil)))))
  (tRet (tVar 4))))))
noncomputable abbrev N__law_lists_l : List Str := ["_law_cell_here", "_law_holdings_here", "_law_cards", "_law_many", "_law_made", "_law_k", "_law_number"]
theorem rd__law_lists_l {K : PySem.W.Frag} {vs : List V} {H : Hp} {Q : VK} {E : XK} (h : sp__law_lists_l K vs H Q E) : t__law_lists_l K { nx := fun _ H' => Q .non H', rt := Q } (start N__law_lists_l vs) H := by
  obtain ⟨z, l, c, hs, rfl, HA, nd, hhl, hh1, hc, q⟩ := h
  show t__law_lists_l K _ [some _, some _, some _, none, none, none, none] _
  unfold t__law_lists_l
  obtain ⟨ts, el, pt⟩ := id HA
  have htl := prLen pt
  have z9 : 0 ≤ z / 4 % 9 ∧ z / 4 % 9 < 9 := ⟨Int.emod_nonneg _ (by decide), Int.emod_lt_of_pos _ (by decide)⟩
  walk_at "rd"
  refine ⟨by simp [sizeLine_eq], fun l1 H1 hl1 s1 e1 => ?_⟩
  walk_at "rd"
  obtain ⟨x, hx, hxm⟩ := at_mod _ (z / 36) (m := 2) (show [V.int (if (c : Int) > 1 then (c : Int) else 1), V.int (1 + z / 4 % 9)].length = 2 from rfl) (by decide)
  refine r_ixL (SqL.of e1) hx ?_
  obtain ⟨m, rfl, hm1, hm9⟩ : ∃ m : Nat, x = .int (m : Int) ∧ 1 ≤ m ∧ m ≤ 9 := by
    simp only [List.mem_cons, List.not_mem_nil, or_false] at hxm
    rcases hxm with rfl | rfl
    · by_cases h : (c : Int) > 1
      · rw [if_pos h]; exact ⟨c, rfl, by omega, by omega⟩
      · rw [if_neg h]; exact ⟨1, rfl, by omega, by omega⟩
    · exact ⟨(1 + z / 4 % 9).toNat, by rw [show (((1 + z / 4 % 9).toNat : Nat) : Int) = 1 + z / 4 % 9 by omega], by omega, by omega⟩
  walk_at "rs"
  refine r_seq_n fun NX hNX => ?_
  have key : ∀ m : Nat, 1 ≤ m → m ≤ 128 → NX [some (.int z), some (.ref l), some (.int (c : Int)), some (.int (m : Int)), none, none, none] H1 := by
    clear hm1 hm9 hx hxm
    intro m hm1 hm9
    refine hNX _ _ ?_
    clear hNX
    walk_at "rd"
    refine lc_rangeW m (by omega) (by omega) (by omega) (fun p i acc H2 => ∃ as : List Addr, acc = as.map V.ref ∧ as.length = i ∧ as.Nodup ∧ ∀ b ∈ as, b ≠ p ∧ H1 b = none ∧ H2 b = some (.lst [])) (fun p H' s => ⟨[], rfl, rfl, .nil, fun b hb => by (cases hb)⟩) ?_ ?_
    · rintro p hp C s' H' fp i acc H2 hi ⟨s2, e2, l2, as, rfl, la, nda, h2⟩
      walk_at "rd"
      refine ⟨by simp [sizeLine_eq], fun b H3 hb s3 e3 => ?_⟩
      have nb : b ≠ p := (ne_of_none e2 hb).symm
      refine ⟨s3 _ _ e2, (s2.trans s3).upd hp _, upd_same, by rw [List.length_append]; exact Nat.add_le_add_right l2 1, as ++ [b], by rw [List.map_append]; rfl, by rw [List.length_append, la]; rfl, ?_, fun cc hcc => ?_⟩
      · refine List.nodup_append.mpr ⟨nda, by simp, fun x hx y hy e => ?_⟩
        rw [List.mem_singleton.mp hy] at e
        subst e
        rw [(h2 x hx).2.2] at hb
        cases hb
      · rcases List.mem_append.mp hcc with hcc | hcc
        · exact ⟨(h2 cc hcc).1, (h2 cc hcc).2.1, by rw [upd_ne (h2 cc hcc).1]; exact s3 _ _ (h2 cc hcc).2.2⟩
        · rw [List.mem_singleton.mp hcc]
          exact ⟨nb, s2.free hb, by rw [upd_ne nb]; exact e3⟩
    rintro p acc H2 hp s2 e2 ⟨as, rfl, la, nda, h2⟩
    have s12 := s1.trans s2
    have el2 := s12 _ _ el
    -- what a list holds behind i of the holdings
    let cont : (Nat → Nat) → Nat → Nat → List V := fun nb i cc => ((List.range i).filter fun k => nb k == cc).map fun k => V.ref (ts.getD k 0)
    walk_at "rd"
    rw [List.length_map, htl]
    refine lp_range hs.length (by omega) (by omega) (by omega) (fun i σ H3 => ∃ (u5 u6 : Option V) (nb : Nat → Nat), σ = [some (.int z), some (.ref l), some (.int (c : Int)), some (.int (m : Int)), some (.ref p), u5, u6] ∧ Same H1 H3 ∧ H3 p = some (.lst (as.map V.ref)) ∧ (∀ k, k < i → nb k < m) ∧ ∀ (cc : Nat) (b : Addr), as[cc]? = some b → b ≠ p ∧ H1 b = none ∧ H3 b = some (.lst (cont nb i cc))) ⟨_, _, fun _ => 0, rfl, s2, e2, fun k h => by omega, fun cc b hb => h2 b (List.mem_of_getElem? hb)⟩ ?_ ?_
    · rintro i σ H3 hi ⟨u5, u6, nb, rfl, s3, e3, hnb, h3⟩
      have s13 := s1.trans s3
      have el3 := s13 _ _ el
      obtain ⟨t, ht⟩ : ∃ t, ts[i]? = some t := ⟨ts[i]'(by omega), List.getElem?_eq_getElem (by omega)⟩
      obtain ⟨x, hx', ex⟩ := prGet pt ht
      walk_at "rd"
      refine r_ixL (SqL.of el3) (refs_get ht) ?_
      walk_at "rd"
      refine r_sumT (SqT.of (s13 _ _ ex)) ?_
      walk_at "rd"
      refine r_ixL (SqL.of el3) (refs_get ht) ?_
      walk_at "rd"
      refine r_sumT (SqT.of (s13 _ _ ex)) ?_
      walk_at "rd"
      refine ⟨z, (i : Int), rfl, by omega, by omega, fun y y0 y1 => ?_⟩
      walk_at "rd"
      refine ⟨by simp [sizeLine_eq], fun l4 H4 hl4 s4 e4 => ?_⟩
      walk_at "rd"
      obtain ⟨v, hv, hvm⟩ := at_mod _ z (m := 4) (show [V.int x.sum, V.int x.sum, V.int (i : Int), V.int y].length = 4 from rfl) (by decide)
      obtain ⟨nn, rfl⟩ : ∃ nn : Int, v = .int nn := by
        simp only [List.mem_cons, List.not_mem_nil, or_false] at hvm
        rcases hvm with rfl | rfl | rfl | rfl <;> exact ⟨_, rfl⟩
      refine r_ixL (SqL.of e4) hv ?_
      walk_at "rd"
      obtain ⟨cc, hcc, hccm⟩ : ∃ cc : Nat, nn % (m : Int) = (cc : Int) ∧ cc < m := by
        have a1 := Int.emod_nonneg nn (b := (m : Int)) (by omega)
        have a2 := Int.emod_lt_of_pos nn (b := (m : Int)) (by omega)
        exact ⟨(nn % (m : Int)).toNat, by omega, by omega⟩
      rw [hcc]
      obtain ⟨b, hb⟩ : ∃ b, as[cc]? = some b := ⟨as[cc]'(by omega), List.getElem?_eq_getElem (by omega)⟩
      obtain ⟨b1, b2, b3⟩ := h3 cc b hb
      have s34 := s4
      refine r_ixL (SqL.of (s4 _ _ e3)) (refs_get hb) ?_
      have b4 := s4 _ _ b3
      refine ⟨r_tyL b4, ?_⟩
      walk_at "rd"
      refine r_ixL (SqL.of (s4 _ _ el3)) (refs_get ht) ?_
      walk_at "rd"
      have hcl : (cont nb i cc).length ≤ 128 := by
        show (((List.range i).filter fun k => nb k == cc).map fun k => V.ref (ts.getD k 0)).length ≤ 128
        rw [List.length_map]
        exact Nat.le_trans (List.length_filter_le _ _) (by rw [List.length_range]; omega)
      refine r_append b4 (by rw [sizeLine_eq]; omega) fun H5 o5 e5 => ?_
      walk_at "rd"
      refine ⟨_, _, fun k => if k = i then cc else nb k, rfl, (s3.trans s4).off b2 o5, by rw [o5 p b1.symm]; exact s4 _ _ e3, fun k hk => ?_, fun c' b' hb' => ?_⟩
      · show (if k = i then cc else nb k) < m
        split
        · exact hccm
        · exact hnb k (by omega)
      · obtain ⟨c1, c2, c3⟩ := h3 c' b' hb'
        refine ⟨c1, c2, ?_⟩
        have hpre : ∀ c'', (List.range i).filter (fun k => (if k = i then cc else nb k) == c'') = (List.range i).filter fun k => nb k == c'' := fun c'' => List.filter_congr fun k hk => by
          have := List.mem_range.mp hk
          rw [if_neg (by omega)]
        have hcs : cont (fun k => if k = i then cc else nb k) (i + 1) c' = cont nb i c' ++ (if cc = c' then [V.ref t] else []) := by
          show (((List.range (i + 1)).filter fun k => (if k = i then cc else nb k) == c').map fun k => V.ref (ts.getD k 0)) = _
          rw [List.range_succ, List.filter_append, List.map_append, hpre]
          congr 1
          have htg : ts.getD i 0 = t := by rw [List.getD_eq_getElem?_getD, ht]; rfl
          by_cases zz : cc = c'
          · rw [if_pos zz, List.filter_cons_of_pos (by simp [zz])]
            show [V.ref (ts.getD i 0)] = _
            rw [htg]
          · rw [if_neg zz, List.filter_cons_of_neg (by simp [zz])]
            rfl
        rw [hcs]
        by_cases zz : cc = c'
        · subst zz
          rw [hb] at hb'
          cases hb'
          rw [if_pos rfl, e5]
        · rw [if_neg zz, List.append_nil, o5 b' (fun w => zz ?_)]
          · exact s4 _ _ c3
          · subst w
            exact (List.getElem?_inj (by omega) nda).mp (hb.trans hb'.symm)
    · rintro σ H3 ⟨u5, u6, nb, rfl, s3, e3, hnb, h3⟩
      walk_at "rd"
      have s03 := s1.trans s3
      refine q p ((List.range m).map (byNum hs nb hs.length)) (fun x => nb (hs.idxOf x)) H3 (s1.free hp) s03 ⟨as, e3, ?_⟩ (byNum_ok nd hnb) (by rw [List.length_map, List.length_range]; exact hm1) (by rw [List.length_map, List.length_range]; exact hm9) (fun l' hl' => ?_)
      · refine paired_of (by rw [List.length_map, List.length_range]; exact la) fun i b y hb hy => ?_
        obtain ⟨c1, c2, c3⟩ := h3 i b hb
        rw [List.getElem?_map] at hy
        cases hr : (List.range m)[i]? with
        | none => rw [hr] at hy; cases hy
        | some i' =>
          have : i' = i := by
            obtain ⟨g1, g2⟩ := List.getElem?_eq_some_iff.mp hr
            rw [List.getElem_range] at g2
            exact g2.symm
          subst this
          rw [hr] at hy
          cases hy
          refine ⟨((List.range hs.length).filter fun k => nb k == i').map fun k => ts.getD k 0, by rw [c3]; show some (HO.lst (_)) = _; rw [List.map_map]; rfl, ?_⟩
          have go : ∀ ks : List Nat, (∀ k ∈ ks, k < hs.length) → Paired (fun (t : Addr) (x : List Int) => H3 t = some (.tup (x.map V.int))) (ks.map fun k => ts.getD k 0) (ks.map fun k => hs.getD k []) := by
            intro ks
            induction ks with
            | nil => exact fun _ => .nil
            | cons k ks ih =>
              intro hk
              refine .cons ?_ (ih fun k' h' => hk k' (by simp [h']))
              have hkl := hk k (by simp)
              obtain ⟨x, hx', ex⟩ := prGet pt (List.getElem?_eq_getElem (show k < ts.length by omega))
              show H3 (ts.getD k 0) = some (HO.tup ((hs.getD k []).map V.int))
              rw [List.getD_eq_getElem?_getD, List.getD_eq_getElem?_getD, List.getElem?_eq_getElem (show k < ts.length by omega), hx']
              exact s03 _ _ ex
          exact go _ fun k hk => List.mem_range.mp (List.mem_filter.mp hk).1
      · obtain ⟨i, hi, rfl⟩ := List.mem_map.mp hl'
        exact Nat.le_trans (byNum_len _ _ _ _) hhl
  clear hNX
  walk_at "rd"
  refine ite_dec (fun h => ?_) (fun h => ?_)
  · walk_at "rd"
    refine r_len (SqL.of (s1 _ _ el)) ?_
    walk_at "rd"
    have := key hs.length hh1 hhl
    rw [List.length_map, htl]
    exact this
  · walk_at "rd"
    exact key m hm1 (by omega)
noncomputable def sp__law_order (_ : PySem.W.Frag) : Sp := fun vs H Q _ => ∃ (z : Int) (m : Nat), vs = [.int z, .int (m : Int)] ∧ m ≤ 1000 ∧ ∀ (f : Addr) (σ : List Nat) H', H f = none → Same H H' → H' f = some (.lst (natV σ)) → Perm9 σ m → Q (.ref f) H'
noncomputable def t__law_order (K : PySem.W.Frag) : TS := (tSeq (tAsg (mLst tNil) (gName 2))
  (tSeq (tFor (iRng1 (tCons (tVar 1) tNil)) (gName 3) (tDrop (tBM K "list" rInsert (tVar 2) (tCons (tOp (rI (fun _ j => 0 < j) fun i j => .int (i % j)) (tCall (sp__law_mixed_l K) [] E0 (tCons (tVar 0) (tCons (tVar 3) tNil))) (tOp (rI0 fun i j => .int (i + j)) (tVar 3) (tC (.int 1)))) (tCons (tVar 3) tNil)))))
  (tRet (tVar 2))))
theorem nat_ins (xs : List Nat) (k j : Nat) : (natV xs).take k ++ V.int (j : Int) :: (natV xs).drop k = natV (xs.take k ++ j :: xs.drop k) := by
  unfold natV
  rw [List.map_append, List.map_cons, List.map_take, List.map_drop]
theorem ins_perm (xs : List Nat) (k j : Nat) : (xs.take k ++ j :: xs.drop k).Perm (xs ++ [j]) := by
  have h1 : (xs.take k ++ j :: xs.drop k).Perm (j :: (xs.take k ++ xs.drop k)) := List.perm_middle
  rw [List.take_append_drop] at h1
  exact h1.trans (List.perm_append_singleton j xs).symm
theorem len__law_order {K : PySem.W.Frag} {vs : List V} {H : Hp} {Q : VK} {E : XK} (h : sp__law_order K vs H Q E) : vs.length = 2 := by
  obtain ⟨z, m, rfl, hm, q⟩ := h
  rfl
theorem rd__law_order {K : PySem.W.Frag} {vs : List V} {H : Hp} {Q : VK} {E : XK} (h : sp__law_order K vs H Q E) : t__law_order K { nx := fun _ H' => Q .non H', rt := Q } (start ["_law_cell_here", "_law_many", "_law_order_here", "_law_k"] vs) H := by
  obtain ⟨z, m, rfl, hm, q⟩ := h
  show t__law_order K _ [some _, some _, none, none] _
  unfold t__law_order
  walk_at "rd"
  refine ⟨by simp [sizeLine_eq], fun f H1 hf s1 e1 => ?_⟩
  walk_at "rd"
  refine lp_range m (by omega) (by omega) (by omega) (fun i σ' H2 => ∃ (u3 : Option V) (xs : List Nat), σ' = [some (.int z), some (.int (m : Int)), some (.ref f), u3] ∧ Same H H2 ∧ H2 f = some (.lst (natV xs)) ∧ xs.Perm (List.range i)) ⟨_, [], rfl, s1, e1, List.Perm.refl _⟩ ?_ ?_
  · rintro i σ' H2 hi ⟨u3, xs, rfl, s2, e2, p2⟩
    have hxl : xs.length = i := by rw [p2.length_eq, List.length_range]
    have hnl : (natV xs).length = i := by rw [natV_len, hxl]
    walk_at "rd"
    refine ⟨r_tyL e2, ?_⟩
    walk_at "rd"
    refine ⟨z, (i : Int), rfl, by omega, by omega, fun y y0 y1 => ?_⟩
    walk_at "rd"
    obtain ⟨k, hk, hkl⟩ : ∃ k : Nat, y % ((i : Int) + 1) = (k : Int) ∧ k < i + 1 := by
      have a1 := Int.emod_nonneg y (b := (i : Int) + 1) (by omega)
      have a2 := Int.emod_lt_of_pos y (b := (i : Int) + 1) (by omega)
      exact ⟨(y % ((i : Int) + 1)).toNat, by omega, by omega⟩
    rw [hk]
    refine r_insert e2 (by rw [hnl, sizeLine_eq]; omega) (by rw [hnl]; omega) fun H3 o3 e3 => ?_
    rw [nat_ins] at e3
    walk_at "rd"
    refine ⟨_, _, rfl, s2.off hf o3, e3, (ins_perm xs k i).trans ?_⟩
    rw [List.range_succ]
    exact p2.append_right [i]
  · rintro σ' H2 ⟨u3, xs, rfl, s2, e2, p2⟩
    walk_at "rd"
    exact q f xs H2 hf s2 e2 ⟨p2⟩
noncomputable def sp__law_exchanged (_ : PySem.W.Frag) : Sp := fun vs H Q _ => ∃ (p o : Addr) (L : List (List (List Int))) (σ : List Nat) (c s : Nat), vs = [.ref p, .ref o] ∧ WordsAt H p L ∧ H o = some (.lst (natV σ)) ∧ Perm9 σ c ∧ c ≤ 7 ∧ L.length ≤ 128 ∧ (∀ l ∈ L, l.length ≤ 128 ∧ ∀ x ∈ l, x ∈ allH c s) ∧
  ∀ (f : Addr) H', H f = none → Same H H' → WordsAt H' f (L.map fun l => l.map (phi σ c)) → Q (.ref f) H'
noncomputable def t__law_exchanged (K : PySem.W.Frag) : TS := (tSeq (tAsg (mLst tNil) (gName 2))
  (tSeq (tFor (iList K (tVar 0)) (gName 3) (tDrop (tBM K "list" rAppend (tVar 2) (tCons (tComp (iList K (tVar 3)) (fun _ _ _ _ => (gName 0)) (fun _ _ _ _ => tAlways) (fun _ _ _ _ => (tCB (mCTuple K) (tCons (tCB (cSorted K) (tCons (tComp (iTup K (tVar 0)) (fun _ _ _ _ => (gName 0)) (fun _ _ _ _ => tAlways) (fun _ _ _ _ => (tOp (rIxL K) (tVar 1) (tVar 0))) [none, some 1]) tNil)) tNil))) [none, some 1]) tNil))))
  (tRet (tVar 2))))
theorem len__law_exchanged {K : PySem.W.Frag} {vs : List V} {H : Hp} {Q : VK} {E : XK} (h : sp__law_exchanged K vs H Q E) : vs.length = 2 := by
  obtain ⟨p, o, L, σ, c, s, rfl, W, eo, hσ, hc, hLl, hll, q⟩ := h
  rfl
theorem rd__law_exchanged {K : PySem.W.Frag} {vs : List V} {H : Hp} {Q : VK} {E : XK} (h : sp__law_exchanged K vs H Q E) : t__law_exchanged K { nx := fun _ H' => Q .non H', rt := Q } (start ["_law_lists_here", "_law_order_here", "_law_made", "_law_some"] vs) H := by
  obtain ⟨p, o, L, σ, c, s, rfl, W, eo, hσ, hc, hLl, hll, q⟩ := h
  show t__law_exchanged K _ [some _, some _, none, none] _
  unfold t__law_exchanged
  obtain ⟨ls, ep, pl⟩ := id W
  have lll := prLen pl
  walk_at "rd"
  refine ⟨by simp [sizeLine_eq], fun f H1 hf s1 e1 => ?_⟩
  walk_at "rd"
  refine lp_list (ls.map V.ref) (SqL.of (s1 _ _ ep)) (fun i σ' H2 => ∃ (u3 : Option V) (bs : List Addr), σ' = [some (.ref p), some (.ref o), some (.ref f), u3] ∧ Same H H2 ∧ H2 f = some (.lst (bs.map V.ref)) ∧ Paired (HoldOff f H2) bs ((L.take i).map fun l => l.map (phi σ c))) ⟨_, [], rfl, s1, e1, .nil⟩ ?_ ?_ ?_
  · rintro i σ' H2 hi ⟨u3, bs, rfl, s2, e2, pb⟩
    exact SqL.of (s2 _ _ ep)
  · rintro i x σ' H2 hx ⟨u3, bs, rfl, s2, e2, pb⟩
    obtain ⟨l, hl, rfl⟩ := refs_at hx
    obtain ⟨y, hy, ts, el, pt⟩ := prGet pl hl
    obtain ⟨hyl, hya⟩ := hll y (List.mem_of_getElem? hy)
    have lty := prLen pt
    have hil : i < L.length := (List.getElem?_eq_some_iff.mp hy).1
    have hbl : bs.length = i := by rw [prLen pb, List.length_map, List.length_take]; omega
    walk_at "rd"
    refine ⟨r_tyL e2, ?_⟩
    walk_at "rd"
    refine lc_listW (ts.map V.ref) (SqL.of (s2 _ _ el)) (by rw [List.length_map]; omega) (fun w k acc H3 => ∃ us : List Addr, acc = us.map V.ref ∧ Paired (fun (u : Addr) (x : List Int) => H3 u = some (.tup (x.map V.int))) us ((y.take k).map (phi σ c))) (fun w H' s => ⟨[], rfl, .nil⟩) ?_ ?_
    · rintro w hw C s' H' fp k x acc H3 hk ⟨s3, e3, l3, us, rfl, pu⟩
      obtain ⟨t, ht, rfl⟩ := refs_at hk
      obtain ⟨x, hx', ex⟩ := prGet pt ht
      have hxa := hya x (List.mem_of_getElem? hx')
      obtain ⟨_, hsel⟩ := all_sel.mp hxa
      have hxc : ∀ z ∈ x, ∃ k : Nat, k < c ∧ z = (k : Int) := fun z hz => by
        rw [hsel] at hz
        obtain ⟨k, g1, _, g3⟩ := sel_mem.mp hz
        exact ⟨k, g1, g3⟩
      have hx7 : x.length ≤ 7 := by
        rw [hsel]
        unfold sel
        rw [List.length_map]
        exact Nat.le_trans (List.length_filter_le _ _) (by rw [List.length_range]; exact hc)
      walk_at "rd"
      refine lc_tup (x.map V.int) (SqT.of (s3 _ _ (s2 _ _ ex))) (by rw [List.length_map]; omega) (fun j acc _ => acc = (mapS σ (x.take j)).map V.int) (fun _ _ => rfl) ?_ ?_
      · rintro w' hw' C2 s'' H'' fp2 j v acc H4 hj ⟨s4, e4, l4, rfl⟩
        rw [List.getElem?_map] at hj
        cases hr : x[j]? with
        | none => rw [hr] at hj; cases hj
        | some zz =>
          rw [hr] at hj
          cases hj
          obtain ⟨kk, hkk, rfl⟩ := hxc zz (List.mem_of_getElem? hr)
          walk_at "rd"
          refine r_ixL (SqL.of (s4 _ _ (s3 _ _ (s2 _ _ eo)))) (nat_at' (by rw [hσ.len]; exact hkk)) ?_
          refine CInv.put hw' (fun _ _ _ _ r _ => r) s4 e4 l4 ?_
          rw [List.take_add_one, hr]
          unfold mapS
          rw [List.map_append, List.map_append]
          rfl
      rintro w' acc H4 hw' s4 e4 rfl
      rw [List.length_map, List.take_length] at e4
      walk_at "rd"
      refine r_sorted (SqL.of e4) (by unfold mapS; rw [List.length_map]; omega) fun qq H5 ms hq s5 e5 hp ho => ?_
      obtain rfl := sorted_phi hσ hxa hp ho
      walk_at "rd"
      refine m_tuple (SqL.of e5) fun u H6 hu s6 e6 => ?_
      have s36 := s4.trans (s5.trans s6)
      refine CInv.putW hw (s3.trans s36) (s36 _ _ e3) l3 fun H7 o7 => ⟨us ++ [u], by rw [List.map_append]; rfl, ?_⟩
      have kp := o7.keep (s36 _ _ e3)
      rw [List.take_add_one, hx', List.map_append]
      exact pr_snoc (Paired.mapP pu fun _ _ q => kp _ _ (s36 _ _ q)) (kp _ _ e6)
    rintro w acc H3 hw s3 e3 ⟨us, rfl, pu⟩
    rw [List.length_map, lty, List.take_length] at pu
    have e23 := s3 _ _ e2
    walk_at "rd"
    refine r_append e23 (by rw [List.length_map, hbl, sizeLine_eq]; omega) fun H4 o4 e4 => ?_
    walk_at "rd"
    refine ⟨_, bs ++ [w], rfl, (s2.trans s3).off hf o4, by rw [e4, List.map_append]; rfl, ?_⟩
    rw [List.take_add_one, hy, List.map_append]
    refine pr_snoc (Paired.mapP pb fun _ _ q => (q.same s3).off o4 e23) ?_
    exact HoldOff.off o4 e23 ⟨(ne_of_none e2 hw).symm, us, e3, pu⟩
  · rintro σ' H2 ⟨u3, bs, rfl, s2, e2, pb⟩
    rw [List.length_map, lll, List.take_length] at pb
    walk_at "rd"
    exact q f H2 hf s2 ⟨bs, e2, Paired.mapP pb fun _ _ q => q.2⟩

end L2

end

section
-- KcEx4
set_option Elab.async false
set_option linter.all false
set_option maxRecDepth 100000
set_option maxHeartbeats 4000000
namespace L2
open PySem
theorem perm_sum {l m : List Nat} (p : l.Perm m) : l.sum = m.sum := by
  induction p with
  | nil => rfl
  | cons a _ ih => rw [List.sum_cons, List.sum_cons, ih]
  | swap a b l => rw [List.sum_cons, List.sum_cons, List.sum_cons, List.sum_cons]; omega
  | trans _ _ a b => exact a.trans b
theorem perm_prod {l m : List Nat} (p : l.Perm m) : l.foldr (· * ·) 1 = m.foldr (· * ·) 1 := by
  induction p with
  | nil => rfl
  | cons a _ ih => rw [List.foldr_cons, List.foldr_cons, ih]
  | swap a b l => rw [List.foldr_cons, List.foldr_cons, List.foldr_cons, List.foldr_cons]; exact Nat.mul_left_comm _ _ _
  | trans _ _ a b => exact a.trans b
theorem multi_perm {n : Nat} {ss ss' : List Nat} (p : ss'.Perm ss) (h : ss.sum ≤ n) : KM.multi n ss' = KM.multi n ss := by
  have e := perm_sum p
  have h1 := KM.multi_fact ss n h
  have h2 := KM.multi_fact ss' n (by rw [e]; exact h)
  rw [perm_prod (p.map KM.fact), e] at h2
  have hp : 0 < (ss.map KM.fact).foldr (· * ·) 1 * KM.fact (n - ss.sum) := by
    rcases Nat.eq_zero_or_pos ((ss.map KM.fact).foldr (· * ·) 1 * KM.fact (n - ss.sum)) with z | z
    · rw [z, Nat.mul_zero] at h1
      have := KM.fact_pos n
      omega
    · exact z
  exact Nat.eq_of_mul_eq_mul_right hp (h2.trans h1.symm)
theorem pack_perm {c : Nat} {ss ss' : List Nat} (p : ss'.Perm ss) (h : PackW c ss) : PackW c ss' :=
  ⟨⟨h.pk.c12, by rw [p.length_eq]; exact h.pk.l1, by rw [p.length_eq]; exact h.pk.l5, by rw [perm_sum p]; exact h.pk.sum⟩, by rw [multi_perm p h.pk.sum]; exact h.few, h.c7, by rw [p.length_eq]; exact h.l3⟩
/-! lists in another order -/
theorem turn_ok {L : List (List (List Int))} {hs : List (List Int)} {num : List Int → Nat} {π : List Nat} (h : Perm9 π L.length) (ok : CodeOk L hs num) : CodeOk (π.map fun k => (L.getD k []).reverse) hs (fun x => π.idxOf (num x)) := by
  constructor
  · intro i l hl x hx
    rw [List.getElem?_map] at hl
    cases hr : π[i]? with
    | none => rw [hr] at hl; cases hl
    | some k =>
      rw [hr] at hl
      cases hl
      have hk : k < L.length := h.mem.mp (List.mem_of_getElem? hr)
      have hx' : x ∈ L.getD k [] := List.mem_reverse.mp hx
      have hLk : L[k]? = some (L.getD k []) := by rw [List.getD_eq_getElem?_getD, List.getElem?_eq_getElem hk]; rfl
      obtain ⟨g1, g2⟩ := ok.mem k _ hLk x hx'
      refine ⟨g1, ?_⟩
      show π.idxOf (num x) = i
      rw [g2]
      have hi : i < L.length := by rw [← h.len]; exact (List.getElem?_eq_some_iff.mp hr).1
      obtain ⟨a1, _, a3⟩ := h.get hi
      rw [hr] at a1
      injection a1 with a1
      rw [a1]; exact a3
  · intro x hx
    obtain ⟨l, hl, hxl⟩ := ok.all x hx
    have hn : num x < L.length := (List.getElem?_eq_some_iff.mp hl).1
    obtain ⟨a1, a2⟩ := h.at hn
    refine ⟨l.reverse, ?_, List.mem_reverse.mpr hxl⟩
    show (π.map _)[π.idxOf (num x)]? = _
    rw [List.getElem?_map, (h.get a1).1, a2]
    show some (L.getD (num x) []).reverse = _
    rw [List.getD_eq_getElem?_getD, hl]; rfl
theorem turn_ker {L : List (List (List Int))} {hs : List (List Int)} {num : List Int → Nat} {π : List Nat} (h : Perm9 π L.length) (ok : CodeOk L hs num) {ws : List (List Nat)} {a : Int} (hw : ∀ w ∈ ws, heldI w a ∈ hs) : KerN ws a num (fun x => π.idxOf (num x)) := by
  have lt : ∀ w ∈ ws, num (heldI w a) < L.length := fun w hw' => by
    obtain ⟨l, hl, _⟩ := ok.all _ (hw w hw')
    exact (List.getElem?_eq_some_iff.mp hl).1
  intro v hv w hw'
  constructor
  · intro e
    show π.idxOf _ = π.idxOf _
    rw [e]
  · intro e
    have e' : π.idxOf (num (heldI v a)) = π.idxOf (num (heldI w a)) := e
    rw [← (h.at (lt v hv)).2, e', (h.at (lt w hw')).2]
theorem prRev {α β : Type} {F : α → β → Prop} {l : List α} {m : List β} (h : Paired F l m) : Paired F l.reverse m.reverse := by
  induction h with
  | nil => exact .nil
  | cons a t ih => rw [List.reverse_cons, List.reverse_cons]; exact pr_snoc ih a
theorem hands_room {τ : List Nat} {c : Nat} {ss : List Nat} (h : Perm9 τ ss.length) : ∀ j, j < ss.length + 1 → (roomOf c (pull τ ss)).getD (rho τ ss.length j) 0 = (roomOf c ss).getD j 0 := by
  intro j hj
  have pl : (pull τ ss).length = ss.length := by rw [pull_len, h.len]
  have ps : (pull τ ss).sum = ss.sum := perm_sum (pull_perm h rfl)
  unfold rho roomOf
  by_cases z : j < ss.length
  · obtain ⟨a1, a2⟩ := h.at z
    rw [if_pos z, List.getD_eq_getElem?_getD, List.getElem?_append_left (by rw [pl]; exact a1), List.getD_eq_getElem?_getD, List.getElem?_append_left z]
    rw [pull_get (h.get a1).1 (by rw [a2]; exact z), a2]
  · have : j = ss.length := by omega
    subst this
    rw [if_neg z, List.getD_eq_getElem?_getD, List.getElem?_append_right (by rw [pl]; exact Nat.le_refl _), pl, Nat.sub_self, List.getD_eq_getElem?_getD, List.getElem?_append_right (Nat.le_refl _), Nat.sub_self, ps]
theorem hands_all {τ : List Nat} {c : Nat} {ss : List Nat} (h : Perm9 τ ss.length) (hs : ss.sum ≤ c) {num : List Int → Nat} {a b e : Nat} (ha : a < ss.length) (hb : b < ss.length) (he : e < ss.length) {r r' : FR} (f : FRes (KM.level (roomOf c ss) c) (a : Int) (b : Int) (e : Int) num r) (f' : FRes (KM.level (roomOf c (pull τ ss)) c) ((τ.idxOf a : Nat) : Int) ((τ.idxOf b : Nat) : Int) ((τ.idxOf e : Nat) : Int) num r') : r = .ok ↔ r' = .ok := by
  have ps : (pull τ ss).sum = ss.sum := perm_sum (pull_perm h rfl)
  have R : ∀ {x : Nat}, x < ss.length → rho τ ss.length x = τ.idxOf x := fun hx => by unfold rho; rw [if_pos hx]
  refine hands_ok (room := roomOf c ss) (room' := roomOf c (pull τ ss)) (a := a) (b := b) (e := e) (num := num) h (room_sum hs) (room_sum (by rw [ps]; exact hs)) (by unfold roomOf; rw [List.length_append]; rfl) (by unfold roomOf; rw [List.length_append, List.length_append, pull_len, h.len]; rfl) (hands_room h) f ?_
  rw [R ha, R hb, R he]
  exact f'
theorem hand_size {τ : List Nat} {ss : List Nat} (h : Perm9 τ ss.length) {a : Nat} (ha : a < ss.length) : (pull τ ss).getD (τ.idxOf a) 0 = ss.getD a 0 ∧ τ.idxOf a < (pull τ ss).length := by
  obtain ⟨a1, a2⟩ := h.at ha
  refine ⟨?_, by rw [pull_len, h.len]; exact a1⟩
  rw [List.getD_eq_getElem?_getD, pull_get (h.get a1).1 (by rw [a2]; exact ha), a2, List.getD_eq_getElem?_getD]
theorem FrV.isN {H : Hp} {r : FR} {v : V} (h : FrV H r v) : L2.isN v = true ↔ r = .ok := by
  cases r with
  | ok => rw [show v = .non from h]; exact ⟨fun _ => rfl, fun _ => rfl⟩
  | friend d => obtain ⟨t, x, rfl, _⟩ := h; exact ⟨fun z => (by cases z), fun z => (by cases z)⟩
  | third d => obtain ⟨t, x, rfl, _⟩ := h; exact ⟨fun z => (by cases z), fun z => (by cases z)⟩
theorem isN_eq {H H' : Hp} {r r' : FR} {v v' : V} (h : FrV H r v) (h' : FrV H' r' v') (e : r = .ok ↔ r' = .ok) : L2.isN v' = L2.isN v := Bool.eq_iff_iff.mpr (h'.isN.trans (e.symm.trans h.isN.symm))
end L2

end

section
-- KcK58b
set_option Elab.async false
set_option linter.all false
set_option maxRecDepth 100000
set_option maxHeartbeats 4000000
namespace L2
open PySem PyProof.Rows

noncomputable abbrev sp_law (K : PySem.W.Frag) : Sp := spLaw K
noncomputable def t_law (K : PySem.W.Frag) : TS := (tSeq (tAsg (tCall (sp__law_cell_l K) [] E0 (tCons (tVar 0) (tCons (tC (.int 0)) tNil))) (gName 1))
  (tSeq (tAsg (tCall (sp__law_pack_l K) [] E0 (tCons (tVar 1) tNil)) (gTup K 2 (gCons (gName 2) (gCons (gName 3) gNil))))
  (tSeq (tAsg (tCall (sp__law_three K) [] E0 (tCons (tCall (sp__law_cell_l K) [] E0 (tCons (tVar 0) (tCons (tC (.int 1)) tNil))) (tCons (tCB (cLen K) (tCons (tVar 3) tNil)) tNil))) (gName 4))
  (tSeq (tAsg (tCall (sp__law_cell_l K) [] E0 (tCons (tVar 0) (tCons (tC (.int 2)) tNil))) (gName 5))
  (tSeq (tIfS (tTest (tOp rEq (tOp (rI (fun _ j => 0 < j) fun i j => .int (i % j)) (tOp (rI CDiv fun i j => .int (i / j)) (tVar 1) (tC (.int 4096))) (tC (.int 4))) (tC (.int 1)))) (tSeq (tAsg (tOp (rIxL K) (mLst (tCons (mTup (tCons (tC (.int 7)) (tCons (mLst (tCons (tC (.int 3)) (tCons (tC (.int 3)) (tCons (tC (.int 1)) tNil)))) tNil))) (tCons (mTup (tCons (tC (.int 5)) (tCons (mLst (tCons (tC (.int 2)) (tCons (tC (.int 2)) (tCons (tC (.int 0)) tNil)))) tNil))) tNil))) (tOp (rI (fun _ j => 0 < j) fun i j => .int (i % j)) (tVar 1) (tC (.int 2)))) (gTup K 2 (gCons (gName 2) (gCons (gName 3) gNil))))
  (tSeq (tAsg (tOp (rIxL K) (mLst (tCons (mLst (tCons (tC (.int 0)) (tCons (tC (.int 1)) (tCons (tC (.int 2)) tNil)))) (tCons (mLst (tCons (tC (.int 1)) (tCons (tC (.int 0)) (tCons (tC (.int 2)) tNil)))) tNil))) (tOp (rI (fun _ j => 0 < j) fun i j => .int (i % j)) (tOp (rI CDiv fun i j => .int (i / j)) (tVar 1) (tC (.int 2))) (tC (.int 2)))) (gName 4))
  (tAsg (tC (.int 0)) (gName 5)))) tNext)
  (tSeq (tAsg (tCall (sp__law_lists_l K) [] E0 (tCons (tVar 5) (tCons (tCall (sp__law_holdings K) [] E0 (tCons (tVar 2) (tCons (tOp (rIxL K) (tVar 3) (tOp (rIxL K) (tVar 4) (tC (.int 0)))) tNil))) (tCons (tVar 2) tNil)))) (gName 6))
  (tSeq (tAsg (tCall (sp__law_fails K) [] E0 (tCons (tVar 2) (tCons (tVar 3) (tCons (tVar 6) (tCons (tVar 4) tNil))))) (gName 7))
  (tSeq (tAsg (tCall (sp__law_order K) [] E0 (tCons (tCall (sp__law_cell_l K) [] E0 (tCons (tVar 0) (tCons (tC (.int 3)) tNil))) (tCons (tCB (cLen K) (tCons (tVar 6) tNil)) tNil))) (gName 8))
  (tSeq (tAsg (tComp (iList K (tVar 8)) (fun _ _ _ _ => (gName 0)) (fun _ _ _ _ => tAlways) (fun _ _ _ _ => (mRevL K (tOp (rIxL K) (tVar 1) (tVar 0)) (tPart (tUn (rU fun i => .int (-i)) (tC (.int 1)))))) [none, some 6]) (gName 9))
  (tSeq (tIfS (tTest (tOp (rNeF K) (tCall (sp__law_fails K) [] E0 (tCons (tVar 2) (tCons (tVar 3) (tCons (tVar 9) (tCons (tVar 4) tNil))))) (tVar 7))) (tRet (tC (.bl false))) tNext)
  (tSeq (tAsg (tCall (sp__law_order K) [] E0 (tCons (tCall (sp__law_cell_l K) [] E0 (tCons (tVar 0) (tCons (tC (.int 4)) tNil))) (tCons (tVar 2) tNil))) (gName 8))
  (tSeq (tFor (iList K (mLst (tCons (tVar 8) (tCons (mRevL K (tVar 8) (tPart (tUn (rU fun i => .int (-i)) (tC (.int 1))))) tNil)))) (gName 10) (tSeq (tAsg (tCall (sp__law_fails K) [] E0 (tCons (tVar 2) (tCons (tVar 3) (tCons (tCall (sp__law_exchanged K) [] E0 (tCons (tVar 6) (tCons (tVar 10) tNil))) (tCons (tVar 4) tNil))))) (gName 11))
  (tIfS (tTest (tOp rNe (tOp rIsNone (tVar 11) (tC .non)) (tOp rIsNone (tVar 7) (tC .non)))) (tRet (tC (.bl false))) tNext)))
  (tSeq (tAsg (tCall (sp__law_order K) [] E0 (tCons (tCall (sp__law_cell_l K) [] E0 (tCons (tVar 0) (tCons (tC (.int 5)) tNil))) (tCons (tCB (cLen K) (tCons (tVar 3) tNil)) tNil))) (gName 8))
  (tSeq (tAsg (tComp (iList K (tVar 4)) (fun _ _ _ _ => (gName 0)) (fun _ _ _ _ => tAlways) (fun _ _ _ _ => (tBM K "list" rIndex (tVar 1) (tCons (tVar 0) tNil))) [none, some 8]) (gName 12))
  (tSeq (tAsg (tCall (sp__law_fails K) [] E0 (tCons (tVar 2) (tCons (tComp (iList K (tVar 8)) (fun _ _ _ _ => (gName 0)) (fun _ _ _ _ => tAlways) (fun _ _ _ _ => (tOp (rIxL K) (tVar 1) (tVar 0))) [none, some 3]) (tCons (tVar 6) (tCons (tVar 12) tNil))))) (gName 11))
  (tRet (tOp rEq (tOp rIsNone (tVar 11) (tC .non)) (tOp rIsNone (tVar 7) (tC .non)))))))))))))))))))
theorem ints3 (a b e : Nat) : [V.int (a : Int), V.int (b : Int), V.int (e : Int)] = natV [a, b, e] := rfl
theorem idx_at8 {τ : List Nat} {n : Nat} (h : Perm9 τ n) {x : Nat} (hx : x < n) : (τ.map fun (s : Nat) => ((s : Nat) : Int))[τ.idxOf x]? = some (x : Int) ∧ ∀ i, i < τ.idxOf x → (τ.map fun (s : Nat) => ((s : Nat) : Int))[i]? ≠ some (x : Int) := by
  obtain ⟨a1, a2⟩ := h.at hx
  have g := (h.get a1).1
  rw [a2] at g
  refine ⟨by rw [List.getElem?_map, g]; rfl, fun i hi z => ?_⟩
  rw [List.getElem?_map] at z
  have hi' : i < n := by omega
  obtain ⟨b1, _, b3⟩ := h.get hi'
  rw [b1] at z
  have z' : ((τ.getD i 0 : Nat) : Int) = (x : Int) := by injection z
  have : τ.getD i 0 = x := by omega
  rw [this] at b3
  omega
theorem len_law {K : PySem.W.Frag} {vs : List V} {H : Hp} {Q : VK} {E : XK} (h : sp_law K vs H Q E) : vs.length = 1 := by
  obtain ⟨a, ns, rfl, hSc, g⟩ := h
  rfl
theorem rd_law {K : PySem.W.Frag} {vs : List V} {H : Hp} {Q : VK} {E : XK} (h : sp_law K vs H Q E) : t_law K { nx := fun _ H' => Q .non H', rt := Q } (start ["_law_script", "_law_cell_here", "_law_cards", "_law_sizes", "_law_hands", "_law_way", "_law_lists_here", "_law_found", "_law_order_here", "_law_turned", "_law_row", "_law_other", "_law_moved"] vs) H := by
  obtain ⟨a, ns, rfl, hSc, g⟩ := h
  show t_law K _ [some _, none, none, none, none, none, none, none, none, none, none, none, none] _
  unfold t_law
  walk_at "rd"
  refine ⟨a, ns, 0, rfl, hSc, by decide, by decide, fun z0 => ?_⟩
  walk_at "rd"
  refine ⟨z0, rfl, fun t zz c ss H1 s1 e1 ez1 pw => ?_⟩
  refine g_pair (SqT.of e1) ?_
  have hSc1 := hSc.same s1
  walk_at "rd"
  refine ⟨a, ns, 1, rfl, hSc1, by decide, by decide, fun z1 => ?_⟩
  walk_at "rd"
  rw [natV_len]
  refine ⟨z1, ss.length, rfl, pw.l3, by have := pw.pk.l5; omega, fun h A B E H2 hh s2 e2 hA hB hE => ?_⟩
  have ez2 := s2 _ _ ez1
  have s02 := s1.trans s2
  walk_at "rd"
  refine ⟨a, ns, 2, rfl, hSc1.same s2, by decide, by decide, fun z2 => ?_⟩
  walk_at "rs"
  refine r_seq_n fun NX hNX => ?_
  have key : ∀ (c : Nat) (zz h : Addr) (ss : List Nat) (A B E : Nat) (way : Int) (H2 : Hp), Same H H2 → H2 zz = some (.lst (natV ss)) → PackW c ss → A < ss.length → B < ss.length → E < ss.length → H2 h = some (.lst [.int (A : Int), .int (B : Int), .int (E : Int)]) → NX [some (.ref a), some (.int z0), some (.int (c : Int)), some (.ref zz), some (.ref h), some (.int way), none, none, none, none, none, none, none] H2 := by
    intro c zz h ss A B E way H2 s02 ez2 pw hA hB hE e2
    refine hNX _ _ ?_
    clear hNX NX
    have hSc2 := hSc.same s02
    have hsum := pw.pk.sum
    have ln : KM.level (roomOf c ss) c ≠ [] := fun z => by
      have h1 := KM.level_multi hsum
      have h2 := KM.multi_pos hsum
      rw [z] at h1
      rw [← h1] at h2
      exact absurd h2 (by decide)
    have nd := allH_nd c (ss.getD A 0)
    have hal : (allH c (ss.getD A 0)).length ≤ 128 := Nat.le_trans (allH_len _ _) (Nat.pow_le_pow_right (n := 2) (by decide) pw.c7)
    have hheld : ∀ w ∈ KM.level (roomOf c ss) c, heldI w (A : Int) ∈ allH c (ss.getD A 0) := fun w hw => by
      obtain ⟨f1, f2, f3⟩ := deal_facts (room_sum hsum) hw
      refine held_all f1 ?_
      rw [f3 A (by unfold roomOf; rw [List.length_append]; omega)]
      unfold roomOf
      rw [List.getD_eq_getElem?_getD, List.getElem?_append_left hA, List.getD_eq_getElem?_getD]
    have hal1 : 1 ≤ (allH c (ss.getD A 0)).length := by
      obtain ⟨w, hw⟩ := List.exists_mem_of_ne_nil _ ln
      exact List.length_pos_of_mem (hheld w hw)
    walk_at "rd"
    refine r_ixL (SqL.of e2) (v := .int (A : Int)) rfl ?_
    walk_at "rd"
    refine r_ixL (SqL.of ez2) (nat_at' hA) ?_
    walk_at "rd"
    refine ⟨c, ss.getD A 0, rfl, pw.c7, fun f H3 hf s3 HA3 => ?_⟩
    walk_at "rd"
    refine ⟨way, f, c, allH c (ss.getD A 0), rfl, HA3, nd, hal, hal1, pw.c7, fun l L num H4 hl s4 W4 ok4 hL1 hL9 hLl => ?_⟩
    have hLa : ∀ l ∈ L, l.length ≤ 128 ∧ ∀ x ∈ l, x ∈ allH c (ss.getD A 0) := fun l' hl' => by
      obtain ⟨i, hi⟩ := List.mem_iff_getElem?.mp hl'
      exact ⟨hLl l' hl', fun x hx => (ok4.mem i l' hi x hx).1⟩
    have s24 := s3.trans s4
    have ez4 := s24 _ _ ez2
    have eh4 := s24 _ _ e2
    walk_at "rd"
    refine ⟨c, zz, l, h, ss, A, B, E, L, num, rfl, ez4, pw, hA, hB, hE, W4, ok4, by omega, fun l' hl' => Nat.le_trans (hLl l' hl') (by decide), eh4, fun r1 v1 H5 s5 fr1 fv1 fx1 => ?_⟩
    have s05 := s02.trans (s24.trans s5)
    have W5 := W4.same s5
    obtain ⟨ls, el5, pl5⟩ := id W5
    have lll := prLen pl5
    have ez5 := s5 _ _ ez4
    have eh5 := s5 _ _ eh4
    walk_at "rd"
    refine ⟨a, ns, 3, rfl, hSc.same s05, by decide, by decide, fun z3 => ?_⟩
    walk_at "rd"
    rw [List.length_map, lll]
    refine ⟨z3, L.length, rfl, by omega, fun o π H6 ho s6 e6 hπ => ?_⟩
    have el6 := s6 _ _ el5
    walk_at "rd"
    refine lc_listW (natV π) (SqL.of e6) (by rw [natV_len, hπ.len]; omega) (fun w k acc H7 => ∃ bs : List Addr, acc = bs.map V.ref ∧ Paired (HoldOff w H7) bs ((π.take k).map fun k => (L.getD k []).reverse)) (fun w H' s => ⟨[], rfl, .nil⟩) ?_ ?_
    · rintro w hw C s' H' fp k x acc H7 hk ⟨s7, e7, l7, bs, rfl, pb⟩
      obtain ⟨kk, hkk, rfl⟩ := nat_of hk
      have hkl : kk < L.length := hπ.mem.mp (List.mem_of_getElem? hkk)
      obtain ⟨b, hb⟩ : ∃ b, ls[kk]? = some b := ⟨ls[kk]'(by omega), List.getElem?_eq_getElem (by omega)⟩
      obtain ⟨y, hy, ts, eb, pt⟩ := prGet pl5 hb
      have hyg : L.getD kk [] = y := by rw [List.getD_eq_getElem?_getD, hy]; rfl
      walk_at "rd"
      refine m_rev ?_
      walk_at "rd"
      refine r_ixL (SqL.of (s7 _ _ el6)) (refs_get hb) ?_
      walk_at "rd"
      have eb7 := s7 _ _ (s6 _ _ eb)
      refine ⟨b, ts.map V.ref, rfl, rfl, SqL.of eb7, fun d H8 hd s8 e8 => ?_⟩
      rw [← List.map_reverse] at e8
      refine CInv.putW hw (s7.trans s8) (s8 _ _ e7) l7 fun H9 o9 => ⟨bs ++ [d], by rw [List.map_append]; rfl, ?_⟩
      rw [List.take_add_one, hkk, List.map_append]
      refine pr_snoc (Paired.mapP pb fun _ _ q => (q.same s8).off o9 (s8 _ _ e7)) ?_
      show HoldOff w H9 d (L.getD kk []).reverse
      rw [hyg]
      exact HoldOff.off o9 (s8 _ _ e7) ⟨(ne_of_none e7 hd).symm, ts.reverse, e8, prRev (Paired.mapP pt fun _ _ q => s8 _ _ (s7 _ _ (s6 _ _ q)))⟩
    rintro w acc H7 hw s7 e7 ⟨bs, rfl, pb⟩
    rw [natV_len, List.take_length] at pb
    have s57 := s6.trans s7
    have ez7 := s57 _ _ ez5
    have eh7 := s57 _ _ eh5
    walk_at "rd"
    refine ⟨c, zz, w, h, ss, A, B, E, _, _, rfl, ez7, pw, hA, hB, hE, ⟨bs, e7, Paired.mapP pb fun _ _ q => q.2⟩, turn_ok hπ ok4, by rw [List.length_map, hπ.len]; omega, fun l' hl' => ?_, eh7, fun r2 v2 H8 s8 fr2 fv2 fx2 => ?_⟩
    · obtain ⟨k, hk, rfl⟩ := List.mem_map.mp hl'
      have hkl : k < L.length := hπ.mem.mp hk
      have hm : L.getD k [] ∈ L := by rw [List.getD_eq_getElem?_getD, List.getElem?_eq_getElem hkl]; exact List.getElem_mem hkl
      rw [List.length_reverse]
      exact Nat.le_trans (hLl _ hm) (by decide)
    have ker := turn_ker hπ ok4 hheld
    obtain rfl := fres_same ker fr1 fr2
    have s58 := s57.trans s8
    have W8 := W5.same s58
    have ez8 := s8 _ _ ez7
    have eh8 := s8 _ _ eh7
    have fv8 := fv1.same s58
    walk_at "rd"
    refine ⟨?_, ?_⟩
    · cases r1 with
      | ok => exact .inl ⟨fv2, fv1⟩
      | friend d =>
        obtain ⟨t1, j1, rfl, g1, m1⟩ := fx1
        obtain ⟨t2, j2, rfl, g2, m2⟩ := fx2
        obtain rfl := m1.uniq (frw_ker ker d) m2
        exact .inr ⟨t2, t1, "friend", _, _, .inl rfl, rfl, rfl, SqT.of g2, SqT.of (s58 _ _ g1)⟩
      | third d =>
        obtain ⟨t1, j1, rfl, g1, m1⟩ := fx1
        obtain ⟨t2, j2, rfl, g2, m2⟩ := fx2
        obtain rfl := m1.uniq (thw_ker ker d) m2
        exact .inr ⟨t2, t1, "third", _, _, .inr rfl, rfl, rfl, SqT.of g2, SqT.of (s58 _ _ g1)⟩
    clear fx1 fx2
    have s08 := s05.trans s58
    walk_at "rd"
    refine ⟨a, ns, 4, rfl, hSc.same s08, by decide, by decide, fun z4 => ?_⟩
    walk_at "rd"
    refine ⟨z4, c, rfl, by have := pw.c7; omega, fun o2 σ H9 ho2 s9 e9 hσ => ?_⟩
    walk_at "rd"
    refine m_rev ?_
    walk_at "rd"
    refine ⟨o2, natV σ, rfl, rfl, SqL.of e9, fun o3 H10 ho3 s10 e10 => ?_⟩
    have e10' : H10 o3 = some (.lst (natV σ.reverse)) := by rw [e10]; unfold natV; rw [List.map_reverse]
    walk_at "rd"
    refine ⟨by simp [sizeLine_eq], fun oo H11 hoo s11 e11 => ?_⟩
    have s91 := s10.trans s11
    have s81 := s9.trans s91
    walk_at "rd"
    refine lp_list [.ref o2, .ref o3] (SqL.of e11) (fun i σ' H12 => ∃ (u10 u11 : Option V), σ' = [some (.ref a), some (.int z0), some (.int (c : Int)), some (.ref zz), some (.ref h), some (.int way), some (.ref l), some v1, some (.ref o2), some (.ref w), u10, u11, none] ∧ Same H11 H12) ⟨_, _, rfl, Same.refl _⟩ ?_ ?_ ?_
    · rintro i σ' H12 hi ⟨u10, u11, rfl, s12⟩
      exact SqL.of (s12 _ _ e11)
    · rintro i x σ' H12 hx ⟨u10, u11, rfl, s12⟩
      have hxm := List.mem_of_getElem? hx
      have s82 := s81.trans s12
      obtain ⟨ox, σx, rfl, ex, hσx⟩ : ∃ (ox : Addr) (σx : List Nat), x = .ref ox ∧ H12 ox = some (.lst (natV σx)) ∧ Perm9 σx c := by
        simp only [List.mem_cons, List.not_mem_nil, or_false] at hxm
        rcases hxm with rfl | rfl
        · exact ⟨o2, σ, rfl, s12 _ _ (s91 _ _ e9), hσ⟩
        · exact ⟨o3, σ.reverse, rfl, s12 _ _ (s11 _ _ e10'), hσ.rev⟩
      walk_at "rd"
      refine ⟨l, ox, L, σx, c, ss.getD A 0, rfl, W8.same s82, ex, hσx, pw.c7, hL9, hLa, fun f' H13 hf' s13 W13 => ?_⟩
      have s83 := s82.trans s13
      walk_at "rd"
      refine ⟨c, zz, f', h, ss, A, B, E, _, _, rfl, s83 _ _ ez8, pw, hA, hB, hE, W13, exch_ok hσx ok4, by rw [List.length_map]; omega, fun l' hl' => ?_, s83 _ _ eh8, fun r3 v3 H14 s14 fr3 fv3 _ => ?_⟩
      · obtain ⟨l0, hl0, rfl⟩ := List.mem_map.mp hl'
        rw [List.length_map]
        exact Nat.le_trans (hLl l0 hl0) (by decide)
      have eqn := isN_eq fv8 fv3 (cards_ok (room_sum hsum) hσx fr1 fr3)
      walk_at "rd"
      refine r_isNone ?_
      walk_at "rd"
      refine r_isNone ?_
      walk_at "rd"
      rw [eqn, beq_self_eq_true]
      walk_at "rd"
      exact ⟨_, _, rfl, s12.trans (s13.trans s14)⟩
    · rintro σ' H12 ⟨u10, u11, rfl, s12⟩
      have s82 := s81.trans s12
      have s02' := s08.trans s82
      have ez12 := s82 _ _ ez8
      have eh12 := s82 _ _ eh8
      walk_at "rd"
      refine ⟨a, ns, 5, rfl, hSc.same s02', by decide, by decide, fun z5 => ?_⟩
      walk_at "rd"
      rw [natV_len]
      refine ⟨z5, ss.length, rfl, by have := pw.pk.l5; omega, fun o4 τ H13 ho4 s13 e13 hτ => ?_⟩
      have hτ5 := hτ.len
      have hl5 := pw.pk.l5
      have eh13 := s13 _ _ eh12
      have ez13 := s13 _ _ ez12
      walk_at "rd"
      refine lc_list [.int (A : Int), .int (B : Int), .int (E : Int)] (SqL.of eh13) (by show 3 ≤ 1000000; decide) (fun k acc _ => acc = natV (([A, B, E].take k).map fun x => τ.idxOf x)) (fun _ _ => rfl) ?_ ?_
      · rintro w' hw' C s' H' fp k x acc H14 hk ⟨s14, e14, l14, rfl⟩
        rw [ints3] at hk
        obtain ⟨d, hd, rfl⟩ := nat_of hk
        have hdl : d < ss.length := by
          have := List.mem_of_getElem? hd
          simp only [List.mem_cons, List.not_mem_nil, or_false] at this
          rcases this with rfl | rfl | rfl <;> assumption
        have e14' := s14 _ _ e13
        obtain ⟨i1, i2⟩ := idx_at8 hτ hdl
        walk_at "rd"
        refine ⟨r_tyL e14', ?_⟩
        walk_at "rd"
        refine ⟨o4, τ.map fun (s : Nat) => ((s : Nat) : Int), (d : Int), τ.idxOf d, rfl, rfl, by rw [← natV_ints]; exact e14', i1, i2, by have := (hτ.at hdl).1; omega, ?_⟩
        refine CInv.put hw' (fun _ _ _ _ r _ => r) s14 e14 l14 ?_
        rw [List.take_add_one, hd, List.map_append]
        unfold natV
        rw [List.map_append]
        rfl
      rintro mv acc H14 hmv s14 e14 rfl
      have e14' : H14 mv = some (.lst [.int ((τ.idxOf A : Nat) : Int), .int ((τ.idxOf B : Nat) : Int), .int ((τ.idxOf E : Nat) : Int)]) := e14
      have ez14 := s14 _ _ ez13
      walk_at "rd"
      refine lc_list (natV τ) (SqL.of (s14 _ _ e13)) (by rw [natV_len]; omega) (fun k acc _ => acc = natV ((τ.take k).map fun x => ss.getD x 0)) (fun _ _ => rfl) ?_ ?_
      · rintro w' hw' C s' H' fp k x acc H15 hk ⟨s15, e15, l15, rfl⟩
        obtain ⟨d, hd, rfl⟩ := nat_of hk
        have hdl : d < ss.length := hτ.mem.mp (List.mem_of_getElem? hd)
        walk_at "rd"
        refine r_ixL (SqL.of (s15 _ _ ez14)) (nat_at' hdl) ?_
        refine CInv.put hw' (fun _ _ _ _ r _ => r) s15 e15 l15 ?_
        rw [List.take_add_one, hd, List.map_append]
        unfold natV
        rw [List.map_append]
        rfl
      rintro sz acc H15 hsz s15 e15 rfl
      rw [natV_len, List.take_length] at e15
      have e15' : H15 sz = some (.lst (natV (pull τ ss))) := e15
      have s85 := s82.trans (s13.trans (s14.trans s15))
      obtain ⟨gA, lA⟩ := hand_size hτ hA
      obtain ⟨gB, lB⟩ := hand_size hτ hB
      obtain ⟨gE, lE⟩ := hand_size hτ hE
      walk_at "rd"
      refine ⟨c, sz, l, mv, pull τ ss, τ.idxOf A, τ.idxOf B, τ.idxOf E, L, num, rfl, e15', pack_perm (pull_perm hτ rfl) pw, lA, lB, lE, W8.same s85, by rw [gA]; exact ok4, by omega, fun l' hl' => Nat.le_trans (hLl l' hl') (by decide), s15 _ _ e14', fun r3 v3 H16 s16 fr3 fv3 _ => ?_⟩
      have eqn := isN_eq fv8 fv3 (hands_all hτ hsum hA hB hE fr1 fr3)
      walk_at "rd"
      refine r_isNone ?_
      walk_at "rd"
      refine r_isNone ?_
      walk_at "rd"
      rw [eqn, beq_self_eq_true]
      exact g _
  clear hNX
  walk_at "rd"
  refine ite_dec (fun hif => ?_) (fun hif => ?_)
  · walk_at "rd"
    refine ⟨by simp [sizeLine_eq], fun l1 H3 _ s3 e3 => ?_⟩
    walk_at "rd"
    refine ⟨by simp [sizeLine_eq], fun t1 H4 _ s4 e4 => ?_⟩
    walk_at "rd"
    refine ⟨by simp [sizeLine_eq], fun l2 H5 _ s5 e5 => ?_⟩
    walk_at "rd"
    refine ⟨by simp [sizeLine_eq], fun t2 H6 _ s6 e6 => ?_⟩
    walk_at "rd"
    refine ⟨by simp [sizeLine_eq], fun ll H7 _ s7 e7 => ?_⟩
    have s67 := s6.trans s7
    have s57 := s5.trans s67
    have s47 := s4.trans s57
    have P1 : PackW 7 [3, 3, 1] := ⟨⟨by decide, by decide, by decide, by decide⟩, by decide +kernel, by decide, by decide⟩
    have P2 : PackW 5 [2, 2, 0] := ⟨⟨by decide, by decide, by decide, by decide⟩, by decide +kernel, by decide, by decide⟩
    walk_at "rd"
    obtain ⟨x, hx, hxm⟩ := at_mod _ z0 (m := 2) (show [V.ref t1, V.ref t2].length = 2 from rfl) (by decide)
    refine r_ixL (SqL.of e7) hx ?_
    obtain ⟨tt, lz, cc, sz, rfl, et, el, pk, hl3⟩ : ∃ (tt lz : Addr) (cc : Nat) (sz : List Nat), x = .ref tt ∧ H7 tt = some (.tup [.int (cc : Int), .ref lz]) ∧ H7 lz = some (.lst (natV sz)) ∧ PackW cc sz ∧ sz.length = 3 := by
      simp only [List.mem_cons, List.not_mem_nil, or_false] at hxm
      rcases hxm with rfl | rfl
      · exact ⟨t1, l1, 7, [3, 3, 1], rfl, s57 _ _ e4, s47 _ _ e3, P1, rfl⟩
      · exact ⟨t2, l2, 5, [2, 2, 0], rfl, s7 _ _ e6, s67 _ _ e5, P2, rfl⟩
    refine g_pair (SqT.of et) ?_
    walk_at "rd"
    refine ⟨by simp [sizeLine_eq], fun h1 H8 _ s8 e8 => ?_⟩
    walk_at "rd"
    refine ⟨by simp [sizeLine_eq], fun h2 H9 _ s9 e9 => ?_⟩
    walk_at "rd"
    refine ⟨by simp [sizeLine_eq], fun hh2 H10 _ s10 e10 => ?_⟩
    walk_at "rd"
    obtain ⟨y, hy, hym⟩ := at_mod _ (z0 / 2) (m := 2) (show [V.ref h1, V.ref h2].length = 2 from rfl) (by decide)
    refine r_ixL (SqL.of e10) hy ?_
    walk_at "rd"
    have s70 := s8.trans (s9.trans s10)
    have sall : Same H H10 := s02.trans (s3.trans (s47.trans s70))
    simp only [List.mem_cons, List.not_mem_nil, or_false] at hym
    rcases hym with rfl | rfl
    · exact key cc lz h1 sz 0 1 2 0 H10 sall (s70 _ _ el) pk (by omega) (by omega) (by omega) (s10 _ _ (s9 _ _ e8))
    · exact key cc lz h2 sz 1 0 2 0 H10 sall (s70 _ _ el) pk (by omega) (by omega) (by omega) (s10 _ _ e9)
  · walk_at "rd"
    exact key c zz h ss A B E z2 H2 s02 ez2 pw hA hB hE e2

end L2

end

section
-- KcNew
set_option Elab.async false
set_option linter.all false
set_option maxRecDepth 100000
set_option maxHeartbeats 4000000
namespace L2
open PySem PySem.Spec PyProof.Rows
theorem Room.units64 {k : Nat} {A : Around} (r : Room k A) : A.units + 64 < cLine := by have := r.un; omega
section
variable {X : Cx}
theorem OpR.weak {f : Value → Value → Sem Value} {r r' : R2} (h : OpR X f r) (w : ∀ x y H Q, r' x y H Q → r x y H Q) : OpR X f r' := fun pins s σ H x y v u Q I rx ry q => h pins s σ H x y v u Q I rx ry (w x y H Q q)
theorem CallR.weak {f : Value} {r r' : List V → Hp → VK → Prop} (h : CallR X f r) (w : ∀ xs H Q, r' xs H Q → r xs H Q) : CallR X f r' := fun pins s σ H xs us Q I rx q => h pins s σ H xs us Q I rx (w xs H Q q)
theorem om_cat : OpR X (binaryOp .Add) mCat := op_cat.weak fun _ _ _ _ ⟨l, b, xs, zs, e1, e2, h1, h2, hz, q⟩ => ⟨l, b, xs, zs, e1, e2, h1, h2, hz, q.upd⟩
theorem cm_list : CallR X (.type "list") (mCList X.K) := call_list_of.weak fun _ _ _ ⟨p, ys, e, h, q⟩ => ⟨p, ys, e, h, q.upd⟩
theorem cm_tuple : CallR X (.type "tuple") (mCTuple X.K) := call_tuple_of.weak fun _ _ _ ⟨p, ys, e, h, q⟩ => ⟨p, ys, e, .inl ⟨h, q.upd⟩⟩
theorem sm_list : SlR X (mSlL X.K) := fun pins s σ H x v vl vu lo hi sl Q I rx hs pl pu ⟨a, xs, e, h, q⟩ => sl_list pins s σ H x v vl vu lo hi sl Q I rx hs pl pu ⟨a, xs, e, h, q.upd⟩
end
section
variable {X : Cx} {es : List Expr} {t : TA} {pos : Pos}
theorem pm_tup {x1} (h : PA X es t) : PE X (.Tuple es x1 pos) (mTup t) := by
  intro pins s σ H Q I hq
  refine wpAny_Tuple_spliced (thn (h pos pins s σ H _ I hq) fun us s1 ⟨xs, H1, I1, r, z, q⟩ => ⟨by rw [← r.length]; exact z, ?_⟩)
  have hf : H1 s1.heap.objs.size = none := I1.hok.fresh (Nat.le_refl _)
  refine ⟨.ref s1.heap.objs.size, upd H1 s1.heap.objs.size (.tup xs), I1.laid (t' := s1.toks) (fun b u e => Heap.get?_push_of_some _ e) (Nat.le_refl _) ?_, rfl, q.upd _ hf⟩
  exact ⟨z, us, r, IsTupD.new _ _⟩
theorem pm_lst (h : PA X es t) : PE X (.List es pos) (mLst t) := by
  intro pins s σ H Q I hq
  refine wpAny_List_spliced (thn (h pos pins s σ H _ I hq) fun us s1 ⟨xs, H1, I1, r, z, q⟩ => ⟨by rw [← r.length]; exact z, ?_⟩)
  have hf : H1 s1.heap.objs.size = none := I1.hok.fresh (Nat.le_refl _)
  refine ⟨.ref s1.heap.objs.size, upd H1 s1.heap.objs.size (.lst xs), I1.laid (t' := s1.toks) (fun b u e => Heap.get?_push_of_some _ e) (Nat.le_refl _) ?_, rfl, q.upd _ hf⟩
  exact ⟨z, us, 0, r, Heap.get?_push_size _ rfl⟩
end
/-! ### arguments, names: what is read off the text once -/
section
variable {X : Cx} {es : List Expr} {te : TE} {t : TA}
theorem pac_Constant {v : Const} {j : Nat} {p : Pos} (ha : PE X (.Constant v j p) te) (hr : PA X es t) : PA X (.Constant v j p :: es) (tCons te t) := pa_cons ha hr rfl
theorem pac_Name {x : Str} {p : Pos} (ha : PE X (.Name x p) te) (hr : PA X es t) : PA X (.Name x p :: es) (tCons te t) := pa_cons ha hr rfl
theorem pac_BinOp {a b : Expr} {o : Operator} {p : Pos} (ha : PE X (.BinOp a o b p) te) (hr : PA X es t) : PA X (.BinOp a o b p :: es) (tCons te t) := pa_cons ha hr rfl
theorem pac_Call {f : Expr} {as : List Expr} {ks : List Keyword} {p : Pos} (ha : PE X (.Call f as ks p) te) (hr : PA X es t) : PA X (.Call f as ks p :: es) (tCons te t) := pa_cons ha hr rfl
theorem pac_Tuple {as : List Expr} {k : Nat} {p : Pos} (ha : PE X (.Tuple as k p) te) (hr : PA X es t) : PA X (.Tuple as k p :: es) (tCons te t) := pa_cons ha hr rfl
theorem pac_List {as : List Expr} {p : Pos} (ha : PE X (.List as p) te) (hr : PA X es t) : PA X (.List as p :: es) (tCons te t) := pa_cons ha hr rfl
theorem pac_Subscript {a b : Expr} {p : Pos} (ha : PE X (.Subscript a b p) te) (hr : PA X es t) : PA X (.Subscript a b p :: es) (tCons te t) := pa_cons ha hr rfl
theorem pac_ListComp {e : Expr} (ha : PE X e te) (hr : PA X es t) (hs : starEach (e :: es) X.env = (false, eval e X.env) :: starEach es X.env := by rfl) : PA X (e :: es) (tCons te t) := pa_cons ha hr hs
structure VarAt (N : List Str) (sc : Scope) (i : Nat) (x : Str) : Prop where
  n : N[i]? = some x
  v : Vis sc x
  d : (x == ("__debug__" : Str)) = false
  c : (x == ("__classdict__" : Str)) = false
theorem pvQ {N : List Str} {sc : Scope} {i : Nat} {x : Str} {pos : Pos} (h : VarAt N sc i x) (hN : X.N = N) (hS : X.env.scope = sc) : PE X (.Name x pos) (tVar i) := by
  subst hN hS
  exact pe_var h.n h.v h.d h.c
end
end L2

end

section
-- KcForms
set_option Elab.async false
set_option linter.all false
set_option maxRecDepth 100000
set_option maxHeartbeats 4000000
namespace L2
open PySem PySem.Spec PyProof.Rows
/-! ### a dict of the module's own -/
noncomputable def KDict (P : Program) (w : World) (K : PySem.W.Frag) (a : Addr) (kvs : List (Str × V)) : Prop :=
  (a == sysModules) = false ∧ ∃ (o : Obj) (es : Array DictEntry) (ep : Nat) (vs : List (Key × Value)), K.lookup a = some o ∧ o.ExactDict ∧ o.data = .dict es ep ∧ KeysOf (mixKind P w) es ∧ Pairs (mixKind P w) es.toList vs ∧ (vs.map (·.1)).Nodup ∧
    Paired (fun (p : Str × V) (q : Key × Value) => q.1 = .inr p.1 ∧ RelV p.2 q.2) kvs vs
section
variable {X : Cx} {o i : Expr} {pos : Pos} {td ty : TE} {a : Addr} {kvs : List (Str × V)}
theorem KDict.of {pins : List (Addr × Obj)} {σ : St} {H : Hp} {s : Shared} (D : KDict X.prog X.w X.K a kvs) (I : Inv X pins σ H s) : ∃ vs, s.heap.DictOf (mixKind X.prog X.w) a vs ∧ Paired (fun (p : Str × V) (q : Key × Value) => q.1 = .inr p.1 ∧ RelV p.2 q.2) kvs vs := by
  obtain ⟨_, o, es, ep, vs, lk, ex, hd, hk, hp, nd, rel⟩ := D
  exact ⟨vs, ⟨o, es, ep, I.kIn a o lk, ex, hd, hk, hp, nd⟩, rel⟩
end
end L2

end

section
-- KcMap
set_option Elab.async false
set_option linter.all false
set_option maxRecDepth 100000
set_option maxHeartbeats 4000000
namespace L2
open PySem PySem.Spec PyProof.Rows
/-! ### the object's rules -/
theorem DA.stay {a : Addr} {kvs : List (IA × V)} {h1 h2 : Heap} (d : DA a kvs h1) (k : ∀ o, h1.get? a = some o → h2.get? a = some o) : DA a kvs h2 := by
  obtain ⟨z, y, P, w, vs, r, o, es, ep, e, c⟩ := d
  exact ⟨z, y, P, w, vs, r, o, es, ep, k _ e, c⟩
theorem DB.stay {a : Addr} {zs : List (List IK × Addr × V)} {h1 h2 : Heap} (d : DB a zs h1) (k : ∀ o, h1.get? a = some o → h2.get? a = some o) : DB a zs h2 := by
  obtain ⟨z, y, xs, r, o, es, ep, e, c⟩ := d
  exact ⟨z, y, xs, r, o, es, ep, k _ e, c⟩
theorem DA.ok {P : Program} {w : World} {H : Hp} {h : Heap} {a : Addr} {kvs : List (IA × V)} (d : DA a kvs h) : ObjOk P w H h a (dA a kvs) := by
  obtain ⟨_, _, _, _, _, _, o, _, _, e, _⟩ := id d
  exact ⟨d, ⟨o, e⟩, fun _ _ d k => d.stay k⟩
theorem DB.ok {P : Program} {w : World} {H : Hp} {h : Heap} {a : Addr} {zs : List (List IK × Addr × V)} (d : DB a zs h) : ObjOk P w H h a (dB a zs) := by
  obtain ⟨_, _, _, _, o, _, _, e, _⟩ := id d
  exact ⟨d, ⟨o, e⟩, fun _ _ d k => d.stay k⟩
theorem ZX.length {zs : List (List IK × Addr × V)} {xs : List (List IK × Addr × Value)} (r : ZX zs xs) : zs.length = xs.length := Paired.length r
theorem ZX.val {zs : List (List IK × Addr × V)} {xs : List (List IK × Addr × Value)} (r : ZX zs xs) (k : List IK) : RelO (atZ zs k) ((atKey xs k).map (·.2)) := by
  unfold ZX at r
  induction r with
  | nil => exact True.intro
  | @cons p q ps qs h t ih =>
    obtain ⟨h1, _, h2⟩ := h
    by_cases e : p.1 = k
    · have e' : q.1 = k := h1.symm.trans e
      have b : atKey (q :: qs) k = some q.2 := by simp [atKey, List.find?_cons, e']
      have c : atZ (p :: ps) k = some p.2.2 := by simp [atZ, List.find?_cons, e]
      rw [c, b]; exact h2
    · have e' : ¬ q.1 = k := fun z => e (h1.trans z)
      have b : atKey (q :: qs) k = atKey qs k := by simp [atKey, List.find?_cons, e']
      have c : atZ (p :: ps) k = atZ ps k := by simp [atZ, List.find?_cons, e]
      rw [c, b]; exact ih
noncomputable def putZ (zs : List (List IK × Addr × V)) (k : List IK) (b : Addr) (v : V) : List (List IK × Addr × V) :=
  if (atZ zs k).isSome then zs.map (fun x => if x.1 = k then (x.1, x.2.1, v) else x) else zs ++ [(k, b, v)]
theorem ZX.repl {zs : List (List IK × Addr × V)} {xs : List (List IK × Addr × Value)} (r : ZX zs xs) (k : List IK) {v : V} {u : Value} (rv : RelV v u) : ZX (zs.map fun x => if x.1 = k then (x.1, x.2.1, v) else x) (xs.map (putAt k u)) := by
  unfold ZX at r ⊢
  induction r with
  | nil => exact .nil
  | @cons p q ps qs h t ih =>
    rw [List.map_cons, List.map_cons]
    refine .cons ?_ ih
    obtain ⟨h1, h2, h3⟩ := h
    unfold putAt
    by_cases e : p.1 = k
    · rw [if_pos e, if_pos (h1.symm.trans e)]; exact ⟨h1, h2, rv⟩
    · rw [if_neg e, if_neg (fun z => e (h1.trans z))]; exact ⟨h1, h2, h3⟩
theorem ZX.put {zs : List (List IK × Addr × V)} {xs : List (List IK × Addr × Value)} (r : ZX zs xs) (k : List IK) {b : Addr} {v : V} {u : Value} (rv : RelV v u) : ZX (putZ zs k b v) (storedH xs k b u) := by
  have e : (atZ zs k).isSome = (atKey xs k).isSome := by
    rw [(r.val k).isSome_eq, Option.isSome_map]
  unfold putZ storedH
  rw [e]
  by_cases q : (atKey xs k).isSome = true
  · rw [if_pos q, if_pos q]; exact r.repl k rv
  · rw [if_neg q, if_neg q]; exact Paired.snoc r ⟨rfl, rfl, rv⟩
theorem atZ_put (zs : List (List IK × Addr × V)) (k j : List IK) (b : Addr) (v : V) : atZ (putZ zs k b v) j = if j = k then some v else atZ zs j := by
  have hm : ∀ ys : List (List IK × Addr × V), atZ (ys.map fun x => if x.1 = k then (x.1, x.2.1, v) else x) j = (atZ ys j).map fun y => if j = k then v else y := by
    intro ys
    induction ys with
    | nil => rfl
    | cons p r ih =>
      rw [List.map_cons]
      unfold atZ at ih ⊢
      by_cases h : p.1 = k
      · rw [if_pos h]
        by_cases e : p.1 = j
        · simp [List.find?_cons, e, e.symm.trans h]
        · simp [List.find?_cons, e]; simpa using ih
      · rw [if_neg h]
        by_cases e : p.1 = j
        · have : ¬ j = k := fun z => h (e.trans z)
          simp [List.find?_cons, e, this]
        · simp [List.find?_cons, e]; simpa using ih
  have ha : ∀ ys : List (List IK × Addr × V), atZ ys k = none → atZ (ys ++ [(k, b, v)]) j = if j = k then some v else atZ ys j := by
    intro ys
    induction ys with
    | nil =>
      intro _
      by_cases e : k = j
      · simp [atZ, List.find?_cons, e]
      · have : ¬ j = k := fun z => e z.symm
        simp [atZ, List.find?_cons, e, this]
    | cons p r ih =>
      intro hn
      have hk : ¬ p.1 = k := fun z => by simp [atZ, List.find?_cons, z] at hn
      have hn' : atZ r k = none := by simpa [atZ, List.find?_cons, hk] using hn
      have ih' := ih hn'
      by_cases e : p.1 = j
      · have : ¬ j = k := fun z => hk (e.trans z)
        simp [atZ, List.find?_cons, e, this]
      · have c : atZ (p :: (r ++ [(k, b, v)])) j = atZ (r ++ [(k, b, v)]) j := by simp [atZ, List.find?_cons, e]
        have c' : atZ (p :: r) j = atZ r j := by simp [atZ, List.find?_cons, e]
        rw [List.cons_append, c, c', ih']
  unfold putZ
  cases q : atZ zs k with
  | some y =>
    rw [if_pos (show (some y).isSome = true from rfl), hm]
    by_cases e : j = k
    · subst e; rw [q, if_pos rfl]; simp
    · rw [if_neg e]; cases atZ zs j <;> simp [e]
  | none => rw [if_neg (show ¬ (none : Option V).isSome = true by decide)]; exact ha zs q
theorem length_putZ (zs : List (List IK × Addr × V)) (k : List IK) (b : Addr) (v : V) : (putZ zs k b v).length ≤ zs.length + 1 := by
  unfold putZ
  split
  · rw [List.length_map]; omega
  · rw [List.length_append, List.length_cons, List.length_nil]; omega
theorem mem_putZ {zs : List (List IK × Addr × V)} {k : List IK} {b : Addr} {v : V} {z : List IK × Addr × V} (h : z ∈ putZ zs k b v) : (∃ z0 ∈ zs, z.1 = z0.1 ∧ z.2.1 = z0.2.1) ∨ (z.1 = k ∧ z.2.1 = b) := by
  unfold putZ at h
  split at h
  · obtain ⟨z0, h0, rfl⟩ := List.mem_map.mp h
    refine .inl ⟨z0, h0, ?_⟩
    split <;> exact ⟨rfl, rfl⟩
  · rcases List.mem_append.mp h with h | h
    · exact .inl ⟨z, h, rfl, rfl⟩
    · rw [List.mem_singleton.mp h]; exact .inr ⟨rfl, rfl⟩
section
variable {X : Cx} {pins : List (Addr × Obj)} {σ : St} {H : Hp} {s : Shared} {a : Addr} {y v : V} {u r : Value} {A : Around} {E : Value → Shared → Prop} {srt : Bool} {f : MK → Option V} {n : Nat} {k : MK}
theorem ia_is {k : IA} (h : iaV y = some k) (ry : RelV y u) : iaIs k u = true := by
  cases y with
  | non => cases h; cases ry; rfl
  | bl b => cases h; cases ry; simp [iaIs]
  | int i => cases h; obtain ⟨t, rfl⟩ := ry; simp [iaIs]
  | _ => cases h
theorem ias_are {P : Program} {w : World} : ∀ {ks : List IA} {ys : List V} {us : List Value}, ys.map iaV = ks.map some → Vals ys us → ItemsAre (iaKind P w) ks us
  | [], [], _, _, .nil => .nil
  | k :: ks, y :: ys, _, e, .cons h t => by
    rw [List.map_cons, List.map_cons] at e
    injection e with e1 e2
    exact .cons (ia_is e1 h) (ias_are e2 t)
  | [], _ :: _, _, e, _ => by simp at e
  | _ :: _, [], _, e, _ => by simp at e
theorem tup_at (ok : HOk X.prog X.w H s.heap) {c : Addr} {xs : List V} (e : H c = some (.tup xs)) : ∃ its, Vals xs its ∧ ∃ o n, s.heap.get? c = some o ∧ o.cls = .type "tuple" ∧ o.data = .seq its.toArray n := by
  obtain ⟨_, its, r, o, h1, h2, ⟨n, h3⟩, _⟩ := (show ObjOk X.prog X.w H s.heap c (.tup xs) from ok c _ e)
  exact ⟨its, r, o, n, h1, h2, h3⟩
theorem item_is (ok : HOk X.prog X.w H s.heap) {k : IK} (h : ItemV H y k) (ry : RelV y u) : ItemIs X.prog X.w s.heap k u := by
  cases k with
  | inl a => exact ia_is h ry
  | inr as =>
    obtain ⟨c, ys, rfl, e, q⟩ := h
    cases ry
    obtain ⟨its, rv, o, n, h1, h2, h3⟩ := tup_at ok e
    exact ⟨c, rfl, o, its.toArray, n, h1, h2, h3, by simpa using ias_are q rv⟩
theorem items_is (ok : HOk X.prog X.w H s.heap) {xs : List V} {ks : List IK} {us : List Value} (p : Paired (ItemV H) xs ks) : Vals xs us → Paired (ItemIs X.prog X.w s.heap) ks us := by
  induction p generalizing us with
  | nil => intro q; cases q; exact .nil
  | cons h t ih => intro q; cases q with
    | cons r q => exact .cons (item_is ok h r) (ih q)
theorem tk_is (ok : HOk X.prog X.w H s.heap) {c : Addr} {ks : List IK} (h : KeyV H (.ref c) (.inr ks)) : IsTk X.prog X.w s.heap ks c := by
  obtain ⟨c', xs, e, ec, q⟩ := h
  cases e
  obtain ⟨its, rv, o, n, h1, h2, h3⟩ := tup_at ok ec
  exact ⟨o, its.toArray, n, h1, h2, h3, by simpa using items_is ok q rv⟩
theorem key_ref (h : KeyV H y k) (hs : kSort k = true) : ∃ c ks, y = .ref c ∧ k = .inr ks := by
  cases k with
  | inl _ => cases hs
  | inr ks => obtain ⟨c, xs, e, _⟩ := h; exact ⟨c, ks, e, rfl⟩
theorem pairs_any {P P' : Program} {w w' : World} {es : List DictEntry} {vs : List (IA × Value)} (h : Pairs (iaKind P w) es vs) : Pairs (iaKind P' w') es vs := by
  induction h with
  | nil => exact .nil
  | cons a b _ ih => exact .cons a b ih
theorem da_of {kvs : List (IA × V)} (ok : HOk X.prog X.w H s.heap) (e : H a = some (dA a kvs)) : kvs.length ≤ sizeLine ∧ (a == sysModules) = false ∧ ∃ vs, KV kvs vs ∧ s.heap.DictOf (iaKind X.prog X.w) a vs := by
  obtain ⟨⟨z, y, P, w, vs, r, o, es, ep, h1, h2, h3, h4, h5, h6⟩, _⟩ := (show ObjOk X.prog X.w H s.heap a (dA a kvs) from ok a _ e)
  exact ⟨z, y, vs, r, o, es, ep, h1, h2, h3, h4, pairs_any h5, h6⟩
theorem db_of {zs : List (List IK × Addr × V)} (ok : HOk X.prog X.w H s.heap) (e : H a = some (dB a zs)) (hk : ∀ z ∈ zs, KeyV H (.ref z.2.1) (.inr z.1)) : zs.length ≤ sizeLine ∧ (a == sysModules) = false ∧ ∃ xs, ZX zs xs ∧ s.heap.DictOfH (tkKind X.prog X.w) a xs := by
  obtain ⟨⟨z, y, xs, r, o, es, ep, h1, h2, h3, h4, h5⟩, _⟩ := (show ObjOk X.prog X.w H s.heap a (dB a zs) from ok a _ e)
  refine ⟨z, y, xs, r, o, es, ep, h1, h2, h3, h4, ?_, h5⟩
  have all : ∀ {l : List (List IK × Addr × V)} {m : List (List IK × Addr × Value)}, ZX l m → (∀ z ∈ l, KeyV H (.ref z.2.1) (.inr z.1)) → ∀ x ∈ m, (tkKind X.prog X.w).is s.heap x.1 x.2.1 := by
    intro l m q
    unfold ZX at q
    induction q with
    | nil => intro _ x hx; exact nomatch hx
    | @cons p q ps qs hq t ih =>
      intro hk x hx
      rcases List.mem_cons.mp hx with e | hx
      · subst e
        have := hk p (List.mem_cons_self ..)
        rw [hq.1, hq.2.1] at this
        exact tk_is ok this
      · exact ih (fun z hz => hk z (List.mem_cons_of_mem _ hz)) x hx
  exact all r hk
theorem x_notIn {Q : Value → Shared → Prop} (hu : A.units + 2 < cLine) (I : Inv X pins σ H s) (d : Dx H a srt f n) (hk : KeyV H y k) (hs : kSort k = srt) (ry : RelV y u) (h : ∀ s', Inv X pins σ H s' → Q (.bool (f k).isNone) s') :
    wpAny (model X.prog X.w) A (compareOp .NotIn u (.ref a)) Q E s := by
  rcases d with ⟨rfl, kvs, e, hf, _⟩ | ⟨rfl, zs, e, hz, hf, _⟩
  · cases k with
    | inr _ => cases hs
    | inl k =>
      obtain ⟨z, hd, vs, rel, dd⟩ := da_of I.hok e
      refine wpAny_notIn_of (knd := iaKind X.prog X.w) (ia_is hk ry) hd dd.mapOf ?_
      rw [← (rel.val k).isSome_eq, hf k]
      rw [show (!(f (.inl k)).isSome) = (f (.inl k)).isNone by cases f (.inl k) <;> rfl]
      exact h _ (I.tok _)
  · obtain ⟨c, ks, rfl, rfl⟩ := key_ref hk hs
    cases ry
    obtain ⟨z, hd, xs, rel, dd⟩ := db_of I.hok e hz
    refine wpAny_notIn_heap (knd := tkKind X.prog X.w) hu (tk_is I.hok hk) hd dd ?_
    have q := (rel.val ks).isSome_eq
    rw [Option.isSome_map, hf ks] at q
    rw [← q, show (!(f (.inr ks)).isSome) = (f (.inr ks)).isNone by cases f (.inr ks) <;> rfl]
    exact h _ (I.tok _)
theorem x_get {Q : Value → Shared → Prop} (hu : A.units + 2 < cLine) (I : Inv X pins σ H s) (d : Dx H a srt f n) (hk : KeyV H y k) (hs : kSort k = srt) (ry : RelV y u) (ev : f k = some v) (h : ∀ w' s', Inv X pins σ H s' → RelV v w' → Q w' s') :
    wpAny (model X.prog X.w) A (getItem (.ref a) u) Q E s := by
  rcases d with ⟨rfl, kvs, e, hf, _⟩ | ⟨rfl, zs, e, hz, hf, _⟩
  · cases k with
    | inr _ => cases hs
    | inl k =>
      obtain ⟨z, hd, vs, rel, dd⟩ := da_of I.hok e
      obtain ⟨w', hw, rw'⟩ := RelO.some_of (v := v) (o := valueAt vs k) (by rw [← ev, ← hf k]; exact rel.val k)
      exact wpAny_getItem_of (knd := iaKind X.prog X.w) (ia_is hk ry) dd.mapOf hw (h w' _ (I.tok _) rw')
  · obtain ⟨c, ks, rfl, rfl⟩ := key_ref hk hs
    cases ry
    obtain ⟨z, hd, xs, rel, dd⟩ := db_of I.hok e hz
    obtain ⟨w', hw, rw'⟩ := RelO.some_of (v := v) (o := (atKey xs ks).map (·.2)) (by rw [← ev, ← hf ks]; exact rel.val ks)
    obtain ⟨p, hp, hp2⟩ := Option.map_eq_some_iff.mp hw
    refine wpAny_getItem_heap (knd := tkKind X.prog X.w) hu (tk_is I.hok hk) dd hp ?_
    rw [hp2]
    exact h w' _ (I.tok _) rw'
theorem off_upd' {o : HO} : Off a H (upd H a o) := fun b hb => upd_ne hb
theorem da_new {h' : Heap} {t' : Nat} {kvs kvs' : List (IA × V)} {vs' : List (IA × Value)} (I : Inv X pins σ H s) (e : H a = some (dA a kvs)) (hs : Heap.SameBut a s.heap h') (z : kvs'.length ≤ sizeLine) (hd : (a == sysModules) = false) (rel : KV kvs' vs') (dd : h'.DictOf (iaKind X.prog X.w) a vs') :
    Inv X pins σ (upd H a (dA a kvs')) { s with heap := h', toks := t' } := by
  have he : ∃ q, h'.get? a = some q := let ⟨q, _, _, hq, _⟩ := dd; ⟨q, hq⟩
  exact d_write I (by rw [e]; exact True.intro) hs he (DA.ok ⟨z, hd, X.prog, X.w, vs', rel, dd⟩)
theorem db_new {h' : Heap} {t' : Nat} {zs zs' : List (List IK × Addr × V)} {xs' : List (List IK × Addr × Value)} (I : Inv X pins σ H s) (e : H a = some (dB a zs)) (hs : Heap.SameBut a s.heap h') (z : zs'.length ≤ sizeLine) (hd : (a == sysModules) = false) (rel : ZX zs' xs') (dd : h'.DictOfH (tkKind X.prog X.w) a xs') :
    Inv X pins σ (upd H a (dB a zs')) { s with heap := h', toks := t' } := by
  obtain ⟨o, es, ep, h1, h2, h3, h4, _, h5⟩ := dd
  exact d_write I (by rw [e]; exact True.intro) hs ⟨o, h1⟩ (DB.ok ⟨z, hd, xs', rel, o, es, ep, h1, h2, h3, h4, h5⟩)
theorem dx_putA {kvs : List (IA × V)} {k : IA} (e : H a = some (dA a kvs)) (hf : ∀ k, valV kvs k = f (.inl k)) (hn : kvs.length ≤ n) : Dx (upd H a (dA a (putK kvs k v))) a false (putF_ f (.inl k) v) (n + 1) := by
  refine .inl ⟨rfl, _, upd_same, fun j => ?_, ?_⟩
  · rw [valV_put]
    unfold putF_
    by_cases q : j = k
    · rw [if_pos q, if_pos (by rw [q])]
    · rw [if_neg q, if_neg (fun z => q (Sum.inl.inj z)), hf j]
  · have := length_putK kvs k v; omega
theorem dx_putB {zs : List (List IK × Addr × V)} {k : List IK} {c : Addr} (e : H a = some (dB a zs)) (hz : ∀ z ∈ zs, KeyV H (.ref z.2.1) (.inr z.1)) (hk : KeyV H (.ref c) (.inr k)) (hf : ∀ k, atZ zs k = f (.inr k)) (hn : zs.length ≤ n) :
    Dx (upd H a (dB a (putZ zs k c v))) a true (putF_ f (.inr k) v) (n + 1) := by
  have kp : Keep H (upd H a (dB a (putZ zs k c v))) := off_upd'.keepD fun xs q => by rw [e] at q; cases q
  refine .inr ⟨rfl, _, upd_same, fun z h => ?_, fun j => ?_, ?_⟩
  · rcases mem_putZ h with ⟨z0, h0, e1, e2⟩ | ⟨e1, e2⟩
    · rw [e1, e2]; exact (hz z0 h0).keep kp
    · rw [e1, e2]; exact hk.keep kp
  · rw [atZ_put]
    unfold putF_
    by_cases q : j = k
    · rw [if_pos q, if_pos (by rw [q])]
    · rw [if_neg q, if_neg (fun z => q (Sum.inr.inj z)), hf j]
  · have := length_putZ zs k c v; omega
theorem x_set {Q : Unit → Shared → Prop} (hu : A.units + 2 < cLine) (I : Inv X pins σ H s) (d : Dx H a srt f n) (hk : KeyV H y k) (hs : kSort k = srt) (hn : n < sizeLine) (ry : RelV y u) (rv : RelV v r)
    (h : ∀ H' s', Off a H H' → Dx H' a srt (putF_ f k v) (n + 1) → Inv X pins σ H' s' → Q () s') : wpAny (model X.prog X.w) A (setItem (.ref a) u r) Q E s := by
  rcases d with ⟨rfl, kvs, e, hf, hl⟩ | ⟨rfl, zs, e, hz, hf, hl⟩
  · cases k with
    | inr _ => cases hs
    | inl k =>
      obtain ⟨z, hd, vs, rel, dd⟩ := da_of I.hok e
      have hvz : vs.length ≤ sizeLine := by rw [← rel.length]; exact z
      have hl' : (putK kvs k v).length ≤ sizeLine := by have := length_putK kvs k v; omega
      refine wpAny_setItem_pairs (knd := iaKind X.prog X.w) (hsz := hvz) (ia_is hk ry) dd fun h' dd' hs' => h _ _ off_upd' (dx_putA e hf hl) ?_
      exact da_new I e hs' hl' hd (rel.put k rv) dd'
  · obtain ⟨c, ks, rfl, rfl⟩ := key_ref hk hs
    cases ry
    obtain ⟨z, hd, xs, rel, dd⟩ := db_of I.hok e hz
    have hvz : xs.length ≤ sizeLine := by rw [← rel.length]; exact z
    have hl' : (putZ zs ks c v).length ≤ sizeLine := by have := length_putZ zs ks c v; omega
    refine wpAny_setItem_heap (knd := tkKind X.prog X.w) (hsz := hvz) hu (tk_is I.hok hk) dd fun h' dd' hs' => h _ _ off_upd' (dx_putB (c := c) e hz hk hf hl) ?_
    exact db_new I e hs' hl' hd (rel.put ks rv) dd'
theorem setDefault_heap {d a : Addr} {knd : HeapKind X.prog X.w (List IK)} {xs : List (List IK × Addr × Value)} {k : List IK} {v : Value} {Q : Value → Shared → Prop} (hu : knd.room A) (hkey : knd.is s.heap k a) (hm : s.heap.DictOfH knd d xs)
    (h1 : ∀ p, atKey xs k = some p → Q p.2 { s with toks := s.toks + knd.draws k })
    (h2 : atKey xs k = none → ∀ h', h'.DictOfH knd d (storedH xs k a v) → Heap.SameBut d s.heap h' → Q v { s with heap := h', toks := s.toks + knd.draws k })
    (hsz : xs.length ≤ sizeLine) : wpAny (model X.prog X.w) A (dictSetDefault d (.ref a) v) Q E s := by
  obtain ⟨o, es, ep, ho, hc, hd, he, his, hn⟩ := hm
  unfold dictSetDefault
  try with_reducible refine wpAny_holding ?_
  refine wpAny_bind (knd.pyHash hu hkey ?_)
  refine wpAny_bind (wpAny_dictFind_heap (s := { s with toks := s.toks + knd.draws k }) hu hkey ho hd he his hn ?_ ?_)
  · intro hno
    have hnot : k ∉ xs.map (·.1) := not_mem_keys_of_get hno
    refine wpAny_bind (wpAny_rule (wpAny_bind (wpAny_updateDictKeys (hz := by have e := size_of_entries he; omega) (s := { s with toks := s.toks + knd.draws k }) ho hd (wpAny_pure (h2 (atKey_none_of_get hno) _ ⟨_, _, ep + 1, Heap.get?_update_self _ ho (Obj.isFreed_of_dict (Obj.data_mapDictKeys hd _)),
      hc.mapDictKeys _, Obj.data_mapDictKeys hd _, ?_, ?_, ?_⟩ (Heap.SameBut.update ..))))))
    · rw [storedH_new (atKey_none_of_get hno)]
      simp [he, entryOfKey]
    · rw [storedH_new (atKey_none_of_get hno)]
      intro x hx
      rcases List.mem_append.mp hx with hx | hx
      · exact knd.keeps (his x hx) ho hd (Heap.SameBut.update ..)
      · simp only [List.mem_singleton] at hx
        subst hx
        exact knd.keeps hkey ho hd (Heap.SameBut.update ..)
    · rw [storedH_new (atKey_none_of_get hno)]
      rw [List.map_append, List.nodup_append]
      refine ⟨hn, by simp, ?_⟩
      intro x hx y hy
      simp only [List.map_cons, List.map_nil, List.mem_singleton] at hy
      subst hy
      exact fun e => hnot (e ▸ hx)
  · intro j p hj
    refine wpAny_bind (wpAny_dictEntries (s := { s with toks := s.toks + knd.draws k }) ho hd ?_)
    rw [entry_at he j, hj]
    exact wpAny_bind (wpAny_rule (wpAny_pure (h1 p (atKey_of_get hn hj))))
theorem setdefault_body {d : Addr} {key dflt : Value} {Q : Fin → Shared → Prop} (hT : s.TypeIs (.ref d) "dict") (hd : (d == sysModules) = false) (h : wpAny (model X.prog X.w) A (dictSetDefault d key dflt) (fun v s' => Q (.done (.ret v)) s') E s) :
    wpAny (model X.prog X.w) A (Builtin.«dict.setdefault» ⟨[.ref d, key, dflt], []⟩) Q E s := by
  unfold Builtin.«dict.setdefault»
  refine wpAny_bind ?_
  unfold Builtin.Dict.keyAndDefault
  refine wpAny_bind (wpAny_notOrdered_dict hT ?_)
  show wpAny _ _ (pure (d, key, some dflt)) _ _ s
  refine wpAny_pure ?_
  show wpAny _ _ (if (d == sysModules) = true then _ else (dictSetDefault d key dflt >>= _)) _ _ s
  rw [if_neg (by rw [hd]; exact Bool.false_ne_true)]
  exact wpAny_bind (wpAny_mono h (fun v s' q => wpAny_pure q) fun _ _ x => x)
theorem x_type (I : Inv X pins σ H s) (d : Dx H a srt f n) : s.TypeIs (.ref a) "dict" ∧ ∀ b, Value.ref a = .ref b → ∃ ob, s.heap.get? b = some ob ∧ ob.dict = none := by
  rcases d with ⟨_, kvs, e, _, _⟩ | ⟨_, zs, e, hz, _, _⟩
  · obtain ⟨_, _, vs, _, dd⟩ := da_of I.hok e
    refine ⟨dd.typeIs, fun b q => ?_⟩
    cases q
    obtain ⟨ob, _, _, h1, h2, _⟩ := dd
    exact ⟨ob, h1, h2.2.1⟩
  · obtain ⟨_, _, xs, _, dd⟩ := db_of I.hok e hz
    refine ⟨dd.typeIs, fun b q => ?_⟩
    cases q
    obtain ⟨ob, _, _, h1, h2, _⟩ := dd
    exact ⟨ob, h1, h2.2.1⟩
theorem x_setd {Q : Value → Shared → Prop} (hu : A.units + 2 < cLine) (I : Inv X pins σ H s) (d : Dx H a srt f n) (hk : KeyV H y k) (hs : kSort k = srt) (hn : n < sizeLine) (ry : RelV y u) (rv : RelV v r)
    (h1 : ∀ x w' s', f k = some x → RelV x w' → Inv X pins σ H s' → Q w' s')
    (h2 : f k = none → ∀ H' s', Off a H H' → Dx H' a srt (putF_ f k v) (n + 1) → Inv X pins σ H' s' → Q r s') : wpAny (model X.prog X.w) A (call (.builtin "dict.setdefault") [.ref a, u, r]) Q E s := by
  have hT := (x_type I d).1
  refine wpAny_call_entry PySem.F.slot_dict_setdefault hT PySem.F.entry_dict_setdefault ?_ (PySem.F.args_dict_setdefault_3 _ _ _)
  rcases d with ⟨rfl, kvs, e, hf, hl⟩ | ⟨rfl, zs, e, hz, hf, hl⟩
  · cases k with
    | inr _ => cases hs
    | inl k =>
      obtain ⟨z, hd, vs, rel, dd⟩ := da_of I.hok e
      have hvz : vs.length ≤ sizeLine := by rw [← rel.length]; exact z
      have hl' : (putK kvs k v).length ≤ sizeLine := by have := length_putK kvs k v; omega
      refine setdefault_body hT hd (kt_dictSetDefault_pairs (knd := iaKind X.prog X.w) (hsz := hvz) (ia_is hk ry) dd (fun w' hw => ?_) fun hno h' dd' hs' => ?_)
      · have q := rel.val k
        rw [hf k, hw] at q
        cases ef : f (.inl k) with
        | none => rw [ef] at q; exact (show False from q).elim
        | some x => rw [ef] at q; exact ⟨w', rfl, h1 x w' _ ef q (I.tok _)⟩
      · have q := rel.val k
        rw [hf k, hno] at q
        have ef : f (.inl k) = none := by
          cases ef : f (.inl k) with
          | none => rfl
          | some x => rw [ef] at q; exact (show False from q).elim
        exact ⟨r, rfl, h2 ef _ _ off_upd' (dx_putA e hf hl) (da_new I e hs' hl' hd (rel.put k rv) dd')⟩
  · obtain ⟨c, ks, rfl, rfl⟩ := key_ref hk hs
    cases ry
    obtain ⟨z, hd, xs, rel, dd⟩ := db_of I.hok e hz
    have hvz : xs.length ≤ sizeLine := by rw [← rel.length]; exact z
    have hl' : (putZ zs ks c v).length ≤ sizeLine := by have := length_putZ zs ks c v; omega
    refine setdefault_body hT hd (setDefault_heap (X := X) (knd := tkKind X.prog X.w) hu (tk_is I.hok hk) dd (fun p hp => ?_) (fun hno h' dd' hs' => ?_) hvz)
    · have q := rel.val ks
      rw [hf ks, hp] at q
      cases ef : f (.inr ks) with
      | none => rw [ef] at q; exact (show False from q).elim
      | some x => rw [ef] at q; exact ⟨p.2, rfl, h1 x p.2 _ ef q (I.tok _)⟩
    · have q := rel.val ks
      rw [hf ks, hno] at q
      have ef : f (.inr ks) = none := by
        cases ef : f (.inr ks) with
        | none => rfl
        | some x => rw [ef] at q; exact (show False from q).elim
      exact ⟨r, rfl, h2 ef _ _ off_upd' (dx_putB (c := c) e hz hk hf hl) (db_new I e hs' hl' hd (rel.put ks rv) dd')⟩
end
/-! ### the rules -/
section
variable {X : Cx}
theorem op_xnotin (hu : X.A.units + 64 < cLine) : OpR X (compareOp .NotIn) (rXIn true) := by
  intro pins s σ H x y v u Q I rx ry h
  obtain ⟨a, srt, f, n, k, rfl, d, hk, hs, q⟩ := h
  cases ry
  exact x_notIn (by omega) I d hk hs rx fun s' I' => ⟨.bl _, H, I', rfl, q⟩
theorem pe_xget {o i : Expr} {pos : Pos} {td ty : TE} (hu : X.A.units + 64 < cLine) (ho : PE X o td) (hi : PE X i ty) (hs : NoSl i) : PE X (.Subscript o i pos) (tOp rXGet td ty) := by
  intro pins s σ H Q I h
  refine subD_of PySem.F.slot_dict_getitem.lookup hs (thn (ho pins s σ H _ I h) fun u s1 ⟨x, H1, I1, rx, q1⟩ => thn (hi pins s1 σ H1 _ I1 q1) fun iv s2 ⟨y, H2, I2, ry, a, srt, f, n, k, v, ex, d, hk, hs', ev, q2⟩ => ?_)
  subst ex
  obtain rfl : u = Value.ref a := rx
  exact ⟨(x_type I2 d).1, x_get (by omega) I2 d hk hs' ry ev fun w' s3 I3 rw' => ⟨v, H2, I3, rw', q2⟩⟩
theorem set_X (hu : X.A.units + 64 < cLine) : PSet X rXSet := by
  intro pins s σ H o i v ov iv u Q I ro ri rv h
  obtain ⟨a, srt, f, n, k, rfl, d, hk, hs, hn, q⟩ := h
  cases ro
  exact x_set (by omega) I d hk hs hn ri rv fun H' s' o' d' I' => ⟨H', I', q H' o' d'⟩
theorem pm_dnewX {pos : Pos} : PE X (.Dict [] [] pos) mDnewX := fun pins s σ H Q I h => by
  obtain ⟨srt, h⟩ := h
  have hd : (s.heap.objs.size == sysModules) = false := beq_eq_false_iff_ne.mpr (Ne.symm (Nat.ne_of_lt I.big))
  have hp := I.hok.fresh (Nat.le_refl s.heap.objs.size)
  cases srt with
  | false =>
    refine wpAny_Dict_empty ⟨.ref s.heap.objs.size, _, I.laid (a := s.heap.objs.size) (o := dA s.heap.objs.size []) (t' := s.toks) (fun _ _ q => Heap.get?_push_of_some _ q) (Nat.le_refl _) (DA.ok ⟨Nat.zero_le _, hd, X.prog, X.w, [], .nil, Heap.DictOf.new s.heap⟩), rfl, ?_⟩
    exact h _ _ hp (same_new hp _) (.inl ⟨rfl, [], upd_same, fun _ => rfl, Nat.le_refl _⟩)
  | true =>
    refine wpAny_Dict_empty ⟨.ref s.heap.objs.size, _, I.laid (a := s.heap.objs.size) (o := dB s.heap.objs.size []) (t' := s.toks) (fun _ _ q => Heap.get?_push_of_some _ q) (Nat.le_refl _) (DB.ok ⟨Nat.zero_le _, hd, [], .nil, _, #[], 0, Heap.get?_push_size _ rfl, ⟨rfl, rfl, rfl⟩, rfl, rfl, List.nodup_nil⟩), rfl, ?_⟩
    exact h _ _ hp (same_new hp _) (.inr ⟨rfl, [], upd_same, fun z hz => (nomatch hz), fun _ => rfl, Nat.le_refl _⟩)
noncomputable def MtX (X : Cx) (id : String) (r : V → List V → Hp → VK → Prop) : Prop :=
  ∀ (pins : List (Addr × Obj)) (s : Shared) (σ : St) (H : Hp) (x : V) (ys : List V) (u : Value) (us : List Value) (Q : VK), Inv X pins σ H s → RelV x u → Vals ys us → r x ys H Q →
    wpAny (model X.prog X.w) X.A (call (.builtin id) (u :: us)) (EP X pins σ Q) X.xe s
theorem mt_xsetdefault (hu : X.A.units + 64 < cLine) : MtX X "dict.setdefault" rXSetd := by
  intro pins s σ H x ys u us Q I rx rys h
  obtain ⟨a, srt, f, n, k, y, v, rfl, rfl, d, hk, hs, hn, q1, q2⟩ := h
  cases rx
  cases rys with
  | cons r1 t1 => cases t1 with
    | cons r2 t2 =>
      cases t2
      exact x_setd (by omega) I d hk hs hn r1 r2 (fun x w' s' ef rw' I' => ⟨x, H, I', rw', q1 x ef⟩) fun ef H' s' o' d' I' => ⟨v, H', I', r2, q2 ef H' o' d'⟩
theorem pe_xm {o e : Expr} {es : List Expr} {name : Str} {id : String} {r : V → List V → Hp → VK → Prop} {to : TE} {t : TA} {apos cpos : Pos} (slot : Slot "dict" name id) (hty : typeOf (.builtin id) = pure (.type "method_descriptor")) (hm : MtX X id r) (ho : PE X o to) (ha : PA X (e :: es) t)
    (hbase : attributeBase o name X.env (eval o X.env) = eval o X.env := by rfl)
    (hfew : ((backTo cpos (starEach (e :: es) X.env)).all (fun x => !x.1) && (backToKw cpos (keywordEach [] X.env)).all (fun x => x.1.isSome)
      && decide ((e :: es).length + ([] : List Keyword).length + (if ([] : List Keyword).isEmpty then 0 else 1) < 30)) = true := by rfl)
    (hline : (apos.endLine == cpos.line) = true := by rfl) (hs : starEach (e :: es) X.env = (false, eval e X.env) :: starEach es X.env := by rfl) (hplain : (backTo cpos (starEach es X.env)).any (·.1) = false := by rfl) :
    PE X (.Call (.Attribute o name apos) (e :: es) [] cpos) (tXM r to t) := by
  intro pins s σ H Q I h
  refine wpAny_Call_method_late hbase hfew hline rfl (thn (ho pins s σ H _ I h) fun v s1 ⟨x, H1, I1, r1, ⟨a, srt, f, n, ex, d⟩, q1⟩ => ?_)
  subst ex
  obtain rfl : v = Value.ref a := r1
  obtain ⟨h1, h2⟩ := x_type I1 d
  refine ⟨"dict", id, PySem.F.plainAttrs_dict, slot, hty, h1, h2, ?_⟩
  have hA := ha cpos pins s1 σ H1 _ I1 q1
  rw [hs] at hA ⊢
  refine Calls.callWith_builtin (by show (false || (backTo cpos (starEach es X.env)).any (·.1)) = false; rw [hplain] <;> rfl) (Calls.evalArgs_plain ?_)
  exact thn hA fun us s2 ⟨vs, H2, I2, r2, q2⟩ => hm pins s2 σ H2 (.ref a) vs (.ref a) us Q I2 rfl r2 q2
end
end L2

end

section
-- KcIsN
set_option Elab.async false
set_option linter.all false
set_option maxRecDepth 100000
set_option maxHeartbeats 4000000
namespace L2
open PySem PySem.Spec PyProof.Rows
section
variable {X : Cx}
theorem op_isNone : OpR X (compareOp .Is) rIsNone := by
  intro pins s σ H x y v u Q I rx ry h
  obtain ⟨rfl, q⟩ := h
  cases ry
  refine wpAny_is_plain (by cases x <;> (first | (obtain ⟨t, rfl⟩ := rx; rfl) | (cases rx; rfl))) ⟨.bl (isN x), H, I, ?_, q⟩
  cases x <;> (first | (obtain ⟨t, rfl⟩ := rx; rfl) | (cases rx; rfl))
theorem op_isnNone : OpR X (compareOp .IsNot) rIsnNone := by
  intro pins s σ H x y v u Q I rx ry h
  obtain ⟨rfl, q⟩ := h
  cases ry
  refine wpAny_isNot_plain (by cases x <;> (first | (obtain ⟨t, rfl⟩ := rx; rfl) | (cases rx; rfl))) ⟨.bl (!isN x), H, I, ?_, q⟩
  cases x <;> (first | (obtain ⟨t, rfl⟩ := rx; rfl) | (cases rx; rfl))
end
end L2

end

section
-- KcRuleA
set_option Elab.async false
set_option linter.all false
set_option maxRecDepth 100000
set_option maxHeartbeats 4000000
namespace L2
open PySem PySem.Spec PyProof.Rows
/-! ### (x,) * n -/
/-! ### min(xs, default=None) -/
section
variable {prog : Program} {w : World} {A : Around} {R : Result → Shared → Prop} {I : Addr} {fp wr : List Addr} {n : Nat} {P : Nat → Value → Prop} {St : Nat → Heap → Prop} {kw : List (Str × Value)}
end
end L2

end

section
-- KcRuleB
set_option Elab.async false
set_option linter.all false
set_option maxRecDepth 100000
set_option maxHeartbeats 4000000
namespace L2
open PySem PySem.Spec PyProof.Rows
section
variable {prog : Program} {w : World} {A : Around} {E : Value → Shared → Prop} {s : Shared}
end
end L2

end

section
-- KcSetN
set_option Elab.async false
set_option linter.all false
set_option maxRecDepth 100000
set_option maxHeartbeats 4000000
namespace L2
open PySem PySem.Spec PyProof.Rows
section
variable {X : Cx}
end
end L2

end

section
-- KcXg
set_option Elab.async false
set_option linter.all false
set_option maxRecDepth 100000
set_option maxHeartbeats 4000000
namespace L2
open PySem PySem.Spec PyProof.Rows
section
variable {X : Cx}
theorem mt_xget : MtX X "dict.get" rXGet1 := by
  intro pins s σ H x ys u us Q I rx rys h
  obtain ⟨a, f, n, k, y, rfl, rfl, d, hk, hs, q⟩ := h
  cases rx
  cases rys with
  | cons r1 t1 =>
    cases t1
    rcases d with ⟨_, kvs, e, hf, _⟩ | ⟨z, _⟩
    · cases k with
      | inr _ => cases hs
      | inl k =>
        obtain ⟨z, hd, vs, rel, dd⟩ := da_of I.hok e
        refine call_meetsIn PySem.F.slot_dict_get dd.typeIs PySem.F.entry_dict_get (PySem.F.args_dict_get_2 _ _) (meets_dict_get (iaKind X.prog X.w) a (ia_is hk r1) hd) ⟨_, dd.mapOf, ⟨_, H, I.tok _, ?_, q⟩⟩
        rw [← hf k]
        exact (rel.val k).getD rfl
    · cases z
end
end L2

end

section
-- KcSumT
set_option Elab.async false
set_option linter.all false
set_option maxRecDepth 100000
set_option maxHeartbeats 4000000
namespace L2
open PySem PySem.Spec PyProof.Rows
section
variable {X : Cx}
theorem call_sumT (hc : X.calm = true) : CallR X (.builtin "sum") (fun xs H Q => ∃ (p : Addr) (ns : List Int), xs = [.ref p] ∧ SqT X.K H p (ns.map V.int) ∧ Q (.int ns.sum) H) := by
  intro pins s σ H xs us Q I r h
  obtain ⟨p, ns, rfl, hq, q⟩ := h
  obtain ⟨u, rfl, rx⟩ := r.one
  cases rx
  obtain ⟨its, rv, pl, hz⟩ := I.tuple hq
  have hlen : ns.length = its.length := by have := rv.length; simpa using this
  have ia := intsAre_of rv
  refine call_sum_walkG (wpAny_pyIter_tuple pl ⟨s.heap.objs.size, _, _, _, _, _, fun i => ns.getD i 0, rfl, Walks.tuple (show X.A.in1.handled = none from I.ok.hd hc) _ p (by obtain ⟨o, ho, _⟩ := pl; exact Nat.ne_of_lt (Heap.lt_size ho)) its.toArray,
    ⟨⟨_, Heap.get?_push_size _ rfl, rfl, rfl⟩, (let ⟨o, ho, hcc, hdd⟩ := pl; ⟨o, Heap.get?_push_of_some _ ho, hcc, hdd⟩)⟩, fun b hb => ?_, ?_, fun h' tk t' hk => ?_⟩)
  · have hp : p < s.heap.objs.size := by
      obtain ⟨o, ho, _⟩ := pl
      exact Heap.lt_size ho
    show b < (s.heap.push _).objs.size
    rw [Heap.size_push]
    rcases List.mem_cons.mp hb with rfl | hb
    · exact Nat.lt_succ_self _
    · obtain rfl := List.mem_singleton.mp hb
      exact Nat.lt_succ_of_lt hp
  · intro i v hP
    have hP' : its[i]? = some v := by simpa using hP
    have hlt : i < ns.length := by
      have := (List.getElem?_eq_some_iff.mp hP').1
      omega
    obtain ⟨u', hu', ru'⟩ := rv.get (x := .int ns[i]) (i := i) (by rw [List.getElem?_map, List.getElem?_eq_getElem hlt] <;> rfl)
    rw [hP'] at hu'
    cases hu'
    obtain ⟨t, e⟩ := (show ∃ t, v = Value.int ns[i] t from ru')
    refine ⟨t, ?_⟩
    show v = Value.int (ns.getD i 0) t
    rw [e, List.getD_eq_getElem?_getD, List.getElem?_eq_getElem hlt]
    rfl
  · refine ⟨.int ns.sum, H, I.walked hk, ⟨t', ?_⟩, q⟩
    rw [show its.toArray.size = ns.length by simp; omega, preSum_list ns _ (Nat.le_refl _), List.take_length]

end
end L2

end

section
-- KcListN
set_option Elab.async false
set_option linter.all false
set_option maxRecDepth 100000
set_option maxHeartbeats 4000000
namespace L2
open PySem PySem.Spec PyProof.Rows
section
variable {X : Cx}
theorem call_rngV : CallR X (.type "range") cRngV := by
  intro pins s σ H xs us Q I r h
  obtain ⟨n, rfl, hn, q⟩ := h
  obtain ⟨u, rfl, rx⟩ := vals1 r
  obtain ⟨t, rfl⟩ := rx
  exact call_range_1 ⟨.ref s.heap.objs.size, _, I.laid (a := s.heap.objs.size) (o := .rng 0 (n : Int)) (t' := s.toks + 1 + 1) (fun _ _ q => Heap.get?_push_of_some _ q) (Nat.le_refl _) ⟨_, _, _, Heap.get?_push_size _ rfl⟩, rfl, q.upd _ (I.hok.fresh (Nat.le_refl _))⟩
theorem rel_items {n : Nat} {acc : Array Value} (h : ItemsOf (fun i v => ∃ t, v = .int ((0 : Int) + i * 1) t) acc n) : Vals ((List.range n).map fun (i : Nat) => V.int ((i : Nat) : Int)) acc.toList := by
  obtain ⟨hl, hi⟩ := h
  have go : ∀ (xs : List V) (us : List Value), xs.length = us.length → (∀ (j : Nat) (x : V) (u : Value), xs[j]? = some x → us[j]? = some u → RelV x u) → Vals xs us := by
    intro xs
    induction xs with
    | nil => intro us hl _; cases us with
      | nil => exact .nil
      | cons _ _ => simp at hl
    | cons x r ih => intro us hl h; cases us with
      | nil => simp at hl
      | cons u t => exact .cons (h 0 x u rfl rfl) (ih t (by simpa using hl) fun j x u hx hu => h (j + 1) x u hx hu)
  refine go _ _ (by simp [hl]) fun j x u hx hu => ?_
  rw [List.getElem?_map] at hx
  cases e : (List.range n)[j]? with
  | none => rw [e] at hx; cases hx
  | some z =>
    rw [e] at hx
    cases hx
    obtain ⟨h1, h2⟩ := List.getElem?_eq_some_iff.mp e
    rw [List.getElem_range] at h2
    subst h2
    obtain ⟨t, rfl⟩ := hi j u (by rw [← Array.getElem?_toList]; exact hu)
    exact ⟨t, by simp⟩
theorem call_lrng (hc : X.calm = true) : CallR X (.type "list") cLRng := by
  intro pins s σ H xs us Q I r h
  obtain ⟨p, n, rfl, e, hn, q⟩ := h
  obtain ⟨u, rfl, rx⟩ := vals1 r
  cases rx
  obtain ⟨t, u, v, hr⟩ := (show ObjOk X.prog X.w H s.heap p (.rng 0 (n : Int)) from I.hok p _ e)
  refine call_list_range (n := n) (show X.A.handled = none from I.ok.hd hc) hr (small_one (by omega) (by omega) (by omega) (by omega)) ?_ (by omega) fun h' tk acc' c' kp e' it => ?_
  · rw [rangeSize_one]; split <;> omega
  · exact ⟨.ref s.heap.objs.size, _, I.laid (t' := tk) kp (Nat.le_refl _) (show ObjOk X.prog X.w _ h' _ (.lst _) from ⟨by rw [List.length_map, List.length_range, sizeLine_eq]; omega, acc'.toList, c', rel_items it, by simpa using e'⟩), rfl, q.upd _ (I.hok.fresh (Nat.le_refl _))⟩
end
end L2

end

section
-- KcEq
set_option Elab.async false
set_option linter.all false
set_option maxRecDepth 100000
set_option maxHeartbeats 4000000
namespace L2
open PySem PySem.Spec PyProof.Rows
/-! ### data behind a value: lists and tuples to any depth -/
mutual
inductive Dat (K : PySem.W.Frag) (H : Hp) : V → PyData → Prop where
  | non : Dat K H .non .none
  | bl (b : Bool) : Dat K H (.bl b) (.bool b)
  | int (i : Int) : Dat K H (.int i) (.int i)
  | str (x : Str) : Dat K H (.str x) (.str x)
  | lst {a : Addr} {xs : List V} {ds : List PyData} (e : SqL K H a xs) (h : Dats K H xs ds) : Dat K H (.ref a) (.list ds)
  | tup {a : Addr} {xs : List V} {ds : List PyData} (e : SqT K H a xs) (h : Dats K H xs ds) : Dat K H (.ref a) (.tuple ds)
inductive Dats (K : PySem.W.Frag) (H : Hp) : List V → List PyData → Prop where
  | nil : Dats K H [] []
  | cons {x : V} {xs : List V} {d : PyData} {ds : List PyData} (h : Dat K H x d) (t : Dats K H xs ds) : Dats K H (x :: xs) (d :: ds)
end
section
variable {X : Cx} {pins : List (Addr × Obj)} {σ : St} {H : Hp} {s : Shared}
mutual
theorem Dat.reads (I : Inv X pins σ H s) : ∀ {x : V} {d : PyData} {u : Value}, Dat X.K H x d → RelV x u → ∃ as, Reads s.heap u d as
  | _, _, _, .non, r => by cases r; exact ⟨_, .none⟩
  | _, _, _, .bl b, r => by cases r; exact ⟨_, .bool b⟩
  | _, _, _, .int i, r => by obtain ⟨t, rfl⟩ := r; exact ⟨_, .int i t⟩
  | _, _, _, .str x, r => by obtain ⟨t, rfl⟩ := r; exact ⟨_, .str x t⟩
  | _, _, _, .lst e h, r => by
    cases r
    obtain ⟨its, rv, ⟨o, n, h1, h2, h3, h4⟩, _⟩ := I.list e
    obtain ⟨as, ra⟩ := Dats.reads I h rv
    exact ⟨_, .list h1 h2 h4 (by simpa using ra)⟩
  | _, _, _, .tup e h, r => by
    cases r
    obtain ⟨its, rv, ⟨o, h1, h2, n, h3⟩, _⟩ := I.tuple e
    obtain ⟨as, ra⟩ := Dats.reads I h rv
    exact ⟨_, .tuple h1 h2 h3 (by simpa using ra)⟩
theorem Dats.reads (I : Inv X pins σ H s) : ∀ {xs : List V} {ds : List PyData} {us : List Value}, Dats X.K H xs ds → Vals xs us → ∃ as, ReadsAll s.heap us ds as
  | _, _, _, .nil, .nil => ⟨_, .nil⟩
  | _, _, _, .cons h t, .cons r q => by
    obtain ⟨as, ra⟩ := Dat.reads I h r
    obtain ⟨bs, rb⟩ := Dats.reads I t q
    exact ⟨_, .cons ra rb⟩
end
end
noncomputable def rEqD (K : PySem.W.Frag) (neg : Bool) : R2 := fun x y H Q => ∃ d e, Dat K H x d ∧ Dat K H y e ∧ SeqAt.shaped d = true ∧ SeqAt.shaped e = true ∧ Q (.bl (if neg then !PyData.eqv d e else PyData.eqv d e)) H
section
variable {X : Cx}
theorem op_neD (hu : X.A.units + 64 < cLine) : OpR X (compareOp .NotEq) (rEqD X.K true) := by
  intro pins s σ H x y v u Q I rx ry h
  obtain ⟨d, e, hd, he, sd, se, q⟩ := h
  obtain ⟨as, ra⟩ := hd.reads I rx
  obtain ⟨bs, rb⟩ := he.reads I ry
  exact ne_dataH ra rb sd se hu ⟨.bl (!PyData.eqv d e), H, I, rfl, q⟩
end
end L2

end

section
-- KcSameN
set_option Elab.async false
set_option linter.all false
set_option maxRecDepth 100000
set_option maxHeartbeats 4000000
namespace L2
open PySem PySem.Spec PyProof.Rows
mutual
theorem datD {K : PySem.W.Frag} {H : Hp} : ∀ {n : Nat} {x y : V}, SameD K H n x y → ∃ d, Dat K H x d ∧ Dat K H y d ∧ d.canLay0 = true ∧ d.depth ≤ n
  | n, x, _, .flat h => by
    cases x with
    | non => exact ⟨_, .non, .non, rfl, Nat.zero_le _⟩
    | bl b => exact ⟨_, .bl b, .bl b, rfl, Nat.zero_le _⟩
    | int i => exact ⟨_, .int i, .int i, rfl, Nat.zero_le _⟩
    | _ => cases h
  | _, _, _, .lst (xs := xs) (ys := ys) e1 e2 hl h => by
    obtain ⟨ds, h1, h2, h3, h4⟩ := datsD xs ys hl h
    exact ⟨_, .lst e1 h1, .lst e2 h2, h3, Nat.succ_le_succ h4⟩
  | _, _, _, .tup (xs := xs) (ys := ys) e1 e2 hl h => by
    obtain ⟨ds, h1, h2, h3, h4⟩ := datsD xs ys hl h
    exact ⟨_, .tup e1 h1, .tup e2 h2, h3, Nat.succ_le_succ h4⟩
theorem datsD {K : PySem.W.Frag} {H : Hp} {n : Nat} : ∀ (xs ys : List V), xs.length = ys.length → (∀ (i : Nat) (x y : V), xs[i]? = some x → ys[i]? = some y → SameD K H n x y) → ∃ ds, Dats K H xs ds ∧ Dats K H ys ds ∧ PyData.canLayAll0 ds = true ∧ PyData.depthAll ds ≤ n
  | [], [], _, _ => ⟨[], .nil, .nil, rfl, Nat.zero_le _⟩
  | x :: xs, y :: ys, hl, h => by
    obtain ⟨d, a1, a2, a3, a4⟩ := datD (h 0 x y rfl rfl)
    obtain ⟨ds, b1, b2, b3, b4⟩ := datsD xs ys (by simpa using hl) (fun i x y hx hy => h (i + 1) x y hx hy)
    refine ⟨d :: ds, .cons a1 b1, .cons a2 b2, ?_, ?_⟩
    · show (d.canLay0 && PyData.canLayAll0 ds) = true
      rw [a3, b3]; rfl
    · show max d.depth (PyData.depthAll ds) ≤ n
      omega
  | [], _ :: _, hl, _ => by simp at hl
  | _ :: _, [], hl, _ => by simp at hl
end
section
variable {X : Cx}
theorem op_sameN (hu : X.A.units + 64 < cLine) : OpR X (compareOp .NotEq) (rSameD X.K true) := by
  intro pins s σ H x y v u Q I rx ry h
  obtain ⟨n, hn, hd, q⟩ := h
  obtain ⟨d, h1, h2, h3, h4⟩ := datD hd
  obtain ⟨as, ra⟩ := h1.reads I rx
  obtain ⟨bs, rb⟩ := h2.reads I ry
  have sh : SeqAt.shaped d = true := by unfold SeqAt.shaped; rw [h3, decide_eq_true (by omega)]; rfl
  refine ne_dataH ra rb sh sh hu ⟨.bl false, H, I, ?_, q⟩
  rw [SeqAt.eqv_refl d h3]; rfl
end
end L2

end

section
-- KcNest
set_option Elab.async false
set_option linter.all false
namespace L2
open PySem PySem.Spec PyProof.Rows
/-! ### a comprehension within a comprehension: what is free in the inner one -/
theorem relabel_open {scope : Scope} {env : Env} {x : Str} (h : scope.names.lookup x = some .cell ∨ scope.names.lookup x = some .free) : (relabel scope env).names.lookup x = some .cell ∨ (relabel scope env).names.lookup x = some .free := by
  have go : ∀ ns : List (Str × NameKind), (ns.lookup x = some .cell ∨ ns.lookup x = some .free) →
      (ns.map fun (n, k) => if (k == NameKind.free && env.scope.kind == .function && env.kindOf n == some .cell) then (n, NameKind.cell) else (n, k)).lookup x = some .cell ∨
      (ns.map fun (n, k) => if (k == NameKind.free && env.scope.kind == .function && env.kindOf n == some .cell) then (n, NameKind.cell) else (n, k)).lookup x = some .free := by
    intro ns
    induction ns with
    | nil => intro q; rcases q with q | q <;> simp at q
    | cons y r ih =>
      obtain ⟨n, k'⟩ := y
      intro q
      rw [List.map_cons]
      rw [List.lookup_cons] at q
      by_cases hc : (k' == NameKind.free && env.scope.kind == .function && env.kindOf n == some .cell) = true
      · simp only [hc, if_true]
        rw [List.lookup_cons]
        cases e : x == n with
        | true => exact .inl rfl
        | false => rw [e] at q; exact ih q
      · simp only [hc]
        rw [if_neg (by simp), List.lookup_cons]
        cases e : x == n with
        | true => rw [e] at q; exact q
        | false => rw [e] at q; exact ih q
  exact go scope.names h
theorem comp_free {inner outer : Scope} {cl : List (Str × Addr)} {C : Addr} {env : Env} (h : ∀ y ∈ inner.names, y.2 = .free → outer.names.lookup y.1 = some .cell ∨ outer.names.lookup y.1 = some .free) :
    ∀ y ∈ inner.names, y.2 = .free → (compEnvC outer cl C env).scope.names.lookup y.1 = some .cell ∨ (compEnvC outer cl C env).scope.names.lookup y.1 = some .free := fun y hy hk => relabel_open (h y hy hk)
end L2

end

section
-- KcListZ
set_option Elab.async false
set_option linter.all false
set_option maxRecDepth 100000
set_option maxHeartbeats 4000000
namespace L2
open PySem PySem.Spec PyProof.Rows
noncomputable abbrev IsZipF (h : Heap) (z TI TO : Addr) (f0 : Value) (f : Bool) : Prop :=
  h.get? z = some { cls := .type "zip", dict := none, data := .fields #[f0, .bool f, .bool false, .ref TI, .ref TO], slots := #[] }
section
variable {prog : Program} {w : World} {A : Around} {E : Value → Shared → Prop} {s : Shared}
theorem owned_held {z TI TO a : Addr} {f : Bool} {oa : Obj} {Q : Bool → Shared → Prop} (hz : IsZipF s.heap z TI TO (rawInt a) f) (ha : s.heap.get? a = some oa) (h : ∀ g1, IsZipF g1 z TI TO (rawInt a) true → Heap.SameBut z s.heap g1 → Q false { s with heap := g1 }) :
    wpAny (model prog w) A (Builtin.SmallTypes.ownedTupleIsFree (.ref z)) Q E s := by
  obtain ⟨hp, g, d, tk₀, os⟩ := s
  unfold Builtin.SmallTypes.ownedTupleIsFree
  refine wpAny_bind (wpAny_field hz rfl (x := rawInt a) rfl ?_)
  show wpAny _ _ (loadIfAlive ((a : Int).toNat) >>= _) _ _ _
  rw [Int.toNat_natCast]
  refine wpAny_bind (PySem.W.kdx_alive ha ?_)
  simp only [Option.isNone_some, Bool.false_eq_true, if_false]
  refine wpAny_bind (wpAny_field hz rfl (x := .bool f) rfl ?_)
  cases f with
  | true =>
    rw [if_neg (show ¬ ((Value.bool true != Value.bool true) = true) from Bool.false_ne_true)]
    exact wpAny_pure (h hp hz (Heap.SameBut.refl _ _))
  | false =>
    rw [if_pos (show (Value.bool false != Value.bool true) = true from rfl)]
    exact wpAny_bind (wpAny_setField_rec hz (by simp) fun h₃ he₃ hs₃ => wpAny_pure (h h₃ he₃ hs₃))
theorem zip_itemO {z TI TO j1 j2 a : Addr} {f : Bool} {oa : Obj} {fp1 fp2 : List Addr} {n1 n2 k : Nat} {P1 P2 : Nat → Value → Prop} {S1 S2 : Nat → Heap → Prop} {Q : Value → Shared → Prop} (Z : ZApart z TI TO j1 j2 fp1 fp2)
    (D1 : Draws prog w A j1 fp1 n1 P1 S1) (D2 : Draws prog w A j2 fp2 n2 P2 S2) (hz : IsZipF s.heap z TI TO (rawInt a) f) (ha : s.heap.get? a = some oa) (hTI : IsPair s.heap TI (.ref j1) (.ref j2)) (h1 : S1 k s.heap) (h2 : S2 k s.heap) (l1 : k < n1) (l2 : k < n2)
    (hQ : ∀ x y h' tk, P1 k x → P2 k y → IsZipF h' z TI TO (rawInt a) true → S1 (k + 1) h' → S2 (k + 1) h' → IsPair h' s.heap.objs.size x y →
      (∀ c o, c ∉ [z, j1, j2] → s.heap.get? c = some o → h'.get? c = some o) → Q (.ref s.heap.objs.size) { s with heap := h', toks := tk }) :
    wpAny (model prog w) A (Builtin.«zip.__next__» ⟨[.ref z], []⟩) (fun fin s' => ∃ v, fin = .done (.ret v) ∧ Q v s') E s := by
  obtain ⟨hp, g, d, tk₀, os⟩ := s
  show wpAny _ _ (field (.ref z) 2 >>= _) _ _ _
  refine wpAny_bind (wpAny_field hz rfl (x := .bool false) rfl ?_)
  show wpAny _ _ (field (.ref z) 3 >>= _) _ _ _
  refine wpAny_bind (wpAny_field hz rfl (x := .ref TI) rfl ?_)
  refine wpAny_bind (wpAny_seqItems hTI rfl ?_)
  show wpAny _ _ (Builtin.SmallTypes.ownedTupleIsFree (.ref z) >>= _) _ _ _
  refine wpAny_bind (owned_held hz ha fun g1 hz1 hs1 => ?_)
  replace hs1 : Heap.SameBut z hp g1 := hs1
  simp only [Bool.false_eq_true, if_false]
  refine wpAny_bind ?_
  rw [← Array.forIn_toList]
  simp only [List.forIn_cons, List.forIn_nil]
  refine wpAny_bind ?_
  refine wpAny_bind (wpAny_holding ?_)
  show wpAny _ _ (Builtin.SmallTypes.nextOf (.ref j1) >>= _) _ _ _
  refine wpAny_bind (D1.item k ⟨g1, g, d, tk₀, os⟩ _ _ l1 (D1.but h1 hs1 Z.b1) fun x g2 tk1 px st1 hs2 => wpAny_pure ?_)
  replace hs2 : Heap.SameBut j1 g1 g2 := hs2
  refine wpAny_pure ?_
  refine wpAny_bind ?_
  refine wpAny_bind (wpAny_holding ?_)
  show wpAny _ _ (Builtin.SmallTypes.nextOf (.ref j2) >>= _) _ _ _
  refine wpAny_bind (D2.item k ⟨g2, g, d, tk1, os⟩ _ _ l2 (D2.but (D2.but h2 hs1 Z.b4) hs2 Z.b6) fun y g3 tk2 py st2 hs3 => wpAny_pure ?_)
  replace hs3 : Heap.SameBut j2 g2 g3 := hs3
  refine wpAny_pure ?_
  refine wpAny_pure ?_
  show wpAny _ _ (newTuple [x, y] >>= fun r => ret r) _ _ _
  have hsz : g3.objs.size = hp.objs.size := by rw [hs3.1, hs2.1, hs1.1]
  refine wpAny_bind (wpAny_newTuple (wpAny_pure ⟨_, rfl, ?_⟩))
  have up : ∀ c o, g3.get? c = some o → (g3.push { cls := .type "tuple", data := .seq #[x, y] }).get? c = some o := fun c o e => Heap.get?_push_of_some _ e
  have hz3 : IsZipF g3 z TI TO (rawInt a) true := hs3.extBut _ _ Z.a4.symm (hs2.extBut _ _ Z.a3.symm hz1)
  have hT : IsPair (g3.push { cls := .type "tuple", data := .seq #[x, y] }) hp.objs.size x y := by rw [← hsz]; exact Heap.get?_push_size _ rfl
  show Q (.ref g3.objs.size) _
  rw [hsz]
  refine hQ x y _ tk2 px py (up _ _ hz3) (D1.frame _ _ _ (D1.but st1 hs3 Z.b3) fun c _ o e => up c o e) (D2.frame _ _ _ st2 fun c _ o e => up c o e) hT fun c o hc e => ?_
  simp only [List.mem_cons, List.not_mem_nil, or_false, not_or] at hc
  exact up c o (hs3.extBut _ _ hc.2.2 (hs2.extBut _ _ hc.2.1 (hs1.extBut _ _ hc.1 e)))
theorem zip_endO {z TI TO j1 j2 a : Addr} {f : Bool} {oa : Obj} {fp1 fp2 : List Addr} {n1 n2 k : Nat} {P1 P2 : Nat → Value → Prop} {S1 S2 : Nat → Heap → Prop} {Q : Fin → Shared → Prop} (Z : ZApart z TI TO j1 j2 fp1 fp2)
    (D1 : Draws prog w A j1 fp1 n1 P1 S1) (D2 : Draws prog w A j2 fp2 n2 P2 S2) (hz : IsZipF s.heap z TI TO (rawInt a) f) (ha : s.heap.get? a = some oa) (hTI : IsPair s.heap TI (.ref j1) (.ref j2)) (h1 : S1 k s.heap) (h2 : S2 k s.heap) (l : k = min n1 n2)
    (hE : ∀ h' e tk, (∀ c o, c ∉ [z, TI, TO, j1, j2] → s.heap.get? c = some o → h'.get? c = some o) → (∃ o, h'.get? e = some o ∧ o.cls = .type "StopIteration") → E (.ref e) { s with heap := h', toks := tk }) :
    wpAny (model prog w) A (Builtin.«zip.__next__» ⟨[.ref z], []⟩) Q E s := by
  obtain ⟨hp, g, d, tk₀, os⟩ := s
  have kp : ∀ {h' : Heap}, (∀ c o, c ≠ z → c ≠ j1 → c ≠ j2 → hp.get? c = some o → h'.get? c = some o) → ∀ c o, c ∉ [z, TI, TO, j1, j2] → hp.get? c = some o → h'.get? c = some o := fun {h'} q c o hc e => by
    simp only [List.mem_cons, List.not_mem_nil, or_false, not_or] at hc
    exact q c o hc.1 hc.2.2.2.1 hc.2.2.2.2 e
  show wpAny _ _ (field (.ref z) 2 >>= _) _ _ _
  refine wpAny_bind (wpAny_field hz rfl (x := .bool false) rfl ?_)
  show wpAny _ _ (field (.ref z) 3 >>= _) _ _ _
  refine wpAny_bind (wpAny_field hz rfl (x := .ref TI) rfl ?_)
  refine wpAny_bind (wpAny_seqItems hTI rfl ?_)
  show wpAny _ _ (Builtin.SmallTypes.ownedTupleIsFree (.ref z) >>= _) _ _ _
  refine wpAny_bind (owned_held hz ha fun g1 hz1 hs1 => ?_)
  replace hs1 : Heap.SameBut z hp g1 := hs1
  simp only [Bool.false_eq_true, if_false]
  refine wpAny_bind ?_
  rw [← Array.forIn_toList]
  simp only [List.forIn_cons, List.forIn_nil]
  refine wpAny_bind ?_
  refine wpAny_bind (wpAny_holding ?_)
  show wpAny _ _ (Builtin.SmallTypes.nextOf (.ref j1) >>= _) _ _ _
  by_cases hk : k = n1
  · subst hk
    refine wpAny_bind (D1.done ⟨g1, g, d, tk₀, os⟩ _ _ (D1.but h1 hs1 Z.b1) fun g2 e hs2 he => ?_)
    replace hs2 : Heap.ExtBut j1 g1 g2 := hs2
    exact hE g2 e tk₀ (kp fun c o c1 c2 _ q => hs2 _ _ c2 (hs1.extBut _ _ c1 q)) he
  · have hlt : k < n1 := by omega
    have hk2 : k = n2 := by omega
    refine wpAny_bind (D1.item k ⟨g1, g, d, tk₀, os⟩ _ _ hlt (D1.but h1 hs1 Z.b1) fun x g2 tk1 px st1 hs2 => wpAny_pure ?_)
    replace hs2 : Heap.SameBut j1 g1 g2 := hs2
    refine wpAny_pure ?_
    refine wpAny_bind ?_
    refine wpAny_bind (wpAny_holding ?_)
    show wpAny _ _ (Builtin.SmallTypes.nextOf (.ref j2) >>= _) _ _ _
    subst hk2
    refine wpAny_bind (D2.done ⟨g2, g, d, tk1, os⟩ _ _ (D2.but (D2.but h2 hs1 Z.b4) hs2 Z.b6) fun g3 e hs3 he => ?_)
    replace hs3 : Heap.ExtBut j2 g2 g3 := hs3
    exact hE g3 e tk1 (kp fun c o c1 c2 c3 q => hs3 _ _ c3 (hs2.extBut _ _ c2 (hs1.extBut _ _ c1 q))) he
/-! ### the loop of list(zip(..)) -/
noncomputable def ZSt (h : Heap) (z TI TO S : Addr) (i : Nat) (far : Addr → Prop) : Prop := (i = 0 ∧ IsZip h z TI TO .none ∧ ∃ u v, IsPair h TO u v) ∨ ∃ (a : Addr) (f : Bool) (oa : Obj), IsZipF h z TI TO (rawInt a) f ∧ h.get? a = some oa ∧ far a ∧ a ≠ S
noncomputable def ZTs (P1 P2 : Nat → Value → Prop) (lo : Addr) (h : Heap) (ts : List Addr) : Prop := ∀ (j : Nat) (t : Addr), ts[j]? = some t → lo ≤ t ∧ ∃ x y, P1 j x ∧ P2 j y ∧ IsPair h t x y
end
section
variable {prog : Program} {w : World} {A : Around} {s : Shared} {R : Result → Shared → Prop}
theorem zip_loop {z TI TO j1 j2 S lo : Addr} {fp1 fp2 : List Addr} {n1 n2 : Nat} {P1 P2 : Nat → Value → Prop} {S1 S2 : Nat → Heap → Prop} (hh : A.handled = none) (Z : ZApart z TI TO j1 j2 fp1 fp2)
    (D1 : Draws prog w A.in1.in1 j1 fp1 n1 P1 S1) (D2 : Draws prog w A.in1.in1 j2 fp2 n2 P2 S2) (hn : min n1 n2 ≤ sizeLine) (hS : S ∉ [z, TI, TO, j1, j2]) (hS1 : S ∉ fp1) (hS2 : S ∉ fp2) (hlo : ∀ c ∈ [z, TI, TO, j1, j2, S], c < lo) (hlo1 : ∀ c ∈ fp1, c < lo) (hlo2 : ∀ c ∈ fp2, c < lo) (res : Value) {h₁ : Heap}
    (hR : ∀ h' tk acc c ts, (∀ b o, b ∉ [z, TI, TO, j1, j2] → b ≠ S → h₁.get? b = some o → h'.get? b = some o) → h'.get? S = some { cls := .type "list", dict := none, data := .seq acc c, slots := #[] } → ts.length = min n1 n2 → ZTs P1 P2 lo h' ts →
      acc.toList = ts.map Value.ref → R (.ok (.ret res)) { s with heap := h', toks := tk }) :
    ∀ (m i : Nat) (h : Heap) (tk c : Nat) (acc : Array Value) (ts : List Addr), min n1 n2 - i = m → i ≤ min n1 n2 → ZSt h z TI TO S i (fun a => lo ≤ a) → IsPair h TI (.ref j1) (.ref j2) → S1 i h → S2 i h → (∀ b o, b ∉ [z, TI, TO, j1, j2] → b ≠ S → h₁.get? b = some o → h.get? b = some o) →
      h.get? S = some { cls := .type "list", dict := none, data := .seq acc c, slots := #[] } → acc.toList = ts.map Value.ref → ts.length = i → ZTs P1 P2 lo h ts → lo ≤ h.objs.size →
      codeAny (model prog w) A (.builtin "list.extend.loop" ⟨[.ref S, .ref z, res], []⟩) R { s with heap := h, toks := tk } := by
  have notin : ∀ t, lo ≤ t → t ∉ [z, TI, TO, j1, j2] ∧ t ≠ S ∧ t ∉ fp1 ∧ t ∉ fp2 := fun t ht => ⟨fun hm => by
    have := hlo t (show t ∈ [z, TI, TO, j1, j2] ++ [S] from List.mem_append_left _ hm)
    exact absurd ht (Nat.not_le.mpr this), fun e => by
    have := hlo S (by simp)
    rw [e] at ht
    exact absurd ht (Nat.not_le.mpr this), fun hm => absurd ht (Nat.not_le.mpr (hlo1 t hm)), fun hm => absurd ht (Nat.not_le.mpr (hlo2 t hm))⟩
  intro m
  induction m with
  | zero =>
    intro i h tk c acc ts hk hi hst hTI st1 st2 hkeep hSS hacc hal hG hls
    have hin : i = min n1 n2 := by omega
    refine codeAny_builtin PySem.F.entry_extend_loop ?_
    rw [Around.under_plainId PySem.F.plain_extend_loop _]
    show wpAny _ A.in1 (pyNext (.ref z) >>= _) _ _ _
    have done : ∀ h' : Heap, ∀ tk', (∀ c o, c ∉ [z, TI, TO, j1, j2] → h.get? c = some o → h'.get? c = some o) → R (.ok (.ret res)) { s with heap := h', toks := tk' } := fun h' tk' kp => by
      refine hR h' tk' acc c ts (fun b o h1 h2 e => kp b o h1 (hkeep b o h1 h2 e)) (kp S _ hS hSS) (by omega) (fun j t hj => ?_) hacc
      obtain ⟨hlt, x, y, p1, p2, e⟩ := hG j t hj
      exact ⟨hlt, x, y, p1, p2, kp t _ (notin t hlt).1 e⟩
    have hT : Shared.TypeIs { s with heap := h, toks := tk } (.ref z) "zip" := by
      rcases hst with ⟨_, hz, _⟩ | ⟨a, f, oa, hz, _⟩
      · exact ⟨_, hz, rfl⟩
      · exact ⟨_, hz, rfl⟩
    unfold pyNext
    refine wpAny_bind (wpAny_bind (wpAny_attempt (wpAny_callSpecial?_slot (name := Str.ofString "__next__") hT F.slot_zip_next (wpAny_call_entry F.slot_zip_next hT F.entry_zip_next ?_ (F.args_zip_next_1 _)))))
    rcases hst with ⟨_, hz, u, v, hTO⟩ | ⟨a, f, oa, hz, ha, _, _⟩
    · refine zip_endD (s := { s with heap := h, toks := tk }) Z D1 D2 hz hTI hTO st1 st2 hin fun h' e tk' kp he => ?_
      obtain ⟨o, ho, hcl⟩ := he
      exact wpAny_bind (wpAny_isInstance (T := "StopIteration") (b := true) ⟨o, ho, hcl⟩ isSubtype_stop (wpAny_pure (wpAny_pure (done h' tk' kp))))
    · refine zip_endO (s := { s with heap := h, toks := tk }) Z D1 D2 hz ha hTI st1 st2 hin fun h' e tk' kp he => ?_
      obtain ⟨o, ho, hcl⟩ := he
      exact wpAny_bind (wpAny_isInstance (T := "StopIteration") (b := true) ⟨o, ho, hcl⟩ isSubtype_stop (wpAny_pure (wpAny_pure (done h' tk' kp))))
  | succ m ih =>
    intro i h tk c acc ts hk hi hst hTI st1 st2 hkeep hSS hacc hal hG hls
    have hlt : i < min n1 n2 := by omega
    have hsz : acc.size = i := by rw [← Array.length_toList, hacc, List.length_map, hal]
    refine codeAny_builtin PySem.F.entry_extend_loop ?_
    rw [Around.under_plainId PySem.F.plain_extend_loop _]
    show wpAny _ A.in1 (pyNext (.ref z) >>= _) _ _ _
    have hT : Shared.TypeIs { s with heap := h, toks := tk } (.ref z) "zip" := by
      rcases hst with ⟨_, hz, _⟩ | ⟨a, f, oa, hz, _⟩
      · exact ⟨_, hz, rfl⟩
      · exact ⟨_, hz, rfl⟩
    have item : ∀ (h' : Heap) (tk' : Nat) (x y : Value), P1 i x → P2 i y → ZSt h' z TI TO S (i + 1) (fun a => lo ≤ a) → S1 (i + 1) h' → S2 (i + 1) h' → IsPair h' h.objs.size x y → (∀ c o, c ∉ [z, TO, j1, j2] → h.get? c = some o → h'.get? c = some o) →
        wpAny (model prog w) A.in1 (Builtin.List.listUpdate (.ref S) (·.push (Value.ref h.objs.size)) >>= fun _ => again (.builtin "list.extend.loop" ⟨[.ref S, .ref z, res], []⟩)) (fun fin s' => match fin with | .done f => R (.ok f) s' | .again c' => c'.quiet = true ∧ codeAny (model prog w) A c' R s') (fun e s' => R (.error e) s') { s with heap := h', toks := tk' } := by
      intro h' tk' x y px py hst' st1' st2' ht kp
      have sub : ∀ c, c ∉ [z, TI, TO, j1, j2] → c ∉ [z, TO, j1, j2] := fun c hc hm => hc (by
        simp only [List.mem_cons, List.not_mem_nil, or_false] at hm ⊢
        rcases hm with e | e | e | e
        · exact .inl e
        · exact .inr (.inr (.inl e))
        · exact .inr (.inr (.inr (.inl e)))
        · exact .inr (.inr (.inr (.inr e))))
      have hS' := kp S _ (sub S hS) hSS
      have up : ∀ b o, b ≠ S → h'.get? b = some o → (h'.update S (Obj.mapSeq (·.push (Value.ref h.objs.size)))).get? b = some o := fun b o hb e => (Heap.get?_update_other _ _ (Ne.symm hb)).trans e
      have hSl : S < h.objs.size := Heap.lt_size hSS
      have zS : ∀ c ∈ [z, TI, TO, j1, j2], c ≠ S := fun c hc e => hS (by rw [← e]; exact hc)
      have hTI' : IsPair h' TI (.ref j1) (.ref j2) := kp TI _ (by
        simp only [List.mem_cons, List.not_mem_nil, or_false, not_or]
        exact ⟨Z.a1, Z.a5, Z.a6, Z.a7⟩) hTI
      show wpAny _ A.in1 (updateSeq S (·.push (Value.ref h.objs.size)) >>= _) _ _ _
      refine wpAny_bind ?_
      refine wpAny_updateSeq hS' rfl (wpAny_pure ⟨plainId_quiet PySem.F.plain_extend_loop _, ih (i + 1) _ tk' _ (acc.push (Value.ref h.objs.size)) (ts ++ [h.objs.size]) (by omega) hlt ?_ (up TI _ (zS TI (by simp)) hTI')
        (D1.frame _ _ _ st1' fun b hb o e => up b o (fun q => hS1 (by rw [← q]; exact hb)) e) (D2.frame _ _ _ st2' fun b hb o e => up b o (fun q => hS2 (by rw [← q]; exact hb)) e)
        (fun b o h1 h2 e => up b o h2 (kp b o (sub b h1) (hkeep b o h1 h2 e))) (Heap.get?_update_self _ hS' rfl) (by rw [Array.toList_push, hacc, List.map_append]; rfl) (by rw [List.length_append, hal]; rfl) ?_ ?_⟩) (by rw [hsz]; omega) (by show (acc.push (Value.ref h.objs.size)).size ≤ sizeLine + 1; rw [Array.size_push, hsz]; omega)
      · rcases hst' with ⟨e, _⟩ | ⟨a, f, oa, hz, ha, hfar, haS⟩
        · omega
        · exact .inr ⟨a, f, oa, up _ _ (zS z (by simp)) hz, up _ _ haS ha, hfar, haS⟩
      · intro j t hj
        rcases Nat.lt_trichotomy j ts.length with c | c | c
        · rw [List.getElem?_append_left c] at hj
          obtain ⟨hl, x', y', p1, p2, e⟩ := hG j t hj
          obtain ⟨n1', n2', _, _⟩ := notin t hl
          exact ⟨hl, x', y', p1, p2, up t _ n2' (kp t _ (sub t n1') e)⟩
        · subst c
          have hb : h.objs.size = t := by simpa using hj
          subst hb
          rw [hal]
          exact ⟨hls, x, y, px, py, up _ _ (Nat.ne_of_gt hSl) ht⟩
        · rw [List.getElem?_eq_none (by rw [List.length_append, List.length_singleton]; omega)] at hj
          cases hj
      · have e : (h'.update S (Obj.mapSeq (·.push (Value.ref h.objs.size)))).get? h.objs.size = _ := up _ _ (Nat.ne_of_gt hSl) ht
        exact Nat.le_trans hls (Nat.le_of_lt (Heap.lt_size e))
    unfold pyNext
    refine wpAny_bind (wpAny_bind (wpAny_attempt (wpAny_callSpecial?_slot (name := Str.ofString "__next__") hT F.slot_zip_next (wpAny_call_entry F.slot_zip_next hT F.entry_zip_next ?_ (F.args_zip_next_1 _)))))
    have hSl : S < h.objs.size := Heap.lt_size hSS
    rcases hst with ⟨_, hz, u, v, hTO⟩ | ⟨a, f, oa, hz, ha, hfar, haS⟩
    · refine zip_itemD (s := { s with heap := h, toks := tk }) Z D1 D2 hz hTI hTO st1 st2 (by omega) (by omega) fun x y h' tk' px py z1 z2 z3 z4 z5 z6 z7 => wpAny_pure ?_
      refine item h' tk' x y px py (.inr ⟨_, false, _, z1, z5, hls, Nat.ne_of_gt hSl⟩) z3 z4 z5 fun c o hc e => ?_
      by_cases q : c = TI
      · rw [q] at e ⊢
        have : o = _ := Option.some.inj (e.symm.trans hTI)
        rw [this]
        exact z7
      · refine z6 c o ?_ e
        simp only [List.mem_cons, List.not_mem_nil, or_false, not_or] at hc ⊢
        exact ⟨hc.1, q, hc.2⟩
    · refine zip_itemO (s := { s with heap := h, toks := tk }) Z D1 D2 hz ha hTI st1 st2 (by omega) (by omega) fun x y h' tk' px py z1 z3 z4 z5 z6 => wpAny_pure ?_
      have na := (notin a hfar).1
      refine item h' tk' x y px py (.inr ⟨a, true, oa, z1, z6 a oa ?_ ha, hfar, haS⟩) z3 z4 z5 fun c o hc e => z6 c o ?_ e
      · simp only [List.mem_cons, List.not_mem_nil, or_false, not_or] at na ⊢
        exact ⟨na.1, na.2.2.2.1, na.2.2.2.2⟩
      · simp only [List.mem_cons, List.not_mem_nil, or_false, not_or] at hc ⊢
        exact ⟨hc.1, hc.2.2.1, hc.2.2.2⟩
end
end L2

end

section
-- KcZipL
set_option Elab.async false
set_option linter.all false
set_option maxRecDepth 100000
set_option maxHeartbeats 4000000
namespace L2
open PySem PySem.Spec PyProof.Rows
theorem Inv.news {X : Cx} {pins : List (Addr × Obj)} {σ : St} {H H' : Hp} {s : Shared} {h' : Heap} {t' : Nat} (I : Inv X pins σ H s) (k : ∀ b u, s.heap.get? b = some u → h'.get? b = some u) (hH : ∀ b, b < s.heap.objs.size → H' b = H b)
    (new : ∀ a o, s.heap.objs.size ≤ a → H' a = some o → ObjOk X.prog X.w H' h' a o) : Inv X pins σ H' { s with heap := h', toks := t' } := by
  have same : ∀ b o, H b = some o → H' b = some o := fun b o e => (hH b (I.hok.lt e)).trans e
  refine I.un ⟨fun b o q _ _ _ => k b o q, fun b o q _ _ _ => ⟨o.slots, k b o q⟩, fun b o q n _ => (hH b (Heap.lt_size q)).trans n, fun b o q _ => ⟨o, k b o q⟩, fun b xs e => same b _ e, fun b o u e => same b _ e, fun b ps e => ⟨#[], by rw [same b _ e]; simp⟩⟩ fun a o e => ?_
  by_cases c : a < s.heap.objs.size
  · rw [hH a c] at e
    exact (I.hok a o e).stay (fun b u _ q => k b u q) (fun b q => same b _ q) fun b xs q => same b _ q
  · exact new a o (Nat.not_lt.mp c) e
theorem zip_hint {prog : Program} {w : World} {A : Around} {E : Value → Shared → Prop} {s : Shared} {z : Addr} {Q : Bool → Shared → Prop} (hT : s.TypeIs (.ref z) "zip") (h : Q true s) : wpAny (model prog w) A (Builtin.List.listLengthHint (.ref z)) Q E s := by
  unfold Builtin.List.listLengthHint
  refine wpAny_bind (wpAny_specialOf hT (show typeLookup (.type "zip") "__len__" = pure none by rw [typeLookup_type, builtinLookup_eq_fast]; kernel_rfl) ?_)
  show wpAny _ _ (specialOf (Value.ref z) (Str.ofString "__length_hint__") >>= _) _ _ _
  refine wpAny_bind (wpAny_specialOf hT (show typeLookup (.type "zip") "__length_hint__" = pure none by rw [typeLookup_type, builtinLookup_eq_fast]; kernel_rfl) ?_)
  exact wpAny_pure h
section
variable {prog : Program} {w : World} {A : Around} {E : Value → Shared → Prop} {s : Shared}
theorem zip_extend {z TI TO j1 j2 S : Addr} {fp1 fp2 : List Addr} {n1 n2 : Nat} {P1 P2 : Nat → Value → Prop} {S1 S2 : Nat → Heap → Prop} {R : Result → Shared → Prop} (hh : A.handled = none) (Z : ZApart z TI TO j1 j2 fp1 fp2)
    (D1 : Draws prog w A.in1.in1 j1 fp1 n1 P1 S1) (D2 : Draws prog w A.in1.in1 j2 fp2 n2 P2 S2) (hn : min n1 n2 ≤ sizeLine) (hS : S ∉ [z, TI, TO, j1, j2]) (hS1 : S ∉ fp1) (hS2 : S ∉ fp2) (hlo : ∀ c ∈ [z, TI, TO, j1, j2, S], c < s.heap.objs.size) (hlo1 : ∀ c ∈ fp1, c < s.heap.objs.size) (hlo2 : ∀ c ∈ fp2, c < s.heap.objs.size)
    (hz : IsZip s.heap z TI TO .none) {u v : Value} (hTO : IsPair s.heap TO u v) (hTI : IsPair s.heap TI (.ref j1) (.ref j2)) (st1 : S1 0 s.heap) (st2 : S2 0 s.heap) {c₀ : Nat} (hSS : s.heap.get? S = some { cls := .type "list", data := .seq #[] c₀ })
    (hR : ∀ h' tk acc c ts, (∀ b o, b ∉ [z, TI, TO, j1, j2] → b ≠ S → s.heap.get? b = some o → h'.get? b = some o) → h'.get? S = some { cls := .type "list", dict := none, data := .seq acc c, slots := #[] } → ts.length = min n1 n2 → ZTs P1 P2 s.heap.objs.size h' ts →
      acc.toList = ts.map Value.ref → R (.ok (.ret .none)) { s with heap := h', toks := tk }) :
    wpAny (model prog w) A.in1 (Builtin.List.listExtendWith (.ref S) (.ref z) .none)
      (fun fin s' => match fin with | .done f => R (.ok f) s' | .again c' => c'.quiet = true ∧ codeAny (model prog w) A c' R s') (fun e s' => R (.error e) s') s := by
  have zS : ∀ c ∈ [z, TI, TO, j1, j2], c ≠ S := fun c hc e => hS (by rw [← e]; exact hc)
  have hT : s.TypeIs (.ref z) "zip" := ⟨_, hz, rfl⟩
  unfold Builtin.List.listExtendWith
  refine wpAny_bind (wpAny_typeOf (T := "zip") hT ?_)
  have h1 : Builtin.List.listSameRef (.ref S) (.ref z) = false := by simp [Builtin.List.listSameRef, (zS z (by simp)).symm]
  have h2 : (Value.type "zip" == Value.type "list") = false := by decide
  have h3 : (Value.type "zip" == Value.type "tuple") = false := by decide
  simp only [h1, h2, h3, Bool.or_false, Bool.false_eq_true, if_false]
  refine wpAny_bind (wpAny_pyIter_zip hz ?_)
  refine wpAny_bind (wpAny_holding (zip_hint hT ?_))
  rw [if_pos (by simp)]
  refine wpAny_bind (wpAny_rule ?_)
  refine wpAny_bind ?_
  show wpAny _ _ (updateSeq S (·.push .none) >>= fun _ => updateSeq S (·.pop)) _ _ _
  refine wpAny_bind (wpAny_updateSeq hSS rfl ?_)
  have hS₂ := Heap.get?_update_self (Obj.mapSeq (·.push Value.none)) hSS rfl
  refine wpAny_updateSeq (hz := by seq_fits) hS₂ rfl ?_
  have hS₃ := Heap.get?_update_self (Obj.mapSeq (·.pop)) hS₂ rfl
  have oth : ∀ b o, b ≠ S → s.heap.get? b = some o → ((s.heap.update S (Obj.mapSeq (·.push Value.none))).update S (Obj.mapSeq (·.pop))).get? b = some o := fun b o hb e =>
    (Heap.get?_update_other _ _ (Ne.symm hb)).trans ((Heap.get?_update_other _ _ (Ne.symm hb)).trans e)
  refine wpAny_pure ⟨plainId_quiet PySem.F.plain_extend_loop _, zip_loop (s := s) (lo := s.heap.objs.size) (h₁ := s.heap) hh Z D1 D2 hn hS hS1 hS2 hlo hlo1 hlo2 .none hR (min n1 n2) 0 _ _ _ #[] [] (Nat.sub_zero _) (Nat.zero_le _) (.inl ⟨rfl, oth z _ (zS z (by simp)) hz, u, v, oth TO _ (zS TO (by simp)) hTO⟩) (oth TI _ (zS TI (by simp)) hTI)
    (D1.frame _ _ _ st1 fun b hb o e => oth b o (fun q => hS1 (by rw [← q]; exact hb)) e) (D2.frame _ _ _ st2 fun b hb o e => oth b o (fun q => hS2 (by rw [← q]; exact hb)) e) (fun b o _ hb e => oth b o hb e) hS₃ rfl rfl (fun j t hj => by simp at hj) ?_⟩
  rw [Heap.size_update, Heap.size_update]
  exact Nat.le_refl _
theorem zip_call {z TI TO j1 j2 : Addr} {fp1 fp2 : List Addr} {n1 n2 : Nat} {P1 P2 : Nat → Value → Prop} {S1 S2 : Nat → Heap → Prop} {Q : Value → Shared → Prop} (hh : A.handled = none) (Z : ZApart z TI TO j1 j2 fp1 fp2)
    (D1 : ∀ A' : Around, A'.handled = none → Draws prog w A' j1 fp1 n1 P1 S1) (D2 : ∀ A' : Around, A'.handled = none → Draws prog w A' j2 fp2 n2 P2 S2) (hn : min n1 n2 ≤ sizeLine) (hlo : ∀ c ∈ [z, TI, TO, j1, j2], c < s.heap.objs.size) (hlo1 : ∀ c ∈ fp1, c < s.heap.objs.size) (hlo2 : ∀ c ∈ fp2, c < s.heap.objs.size)
    (hz : IsZip s.heap z TI TO .none) {u v : Value} (hTO : IsPair s.heap TO u v) (hTI : IsPair s.heap TI (.ref j1) (.ref j2)) (st1 : S1 0 s.heap) (st2 : S2 0 s.heap)
    (hQ : ∀ h' tk acc c ts, (∀ b o, b ∉ [z, TI, TO, j1, j2] → s.heap.get? b = some o → h'.get? b = some o) → h'.get? s.heap.objs.size = some { cls := .type "list", dict := none, data := .seq acc c, slots := #[] } → ts.length = min n1 n2 → ZTs P1 P2 (s.heap.objs.size + 1) h' ts →
      acc.toList = ts.map Value.ref → Q (.ref s.heap.objs.size) { s with heap := h', toks := tk }) :
    wpAny (model prog w) A (call (.type "list") [.ref z]) Q E s := by
  refine callType_codes (Q₁ := fun obj s₁ => obj = .ref s.heap.objs.size ∧ s₁ = { s with heap := s.heap.push { cls := .type "list", data := .seq #[] } }) PySem.F.called_list (PySem.F.typeCall_list_1 _) PySem.F.entry_list_init
    (code_list_new _ ⟨rfl, rfl⟩) fun obj s₁ h₁ => ?_
  obtain ⟨rfl, rfl⟩ := h₁
  have hS : (s.heap.push { cls := .type "list", data := .seq #[] }).get? s.heap.objs.size = some { cls := .type "list", data := .seq #[] } := Heap.get?_push_size _ rfl
  refine ⟨⟨_, hS, rfl⟩, PySem.F.args_list_init_2 _ _, ?_⟩
  show wpAny _ _ (do let old ← Builtin.List.listItems (.ref s.heap.objs.size); Builtin.List.listUpdate (.ref s.heap.objs.size) (fun _ => #[]); letGo old.toList.reverse; Builtin.List.listExtendWith (.ref s.heap.objs.size) (.ref z) .none) _ _ _
  refine wpAny_bind ?_
  unfold Builtin.List.listItems
  refine wpAny_bind (wpAny_seqItems hS rfl (wpAny_pure ?_))
  show wpAny _ _ (updateSeq s.heap.objs.size (fun _ => #[]) >>= fun _ => letGo (#[] : Array Value).toList.reverse >>= fun _ => Builtin.List.listExtendWith (.ref s.heap.objs.size) (.ref z) .none) _ _ _
  refine wpAny_bind (wpAny_updateSeq hS rfl ?_)
  have hS₂ := Heap.get?_update_self (Obj.mapSeq (fun _ => (#[] : Array Value))) hS rfl
  have oth : ∀ b o, b ≠ s.heap.objs.size → (s.heap.push { cls := .type "list", data := .seq #[] }).get? b = some o → ((s.heap.push { cls := .type "list", data := .seq #[] }).update s.heap.objs.size (Obj.mapSeq (fun _ => (#[] : Array Value)))).get? b = some o :=
    fun b o hb e => (Heap.get?_update_other _ _ (Ne.symm hb)).trans e
  have oth' : ∀ b o, s.heap.get? b = some o → ((s.heap.push { cls := .type "list", data := .seq #[] }).update s.heap.objs.size (Obj.mapSeq (fun _ => (#[] : Array Value)))).get? b = some o := fun b o e => oth b o (Nat.ne_of_lt (Heap.lt_size e)) (Heap.get?_push_of_some _ e)
  have sz : ((s.heap.push { cls := .type "list", data := .seq #[] }).update s.heap.objs.size (Obj.mapSeq (fun _ => (#[] : Array Value)))).objs.size = s.heap.objs.size + 1 := by rw [Heap.size_update, Heap.size_push]
  refine wpAny_bind (wpAny_letGo ?_)
  refine zip_extend (A := A.in1) hh Z (D1 _ hh) (D2 _ hh) hn (fun hm => Nat.lt_irrefl _ (hlo _ hm)) (fun hm => Nat.lt_irrefl _ (hlo1 _ hm)) (fun hm => Nat.lt_irrefl _ (hlo2 _ hm)) (fun c hc => ?_) (fun c hc => ?_) (fun c hc => ?_) (oth' _ _ hz) (oth' _ _ hTO) (oth' _ _ hTI)
    ((D1 _ hh).frame _ _ _ st1 fun b _ o e => oth' b o e) ((D2 _ hh).frame _ _ _ st2 fun b _ o e => oth' b o e) hS₂ (fun h' tk acc c ts hk hS' hl hG hacc => ?_)
  · show c < ((s.heap.push { cls := .type "list", data := .seq #[] }).update s.heap.objs.size (Obj.mapSeq (fun _ => (#[] : Array Value)))).objs.size
    rw [sz]
    rcases List.mem_append.mp (show c ∈ [z, TI, TO, j1, j2] ++ [s.heap.objs.size] from hc) with hc | hc
    · exact Nat.lt_succ_of_lt (hlo c hc)
    · rw [List.mem_singleton.mp hc]; exact Nat.lt_succ_self _
  · show c < ((s.heap.push { cls := .type "list", data := .seq #[] }).update s.heap.objs.size (Obj.mapSeq (fun _ => (#[] : Array Value)))).objs.size
    rw [sz]
    exact Nat.lt_succ_of_lt (hlo1 c hc)
  · show c < ((s.heap.push { cls := .type "list", data := .seq #[] }).update s.heap.objs.size (Obj.mapSeq (fun _ => (#[] : Array Value)))).objs.size
    rw [sz]
    exact Nat.lt_succ_of_lt (hlo2 c hc)
  · have hG' : ZTs P1 P2 (s.heap.objs.size + 1) h' ts := by rw [← sz]; exact hG
    exact ⟨rfl, hQ h' tk acc c ts (fun b o hb e => hk b o hb (Nat.ne_of_lt (Heap.lt_size e)) (oth' b o e)) hS' hl hG' hacc⟩
end
section
variable {X : Cx}
theorem zip_rel {h : Heap} {us vs : List Value} {xs ys : List V} {lo : Addr} {ts : List Addr} (ru : Vals xs us) (rv : Vals ys vs) (hl : ts.length = min us.length vs.length) (G : ZTs (fun i v => us.toArray[i]? = some v) (fun i v => vs.toArray[i]? = some v) lo h ts) :
    ∀ (i : Nat) (t : Addr), ts[i]? = some t → lo ≤ t ∧ ∃ x y u v, xs[i]? = some x ∧ ys[i]? = some y ∧ RelV x u ∧ RelV y v ∧ IsPair h t u v := fun i t ht => by
  obtain ⟨h1, u, v, p1, p2, e⟩ := G i t ht
  have hi : i < ts.length := (List.getElem?_eq_some_iff.mp ht).1
  have l1 := ru.length
  have l2 := rv.length
  obtain ⟨x, hx⟩ : ∃ x, xs[i]? = some x := ⟨_, List.getElem?_eq_getElem (by omega)⟩
  obtain ⟨y, hy⟩ : ∃ y, ys[i]? = some y := ⟨_, List.getElem?_eq_getElem (by omega)⟩
  obtain ⟨u', hu', ru'⟩ := ru.get hx
  obtain ⟨v', hv', rv'⟩ := rv.get hy
  have eu : u = u' := by
    have : us.toArray[i]? = some u' := by simpa using hu'
    rw [this] at p1
    exact (Option.some.inj p1).symm
  have ev : v = v' := by
    have : vs.toArray[i]? = some v' := by simpa using hv'
    rw [this] at p2
    exact (Option.some.inj p2).symm
  subst eu ev
  exact ⟨h1, x, y, u, v, hx, hy, ru', rv', e⟩
theorem rel_uniq {x y : V} {u : Value} (a : RelV x u) (b : RelV y u) : x = y := by
  cases x <;> cases y <;> simp only [RelV] at a b <;> first
    | rfl
    | (subst a; cases b; rfl)
    | (subst a; cases b; done)
    | (obtain ⟨t, rfl⟩ := a; obtain ⟨t', e⟩ := b; cases e; rfl)
    | (obtain ⟨t, rfl⟩ := a; obtain ⟨t', e⟩ := b; cases e; done)
    | (obtain ⟨t, rfl⟩ := a; cases b; done)
    | (subst a; obtain ⟨t', e⟩ := b; cases e; done)
theorem pe_lzip (S1 S2 : Src) {a b : Expr} {ta : TA} {p pos p2 pos2 : Pos} (hc : X.calm = true) (hgl : Gl X "list") (hml : X.mg "list" = none) (hg : Gl X "zip") (hm : X.mg "zip" = none) (ha : PA X [a, b] ta)
    (hs : starEach [a, b] X.env = [(false, eval a X.env), (false, eval b X.env)] := by rfl) (hs2 : starEach [b] X.env = [(false, eval b X.env)] := by rfl)
    (hs3 : starEach [.Call (.Name "zip" p2) [a, b] [] pos2] X.env = [(false, eval (.Call (.Name "zip" p2) [a, b] [] pos2) X.env)] := by rfl) :
    PE X (.Call (.Name "list" p) [.Call (.Name "zip" p2) [a, b] [] pos2] [] pos) (mLZip S1 S2 X.K ta) := by
  intro pins s σ H Q I h
  refine wpAny_Call_Name_kw (ld_blt I hgl hml boot_list (PyProof.Rows.callWith_type1 ?_ hs3 rfl))
  rw [hs3]
  show wpAny _ _ (spliced [(false, eval (.Call (.Name "zip" p2) [a, b] [] pos2) X.env)]) _ _ s
  refine Calls.spliced_cons ?_
  refine Call_ (ld_blt I hg hm boot_zip (PyProof.Rows.callWith_type1 (thn (ha pos2 pins s σ H _ I h) fun us s1 ⟨vs, H1, I1, r1, q1⟩ => ?_) (by rw [hs, hs2]) (by rw [hs2]; rfl)))
  obtain ⟨l1, l2, xs, ys, e, hq1, hq2, hxl, q⟩ := q1
  subst e
  obtain ⟨u, v, rfl, ru, rv⟩ := r1.two
  cases ru
  cases rv
  obtain ⟨us1, rv1, p1, _⟩ := S1.get I1 hq1
  obtain ⟨us2, rv2, p2', _⟩ := S2.get I1 hq2
  refine callType_new F.called_zip (by decide) (F.typeCall_zip_2 _ _) (F.newCall_zip_2 _ _) (fun obj => F.args_object_init_3 obj _ _) F.entry_zip_new (new_zip S1 S2 l1 l2 us1.toArray us2.toArray) ⟨p1, p2', ?_⟩
  generalize hn : s1.heap.objs.size = n
  have z1 : (zh1 S1 s1.heap l1).objs.size = n + 1 := by rw [Heap.size_push, hn]
  have z2 : (zh2 S1 S2 s1.heap l1 l2).objs.size = n + 2 := by rw [Heap.size_push, z1]
  have z3 : (zh3 S1 S2 s1.heap l1 l2).objs.size = n + 3 := by rw [Heap.size_push, z2]
  have z4 : (zh4 S1 S2 s1.heap l1 l2).objs.size = n + 4 := by rw [Heap.size_push, z3]
  have z5 : (zh5 S1 S2 s1.heap l1 l2).objs.size = n + 5 := by rw [Heap.size_push, z4]
  have g5 : (zh5 S1 S2 s1.heap l1 l2).get? (zh4 S1 S2 s1.heap l1 l2).objs.size = some _ := Heap.get?_push_size _ rfl
  have g4 : (zh5 S1 S2 s1.heap l1 l2).get? (zh3 S1 S2 s1.heap l1 l2).objs.size = some _ := Heap.get?_push_of_some _ (Heap.get?_push_size _ rfl)
  have g3 : (zh5 S1 S2 s1.heap l1 l2).get? (zh2 S1 S2 s1.heap l1 l2).objs.size = some _ := Heap.get?_push_of_some _ (Heap.get?_push_of_some _ (Heap.get?_push_size _ rfl))
  have g2 : (zh5 S1 S2 s1.heap l1 l2).get? (zh1 S1 s1.heap l1).objs.size = some _ := Heap.get?_push_of_some _ (Heap.get?_push_of_some _ (Heap.get?_push_of_some _ (Heap.get?_push_size _ rfl)))
  have g1 : (zh5 S1 S2 s1.heap l1 l2).get? s1.heap.objs.size = some _ := Heap.get?_push_of_some _ (Heap.get?_push_of_some _ (Heap.get?_push_of_some _ (Heap.get?_push_of_some _ (Heap.get?_push_size _ rfl))))
  have kp : ∀ c o, s1.heap.get? c = some o → (zh5 S1 S2 s1.heap l1 l2).get? c = some o := fun c o e =>
    Heap.get?_push_of_some _ (Heap.get?_push_of_some _ (Heap.get?_push_of_some _ (Heap.get?_push_of_some _ (Heap.get?_push_of_some _ e))))
  show _ ∧ _
  rw [z2, z3, z4] at g5
  rw [z1, z2, hn] at g3
  rw [z3] at g4
  rw [z1] at g2
  rw [hn] at g1
  rw [z4]
  refine ⟨⟨_, g5, rfl⟩, Calls.spliced_nil ?_⟩
  have lt1 : l1 < n := by
    obtain ⟨o, _, ho, _⟩ := S1.isSeq p1
    rw [← hn]; exact Heap.lt_size ho
  have lt2 : l2 < n := by
    obtain ⟨o, _, ho, _⟩ := S2.isSeq p2'
    rw [← hn]; exact Heap.lt_size ho
  have five : ∀ c : Nat, c ∈ [n + 4, n + 2, n + 3, n, n + 1] → n ≤ c ∧ c < n + 5 := fun c hc => by
    simp only [List.mem_cons, List.not_mem_nil, or_false] at hc
    omega
  have nel : ∀ l c : Nat, l < n → n ≤ c → c ≠ l := fun l c h1 h2 => by omega
  have Z : ZApart (n + 4) (n + 2) (n + 3) n (n + 1) [n, l1] [n + 1, l2] := zap (by simp) (fun c hc => nel l1 c lt1 (five c hc).1) (fun c hc => nel l2 c lt2 (five c hc).1)
  have is1 : S1.Is (zh5 S1 S2 s1.heap l1 l2) l1 us1.toArray := S1.isKeep p1 fun o e => kp _ _ e
  have is2 : S2.Is (zh5 S1 S2 s1.heap l1 l2) l2 us2.toArray := S2.isKeep p2' fun o e => kp _ _ e
  refine zip_call (s := { s1 with heap := zh5 S1 S2 s1.heap l1 l2 }) (n1 := us1.toArray.size) (n2 := us2.toArray.size) (I1.ok.hd hc) Z (fun A' hA => S1.draws hA n l1 (nel l1 n lt1 (Nat.le_refl _)).symm us1.toArray) (fun A' hA => S2.draws hA (n + 1) l2 (nel l2 (n + 1) lt2 (Nat.le_succ _)).symm us2.toArray) ?_ ?_ ?_ ?_ g5 g4 g3 ⟨S1.mkI g1 rfl rfl, is1⟩ ⟨S2.mkI g2 rfl rfl, is2⟩ ?_
  · have := rv1.length
    simp only [List.size_toArray]
    rw [sizeLine_eq]
    omega
  · intro c hc
    show c < (zh5 S1 S2 s1.heap l1 l2).objs.size
    rw [z5]
    exact (five c hc).2
  · intro c hc
    show c < (zh5 S1 S2 s1.heap l1 l2).objs.size
    rw [z5]
    rcases List.mem_cons.mp hc with rfl | hc
    · exact Nat.lt_add_of_pos_right (by decide)
    · rw [List.mem_singleton.mp hc]; exact Nat.lt_of_lt_of_le lt1 (Nat.le_add_right _ _)
  · intro c hc
    show c < (zh5 S1 S2 s1.heap l1 l2).objs.size
    rw [z5]
    rcases List.mem_cons.mp hc with rfl | hc
    · exact Nat.add_lt_add_left (by decide) n
    · rw [List.mem_singleton.mp hc]; exact Nat.lt_of_lt_of_le lt2 (Nat.le_add_right _ _)
  intro h' tk acc c ts hk hS' hl hG hacc
  have hS'' : h'.get? (n + 5) = some { cls := .type "list", dict := none, data := .seq acc c, slots := #[] } := by rw [← z5]; exact hS'
  have hG' : ZTs (fun i v => us1.toArray[i]? = some v) (fun i v => us2.toArray[i]? = some v) (n + 5 + 1) h' ts := by rw [← z5]; exact hG
  have hl' : ts.length = min us1.length us2.length := by simpa using hl
  have G := zip_rel rv1 rv2 hl' hG'
  have old : ∀ b o, s1.heap.get? b = some o → h'.get? b = some o := fun b o e => hk b o (fun hm => by
    have := Heap.lt_size e
    rw [hn] at this
    exact absurd (five b hm).1 (Nat.not_le.mpr this)) (kp b o e)
  -- what is tracked behind it
  have l1' := rv1.length
  have l2' := rv2.length
  let H' : Hp := fun b => if b = n + 5 then some (.lst (ts.map V.ref)) else match ts.findIdx? (· == b) with
    | some i => (match xs[i]?, ys[i]? with | some x, some y => some (.tup [x, y]) | _, _ => H1 b)
    | none => H1 b
  have big : ∀ (i : Nat) (t : Addr), ts[i]? = some t → n + 6 ≤ t := fun i t ht => (G i t ht).1
  have Hts : ∀ (i : Nat) (t : Addr), ts[i]? = some t → ∃ x y u v, H' t = some (.tup [x, y]) ∧ xs[i]? = some x ∧ ys[i]? = some y ∧ RelV x u ∧ RelV y v ∧ IsPair h' t u v := by
    intro i t ht
    obtain ⟨hlo, x, y, u, v, hx, hy, rx, ry, e⟩ := G i t ht
    refine ⟨x, y, u, v, ?_, hx, hy, rx, ry, e⟩
    have net : t ≠ n + 5 := fun q => by rw [q] at hlo; exact absurd hlo (Nat.not_le.mpr (Nat.lt_succ_self _))
    show (if t = n + 5 then _ else _) = _
    rw [if_neg net]
    cases hf : ts.findIdx? (· == t) with
    | none =>
      have := List.findIdx?_eq_none_iff.mp hf t (List.mem_of_getElem? ht)
      simp at this
    | some i0 =>
      obtain ⟨h0, h1, _⟩ := List.findIdx?_eq_some_iff_getElem.mp hf
      have ht0 : ts[i0]? = some t := by rw [List.getElem?_eq_getElem h0]; congr 1; exact eq_of_beq h1
      obtain ⟨_, x0, y0, u0, v0, hx0, hy0, rx0, ry0, e0⟩ := G i0 t ht0
      have eq := Option.some.inj (e0.symm.trans e)
      have eu : u0 = u ∧ v0 = v := by
        injection eq with _ _ eq
        injection eq with eq _
        simp at eq
        exact eq
      rw [eu.1] at rx0
      rw [eu.2] at ry0
      simp only [hx0, hy0]
      rw [rel_uniq rx0 rx, rel_uniq ry0 ry]
  have hH : ∀ b, b < s1.heap.objs.size → H' b = H1 b := by
    intro b hb
    rw [hn] at hb
    have ne5 : b ≠ n + 5 := fun q => by rw [q] at hb; exact absurd hb (Nat.not_lt.mpr (Nat.le_add_right _ _))
    show (if b = n + 5 then _ else _) = _
    rw [if_neg ne5]
    cases hf : ts.findIdx? (· == b) with
    | none => rfl
    | some i0 =>
      obtain ⟨h0, h1, _⟩ := List.findIdx?_eq_some_iff_getElem.mp hf
      have ht0 : ts[i0]? = some b := by rw [List.getElem?_eq_getElem h0]; congr 1; exact eq_of_beq h1
      have := big i0 b ht0
      exact absurd (Nat.lt_of_lt_of_le hb (Nat.le_trans (Nat.le_add_right _ _) this)) (Nat.lt_irrefl _)
  have e5 : H' (n + 5) = some (.lst (ts.map V.ref)) := if_pos rfl
  have hvals : Vals (ts.map V.ref) acc.toList := by
    have go : ∀ l : List Addr, Vals (l.map V.ref) (l.map Value.ref) := fun l => by
      induction l with
      | nil => exact .nil
      | cons t r ih => exact .cons rfl ih
    rw [hacc]
    exact go ts
  have I2 : Inv X pins σ H' { s1 with heap := h', toks := tk } := I1.news old hH fun a o ha eo => by
    by_cases c5 : a = n + 5
    · subst c5
      rw [e5] at eo
      cases eo
      refine ⟨?_, acc.toList, c, hvals, by simpa using hS''⟩
      rw [List.length_map, hl', sizeLine_eq]
      omega
    · have eo' : (match ts.findIdx? (· == a) with
        | some i => (match xs[i]?, ys[i]? with | some x, some y => some (HO.tup [x, y]) | _, _ => H1 a)
        | none => H1 a) = some o := by
        have : H' a = some o := eo
        rw [show H' a = (if a = n + 5 then some (.lst (ts.map V.ref)) else match ts.findIdx? (· == a) with
          | some i => (match xs[i]?, ys[i]? with | some x, some y => some (.tup [x, y]) | _, _ => H1 a)
          | none => H1 a) from rfl, if_neg c5] at this
        exact this
      have hfr : H1 a = none := I1.hok.fresh ha
      cases hf : ts.findIdx? (· == a) with
      | none => rw [hf] at eo'; rw [show H1 a = some o from eo'] at hfr; cases hfr
      | some i0 =>
        obtain ⟨h0, h1, _⟩ := List.findIdx?_eq_some_iff_getElem.mp hf
        have ht0 : ts[i0]? = some a := by rw [List.getElem?_eq_getElem h0]; congr 1; exact eq_of_beq h1
        obtain ⟨_, x0, y0, u0, v0, hx0, hy0, rx0, ry0, e0⟩ := G i0 a ht0
        rw [hf] at eo'
        simp only [hx0, hy0] at eo'
        cases eo'
        exact ⟨(by show 2 ≤ sizeLine; decide), [u0, v0], .cons rx0 (.cons ry0 .nil), _, e0, rfl, ⟨0, rfl⟩, rfl⟩
  have hp5 : H1 (n + 5) = none := I1.hok.fresh (by rw [hn]; exact Nat.le_add_right _ _)
  have hsame : Same H1 H' := fun b o eb => by
    rw [hH b (I1.hok.lt eb)]
    exact eb
  show ∃ v H', _ ∧ _ ∧ _
  refine ⟨.ref (n + 5), H', I2, by rw [← z5]; rfl, q _ _ hp5 hsame ⟨ts, e5, ?_⟩⟩
  have go : ∀ (l : List Addr) (m : List (V × V)), l.length = m.length → (∀ (i : Nat) (t : Addr) (pq : V × V), l[i]? = some t → m[i]? = some pq → H' t = some (.tup [pq.1, pq.2])) → PairsAt H' l m := by
    intro l
    induction l with
    | nil => intro m hl _; cases m with
      | nil => exact .nil
      | cons _ _ => simp at hl
    | cons t r ih => intro m hl hh; cases m with
      | nil => simp at hl
      | cons pq m => exact .cons (hh 0 t pq rfl rfl) (ih m (by simpa using hl) fun i t pq h1 h2 => hh (i + 1) t pq h1 h2)
  refine go _ _ (by rw [List.length_zip]; omega) fun i t pq ht hpq => ?_
  obtain ⟨x, y, u, v, e, hx, hy, _⟩ := Hts i t ht
  rw [e]
  have : (xs.zip ys)[i]? = some (x, y) := by rw [List.getElem?_zip_eq_some]; exact ⟨hx, hy⟩
  rw [this] at hpq
  cases hpq
  rfl
end
end L2

end

section
-- KcSrt
set_option Elab.async false
set_option linter.all false
set_option maxRecDepth 100000
set_option maxHeartbeats 4000000
namespace L2
open PySem PySem.Calls PyProof.Rows
section
variable {X : Cx}
theorem call_sorted : CallR X (.builtin "sorted") (cSorted X.K) := by
  intro pins s σ H xs us Q I r h
  obtain ⟨p, ns, rfl, hq, hl, q⟩ := h
  obtain ⟨u, rfl, rx⟩ := r.one
  cases rx
  obtain ⟨its, rv, pl, hz⟩ := I.list hq
  have hi := intsAre_of rv
  have hlen : its.length = ns.length := by have := rv.length; rw [List.length_map] at this; omega
  refine sorted_ints pl.isList hi (by omega) fun out ms a1 a2 a3 => ?_
  obtain ⟨e, he⟩ := sortedAll_at s.heap its out
  have hf : H (s.heap.objs.size + 1) = none := I.hok.fresh (Nat.le_succ _)
  refine ⟨.ref (s.heap.objs.size + 1), _, I.laid (t' := s.toks) (o := .lst (ms.map V.int)) (fun b ob q => sortedAll_old q) (Nat.le_succ _) ?_, rfl, q _ _ ms hf (same_new hf _) upd_same a2 a3⟩
  exact ⟨by rw [List.length_map, a2.length_eq, sizeLine_eq]; omega, out.toList, e, vals_ints a1, by rw [he, Array.toArray_toList]⟩
theorem pe_revL {e st : Expr} {te : TE} {ts : TO} {p2 pos : Pos} (he : PE X e te) (hs : PO X (some st) ts) : PE X (.Subscript e (.Slice none none (some st) p2) pos) (mRevL X.K te ts) := by
  intro pins s σ H Q I h
  refine Subscript_ (thn (he pins s σ H _ I h) fun v s1 ⟨x, H1, I1, r1, q1⟩ => ?_)
  refine wpAny_Slice ?_
  rw [evalPart_none]
  refine wpAny_pure ?_
  refine wpAny_pure ?_
  refine thn (hs pins s1 σ H1 _ I1 q1) fun vk s3 ⟨k, H3, I3, pk, q3⟩ => ?_
  obtain ⟨a, xs, rfl, rfl, hx, q⟩ := q3
  cases r1
  have I4 : Inv X pins σ H3 { s3 with heap := s3.heap.push { cls := .type "slice", data := .fields #[.none, .none, vk] } } := I3.kept (t' := s3.toks) fun b ob q => Heap.get?_push_of_some _ q
  obtain ⟨its, r, ht, hz⟩ := I4.list hx
  have hlen := r.length
  show wpAny (model X.prog X.w) X.A (subscriptTail e (.Slice none none (some st) p2) (.ref a) (.ref s3.heap.objs.size)) (EP X pins σ Q) X.xe { s3 with heap := s3.heap.push { cls := .type "slice", data := .fields #[.none, .none, vk] } }
  refine tail_any (ops := [.ref a, .ref s3.heap.objs.size]) ht.isList.typeIs slot_list_getitem.lookup ?_ (by with_unfolding_all rfl)
  refine wpAny_getItem_list_slice ht.isList (Heap.IsSliceOf.new ..) .none .none pk (by decide) ?_ (by rw [List.size_toArray] <;> omega)
  rw [PySem.W.krv_pick]
  have hf : H3 (s3.heap.push { cls := .type "slice", data := .fields #[.none, .none, vk] }).objs.size = none := I4.hok.fresh (Nat.le_refl _)
  refine ⟨.ref _, _, I4.laid (t' := s3.toks) (o := .lst xs.reverse) (fun b ob q => Heap.get?_push_of_some _ q) (Nat.le_refl _) ?_, rfl, q.upd _ hf⟩
  exact ⟨by rw [List.length_reverse]; exact hz, _, 0, r.reverse, Heap.get?_push_size _ rfl⟩
theorem op_neF (hu : X.A.units + 64 < cLine) : OpR X (compareOp .NotEq) (rNeF X.K) := by
  intro pins s σ H x y v u Q I rx ry h
  obtain ⟨h, q⟩ := h
  rcases h with ⟨rfl, rfl⟩ | ⟨t, u', st, d, j, hs, rfl, rfl, e1, e2⟩
  · exact op_sameN hu pins s σ H _ _ v u Q I rx ry ⟨0, by decide, .flat rfl, q⟩
  · have cl : (PyData.tuple [.str st, .int d, .int j]).canLay0 = true := by
      have o1 : PyData.strOk (Str.ofString "friend") = true := by decide +kernel
      have o2 : PyData.strOk (Str.ofString "third") = true := by decide +kernel
      rcases hs with rfl | rfl
      · show (PyData.strOk (Str.ofString "friend") && true) = true
        rw [o1]; rfl
      · show (PyData.strOk (Str.ofString "third") && true) = true
        rw [o2]; rfl
    have sh : SeqAt.shaped (.tuple [.str st, .int d, .int j]) = true := by unfold SeqAt.shaped; rw [cl]; rfl
    refine op_neD hu pins s σ H _ _ v u Q I rx ry ⟨.tuple [.str st, .int d, .int j], .tuple [.str st, .int d, .int j], .tup e1 (.cons (.str _) (.cons (.int _) (.cons (.int _) .nil))), .tup e2 (.cons (.str _) (.cons (.int _) (.cons (.int _) .nil))), ?_, ?_, ?_⟩
    · exact sh
    · exact sh
    · rw [SeqAt.eqv_refl _ cl]; exact q
end
end L2

end

section
-- KcDkN
set_option Elab.async false
set_option linter.all false
set_option maxRecDepth 100000
set_option maxHeartbeats 4000000
namespace L2
open PySem PySem.Spec PyProof.Rows
section
variable {X : Cx}
end
end L2

end

section
-- KcLenN
set_option Elab.async false
set_option linter.all false
set_option maxRecDepth 100000
set_option maxHeartbeats 4000000
namespace L2
open PySem PySem.Spec PyProof.Rows
section
variable {X : Cx}
theorem mt_insert : MtM X "list.insert" rInsert := by
  intro pins s σ H x vs v us Q I rx rv h
  obtain ⟨l, xs, k, y, rfl, rfl, hH, hz, hk, q⟩ := h
  cases rx
  obtain ⟨u, w, rfl, ru, rw'⟩ : ∃ u w, us = [u, w] ∧ RelV (.int (k : Int)) u ∧ RelV y w := by
    cases rv with
    | cons ru rv => cases rv with
      | cons rw' rv => cases rv with
        | nil => exact ⟨_, _, rfl, ru, rw'⟩
  obtain ⟨t, rfl⟩ := ru
  obtain ⟨z, its, n, r, hl, e⟩ := I.lstM hH
  have hz' := hz
  rw [sizeLine_eq] at hz'
  have hf : ¬ (!Builtin.List.listFitsIndex (k : Int)) = true := by rw [fitsIndex_both (Int.le_trans (by decide) (Int.natCast_nonneg k)) (Int.lt_of_le_of_lt (show (k : Int) ≤ 16777216 by omega) (by decide))]; simp
  generalize hx : (k : Int) = x at *
  have M2 := AutoSeq1.list_insert_list_int_val_1 l its.toArray n x t w hf (by rw [List.size_toArray]; omega)
  refine call_meets F.slot_list_insert ⟨_, e, rfl⟩ F.entry_list_insert (F.args_list_insert_3 _ _ _) M2 ⟨e, ?_⟩
  refine ⟨.non, _, I.lset (its' := its.take k ++ w :: its.drop k) (ys := xs.take k ++ y :: xs.drop k) hH e ?_ ?_ ?_, rfl, q⟩
  · have hk' : (if x < 0 then (x + (its.toArray.size : Int)).toNat else min (x.toNat) its.toArray.size) = k := by
      rw [← hx, if_neg (by omega), Int.toNat_natCast, List.size_toArray]
      omega
    show (its.toArray.extract 0 _).push w ++ its.toArray.extract _ = _
    rw [hk']
    apply Array.ext'
    simp
    exact List.take_of_length_le (by rw [List.length_drop]; exact Nat.le_refl _)
  · exact Vals.append (r.take k) (.cons rw' (r.drop k))
  · rw [List.length_append, List.length_cons, List.length_take, List.length_drop]
    omega
end
end L2

end

set_option Elab.async false
set_option linter.all false
set_option maxRecDepth 100000
set_option maxHeartbeats 4000000
namespace Kc_k58
open PySem L2 PyProof.Rows
seal L2.PE L2.PA L2.PS L2.PSs L2.PT L2.PW L2.PI L2.PG L2.PGs L2.PO L2.PTL L2.OpR L2.UnR L2.CallR L2.SlR L2.IxR L2.PSet
noncomputable def top (i : Nat) : Stmt := PySem.Challenge.pw_knowcards_k58_whole_codes_exchanged.main.body.getD i (.Pass ⟨0, 0, 0, 0⟩)
noncomputable abbrev S_is_whole : Stmt := top 1
theorem sc_is_whole : FnScope ["thing"] ["thing"] (defScope S_is_whole) := ⟨rfl, rfl, rfl, by decide +kernel, rfl, by decide +kernel, by decide +kernel⟩
theorem v_is_whole_0 : VarAt ["thing"] (defScope S_is_whole) 0 "thing" := ⟨rfl, by first | exact Or.inl rfl | exact Or.inr (Or.inl rfl) | exact Or.inr (Or.inr rfl), by decide, by decide⟩
noncomputable abbrev S_is_within : Stmt := top 2
theorem sc_is_within : FnScope ["thing", "least", "most"] ["thing", "least", "most"] (defScope S_is_within) := ⟨rfl, rfl, rfl, by decide +kernel, rfl, by decide +kernel, by decide +kernel⟩
theorem v_is_within_0 : VarAt ["thing", "least", "most"] (defScope S_is_within) 0 "thing" := ⟨rfl, by first | exact Or.inl rfl | exact Or.inr (Or.inl rfl) | exact Or.inr (Or.inr rfl), by decide, by decide⟩
theorem v_is_within_1 : VarAt ["thing", "least", "most"] (defScope S_is_within) 1 "least" := ⟨rfl, by first | exact Or.inl rfl | exact Or.inr (Or.inl rfl) | exact Or.inr (Or.inr rfl), by decide, by decide⟩
theorem v_is_within_2 : VarAt ["thing", "least", "most"] (defScope S_is_within) 2 "most" := ⟨rfl, by first | exact Or.inl rfl | exact Or.inr (Or.inl rfl) | exact Or.inr (Or.inr rfl), by decide, by decide⟩
noncomputable abbrev S_is_pack : Stmt := top 11
theorem sc_is_pack : FnScope ["cards", "sizes"] ["cards", "sizes"] (defScope S_is_pack) := ⟨rfl, rfl, rfl, by decide +kernel, rfl, by decide +kernel, by decide +kernel⟩
theorem v_is_pack_0 : VarAt ["cards", "sizes"] (defScope S_is_pack) 0 "cards" := ⟨rfl, by first | exact Or.inl rfl | exact Or.inr (Or.inl rfl) | exact Or.inr (Or.inr rfl), by decide, by decide⟩
theorem v_is_pack_1 : VarAt ["cards", "sizes"] (defScope S_is_pack) 1 "sizes" := ⟨rfl, by first | exact Or.inl rfl | exact Or.inr (Or.inl rfl) | exact Or.inr (Or.inr rfl), by decide, by decide⟩
noncomputable abbrev S_how_many : Stmt := top 12
theorem sc_how_many : FnScope ["cards", "sizes", "many", "left", "size"] ["cards", "sizes"] (defScope S_how_many) := ⟨rfl, rfl, rfl, by decide +kernel, rfl, by decide +kernel, by decide +kernel⟩
theorem v_how_many_0 : VarAt ["cards", "sizes", "many", "left", "size"] (defScope S_how_many) 0 "cards" := ⟨rfl, by first | exact Or.inl rfl | exact Or.inr (Or.inl rfl) | exact Or.inr (Or.inr rfl), by decide, by decide⟩
theorem v_how_many_1 : VarAt ["cards", "sizes", "many", "left", "size"] (defScope S_how_many) 1 "sizes" := ⟨rfl, by first | exact Or.inl rfl | exact Or.inr (Or.inl rfl) | exact Or.inr (Or.inr rfl), by decide, by decide⟩
theorem v_how_many_2 : VarAt ["cards", "sizes", "many", "left", "size"] (defScope S_how_many) 2 "many" := ⟨rfl, by first | exact Or.inl rfl | exact Or.inr (Or.inl rfl) | exact Or.inr (Or.inr rfl), by decide, by decide⟩
theorem v_how_many_3 : VarAt ["cards", "sizes", "many", "left", "size"] (defScope S_how_many) 3 "left" := ⟨rfl, by first | exact Or.inl rfl | exact Or.inr (Or.inl rfl) | exact Or.inr (Or.inr rfl), by decide, by decide⟩
theorem v_how_many_4 : VarAt ["cards", "sizes", "many", "left", "size"] (defScope S_how_many) 4 "size" := ⟨rfl, by first | exact Or.inl rfl | exact Or.inr (Or.inl rfl) | exact Or.inr (Or.inr rfl), by decide, by decide⟩
noncomputable abbrev S_choices : Stmt := top 13
theorem sc_choices : FnScope ["many", "taken", "ways", "step"] ["many", "taken"] (defScope S_choices) := ⟨rfl, rfl, rfl, by decide +kernel, rfl, by decide +kernel, by decide +kernel⟩
theorem v_choices_0 : VarAt ["many", "taken", "ways", "step"] (defScope S_choices) 0 "many" := ⟨rfl, by first | exact Or.inl rfl | exact Or.inr (Or.inl rfl) | exact Or.inr (Or.inr rfl), by decide, by decide⟩
theorem v_choices_1 : VarAt ["many", "taken", "ways", "step"] (defScope S_choices) 1 "taken" := ⟨rfl, by first | exact Or.inl rfl | exact Or.inr (Or.inl rfl) | exact Or.inr (Or.inr rfl), by decide, by decide⟩
theorem v_choices_2 : VarAt ["many", "taken", "ways", "step"] (defScope S_choices) 2 "ways" := ⟨rfl, by first | exact Or.inl rfl | exact Or.inr (Or.inl rfl) | exact Or.inr (Or.inr rfl), by decide, by decide⟩
theorem v_choices_3 : VarAt ["many", "taken", "ways", "step"] (defScope S_choices) 3 "step" := ⟨rfl, by first | exact Or.inl rfl | exact Or.inr (Or.inl rfl) | exact Or.inr (Or.inr rfl), by decide, by decide⟩
noncomputable abbrev S_deals_of : Stmt := top 14
theorem sc_deals_of : FnScope ["cards", "sizes", "room", "begun", "card"] ["cards", "sizes"] (defScope S_deals_of) := ⟨rfl, rfl, rfl, by decide +kernel, rfl, by decide +kernel, by decide +kernel⟩
theorem v_deals_of_0 : VarAt ["cards", "sizes", "room", "begun", "card"] (defScope S_deals_of) 0 "cards" := ⟨rfl, by first | exact Or.inl rfl | exact Or.inr (Or.inl rfl) | exact Or.inr (Or.inr rfl), by decide, by decide⟩
theorem v_deals_of_1 : VarAt ["cards", "sizes", "room", "begun", "card"] (defScope S_deals_of) 1 "sizes" := ⟨rfl, by first | exact Or.inl rfl | exact Or.inr (Or.inl rfl) | exact Or.inr (Or.inr rfl), by decide, by decide⟩
theorem v_deals_of_2 : VarAt ["cards", "sizes", "room", "begun", "card"] (defScope S_deals_of) 2 "room" := ⟨rfl, by first | exact Or.inl rfl | exact Or.inr (Or.inl rfl) | exact Or.inr (Or.inr rfl), by decide, by decide⟩
theorem v_deals_of_3 : VarAt ["cards", "sizes", "room", "begun", "card"] (defScope S_deals_of) 3 "begun" := ⟨rfl, by first | exact Or.inl rfl | exact Or.inr (Or.inl rfl) | exact Or.inr (Or.inr rfl), by decide, by decide⟩
noncomputable abbrev S_with_one_more : Stmt := top 15
theorem sc_with_one_more : FnScope ["begun", "room", "longer", "deal", "who", "most"] ["begun", "room"] (defScope S_with_one_more) := ⟨rfl, rfl, rfl, by decide +kernel, rfl, by decide +kernel, by decide +kernel⟩
theorem v_with_one_more_0 : VarAt ["begun", "room", "longer", "deal", "who", "most"] (defScope S_with_one_more) 0 "begun" := ⟨rfl, by first | exact Or.inl rfl | exact Or.inr (Or.inl rfl) | exact Or.inr (Or.inr rfl), by decide, by decide⟩
theorem v_with_one_more_1 : VarAt ["begun", "room", "longer", "deal", "who", "most"] (defScope S_with_one_more) 1 "room" := ⟨rfl, by first | exact Or.inl rfl | exact Or.inr (Or.inl rfl) | exact Or.inr (Or.inr rfl), by decide, by decide⟩
theorem v_with_one_more_2 : VarAt ["begun", "room", "longer", "deal", "who", "most"] (defScope S_with_one_more) 2 "longer" := ⟨rfl, by first | exact Or.inl rfl | exact Or.inr (Or.inl rfl) | exact Or.inr (Or.inr rfl), by decide, by decide⟩
theorem v_with_one_more_3 : VarAt ["begun", "room", "longer", "deal", "who", "most"] (defScope S_with_one_more) 3 "deal" := ⟨rfl, by first | exact Or.inl rfl | exact Or.inr (Or.inl rfl) | exact Or.inr (Or.inr rfl), by decide, by decide⟩
theorem v_with_one_more_4 : VarAt ["begun", "room", "longer", "deal", "who", "most"] (defScope S_with_one_more) 4 "who" := ⟨rfl, by first | exact Or.inl rfl | exact Or.inr (Or.inl rfl) | exact Or.inr (Or.inr rfl), by decide, by decide⟩
theorem v_with_one_more_5 : VarAt ["begun", "room", "longer", "deal", "who", "most"] (defScope S_with_one_more) 5 "most" := ⟨rfl, by first | exact Or.inl rfl | exact Or.inr (Or.inl rfl) | exact Or.inr (Or.inr rfl), by decide, by decide⟩
noncomputable abbrev S_cards_of : Stmt := top 16
theorem sc_cards_of : FnScope ["deal", "who"] ["deal", "who"] (defScope S_cards_of) := ⟨rfl, rfl, rfl, by decide +kernel, rfl, by decide +kernel, by decide +kernel⟩
theorem v_cards_of_0 : VarAt ["deal", "who"] (defScope S_cards_of) 0 "deal" := ⟨rfl, by first | exact Or.inl rfl | exact Or.inr (Or.inl rfl) | exact Or.inr (Or.inr rfl), by decide, by decide⟩
noncomputable abbrev S_first_view : Stmt := top 18
theorem sc_first_view : FnScope ["deals", "hand"] ["deals", "hand"] (defScope S_first_view) := ⟨rfl, rfl, rfl, by decide +kernel, rfl, by decide +kernel, by decide +kernel⟩
theorem v_first_view_0 : VarAt ["deals", "hand"] (defScope S_first_view) 0 "deals" := ⟨rfl, by first | exact Or.inl rfl | exact Or.inr (Or.inl rfl) | exact Or.inr (Or.inr rfl), by decide, by decide⟩
noncomputable abbrev S_split : Stmt := top 19
theorem sc_split : FnScope ["view", "values"] ["view", "values"] (defScope S_split) := ⟨rfl, rfl, rfl, by decide +kernel, rfl, by decide +kernel, by decide +kernel⟩
theorem v_split_0 : VarAt ["view", "values"] (defScope S_split) 0 "view" := ⟨rfl, by first | exact Or.inl rfl | exact Or.inr (Or.inl rfl) | exact Or.inr (Or.inr rfl), by decide, by decide⟩
theorem v_split_1 : VarAt ["view", "values"] (defScope S_split) 1 "values" := ⟨rfl, by first | exact Or.inl rfl | exact Or.inr (Or.inl rfl) | exact Or.inr (Or.inr rfl), by decide, by decide⟩
noncomputable abbrev S_least_with_same : Stmt := top 20
theorem sc_least_with_same : FnScope ["marks", "firsts", "thing", "mark"] ["marks"] (defScope S_least_with_same) := ⟨rfl, rfl, rfl, by decide +kernel, rfl, by decide +kernel, by decide +kernel⟩
theorem v_least_with_same_0 : VarAt ["marks", "firsts", "thing", "mark"] (defScope S_least_with_same) 0 "marks" := ⟨rfl, by first | exact Or.inl rfl | exact Or.inr (Or.inl rfl) | exact Or.inr (Or.inr rfl), by decide, by decide⟩
theorem v_least_with_same_1 : VarAt ["marks", "firsts", "thing", "mark"] (defScope S_least_with_same) 1 "firsts" := ⟨rfl, by first | exact Or.inl rfl | exact Or.inr (Or.inl rfl) | exact Or.inr (Or.inr rfl), by decide, by decide⟩
theorem v_least_with_same_2 : VarAt ["marks", "firsts", "thing", "mark"] (defScope S_least_with_same) 2 "thing" := ⟨rfl, by first | exact Or.inl rfl | exact Or.inr (Or.inl rfl) | exact Or.inr (Or.inr rfl), by decide, by decide⟩
theorem v_least_with_same_3 : VarAt ["marks", "firsts", "thing", "mark"] (defScope S_least_with_same) 3 "mark" := ⟨rfl, by first | exact Or.inl rfl | exact Or.inr (Or.inl rfl) | exact Or.inr (Or.inr rfl), by decide, by decide⟩
noncomputable abbrev S_fails : Stmt := top 22
theorem sc_fails : FnScope ["cards", "sizes", "words", "a", "b", "e", "deals", "said", "others", "told", "deal"] ["cards", "sizes", "words", "a", "b", "e"] (defScope S_fails) := ⟨rfl, rfl, rfl, by decide +kernel, rfl, by decide +kernel, by decide +kernel⟩
theorem v_fails_0 : VarAt ["cards", "sizes", "words", "a", "b", "e", "deals", "said", "others", "told", "deal"] (defScope S_fails) 0 "cards" := ⟨rfl, by first | exact Or.inl rfl | exact Or.inr (Or.inl rfl) | exact Or.inr (Or.inr rfl), by decide, by decide⟩
theorem v_fails_1 : VarAt ["cards", "sizes", "words", "a", "b", "e", "deals", "said", "others", "told", "deal"] (defScope S_fails) 1 "sizes" := ⟨rfl, by first | exact Or.inl rfl | exact Or.inr (Or.inl rfl) | exact Or.inr (Or.inr rfl), by decide, by decide⟩
theorem v_fails_2 : VarAt ["cards", "sizes", "words", "a", "b", "e", "deals", "said", "others", "told", "deal"] (defScope S_fails) 2 "words" := ⟨rfl, by first | exact Or.inl rfl | exact Or.inr (Or.inl rfl) | exact Or.inr (Or.inr rfl), by decide, by decide⟩
theorem v_fails_3 : VarAt ["cards", "sizes", "words", "a", "b", "e", "deals", "said", "others", "told", "deal"] (defScope S_fails) 3 "a" := ⟨rfl, by first | exact Or.inl rfl | exact Or.inr (Or.inl rfl) | exact Or.inr (Or.inr rfl), by decide, by decide⟩
theorem v_fails_4 : VarAt ["cards", "sizes", "words", "a", "b", "e", "deals", "said", "others", "told", "deal"] (defScope S_fails) 4 "b" := ⟨rfl, by first | exact Or.inl rfl | exact Or.inr (Or.inl rfl) | exact Or.inr (Or.inr rfl), by decide, by decide⟩
theorem v_fails_5 : VarAt ["cards", "sizes", "words", "a", "b", "e", "deals", "said", "others", "told", "deal"] (defScope S_fails) 5 "e" := ⟨rfl, by first | exact Or.inl rfl | exact Or.inr (Or.inl rfl) | exact Or.inr (Or.inr rfl), by decide, by decide⟩
theorem v_fails_6 : VarAt ["cards", "sizes", "words", "a", "b", "e", "deals", "said", "others", "told", "deal"] (defScope S_fails) 6 "deals" := ⟨rfl, by first | exact Or.inl rfl | exact Or.inr (Or.inl rfl) | exact Or.inr (Or.inr rfl), by decide, by decide⟩
theorem v_fails_7 : VarAt ["cards", "sizes", "words", "a", "b", "e", "deals", "said", "others", "told", "deal"] (defScope S_fails) 7 "said" := ⟨rfl, by first | exact Or.inl rfl | exact Or.inr (Or.inl rfl) | exact Or.inr (Or.inr rfl), by decide, by decide⟩
theorem v_fails_8 : VarAt ["cards", "sizes", "words", "a", "b", "e", "deals", "said", "others", "told", "deal"] (defScope S_fails) 8 "others" := ⟨rfl, by first | exact Or.inl rfl | exact Or.inr (Or.inl rfl) | exact Or.inr (Or.inr rfl), by decide, by decide⟩
theorem v_fails_9 : VarAt ["cards", "sizes", "words", "a", "b", "e", "deals", "said", "others", "told", "deal"] (defScope S_fails) 9 "told" := ⟨rfl, by first | exact Or.inl rfl | exact Or.inr (Or.inl rfl) | exact Or.inr (Or.inr rfl), by decide, by decide⟩
theorem v_fails_10 : VarAt ["cards", "sizes", "words", "a", "b", "e", "deals", "said", "others", "told", "deal"] (defScope S_fails) 10 "deal" := ⟨rfl, by first | exact Or.inl rfl | exact Or.inr (Or.inl rfl) | exact Or.inr (Or.inr rfl), by decide, by decide⟩
noncomputable abbrev S_words_said : Stmt := top 23
theorem sc_words_said : FnScope ["deals", "words", "a", "numbers", "number", "word", "holding"] ["deals", "words", "a"] (defScope S_words_said) := ⟨rfl, rfl, rfl, by decide +kernel, rfl, by decide +kernel, by decide +kernel⟩
theorem v_words_said_0 : VarAt ["deals", "words", "a", "numbers", "number", "word", "holding"] (defScope S_words_said) 0 "deals" := ⟨rfl, by first | exact Or.inl rfl | exact Or.inr (Or.inl rfl) | exact Or.inr (Or.inr rfl), by decide, by decide⟩
theorem v_words_said_1 : VarAt ["deals", "words", "a", "numbers", "number", "word", "holding"] (defScope S_words_said) 1 "words" := ⟨rfl, by first | exact Or.inl rfl | exact Or.inr (Or.inl rfl) | exact Or.inr (Or.inr rfl), by decide, by decide⟩
theorem v_words_said_3 : VarAt ["deals", "words", "a", "numbers", "number", "word", "holding"] (defScope S_words_said) 3 "numbers" := ⟨rfl, by first | exact Or.inl rfl | exact Or.inr (Or.inl rfl) | exact Or.inr (Or.inr rfl), by decide, by decide⟩
theorem v_words_said_4 : VarAt ["deals", "words", "a", "numbers", "number", "word", "holding"] (defScope S_words_said) 4 "number" := ⟨rfl, by first | exact Or.inl rfl | exact Or.inr (Or.inl rfl) | exact Or.inr (Or.inr rfl), by decide, by decide⟩
theorem v_words_said_5 : VarAt ["deals", "words", "a", "numbers", "number", "word", "holding"] (defScope S_words_said) 5 "word" := ⟨rfl, by first | exact Or.inl rfl | exact Or.inr (Or.inl rfl) | exact Or.inr (Or.inr rfl), by decide, by decide⟩
theorem v_words_said_6 : VarAt ["deals", "words", "a", "numbers", "number", "word", "holding"] (defScope S_words_said) 6 "holding" := ⟨rfl, by first | exact Or.inl rfl | exact Or.inr (Or.inl rfl) | exact Or.inr (Or.inr rfl), by decide, by decide⟩
noncomputable abbrev S_least_unlike : Stmt := top 24
theorem sc_least_unlike : FnScope ["view", "other_view", "unlike", "thing", "least"] ["view", "other_view"] (defScope S_least_unlike) := ⟨rfl, rfl, rfl, by decide +kernel, rfl, by decide +kernel, by decide +kernel⟩
theorem v_least_unlike_0 : VarAt ["view", "other_view", "unlike", "thing", "least"] (defScope S_least_unlike) 0 "view" := ⟨rfl, by first | exact Or.inl rfl | exact Or.inr (Or.inl rfl) | exact Or.inr (Or.inr rfl), by decide, by decide⟩
theorem v_least_unlike_1 : VarAt ["view", "other_view", "unlike", "thing", "least"] (defScope S_least_unlike) 1 "other_view" := ⟨rfl, by first | exact Or.inl rfl | exact Or.inr (Or.inl rfl) | exact Or.inr (Or.inr rfl), by decide, by decide⟩
theorem v_least_unlike_2 : VarAt ["view", "other_view", "unlike", "thing", "least"] (defScope S_least_unlike) 2 "unlike" := ⟨rfl, by first | exact Or.inl rfl | exact Or.inr (Or.inl rfl) | exact Or.inr (Or.inr rfl), by decide, by decide⟩
theorem v_least_unlike_3 : VarAt ["view", "other_view", "unlike", "thing", "least"] (defScope S_least_unlike) 3 "thing" := ⟨rfl, by first | exact Or.inl rfl | exact Or.inr (Or.inl rfl) | exact Or.inr (Or.inr rfl), by decide, by decide⟩
theorem v_least_unlike_4 : VarAt ["view", "other_view", "unlike", "thing", "least"] (defScope S_least_unlike) 4 "least" := ⟨rfl, by first | exact Or.inl rfl | exact Or.inr (Or.inl rfl) | exact Or.inr (Or.inr rfl), by decide, by decide⟩
noncomputable abbrev S_least_told : Stmt := top 25
theorem sc_least_told : FnScope ["deals", "view", "e", "moved", "deal", "least", "card", "holder"] ["deals", "view", "e"] (defScope S_least_told) := ⟨rfl, rfl, rfl, by decide +kernel, rfl, by decide +kernel, by decide +kernel⟩
theorem v_least_told_0 : VarAt ["deals", "view", "e", "moved", "deal", "least", "card", "holder"] (defScope S_least_told) 0 "deals" := ⟨rfl, by first | exact Or.inl rfl | exact Or.inr (Or.inl rfl) | exact Or.inr (Or.inr rfl), by decide, by decide⟩
theorem v_least_told_1 : VarAt ["deals", "view", "e", "moved", "deal", "least", "card", "holder"] (defScope S_least_told) 1 "view" := ⟨rfl, by first | exact Or.inl rfl | exact Or.inr (Or.inl rfl) | exact Or.inr (Or.inr rfl), by decide, by decide⟩
theorem v_least_told_3 : VarAt ["deals", "view", "e", "moved", "deal", "least", "card", "holder"] (defScope S_least_told) 3 "moved" := ⟨rfl, by first | exact Or.inl rfl | exact Or.inr (Or.inl rfl) | exact Or.inr (Or.inr rfl), by decide, by decide⟩
theorem v_least_told_4 : VarAt ["deals", "view", "e", "moved", "deal", "least", "card", "holder"] (defScope S_least_told) 4 "deal" := ⟨rfl, by first | exact Or.inl rfl | exact Or.inr (Or.inl rfl) | exact Or.inr (Or.inr rfl), by decide, by decide⟩
theorem v_least_told_5 : VarAt ["deals", "view", "e", "moved", "deal", "least", "card", "holder"] (defScope S_least_told) 5 "least" := ⟨rfl, by first | exact Or.inl rfl | exact Or.inr (Or.inl rfl) | exact Or.inr (Or.inr rfl), by decide, by decide⟩
theorem v_least_told_6 : VarAt ["deals", "view", "e", "moved", "deal", "least", "card", "holder"] (defScope S_least_told) 6 "card" := ⟨rfl, by first | exact Or.inl rfl | exact Or.inr (Or.inl rfl) | exact Or.inr (Or.inr rfl), by decide, by decide⟩
theorem v_least_told_7 : VarAt ["deals", "view", "e", "moved", "deal", "least", "card", "holder"] (defScope S_least_told) 7 "holder" := ⟨rfl, by first | exact Or.inl rfl | exact Or.inr (Or.inl rfl) | exact Or.inr (Or.inr rfl), by decide, by decide⟩
noncomputable abbrev S_least_unmoved : Stmt := top 26
theorem sc_least_unmoved : FnScope ["deal", "least", "moved", "e", "card", "holder"] ["deal", "least", "moved", "e"] (defScope S_least_unmoved) := ⟨rfl, rfl, rfl, by decide +kernel, rfl, by decide +kernel, by decide +kernel⟩
theorem v_least_unmoved_0 : VarAt ["deal", "least", "moved", "e", "card", "holder"] (defScope S_least_unmoved) 0 "deal" := ⟨rfl, by first | exact Or.inl rfl | exact Or.inr (Or.inl rfl) | exact Or.inr (Or.inr rfl), by decide, by decide⟩
theorem v_least_unmoved_1 : VarAt ["deal", "least", "moved", "e", "card", "holder"] (defScope S_least_unmoved) 1 "least" := ⟨rfl, by first | exact Or.inl rfl | exact Or.inr (Or.inl rfl) | exact Or.inr (Or.inr rfl), by decide, by decide⟩
theorem v_least_unmoved_2 : VarAt ["deal", "least", "moved", "e", "card", "holder"] (defScope S_least_unmoved) 2 "moved" := ⟨rfl, by first | exact Or.inl rfl | exact Or.inr (Or.inl rfl) | exact Or.inr (Or.inr rfl), by decide, by decide⟩
theorem v_least_unmoved_3 : VarAt ["deal", "least", "moved", "e", "card", "holder"] (defScope S_least_unmoved) 3 "e" := ⟨rfl, by first | exact Or.inl rfl | exact Or.inr (Or.inl rfl) | exact Or.inr (Or.inr rfl), by decide, by decide⟩
theorem v_least_unmoved_4 : VarAt ["deal", "least", "moved", "e", "card", "holder"] (defScope S_least_unmoved) 4 "card" := ⟨rfl, by first | exact Or.inl rfl | exact Or.inr (Or.inl rfl) | exact Or.inr (Or.inr rfl), by decide, by decide⟩
theorem v_least_unmoved_5 : VarAt ["deal", "least", "moved", "e", "card", "holder"] (defScope S_least_unmoved) 5 "holder" := ⟨rfl, by first | exact Or.inl rfl | exact Or.inr (Or.inl rfl) | exact Or.inr (Or.inr rfl), by decide, by decide⟩
noncomputable abbrev S__law_cell : Stmt := top 28
theorem sc__law_cell : FnScope ["_law_script", "_law_k", "_law_number"] ["_law_script", "_law_k"] (defScope S__law_cell) := ⟨rfl, rfl, rfl, by decide +kernel, rfl, by decide +kernel, by decide +kernel⟩
theorem v__law_cell_0 : VarAt ["_law_script", "_law_k", "_law_number"] (defScope S__law_cell) 0 "_law_script" := ⟨rfl, by first | exact Or.inl rfl | exact Or.inr (Or.inl rfl) | exact Or.inr (Or.inr rfl), by decide, by decide⟩
theorem v__law_cell_1 : VarAt ["_law_script", "_law_k", "_law_number"] (defScope S__law_cell) 1 "_law_k" := ⟨rfl, by first | exact Or.inl rfl | exact Or.inr (Or.inl rfl) | exact Or.inr (Or.inr rfl), by decide, by decide⟩
theorem v__law_cell_2 : VarAt ["_law_script", "_law_k", "_law_number"] (defScope S__law_cell) 2 "_law_number" := ⟨rfl, by first | exact Or.inl rfl | exact Or.inr (Or.inl rfl) | exact Or.inr (Or.inr rfl), by decide, by decide⟩
noncomputable abbrev S__law_mixed : Stmt := top 29
theorem sc__law_mixed : FnScope ["_law_cell_here", "_law_k", "_law_number"] ["_law_cell_here", "_law_k"] (defScope S__law_mixed) := ⟨rfl, rfl, rfl, by decide +kernel, rfl, by decide +kernel, by decide +kernel⟩
theorem v__law_mixed_0 : VarAt ["_law_cell_here", "_law_k", "_law_number"] (defScope S__law_mixed) 0 "_law_cell_here" := ⟨rfl, by first | exact Or.inl rfl | exact Or.inr (Or.inl rfl) | exact Or.inr (Or.inr rfl), by decide, by decide⟩
theorem v__law_mixed_1 : VarAt ["_law_cell_here", "_law_k", "_law_number"] (defScope S__law_mixed) 1 "_law_k" := ⟨rfl, by first | exact Or.inl rfl | exact Or.inr (Or.inl rfl) | exact Or.inr (Or.inr rfl), by decide, by decide⟩
theorem v__law_mixed_2 : VarAt ["_law_cell_here", "_law_k", "_law_number"] (defScope S__law_mixed) 2 "_law_number" := ⟨rfl, by first | exact Or.inl rfl | exact Or.inr (Or.inl rfl) | exact Or.inr (Or.inr rfl), by decide, by decide⟩
noncomputable abbrev S__law_pack : Stmt := top 30
theorem sc__law_pack : FnScope ["_law_cell_here", "_law_some", "_law_cards", "_law_sizes", "_law_at"] ["_law_cell_here"] (defScope S__law_pack) := ⟨rfl, rfl, rfl, by decide +kernel, rfl, by decide +kernel, by decide +kernel⟩
theorem v__law_pack_0 : VarAt ["_law_cell_here", "_law_some", "_law_cards", "_law_sizes", "_law_at"] (defScope S__law_pack) 0 "_law_cell_here" := ⟨rfl, by first | exact Or.inl rfl | exact Or.inr (Or.inl rfl) | exact Or.inr (Or.inr rfl), by decide, by decide⟩
theorem v__law_pack_1 : VarAt ["_law_cell_here", "_law_some", "_law_cards", "_law_sizes", "_law_at"] (defScope S__law_pack) 1 "_law_some" := ⟨rfl, by first | exact Or.inl rfl | exact Or.inr (Or.inl rfl) | exact Or.inr (Or.inr rfl), by decide, by decide⟩
theorem v__law_pack_2 : VarAt ["_law_cell_here", "_law_some", "_law_cards", "_law_sizes", "_law_at"] (defScope S__law_pack) 2 "_law_cards" := ⟨rfl, by first | exact Or.inl rfl | exact Or.inr (Or.inl rfl) | exact Or.inr (Or.inr rfl), by decide, by decide⟩
theorem v__law_pack_3 : VarAt ["_law_cell_here", "_law_some", "_law_cards", "_law_sizes", "_law_at"] (defScope S__law_pack) 3 "_law_sizes" := ⟨rfl, by first | exact Or.inl rfl | exact Or.inr (Or.inl rfl) | exact Or.inr (Or.inr rfl), by decide, by decide⟩
theorem v__law_pack_4 : VarAt ["_law_cell_here", "_law_some", "_law_cards", "_law_sizes", "_law_at"] (defScope S__law_pack) 4 "_law_at" := ⟨rfl, by first | exact Or.inl rfl | exact Or.inr (Or.inl rfl) | exact Or.inr (Or.inr rfl), by decide, by decide⟩
noncomputable abbrev S__law_holdings : Stmt := top 31
theorem sc__law_holdings : FnScope ["_law_cards", "_law_size", "_law_found", "_law_bits", "_law_held"] ["_law_cards", "_law_size"] (defScope S__law_holdings) := ⟨rfl, rfl, rfl, by decide +kernel, rfl, by decide +kernel, by decide +kernel⟩
theorem v__law_holdings_0 : VarAt ["_law_cards", "_law_size", "_law_found", "_law_bits", "_law_held"] (defScope S__law_holdings) 0 "_law_cards" := ⟨rfl, by first | exact Or.inl rfl | exact Or.inr (Or.inl rfl) | exact Or.inr (Or.inr rfl), by decide, by decide⟩
theorem v__law_holdings_1 : VarAt ["_law_cards", "_law_size", "_law_found", "_law_bits", "_law_held"] (defScope S__law_holdings) 1 "_law_size" := ⟨rfl, by first | exact Or.inl rfl | exact Or.inr (Or.inl rfl) | exact Or.inr (Or.inr rfl), by decide, by decide⟩
theorem v__law_holdings_2 : VarAt ["_law_cards", "_law_size", "_law_found", "_law_bits", "_law_held"] (defScope S__law_holdings) 2 "_law_found" := ⟨rfl, by first | exact Or.inl rfl | exact Or.inr (Or.inl rfl) | exact Or.inr (Or.inr rfl), by decide, by decide⟩
theorem v__law_holdings_4 : VarAt ["_law_cards", "_law_size", "_law_found", "_law_bits", "_law_held"] (defScope S__law_holdings) 4 "_law_held" := ⟨rfl, by first | exact Or.inl rfl | exact Or.inr (Or.inl rfl) | exact Or.inr (Or.inr rfl), by decide, by decide⟩
noncomputable abbrev S__law_lists : Stmt := top 32
theorem sc__law_lists : FnScope ["_law_cell_here", "_law_holdings_here", "_law_cards", "_law_many", "_law_made", "_law_k", "_law_number"] ["_law_cell_here", "_law_holdings_here", "_law_cards"] (defScope S__law_lists) := ⟨rfl, rfl, rfl, by decide +kernel, rfl, by decide +kernel, by decide +kernel⟩
theorem v__law_lists_0 : VarAt ["_law_cell_here", "_law_holdings_here", "_law_cards", "_law_many", "_law_made", "_law_k", "_law_number"] (defScope S__law_lists) 0 "_law_cell_here" := ⟨rfl, by first | exact Or.inl rfl | exact Or.inr (Or.inl rfl) | exact Or.inr (Or.inr rfl), by decide, by decide⟩
theorem v__law_lists_1 : VarAt ["_law_cell_here", "_law_holdings_here", "_law_cards", "_law_many", "_law_made", "_law_k", "_law_number"] (defScope S__law_lists) 1 "_law_holdings_here" := ⟨rfl, by first | exact Or.inl rfl | exact Or.inr (Or.inl rfl) | exact Or.inr (Or.inr rfl), by decide, by decide⟩
theorem v__law_lists_2 : VarAt ["_law_cell_here", "_law_holdings_here", "_law_cards", "_law_many", "_law_made", "_law_k", "_law_number"] (defScope S__law_lists) 2 "_law_cards" := ⟨rfl, by first | exact Or.inl rfl | exact Or.inr (Or.inl rfl) | exact Or.inr (Or.inr rfl), by decide, by decide⟩
theorem v__law_lists_3 : VarAt ["_law_cell_here", "_law_holdings_here", "_law_cards", "_law_many", "_law_made", "_law_k", "_law_number"] (defScope S__law_lists) 3 "_law_many" := ⟨rfl, by first | exact Or.inl rfl | exact Or.inr (Or.inl rfl) | exact Or.inr (Or.inr rfl), by decide, by decide⟩
theorem v__law_lists_4 : VarAt ["_law_cell_here", "_law_holdings_here", "_law_cards", "_law_many", "_law_made", "_law_k", "_law_number"] (defScope S__law_lists) 4 "_law_made" := ⟨rfl, by first | exact Or.inl rfl | exact Or.inr (Or.inl rfl) | exact Or.inr (Or.inr rfl), by decide, by decide⟩
theorem v__law_lists_5 : VarAt ["_law_cell_here", "_law_holdings_here", "_law_cards", "_law_many", "_law_made", "_law_k", "_law_number"] (defScope S__law_lists) 5 "_law_k" := ⟨rfl, by first | exact Or.inl rfl | exact Or.inr (Or.inl rfl) | exact Or.inr (Or.inr rfl), by decide, by decide⟩
theorem v__law_lists_6 : VarAt ["_law_cell_here", "_law_holdings_here", "_law_cards", "_law_many", "_law_made", "_law_k", "_law_number"] (defScope S__law_lists) 6 "_law_number" := ⟨rfl, by first | exact Or.inl rfl | exact Or.inr (Or.inl rfl) | exact Or.inr (Or.inr rfl), by decide, by decide⟩
noncomputable abbrev S__law_three : Stmt := top 33
theorem sc__law_three : FnScope ["_law_cell_here", "_law_many", "_law_left", "_law_found", "_law_k"] ["_law_cell_here", "_law_many"] (defScope S__law_three) := ⟨rfl, rfl, rfl, by decide +kernel, rfl, by decide +kernel, by decide +kernel⟩
theorem v__law_three_0 : VarAt ["_law_cell_here", "_law_many", "_law_left", "_law_found", "_law_k"] (defScope S__law_three) 0 "_law_cell_here" := ⟨rfl, by first | exact Or.inl rfl | exact Or.inr (Or.inl rfl) | exact Or.inr (Or.inr rfl), by decide, by decide⟩
theorem v__law_three_1 : VarAt ["_law_cell_here", "_law_many", "_law_left", "_law_found", "_law_k"] (defScope S__law_three) 1 "_law_many" := ⟨rfl, by first | exact Or.inl rfl | exact Or.inr (Or.inl rfl) | exact Or.inr (Or.inr rfl), by decide, by decide⟩
theorem v__law_three_2 : VarAt ["_law_cell_here", "_law_many", "_law_left", "_law_found", "_law_k"] (defScope S__law_three) 2 "_law_left" := ⟨rfl, by first | exact Or.inl rfl | exact Or.inr (Or.inl rfl) | exact Or.inr (Or.inr rfl), by decide, by decide⟩
theorem v__law_three_3 : VarAt ["_law_cell_here", "_law_many", "_law_left", "_law_found", "_law_k"] (defScope S__law_three) 3 "_law_found" := ⟨rfl, by first | exact Or.inl rfl | exact Or.inr (Or.inl rfl) | exact Or.inr (Or.inr rfl), by decide, by decide⟩
noncomputable abbrev S__law_order : Stmt := top 34
theorem sc__law_order : FnScope ["_law_cell_here", "_law_many", "_law_order_here", "_law_k"] ["_law_cell_here", "_law_many"] (defScope S__law_order) := ⟨rfl, rfl, rfl, by decide +kernel, rfl, by decide +kernel, by decide +kernel⟩
theorem v__law_order_0 : VarAt ["_law_cell_here", "_law_many", "_law_order_here", "_law_k"] (defScope S__law_order) 0 "_law_cell_here" := ⟨rfl, by first | exact Or.inl rfl | exact Or.inr (Or.inl rfl) | exact Or.inr (Or.inr rfl), by decide, by decide⟩
theorem v__law_order_1 : VarAt ["_law_cell_here", "_law_many", "_law_order_here", "_law_k"] (defScope S__law_order) 1 "_law_many" := ⟨rfl, by first | exact Or.inl rfl | exact Or.inr (Or.inl rfl) | exact Or.inr (Or.inr rfl), by decide, by decide⟩
theorem v__law_order_2 : VarAt ["_law_cell_here", "_law_many", "_law_order_here", "_law_k"] (defScope S__law_order) 2 "_law_order_here" := ⟨rfl, by first | exact Or.inl rfl | exact Or.inr (Or.inl rfl) | exact Or.inr (Or.inr rfl), by decide, by decide⟩
theorem v__law_order_3 : VarAt ["_law_cell_here", "_law_many", "_law_order_here", "_law_k"] (defScope S__law_order) 3 "_law_k" := ⟨rfl, by first | exact Or.inl rfl | exact Or.inr (Or.inl rfl) | exact Or.inr (Or.inr rfl), by decide, by decide⟩
noncomputable abbrev S__law_exchanged : Stmt := top 35
theorem sc__law_exchanged : FnScope ["_law_lists_here", "_law_order_here", "_law_made", "_law_some"] ["_law_lists_here", "_law_order_here"] (defScope S__law_exchanged) := ⟨rfl, rfl, rfl, by decide +kernel, rfl, by decide +kernel, by decide +kernel⟩
theorem v__law_exchanged_0 : VarAt ["_law_lists_here", "_law_order_here", "_law_made", "_law_some"] (defScope S__law_exchanged) 0 "_law_lists_here" := ⟨rfl, by first | exact Or.inl rfl | exact Or.inr (Or.inl rfl) | exact Or.inr (Or.inr rfl), by decide, by decide⟩
theorem v__law_exchanged_2 : VarAt ["_law_lists_here", "_law_order_here", "_law_made", "_law_some"] (defScope S__law_exchanged) 2 "_law_made" := ⟨rfl, by first | exact Or.inl rfl | exact Or.inr (Or.inl rfl) | exact Or.inr (Or.inr rfl), by decide, by decide⟩
theorem v__law_exchanged_3 : VarAt ["_law_lists_here", "_law_order_here", "_law_made", "_law_some"] (defScope S__law_exchanged) 3 "_law_some" := ⟨rfl, by first | exact Or.inl rfl | exact Or.inr (Or.inl rfl) | exact Or.inr (Or.inr rfl), by decide, by decide⟩
noncomputable abbrev S__law_fails : Stmt := top 36
theorem sc__law_fails : FnScope ["_law_cards", "_law_sizes", "_law_lists_here", "_law_hands"] ["_law_cards", "_law_sizes", "_law_lists_here", "_law_hands"] (defScope S__law_fails) := ⟨rfl, rfl, rfl, by decide +kernel, rfl, by decide +kernel, by decide +kernel⟩
theorem v__law_fails_0 : VarAt ["_law_cards", "_law_sizes", "_law_lists_here", "_law_hands"] (defScope S__law_fails) 0 "_law_cards" := ⟨rfl, by first | exact Or.inl rfl | exact Or.inr (Or.inl rfl) | exact Or.inr (Or.inr rfl), by decide, by decide⟩
theorem v__law_fails_1 : VarAt ["_law_cards", "_law_sizes", "_law_lists_here", "_law_hands"] (defScope S__law_fails) 1 "_law_sizes" := ⟨rfl, by first | exact Or.inl rfl | exact Or.inr (Or.inl rfl) | exact Or.inr (Or.inr rfl), by decide, by decide⟩
theorem v__law_fails_2 : VarAt ["_law_cards", "_law_sizes", "_law_lists_here", "_law_hands"] (defScope S__law_fails) 2 "_law_lists_here" := ⟨rfl, by first | exact Or.inl rfl | exact Or.inr (Or.inl rfl) | exact Or.inr (Or.inr rfl), by decide, by decide⟩
theorem v__law_fails_3 : VarAt ["_law_cards", "_law_sizes", "_law_lists_here", "_law_hands"] (defScope S__law_fails) 3 "_law_hands" := ⟨rfl, by first | exact Or.inl rfl | exact Or.inr (Or.inl rfl) | exact Or.inr (Or.inr rfl), by decide, by decide⟩
noncomputable abbrev S_law : Stmt := top 37
theorem sc_law : FnScope ["_law_script", "_law_cell_here", "_law_cards", "_law_sizes", "_law_hands", "_law_way", "_law_lists_here", "_law_found", "_law_order_here", "_law_turned", "_law_row", "_law_other", "_law_moved"] ["_law_script"] (defScope S_law) := ⟨rfl, rfl, rfl, by decide +kernel, rfl, by decide +kernel, by decide +kernel⟩
theorem v_law_0 : VarAt ["_law_script", "_law_cell_here", "_law_cards", "_law_sizes", "_law_hands", "_law_way", "_law_lists_here", "_law_found", "_law_order_here", "_law_turned", "_law_row", "_law_other", "_law_moved"] (defScope S_law) 0 "_law_script" := ⟨rfl, by first | exact Or.inl rfl | exact Or.inr (Or.inl rfl) | exact Or.inr (Or.inr rfl), by decide, by decide⟩
theorem v_law_1 : VarAt ["_law_script", "_law_cell_here", "_law_cards", "_law_sizes", "_law_hands", "_law_way", "_law_lists_here", "_law_found", "_law_order_here", "_law_turned", "_law_row", "_law_other", "_law_moved"] (defScope S_law) 1 "_law_cell_here" := ⟨rfl, by first | exact Or.inl rfl | exact Or.inr (Or.inl rfl) | exact Or.inr (Or.inr rfl), by decide, by decide⟩
theorem v_law_2 : VarAt ["_law_script", "_law_cell_here", "_law_cards", "_law_sizes", "_law_hands", "_law_way", "_law_lists_here", "_law_found", "_law_order_here", "_law_turned", "_law_row", "_law_other", "_law_moved"] (defScope S_law) 2 "_law_cards" := ⟨rfl, by first | exact Or.inl rfl | exact Or.inr (Or.inl rfl) | exact Or.inr (Or.inr rfl), by decide, by decide⟩
theorem v_law_3 : VarAt ["_law_script", "_law_cell_here", "_law_cards", "_law_sizes", "_law_hands", "_law_way", "_law_lists_here", "_law_found", "_law_order_here", "_law_turned", "_law_row", "_law_other", "_law_moved"] (defScope S_law) 3 "_law_sizes" := ⟨rfl, by first | exact Or.inl rfl | exact Or.inr (Or.inl rfl) | exact Or.inr (Or.inr rfl), by decide, by decide⟩
theorem v_law_4 : VarAt ["_law_script", "_law_cell_here", "_law_cards", "_law_sizes", "_law_hands", "_law_way", "_law_lists_here", "_law_found", "_law_order_here", "_law_turned", "_law_row", "_law_other", "_law_moved"] (defScope S_law) 4 "_law_hands" := ⟨rfl, by first | exact Or.inl rfl | exact Or.inr (Or.inl rfl) | exact Or.inr (Or.inr rfl), by decide, by decide⟩
theorem v_law_5 : VarAt ["_law_script", "_law_cell_here", "_law_cards", "_law_sizes", "_law_hands", "_law_way", "_law_lists_here", "_law_found", "_law_order_here", "_law_turned", "_law_row", "_law_other", "_law_moved"] (defScope S_law) 5 "_law_way" := ⟨rfl, by first | exact Or.inl rfl | exact Or.inr (Or.inl rfl) | exact Or.inr (Or.inr rfl), by decide, by decide⟩
theorem v_law_6 : VarAt ["_law_script", "_law_cell_here", "_law_cards", "_law_sizes", "_law_hands", "_law_way", "_law_lists_here", "_law_found", "_law_order_here", "_law_turned", "_law_row", "_law_other", "_law_moved"] (defScope S_law) 6 "_law_lists_here" := ⟨rfl, by first | exact Or.inl rfl | exact Or.inr (Or.inl rfl) | exact Or.inr (Or.inr rfl), by decide, by decide⟩
theorem v_law_7 : VarAt ["_law_script", "_law_cell_here", "_law_cards", "_law_sizes", "_law_hands", "_law_way", "_law_lists_here", "_law_found", "_law_order_here", "_law_turned", "_law_row", "_law_other", "_law_moved"] (defScope S_law) 7 "_law_found" := ⟨rfl, by first | exact Or.inl rfl | exact Or.inr (Or.inl rfl) | exact Or.inr (Or.inr rfl), by decide, by decide⟩
theorem v_law_8 : VarAt ["_law_script", "_law_cell_here", "_law_cards", "_law_sizes", "_law_hands", "_law_way", "_law_lists_here", "_law_found", "_law_order_here", "_law_turned", "_law_row", "_law_other", "_law_moved"] (defScope S_law) 8 "_law_order_here" := ⟨rfl, by first | exact Or.inl rfl | exact Or.inr (Or.inl rfl) | exact Or.inr (Or.inr rfl), by decide, by decide⟩
theorem v_law_9 : VarAt ["_law_script", "_law_cell_here", "_law_cards", "_law_sizes", "_law_hands", "_law_way", "_law_lists_here", "_law_found", "_law_order_here", "_law_turned", "_law_row", "_law_other", "_law_moved"] (defScope S_law) 9 "_law_turned" := ⟨rfl, by first | exact Or.inl rfl | exact Or.inr (Or.inl rfl) | exact Or.inr (Or.inr rfl), by decide, by decide⟩
theorem v_law_10 : VarAt ["_law_script", "_law_cell_here", "_law_cards", "_law_sizes", "_law_hands", "_law_way", "_law_lists_here", "_law_found", "_law_order_here", "_law_turned", "_law_row", "_law_other", "_law_moved"] (defScope S_law) 10 "_law_row" := ⟨rfl, by first | exact Or.inl rfl | exact Or.inr (Or.inl rfl) | exact Or.inr (Or.inr rfl), by decide, by decide⟩
theorem v_law_11 : VarAt ["_law_script", "_law_cell_here", "_law_cards", "_law_sizes", "_law_hands", "_law_way", "_law_lists_here", "_law_found", "_law_order_here", "_law_turned", "_law_row", "_law_other", "_law_moved"] (defScope S_law) 11 "_law_other" := ⟨rfl, by first | exact Or.inl rfl | exact Or.inr (Or.inl rfl) | exact Or.inr (Or.inr rfl), by decide, by decide⟩
theorem v_law_12 : VarAt ["_law_script", "_law_cell_here", "_law_cards", "_law_sizes", "_law_hands", "_law_way", "_law_lists_here", "_law_found", "_law_order_here", "_law_turned", "_law_row", "_law_other", "_law_moved"] (defScope S_law) 12 "_law_moved" := ⟨rfl, by first | exact Or.inl rfl | exact Or.inr (Or.inl rfl) | exact Or.inr (Or.inr rfl), by decide, by decide⟩
section
variable {P : Program} {w : World} {K : PySem.W.Frag} {mg : Str → Option Value} {base : Heap}
theorem ok_is_whole {f : Addr} {fd : FuncData} (D : Def K mg "is_whole" S_is_whole ["thing"] f fd) (B : Blt mg) : FnB P w K mg base 1 "is_whole" ["thing"] (sp_is_whole K) := by
  refine D.ok sc_is_whole (fun vs H Q E h => len_is_whole h) (fun cdv A outer s H vs Q E hr h => ?_)
  have hu := hr.units0
  have hux := hr.units64
  exact ⟨t_is_whole K, (pss_one (ps_ret (pe_and (pe_callB call_isi rfl B.isinstance boot_isinstance (pac_Name (pvQ v_is_whole_0 rfl rfl) (pac_Name (pe_bltn (v := .ty "int") rfl B.int boot_int rfl) pa_nil))) (pe_one (pe_not (pe_callB call_isi rfl B.isinstance boot_isinstance (pac_Name (pvQ v_is_whole_0 rfl rfl) (pac_Name (pe_bltn (v := .ty "bool") rfl B.bool boot_bool rfl) pa_nil)))))))), rd_is_whole h⟩
theorem ok_is_within {f : Addr} {fd : FuncData} (D : Def K mg "is_within" S_is_within ["thing", "least", "most"] f fd) (B : Blt mg) (F_is_whole : FnB P w K mg base 1 "is_whole" ["thing"] (sp_is_whole K)) : FnB P w K mg base 2 "is_within" ["thing", "least", "most"] (sp_is_within K) := by
  refine D.ok sc_is_within (fun vs H Q E h => len_is_within h) (fun cdv A outer s H vs Q E hr h => ?_)
  have hu := hr.units0
  have hux := hr.units64
  exact ⟨t_is_within K, (pss_one (ps_ret (pe_and (pe_callF F_is_whole (hr.mono (by decide)) (pac_Name (pvQ v_is_within_0 rfl rfl) pa_nil)) (pe_one (pe_chain op_le op_le (pvQ v_is_within_1 rfl rfl) (pvQ v_is_within_0 rfl rfl) (pvQ v_is_within_2 rfl rfl)))))), rd_is_within h⟩
theorem ok_is_pack {f : Addr} {fd : FuncData} (D : Def K mg "is_pack" S_is_pack ["cards", "sizes"] f fd) (B : Blt mg) {t_MOST_CARDS : Tok} (m_MOST_CARDS : mg "MOST_CARDS" = some (.int 12 t_MOST_CARDS)) {t_MOST_HANDS : Tok} (m_MOST_HANDS : mg "MOST_HANDS" = some (.int 5 t_MOST_HANDS)) (F_is_within : FnB P w K mg base 2 "is_within" ["thing", "least", "most"] (sp_is_within K)) : FnB P w K mg base 3 "is_pack" ["cards", "sizes"] (sp_is_pack K) := by
  refine D.ok sc_is_pack (fun vs H Q E h => len_is_pack h) (fun cdv A outer s H vs Q E hr h => ?_)
  have hu := hr.units0
  have hux := hr.units64
  exact ⟨t_is_pack K, (pss_cons (ps_if (pt_not (pt_val (pe_callF F_is_within (hr.mono (by decide)) (pac_Name (pvQ v_is_pack_0 rfl rfl) (pac_Constant pe_int (pac_Name (pe_glob (v := (.int 12)) rfl m_MOST_CARDS ⟨_, rfl⟩) pa_nil)))))) (pss_one (ps_ret pe_bl)) pss_nil)
    (pss_cons (ps_if (PW.pt (pw_or (pt_not (pt_val (pe_callB call_isi rfl B.isinstance boot_isinstance (pac_Name (pvQ v_is_pack_1 rfl rfl) (pac_Name (pe_bltn (v := .ty "list") rfl B.list boot_list rfl) pa_nil))))) (pw_or1 (pt_not (pt_val (pe_callF F_is_within (hr.mono (by decide)) (pac_Call (pe_callB call_len_seq rfl B.len boot_len (pac_Name (pvQ v_is_pack_1 rfl rfl) pa_nil)) (pac_Constant pe_int (pac_Name (pe_glob (v := (.int 5)) rfl m_MOST_HANDS ⟨_, rfl⟩) pa_nil))))))))) (pss_one (ps_ret pe_bl)) pss_nil)
    (pss_one (ps_ret (pe_and (pe_callB (call_allL rfl) rfl B.all boot_all (pac_ListComp (pe_comp (sc := (defScope S_is_pack)) (NX := ["cards", "sizes"]) (N := ["size", "cards"]) (ix := [none, some 0]) rfl (by refine ⟨rfl, ?_, ?_, ?_, ?_, rfl, ?_⟩ <;> decide +kernel) (pi_list (pvQ v_is_pack_1 rfl rfl)) (by intros; exact (pg_name (i := 0) (show (["size", "cards"] : List Str).Nodup by decide +kernel) rfl (Or.inl rfl))) (by intros; exact ptl_nil) (by intros; exact (pe_callF F_is_within (hr.mono (by decide)) (pac_Name (pv 0) (pac_Constant pe_int (pac_Name (pv 1) pa_nil)))))) pa_nil)) (pe_one (pe_cmpR op_le (pe_callB (call_sumL rfl) rfl B.sum boot_sum (pac_Name (pvQ v_is_pack_1 rfl rfl) pa_nil)) (pvQ v_is_pack_0 rfl rfl) (nomark _)))))))), rd_is_pack h⟩
theorem ok_how_many {f : Addr} {fd : FuncData} (D : Def K mg "how_many" S_how_many ["cards", "sizes"] f fd) (B : Blt mg) (F_choices : FnB P w K mg base 1 "choices" ["many", "taken"] (sp_choices K)) (F_is_pack : FnB P w K mg base 3 "is_pack" ["cards", "sizes"] (sp_is_pack K)) : FnB P w K mg base 4 "how_many" ["cards", "sizes"] (sp_how_many K) := by
  refine D.ok sc_how_many (fun vs H Q E h => len_how_many h) (fun cdv A outer s H vs Q E hr h => ?_)
  have hu := hr.units0
  have hux := hr.units64
  exact ⟨t_how_many K, (pss_cons (ps_if (pt_not (pt_val (pe_callF F_is_pack (hr.mono (by decide)) (pac_Name (pvQ v_how_many_0 rfl rfl) (pac_Name (pvQ v_how_many_1 rfl rfl) pa_nil))))) (pss_one ps_never) pss_nil)
    (pss_cons (ps_set (i := 2) sc_how_many.nd rfl (Or.inl rfl) pe_int)
    (pss_cons (ps_set (i := 3) sc_how_many.nd rfl (Or.inl rfl) (pvQ v_how_many_0 rfl rfl))
    (pss_cons (ps_for PassesOwn.never rfl (pi_list (pvQ v_how_many_1 rfl rfl)) (pg_name (i := 4) sc_how_many.nd rfl (Or.inl rfl)) (pss_cons (ps_set (i := 2) sc_how_many.nd rfl (Or.inl rfl) (pe_op op_mulB (pvQ v_how_many_2 rfl rfl) (pe_callF F_choices (hr.mono (by decide)) (pac_Name (pvQ v_how_many_3 rfl rfl) (pac_Name (pvQ v_how_many_4 rfl rfl) pa_nil)))))
    (pss_one (ps_set (i := 3) sc_how_many.nd rfl (Or.inl rfl) (pe_op op_sub (pvQ v_how_many_3 rfl rfl) (pvQ v_how_many_4 rfl rfl))))))
    (pss_one (ps_ret (pvQ v_how_many_2 rfl rfl))))))), rd_how_many h⟩
theorem ok_choices {f : Addr} {fd : FuncData} (D : Def K mg "choices" S_choices ["many", "taken"] f fd) (B : Blt mg) : FnB P w K mg base 1 "choices" ["many", "taken"] (sp_choices K) := by
  refine D.ok sc_choices (fun vs H Q E h => len_choices h) (fun cdv A outer s H vs Q E hr h => ?_)
  have hu := hr.units0
  have hux := hr.units64
  exact ⟨t_choices K, (pss_cons (ps_set (i := 2) sc_choices.nd rfl (Or.inl rfl) pe_int)
    (pss_cons (ps_for PassesOwn.never rfl (pi_range1 rfl B.range (pac_Name (pvQ v_choices_1 rfl rfl) pa_nil)) (pg_name (i := 3) sc_choices.nd rfl (Or.inl rfl)) (pss_one (ps_set (i := 2) sc_choices.nd rfl (Or.inl rfl) (pe_op op_fdiv (pe_op op_mulB (pvQ v_choices_2 rfl rfl) (pe_op op_sub (pvQ v_choices_0 rfl rfl) (pvQ v_choices_3 rfl rfl))) (pe_op op_add (pvQ v_choices_3 rfl rfl) pe_int)))))
    (pss_one (ps_ret (pvQ v_choices_2 rfl rfl))))), rd_choices h⟩
theorem ok_deals_of {f : Addr} {fd : FuncData} (D : Def K mg "deals_of" S_deals_of ["cards", "sizes"] f fd) (B : Blt mg) {t_MOST_DEALS : Tok} (m_MOST_DEALS : mg "MOST_DEALS" = some (.int 2000 t_MOST_DEALS)) (F_how_many : FnB P w K mg base 4 "how_many" ["cards", "sizes"] (sp_how_many K)) (F_with_one_more : FnB P w K mg base 1 "with_one_more" ["begun", "room"] (sp_with_one_more K)) : FnB P w K mg base 5 "deals_of" ["cards", "sizes"] (sp_deals_of K) := by
  refine D.ok sc_deals_of (fun vs H Q E h => len_deals_of h) (fun cdv A outer s H vs Q E hr h => ?_)
  have hu := hr.units0
  have hux := hr.units64
  exact ⟨t_deals_of K, (pss_cons (ps_if (pt_cmpR op_gt (pe_callF F_how_many (hr.mono (by decide)) (pac_Name (pvQ v_deals_of_0 rfl rfl) (pac_Name (pvQ v_deals_of_1 rfl rfl) pa_nil))) (pe_glob (v := (.int 2000)) rfl m_MOST_DEALS ⟨_, rfl⟩) (nomark _)) (pss_one ps_never) pss_nil)
    (pss_cons (ps_set (i := 2) sc_deals_of.nd rfl (Or.inl rfl) (pe_op op_cat (pvQ v_deals_of_1 rfl rfl) (pe_lst (pac_BinOp (pe_op op_sub (pvQ v_deals_of_0 rfl rfl) (pe_callB (call_sumL rfl) rfl B.sum boot_sum (pac_Name (pvQ v_deals_of_1 rfl rfl) pa_nil))) pa_nil))))
    (pss_cons (ps_set (i := 3) sc_deals_of.nd rfl (Or.inl rfl) (pe_lst (pac_Tuple (pe_tup pa_nil) pa_nil)))
    (pss_cons (ps_for PassesOwn.never rfl (pi_range1 rfl B.range (pac_Name (pvQ v_deals_of_0 rfl rfl) pa_nil)) (pg_name (i := 4) sc_deals_of.nd rfl (Or.inl rfl)) (pss_one (ps_set (i := 3) sc_deals_of.nd rfl (Or.inl rfl) (pe_callF F_with_one_more (hr.mono (by decide)) (pac_Name (pvQ v_deals_of_3 rfl rfl) (pac_Name (pvQ v_deals_of_2 rfl rfl) pa_nil))))))
    (pss_one (ps_ret (pvQ v_deals_of_3 rfl rfl))))))), rd_deals_of h⟩
theorem ok_with_one_more {f : Addr} {fd : FuncData} (D : Def K mg "with_one_more" S_with_one_more ["begun", "room"] f fd) (B : Blt mg) : FnB P w K mg base 1 "with_one_more" ["begun", "room"] (sp_with_one_more K) := by
  refine D.ok sc_with_one_more (fun vs H Q E h => len_with_one_more h) (fun cdv A outer s H vs Q E hr h => ?_)
  have hu := hr.units0
  have hux := hr.units64
  exact ⟨t_with_one_more K, (pss_cons (ps_set (i := 2) sc_with_one_more.nd rfl (Or.inl rfl) (pe_lst pa_nil))
    (pss_cons (ps_for PassesOwn.never rfl (pi_list (pvQ v_with_one_more_0 rfl rfl)) (pg_name (i := 3) sc_with_one_more.nd rfl (Or.inl rfl)) (pss_one (ps_for PassesOwn.never rfl (pi_enum srcL rfl B.enumerate (by decide) (pac_Name (pvQ v_with_one_more_1 rfl rfl) pa_nil)) (pg_tup rfl (pgs_cons (pg_name (i := 4) sc_with_one_more.nd rfl (Or.inl rfl)) (pgs_cons (pg_name (i := 5) sc_with_one_more.nd rfl (Or.inl rfl)) pgs_nil))) (pss_one (ps_if (pt_cmpR op_lt (pe_bt PySem.F.plainAttrs_tuple PySem.F.slot_tuple_count PySem.F.type_tuple_count mt_countT (pvQ v_with_one_more_3 rfl rfl) (pac_Name (pvQ v_with_one_more_4 rfl rfl) pa_nil)) (pvQ v_with_one_more_5 rfl rfl) (nomark _)) (pss_one (ps_expr (pe_bm PySem.F.plainAttrs_list PySem.F.slot_list_append PySem.F.type_list_append mt_append (pvQ v_with_one_more_2 rfl rfl) (pac_BinOp (pe_op op_catG (pvQ v_with_one_more_3 rfl rfl) (pe_tup (pac_Name (pvQ v_with_one_more_4 rfl rfl) pa_nil))) pa_nil)))) pss_nil)))))
    (pss_one (ps_ret (pvQ v_with_one_more_2 rfl rfl))))), rd_with_one_more h⟩
theorem ok_cards_of {f : Addr} {fd : FuncData} (D : Def K mg "cards_of" S_cards_of ["deal", "who"] f fd) (B : Blt mg) : FnB P w K mg base 1 "cards_of" ["deal", "who"] (sp_cards_of K) := by
  refine D.ok sc_cards_of (fun vs H Q E h => len_cards_of h) (fun cdv A outer s H vs Q E hr h => ?_)
  have hu := hr.units0
  have hux := hr.units64
  exact ⟨t_cards_of K, (pss_one (ps_ret (pe_callTy call_tuple_of rfl B.tuple boot_tuple (pac_ListComp (pe_comp (sc := (defScope S_cards_of)) (NX := ["deal", "who"]) (N := ["card", "holder", "who"]) (ix := [none, none, some 1]) rfl (by refine ⟨rfl, ?_, ?_, ?_, ?_, rfl, ?_⟩ <;> decide +kernel) (pi_enum srcT rfl B.enumerate (by decide) (pac_Name (pvQ v_cards_of_0 rfl rfl) pa_nil)) (by intros; exact (pg_tup rfl (pgs_cons (pg_name (i := 0) (show (["card", "holder", "who"] : List Str).Nodup by decide +kernel) rfl (Or.inl rfl)) (pgs_cons (pg_name (i := 1) (show (["card", "holder", "who"] : List Str).Nodup by decide +kernel) rfl (Or.inl rfl)) pgs_nil)))) (by intros; exact (ptl_one (pt_cmpR op_eq (pv 1) (pv 2) (nomark _)))) (by intros; exact (pv 0))) pa_nil)))), rd_cards_of h⟩
theorem ok_first_view {f : Addr} {fd : FuncData} (D : Def K mg "first_view" S_first_view ["deals", "hand"] f fd) (B : Blt mg) (F_cards_of : FnB P w K mg base 1 "cards_of" ["deal", "who"] (sp_cards_of K)) (F_least_with_same : FnB P w K mg base 1 "least_with_same" ["marks"] (sp_least_with_same K)) : FnB P w K mg base 2 "first_view" ["deals", "hand"] (sp_first_view K) := by
  refine D.ok sc_first_view (fun vs H Q E h => len_first_view h) (fun cdv A outer s H vs Q E hr h => ?_)
  have hu := hr.units0
  have hux := hr.units64
  exact ⟨t_first_view K, (pss_one (ps_ret (pe_callF F_least_with_same (hr.mono (by decide)) (pac_ListComp (pe_comp (sc := (defScope S_first_view)) (NX := ["deals", "hand"]) (N := ["deal", "hand"]) (ix := [none, some 1]) rfl (by refine ⟨rfl, ?_, ?_, ?_, ?_, rfl, ?_⟩ <;> decide +kernel) (pi_list (pvQ v_first_view_0 rfl rfl)) (by intros; exact (pg_name (i := 0) (show (["deal", "hand"] : List Str).Nodup by decide +kernel) rfl (Or.inl rfl))) (by intros; exact ptl_nil) (by intros; exact (pe_callF F_cards_of (hr.mono (by decide)) (pac_Name (pv 0) (pac_Name (pv 1) pa_nil))))) pa_nil)))), rd_first_view h⟩
theorem ok_split {f : Addr} {fd : FuncData} (D : Def K mg "split" S_split ["view", "values"] f fd) (B : Blt mg) (F_least_with_same : FnB P w K mg base 1 "least_with_same" ["marks"] (sp_least_with_same K)) : FnB P w K mg base 2 "split" ["view", "values"] (sp_split K) := by
  refine D.ok sc_split (fun vs H Q E h => len_split h) (fun cdv A outer s H vs Q E hr h => ?_)
  have hu := hr.units0
  have hux := hr.units64
  exact ⟨t_split K, (pss_one (ps_ret (pe_callF F_least_with_same (hr.mono (by decide)) (pac_Call (pe_lzip srcL srcL rfl rfl B.list rfl B.zip (pac_Name (pvQ v_split_0 rfl rfl) (pac_Name (pvQ v_split_1 rfl rfl) pa_nil))) pa_nil)))), rd_split h⟩
theorem ok_least_with_same {f : Addr} {fd : FuncData} (D : Def K mg "least_with_same" S_least_with_same ["marks"] f fd) (B : Blt mg) : FnB P w K mg base 1 "least_with_same" ["marks"] (sp_least_with_same K) := by
  refine D.ok sc_least_with_same (fun vs H Q E h => len_least_with_same h) (fun cdv A outer s H vs Q E hr h => ?_)
  have hu := hr.units0
  have hux := hr.units64
  exact ⟨t_least_with_same K, (pss_cons (ps_set (i := 1) sc_least_with_same.nd rfl (Or.inr rfl) pm_dnewX)
    (pss_cons (ps_for PassesOwn.never rfl (pi_enum srcL rfl B.enumerate (by decide) (pac_Name (pvQ v_least_with_same_0 rfl rfl) pa_nil)) (pg_tup rfl (pgs_cons (pg_name (i := 2) sc_least_with_same.nd rfl (Or.inl rfl)) (pgs_cons (pg_name (i := 3) sc_least_with_same.nd rfl (Or.inl rfl)) pgs_nil))) (pss_one (ps_expr (pe_xm PySem.F.slot_dict_setdefault PySem.F.type_dict_setdefault (mt_xsetdefault hux) (pvQ v_least_with_same_1 rfl rfl) (pac_Name (pvQ v_least_with_same_3 rfl rfl) (pac_Name (pvQ v_least_with_same_2 rfl rfl) pa_nil))))))
    (pss_one (ps_ret (pe_comp (sc := (defScope S_least_with_same)) (NX := ["marks", "firsts", "thing", "mark"]) (N := ["mark", "firsts"]) (ix := [none, some 1]) rfl (by refine ⟨rfl, ?_, ?_, ?_, ?_, rfl, ?_⟩ <;> decide +kernel) (pi_list (pvQ v_least_with_same_0 rfl rfl)) (by intros; exact (pg_name (i := 0) (show (["mark", "firsts"] : List Str).Nodup by decide +kernel) rfl (Or.inl rfl))) (by intros; exact ptl_nil) (by intros; exact (pe_xget hux (pv 1) (pv 0) (fun _ _ => rfl)))))))), rd_least_with_same h⟩
theorem ok_fails {f : Addr} {fd : FuncData} (D : Def K mg "fails" S_fails ["cards", "sizes", "words", "a", "b", "e"] f fd) (B : Blt mg) (F_deals_of : FnB P w K mg base 5 "deals_of" ["cards", "sizes"] (sp_deals_of K)) (F_first_view : FnB P w K mg base 2 "first_view" ["deals", "hand"] (sp_first_view K)) (F_least_told : FnB P w K mg base 2 "least_told" ["deals", "view", "e"] (sp_least_told K)) (F_least_unlike : FnB P w K mg base 1 "least_unlike" ["view", "other_view"] (sp_least_unlike K)) (F_split : FnB P w K mg base 2 "split" ["view", "values"] (sp_split K)) (F_words_said : FnB P w K mg base 2 "words_said" ["deals", "words", "a"] (sp_words_said K)) : FnB P w K mg base 6 "fails" ["cards", "sizes", "words", "a", "b", "e"] (sp_fails K) := by
  refine D.ok sc_fails (fun vs H Q E h => len_fails h) (fun cdv A outer s H vs Q E hr h => ?_)
  have hu := hr.units0
  have hux := hr.units64
  exact ⟨t_fails K, (pss_cons (ps_set (i := 6) sc_fails.nd rfl (Or.inl rfl) (pe_callF F_deals_of (hr.mono (by decide)) (pac_Name (pvQ v_fails_0 rfl rfl) (pac_Name (pvQ v_fails_1 rfl rfl) pa_nil))))
    (pss_cons (ps_set (i := 7) sc_fails.nd rfl (Or.inl rfl) (pe_callF F_words_said (hr.mono (by decide)) (pac_Name (pvQ v_fails_6 rfl rfl) (pac_Name (pvQ v_fails_2 rfl rfl) (pac_Name (pvQ v_fails_3 rfl rfl) pa_nil)))))
    (pss_cons (ps_set (i := 8) sc_fails.nd rfl (Or.inl rfl) (pe_callF F_least_unlike (hr.mono (by decide)) (pac_Call (pe_callF F_split (hr.mono (by decide)) (pac_Call (pe_callF F_first_view (hr.mono (by decide)) (pac_Name (pvQ v_fails_6 rfl rfl) (pac_Name (pvQ v_fails_4 rfl rfl) pa_nil))) (pac_Name (pvQ v_fails_7 rfl rfl) pa_nil))) (pac_Call (pe_callF F_first_view (hr.mono (by decide)) (pac_Name (pvQ v_fails_6 rfl rfl) (pac_Name (pvQ v_fails_3 rfl rfl) pa_nil))) pa_nil))))
    (pss_cons (ps_set (i := 9) sc_fails.nd rfl (Or.inl rfl) (pe_callF F_least_told (hr.mono (by decide)) (pac_Name (pvQ v_fails_6 rfl rfl) (pac_Call (pe_callF F_split (hr.mono (by decide)) (pac_Call (pe_callF F_first_view (hr.mono (by decide)) (pac_Name (pvQ v_fails_6 rfl rfl) (pac_Name (pvQ v_fails_5 rfl rfl) pa_nil))) (pac_Name (pvQ v_fails_7 rfl rfl) pa_nil))) (pac_Name (pvQ v_fails_5 rfl rfl) pa_nil)))))
    (pss_cons (ps_for PassesOwn.never rfl (pi_range1 rfl B.range (pac_Call (pe_callB call_len_seq rfl B.len boot_len (pac_Name (pvQ v_fails_6 rfl rfl) pa_nil)) pa_nil)) (pg_name (i := 10) sc_fails.nd rfl (Or.inl rfl)) (pss_cons (ps_if (pt_cmpR op_isnNone (pe_ix ix_list (pvQ v_fails_8 rfl rfl) (pvQ v_fails_10 rfl rfl) (fun _ _ => rfl)) pe_non (nomark _)) (pss_one (ps_ret (pm_tup (pac_Constant pe_str (pac_Name (pvQ v_fails_10 rfl rfl) (pac_Subscript (pe_ix ix_list (pvQ v_fails_8 rfl rfl) (pvQ v_fails_10 rfl rfl) (fun _ _ => rfl)) pa_nil)))))) pss_nil)
    (pss_one (ps_if (pt_cmpR op_isnNone (pe_ix ix_list (pvQ v_fails_9 rfl rfl) (pvQ v_fails_10 rfl rfl) (fun _ _ => rfl)) pe_non (nomark _)) (pss_one (ps_ret (pm_tup (pac_Constant pe_str (pac_Name (pvQ v_fails_10 rfl rfl) (pac_Subscript (pe_ix ix_list (pvQ v_fails_9 rfl rfl) (pvQ v_fails_10 rfl rfl) (fun _ _ => rfl)) pa_nil)))))) pss_nil))))
    (pss_one (ps_ret pe_non))))))), rd_fails h⟩
theorem ok_words_said {f : Addr} {fd : FuncData} (D : Def K mg "words_said" S_words_said ["deals", "words", "a"] f fd) (B : Blt mg) (F_cards_of : FnB P w K mg base 1 "cards_of" ["deal", "who"] (sp_cards_of K)) : FnB P w K mg base 2 "words_said" ["deals", "words", "a"] (sp_words_said K) := by
  refine D.ok sc_words_said (fun vs H Q E h => len_words_said h) (fun cdv A outer s H vs Q E hr h => ?_)
  have hu := hr.units0
  have hux := hr.units64
  exact ⟨t_words_said K, (pss_cons (ps_set (i := 3) sc_words_said.nd rfl (Or.inr rfl) pm_dnewX)
    (pss_cons (ps_for PassesOwn.never rfl (pi_enum srcL rfl B.enumerate (by decide) (pac_Name (pvQ v_words_said_1 rfl rfl) pa_nil)) (pg_tup rfl (pgs_cons (pg_name (i := 4) sc_words_said.nd rfl (Or.inl rfl)) (pgs_cons (pg_name (i := 5) sc_words_said.nd rfl (Or.inl rfl)) pgs_nil))) (pss_one (ps_for PassesOwn.never rfl (pi_list (pvQ v_words_said_5 rfl rfl)) (pg_name (i := 6) sc_words_said.nd rfl (Or.inl rfl)) (pss_one (ps_asg (pvQ v_words_said_4 rfl rfl) (pg_sub (pvQ v_words_said_3 rfl rfl) (pvQ v_words_said_6 rfl rfl) (set_X hux)))))))
    (pss_one (ps_ret (pe_comp (sc := (defScope S_words_said)) (NX := ["deals", "words", "a", "numbers", "number", "word", "holding"]) (N := ["deal", "numbers", "a"]) (ix := [none, some 3, some 2]) rfl (by refine ⟨rfl, ?_, ?_, ?_, ?_, rfl, ?_⟩ <;> decide +kernel) (pi_list (pvQ v_words_said_0 rfl rfl)) (by intros; exact (pg_name (i := 0) (show (["deal", "numbers", "a"] : List Str).Nodup by decide +kernel) rfl (Or.inl rfl))) (by intros; exact ptl_nil) (by intros; exact (pe_xget hux (pv 1) (pe_callF F_cards_of (hr.mono (by decide)) (pac_Name (pv 0) (pac_Name (pv 2) pa_nil))) (fun _ _ => rfl)))))))), rd_words_said h⟩
theorem ok_least_unlike {f : Addr} {fd : FuncData} (D : Def K mg "least_unlike" S_least_unlike ["view", "other_view"] f fd) (B : Blt mg) : FnB P w K mg base 1 "least_unlike" ["view", "other_view"] (sp_least_unlike K) := by
  refine D.ok sc_least_unlike (fun vs H Q E h => len_least_unlike h) (fun cdv A outer s H vs Q E hr h => ?_)
  have hu := hr.units0
  have hux := hr.units64
  exact ⟨t_least_unlike K, (pss_cons (ps_set (i := 2) sc_least_unlike.nd rfl (Or.inr rfl) pm_dnewX)
    (pss_cons (ps_for PassesOwn.never rfl (pi_enum srcL rfl B.enumerate (by decide) (pac_Name (pvQ v_least_unlike_0 rfl rfl) pa_nil)) (pg_tup rfl (pgs_cons (pg_name (i := 3) sc_least_unlike.nd rfl (Or.inl rfl)) (pgs_cons (pg_name (i := 4) sc_least_unlike.nd rfl (Or.inl rfl)) pgs_nil))) (pss_one (ps_if (pt_cmpR op_ne (pe_ix ix_list (pvQ v_least_unlike_1 rfl rfl) (pvQ v_least_unlike_3 rfl rfl) (fun _ _ => rfl)) (pe_ix ix_list (pvQ v_least_unlike_1 rfl rfl) (pvQ v_least_unlike_4 rfl rfl) (fun _ _ => rfl)) (nomark _)) (pss_one (ps_expr (pe_xm PySem.F.slot_dict_setdefault PySem.F.type_dict_setdefault (mt_xsetdefault hux) (pvQ v_least_unlike_2 rfl rfl) (pac_Name (pvQ v_least_unlike_4 rfl rfl) (pac_Name (pvQ v_least_unlike_3 rfl rfl) pa_nil))))) pss_nil)))
    (pss_one (ps_ret (pe_comp (sc := (defScope S_least_unlike)) (NX := ["view", "other_view", "unlike", "thing", "least"]) (N := ["thing", "least", "other_view", "unlike"]) (ix := [none, none, some 1, some 2]) rfl (by refine ⟨rfl, ?_, ?_, ?_, ?_, rfl, ?_⟩ <;> decide +kernel) (pi_enum srcL rfl B.enumerate (by decide) (pac_Name (pvQ v_least_unlike_0 rfl rfl) pa_nil)) (by intros; exact (pg_tup rfl (pgs_cons (pg_name (i := 0) (show (["thing", "least", "other_view", "unlike"] : List Str).Nodup by decide +kernel) rfl (Or.inl rfl)) (pgs_cons (pg_name (i := 1) (show (["thing", "least", "other_view", "unlike"] : List Str).Nodup by decide +kernel) rfl (Or.inl rfl)) pgs_nil)))) (by intros; exact ptl_nil) (by intros; exact (pe_ifExp (pt_cmpR op_eq (pe_ix ix_list (pv 2) (pv 0) (fun _ _ => rfl)) (pe_ix ix_list (pv 2) (pv 1) (fun _ _ => rfl)) (nomark _)) (pe_xm PySem.F.slot_dict_get PySem.F.type_dict_get mt_xget (pv 3) (pac_Name (pv 1) pa_nil)) (pv 1)))))))), rd_least_unlike h⟩
theorem ok_least_told {f : Addr} {fd : FuncData} (D : Def K mg "least_told" S_least_told ["deals", "view", "e"] f fd) (B : Blt mg) (F_least_unmoved : FnB P w K mg base 1 "least_unmoved" ["deal", "least", "moved", "e"] (sp_least_unmoved K)) : FnB P w K mg base 2 "least_told" ["deals", "view", "e"] (sp_least_told K) := by
  refine D.ok sc_least_told (fun vs H Q E h => len_least_told h) (fun cdv A outer s H vs Q E hr h => ?_)
  have hu := hr.units0
  have hux := hr.units64
  exact ⟨t_least_told K, (pss_cons (ps_set (i := 3) sc_least_told.nd rfl (Or.inr rfl) pm_dnewX)
    (pss_cons (ps_for PassesOwn.never rfl (pi_zip srcL srcL rfl B.zip (pac_Name (pvQ v_least_told_0 rfl rfl) (pac_Name (pvQ v_least_told_1 rfl rfl) pa_nil))) (pg_tup rfl (pgs_cons (pg_name (i := 4) sc_least_told.nd rfl (Or.inl rfl)) (pgs_cons (pg_name (i := 5) sc_least_told.nd rfl (Or.inl rfl)) pgs_nil))) (pss_one (ps_for PassesOwn.never rfl (pi_enum srcT rfl B.enumerate (by decide) (pac_Name (pvQ v_least_told_4 rfl rfl) pa_nil)) (pg_tup rfl (pgs_cons (pg_name (i := 6) sc_least_told.nd rfl (Or.inl rfl)) (pgs_cons (pg_name (i := 7) sc_least_told.nd rfl (Or.inl rfl)) pgs_nil))) (pss_one (ps_if (pt_cmpR op_ne (pvQ v_least_told_7 rfl rfl) (pe_ix ix_tup (pe_ix ix_list (pvQ v_least_told_0 rfl rfl) (pvQ v_least_told_5 rfl rfl) (fun _ _ => rfl)) (pvQ v_least_told_6 rfl rfl) (fun _ _ => rfl)) (nomark _)) (pss_one (ps_asg pe_bl (pg_sub (pvQ v_least_told_3 rfl rfl) (pm_tup (pac_Name (pvQ v_least_told_5 rfl rfl) (pac_Name (pvQ v_least_told_6 rfl rfl) pa_nil))) (set_X hux)))) pss_nil)))))
    (pss_one (ps_ret (pe_comp (sc := (defScope S_least_told)) (NX := ["deals", "view", "e", "moved", "deal", "least", "card", "holder"]) (N := ["deal", "least", "moved", "e"]) (ix := [none, none, some 3, some 2]) rfl (by refine ⟨rfl, ?_, ?_, ?_, ?_, rfl, ?_⟩ <;> decide +kernel) (pi_zip srcL srcL rfl B.zip (pac_Name (pvQ v_least_told_0 rfl rfl) (pac_Name (pvQ v_least_told_1 rfl rfl) pa_nil))) (by intros; exact (pg_tup rfl (pgs_cons (pg_name (i := 0) (show (["deal", "least", "moved", "e"] : List Str).Nodup by decide +kernel) rfl (Or.inl rfl)) (pgs_cons (pg_name (i := 1) (show (["deal", "least", "moved", "e"] : List Str).Nodup by decide +kernel) rfl (Or.inl rfl)) pgs_nil)))) (by intros; exact ptl_nil) (by intros; exact (pe_callF F_least_unmoved (hr.mono (by decide)) (pac_Name (pv 0) (pac_Name (pv 1) (pac_Name (pv 2) (pac_Name (pv 3) pa_nil))))))))))), rd_least_told h⟩
theorem ok_least_unmoved {f : Addr} {fd : FuncData} (D : Def K mg "least_unmoved" S_least_unmoved ["deal", "least", "moved", "e"] f fd) (B : Blt mg) : FnB P w K mg base 1 "least_unmoved" ["deal", "least", "moved", "e"] (sp_least_unmoved K) := by
  refine D.ok sc_least_unmoved (fun vs H Q E h => len_least_unmoved h) (fun cdv A outer s H vs Q E hr h => ?_)
  have hu := hr.units0
  have hux := hr.units64
  exact ⟨t_least_unmoved K, (pss_cons (ps_for PassesOwn.never rfl (pi_enum srcT rfl B.enumerate (by decide) (pac_Name (pvQ v_least_unmoved_0 rfl rfl) pa_nil)) (pg_tup rfl (pgs_cons (pg_name (i := 4) sc_least_unmoved.nd rfl (Or.inl rfl)) (pgs_cons (pg_name (i := 5) sc_least_unmoved.nd rfl (Or.inl rfl)) pgs_nil))) (pss_one (ps_if (PW.pt (pw_and (pt_cmpR op_ne (pvQ v_least_unmoved_5 rfl rfl) (pvQ v_least_unmoved_3 rfl rfl) (nomark _)) (pw_and1 (pt_cmpR (op_xnotin hux) (pm_tup (pac_Name (pvQ v_least_unmoved_1 rfl rfl) (pac_Name (pvQ v_least_unmoved_4 rfl rfl) pa_nil))) (pvQ v_least_unmoved_2 rfl rfl) rfl)))) (pss_one (ps_ret (pvQ v_least_unmoved_4 rfl rfl))) pss_nil)))
    (pss_one (ps_ret pe_non))), rd_least_unmoved h⟩
theorem ok__law_cell {f : Addr} {fd : FuncData} (D : Def K mg "_law_cell" S__law_cell ["_law_script", "_law_k"] f fd) (B : Blt mg) : FnB P w K mg base 1 "_law_cell" ["_law_script", "_law_k"] (sp__law_cell_l K) := by
  refine D.ok sc__law_cell (fun vs H Q E h => len__law_cell_l h) (fun cdv A outer s H vs Q E hr h => ?_)
  have hu := hr.units0
  have hux := hr.units64
  exact ⟨t__law_cell_l K, (pss_cons (ps_if (pt_cmpR op_lt (pvQ v__law_cell_1 rfl rfl) (pe_callB call_len_seq rfl B.len boot_len (pac_Name (pvQ v__law_cell_0 rfl rfl) pa_nil)) (nomark _)) (pss_one (ps_ret (pe_ix ix_list (pvQ v__law_cell_0 rfl rfl) (pvQ v__law_cell_1 rfl rfl) (fun _ _ => rfl)))) pss_nil)
    (pss_cons (ps_set (i := 2) sc__law_cell.nd rfl (Or.inl rfl) (pe_op op_add (pe_op op_mulB (pvQ v__law_cell_1 rfl rfl) pe_int) pe_int))
    (pss_cons (ps_if (pt_cmpR op_gt (pe_callB call_len_seq rfl B.len boot_len (pac_Name (pvQ v__law_cell_0 rfl rfl) pa_nil)) pe_int (nomark _)) (pss_one (ps_set (i := 2) sc__law_cell.nd rfl (Or.inl rfl) (pe_op op_add (pe_op op_mulB (pe_op op_mod (pe_ix ix_list (pvQ v__law_cell_0 rfl rfl) (pe_op op_mod (pe_op op_mulB (pvQ v__law_cell_1 rfl rfl) pe_int) (pe_callB call_len_seq rfl B.len boot_len (pac_Name (pvQ v__law_cell_0 rfl rfl) pa_nil))) (fun _ _ => rfl)) pe_int) pe_int) (pe_op op_mulB (pvQ v__law_cell_1 rfl rfl) pe_int)))) pss_nil)
    (pss_cons (ps_set (i := 2) sc__law_cell.nd rfl (Or.inl rfl) (pe_op op_mod (pe_op op_mulB (pvQ v__law_cell_2 rfl rfl) (pvQ v__law_cell_2 rfl rfl)) pe_int))
    (pss_one (ps_ret (pe_op op_mod (pe_op op_mulB (pvQ v__law_cell_2 rfl rfl) (pe_op op_add (pvQ v__law_cell_2 rfl rfl) pe_int)) pe_int))))))), rd__law_cell_l h⟩
theorem ok__law_mixed {f : Addr} {fd : FuncData} (D : Def K mg "_law_mixed" S__law_mixed ["_law_cell_here", "_law_k"] f fd) (B : Blt mg) : FnB P w K mg base 1 "_law_mixed" ["_law_cell_here", "_law_k"] (sp__law_mixed_l K) := by
  refine D.ok sc__law_mixed (fun vs H Q E h => len__law_mixed_l h) (fun cdv A outer s H vs Q E hr h => ?_)
  have hu := hr.units0
  have hux := hr.units64
  exact ⟨t__law_mixed_l K, (pss_cons (ps_set (i := 2) sc__law_mixed.nd rfl (Or.inl rfl) (pe_op op_mod (pe_op op_add (pe_op op_add (pe_op op_mulB (pe_op op_mod (pvQ v__law_mixed_0 rfl rfl) pe_int) pe_int) (pe_op op_mulB (pvQ v__law_mixed_1 rfl rfl) pe_int)) pe_int) pe_int))
    (pss_cons (ps_set (i := 2) sc__law_mixed.nd rfl (Or.inl rfl) (pe_op op_mod (pe_op op_mulB (pvQ v__law_mixed_2 rfl rfl) (pe_op op_add (pvQ v__law_mixed_2 rfl rfl) pe_int)) pe_int))
    (pss_one (ps_ret (pe_op op_mod (pe_op op_mulB (pvQ v__law_mixed_2 rfl rfl) (pe_op op_add (pvQ v__law_mixed_2 rfl rfl) pe_int)) pe_int))))), rd__law_mixed_l h⟩
theorem ok__law_pack {f : Addr} {fd : FuncData} (D : Def K mg "_law_pack" S__law_pack ["_law_cell_here"] f fd) (B : Blt mg) : FnB P w K mg base 1 "_law_pack" ["_law_cell_here"] (sp__law_pack_l K) := by
  refine D.ok sc__law_pack (fun vs H Q E h => len__law_pack_l h) (fun cdv A outer s H vs Q E hr h => ?_)
  have hu := hr.units0
  have hux := hr.units64
  exact ⟨t__law_pack_l K, (pss_cons (ps_set (i := 1) sc__law_pack.nd rfl (Or.inl rfl) (pm_lst (pac_Tuple (pm_tup (pac_Constant pe_int (pac_List (pm_lst (pac_Constant pe_int (pac_Constant pe_int (pac_Constant pe_int pa_nil)))) pa_nil))) (pac_Tuple (pm_tup (pac_Constant pe_int (pac_List (pm_lst (pac_Constant pe_int (pac_Constant pe_int (pac_Constant pe_int pa_nil)))) pa_nil))) (pac_Tuple (pm_tup (pac_Constant pe_int (pac_List (pm_lst (pac_Constant pe_int (pac_Constant pe_int (pac_Constant pe_int pa_nil)))) pa_nil))) (pac_Tuple (pm_tup (pac_Constant pe_int (pac_List (pm_lst (pac_Constant pe_int (pac_Constant pe_int (pac_Constant pe_int pa_nil)))) pa_nil))) (pac_Tuple (pm_tup (pac_Constant pe_int (pac_List (pm_lst (pac_Constant pe_int (pac_Constant pe_int (pac_Constant pe_int pa_nil)))) pa_nil))) (pac_Tuple (pm_tup (pac_Constant pe_int (pac_List (pm_lst (pac_Constant pe_int (pac_Constant pe_int (pac_Constant pe_int pa_nil)))) pa_nil))) pa_nil))))))))
    (pss_cons (ps_set (i := 1) sc__law_pack.nd rfl (Or.inl rfl) (pe_op om_cat (pvQ v__law_pack_1 rfl rfl) (pm_lst (pac_Tuple (pm_tup (pac_Constant pe_int (pac_List (pm_lst (pac_Constant pe_int (pac_Constant pe_int (pac_Constant pe_int pa_nil)))) pa_nil))) (pac_Tuple (pm_tup (pac_Constant pe_int (pac_List (pm_lst (pac_Constant pe_int (pac_Constant pe_int (pac_Constant pe_int pa_nil)))) pa_nil))) (pac_Tuple (pm_tup (pac_Constant pe_int (pac_List (pm_lst (pac_Constant pe_int (pac_Constant pe_int (pac_Constant pe_int pa_nil)))) pa_nil))) (pac_Tuple (pm_tup (pac_Constant pe_int (pac_List (pm_lst (pac_Constant pe_int (pac_Constant pe_int (pac_Constant pe_int (pac_Constant pe_int pa_nil))))) pa_nil))) (pac_Tuple (pm_tup (pac_Constant pe_int (pac_List (pm_lst (pac_Constant pe_int (pac_Constant pe_int (pac_Constant pe_int pa_nil)))) pa_nil))) (pac_Tuple (pm_tup (pac_Constant pe_int (pac_List (pm_lst (pac_Constant pe_int (pac_Constant pe_int (pac_Constant pe_int (pac_Constant pe_int pa_nil))))) pa_nil))) pa_nil)))))))))
    (pss_cons (ps_set (i := 1) sc__law_pack.nd rfl (Or.inl rfl) (pe_op om_cat (pvQ v__law_pack_1 rfl rfl) (pm_lst (pac_Tuple (pm_tup (pac_Constant pe_int (pac_List (pm_lst (pac_Constant pe_int (pac_Constant pe_int (pac_Constant pe_int pa_nil)))) pa_nil))) (pac_Tuple (pm_tup (pac_Constant pe_int (pac_List (pm_lst (pac_Constant pe_int (pac_Constant pe_int (pac_Constant pe_int pa_nil)))) pa_nil))) (pac_Tuple (pm_tup (pac_Constant pe_int (pac_List (pm_lst (pac_Constant pe_int (pac_Constant pe_int (pac_Constant pe_int (pac_Constant pe_int pa_nil))))) pa_nil))) (pac_Tuple (pm_tup (pac_Constant pe_int (pac_List (pm_lst (pac_Constant pe_int (pac_Constant pe_int (pac_Constant pe_int pa_nil)))) pa_nil))) pa_nil)))))))
    (pss_cons (ps_asg (pe_ix ix_list (pvQ v__law_pack_1 rfl rfl) (pe_op op_mod (pvQ v__law_pack_0 rfl rfl) pe_int) (fun _ _ => rfl)) (pg_tup rfl (pgs_cons (pg_name (i := 2) sc__law_pack.nd rfl (Or.inl rfl)) (pgs_cons (pg_name (i := 3) sc__law_pack.nd rfl (Or.inl rfl)) pgs_nil))))
    (pss_cons (ps_set (i := 4) sc__law_pack.nd rfl (Or.inl rfl) (pe_op op_mod (pe_op op_fdiv (pvQ v__law_pack_0 rfl rfl) pe_int) (pe_callB call_len_seq rfl B.len boot_len (pac_Name (pvQ v__law_pack_3 rfl rfl) pa_nil))))
    (pss_one (ps_ret (pm_tup (pac_Name (pvQ v__law_pack_2 rfl rfl) (pac_BinOp (pe_op om_cat (pe_slice sm_list (pvQ v__law_pack_3 rfl rfl) (po_some (pvQ v__law_pack_4 rfl rfl)) po_none) (pe_slice sm_list (pvQ v__law_pack_3 rfl rfl) po_none (po_some (pvQ v__law_pack_4 rfl rfl)))) pa_nil)))))))))), rd__law_pack_l h⟩
theorem ok__law_holdings {f : Addr} {fd : FuncData} (D : Def K mg "_law_holdings" S__law_holdings ["_law_cards", "_law_size"] f fd) (B : Blt mg) : FnB P w K mg base 1 "_law_holdings" ["_law_cards", "_law_size"] (sp__law_holdings K) := by
  refine D.ok sc__law_holdings (fun vs H Q E h => len__law_holdings h) (fun cdv A outer s H vs Q E hr h => ?_)
  have hu := hr.units0
  have hux := hr.units64
  exact ⟨t__law_holdings K, (pss_cons (ps_set (i := 2) sc__law_holdings.nd rfl (Or.inl rfl) (pm_lst pa_nil))
    (pss_cons (ps_for PassesOwn.never rfl (pi_range1 rfl B.range (pac_BinOp (pe_op op_shl pe_int (pvQ v__law_holdings_0 rfl rfl)) pa_nil)) (pg_name (i := 3) sc__law_holdings.nd rfl (Or.inr rfl)) (pss_cons (ps_set (i := 4) sc__law_holdings.nd rfl (Or.inl rfl) (pe_callTy cm_tuple rfl B.tuple boot_tuple (pac_ListComp (pe_comp (sc := (defScope S__law_holdings)) (NX := ["_law_cards", "_law_size", "_law_found", "_law_bits", "_law_held"]) (N := ["_law_card", "_law_bits"]) (ix := [none, some 3]) rfl (by refine ⟨rfl, ?_, ?_, ?_, ?_, rfl, ?_⟩ <;> decide +kernel) (pi_range1 rfl B.range (pac_Name (pvQ v__law_holdings_0 rfl rfl) pa_nil)) (by intros; exact (pg_name (i := 0) (show (["_law_card", "_law_bits"] : List Str).Nodup by decide +kernel) rfl (Or.inl rfl))) (by intros; exact (ptl_one (pt_cmpR op_eq (pe_op op_and (pe_op op_shr (pv 1) (pv 0)) pe_int) pe_int (nomark _)))) (by intros; exact (pv 0))) pa_nil)))
    (pss_one (ps_if (pt_cmpR op_eq (pe_callB call_len_seq rfl B.len boot_len (pac_Name (pvQ v__law_holdings_4 rfl rfl) pa_nil)) (pvQ v__law_holdings_1 rfl rfl) (nomark _)) (pss_one (ps_expr (pe_bm PySem.F.plainAttrs_list PySem.F.slot_list_append PySem.F.type_list_append mt_append (pvQ v__law_holdings_2 rfl rfl) (pac_Name (pvQ v__law_holdings_4 rfl rfl) pa_nil)))) pss_nil))))
    (pss_one (ps_ret (pvQ v__law_holdings_2 rfl rfl))))), rd__law_holdings h⟩
theorem ok__law_lists {f : Addr} {fd : FuncData} (D : Def K mg "_law_lists" S__law_lists ["_law_cell_here", "_law_holdings_here", "_law_cards"] f fd) (B : Blt mg) (F__law_mixed : FnB P w K mg base 1 "_law_mixed" ["_law_cell_here", "_law_k"] (sp__law_mixed_l K)) : FnB P w K mg base 2 "_law_lists" ["_law_cell_here", "_law_holdings_here", "_law_cards"] (sp__law_lists_l K) := by
  refine D.ok sc__law_lists (fun vs H Q E h => len__law_lists_l h) (fun cdv A outer s H vs Q E hr h => ?_)
  have hu := hr.units0
  have hux := hr.units64
  exact ⟨t__law_lists_l K, (pss_cons (ps_set (i := 3) sc__law_lists.nd rfl (Or.inl rfl) (pe_ix ix_list (pm_lst (pac_Call (pe_callB (call_max2 rfl) rfl B.max boot_max (pac_Constant pe_int (pac_Name (pvQ v__law_lists_2 rfl rfl) pa_nil))) (pac_BinOp (pe_op op_add pe_int (pe_op op_mod (pe_op op_fdiv (pvQ v__law_lists_0 rfl rfl) pe_int) pe_int)) pa_nil))) (pe_op op_mod (pe_op op_fdiv (pvQ v__law_lists_0 rfl rfl) pe_int) pe_int) (fun _ _ => rfl)))
    (pss_cons (ps_if (pt_cmpR op_eq (pe_op op_mod (pvQ v__law_lists_0 rfl rfl) pe_int) pe_int (nomark _)) (pss_one (ps_set (i := 3) sc__law_lists.nd rfl (Or.inl rfl) (pe_callB call_len_seq rfl B.len boot_len (pac_Name (pvQ v__law_lists_1 rfl rfl) pa_nil)))) pss_nil)
    (pss_cons (ps_setComp (i := 4) sc__law_lists.nd rfl rfl (sc := (defScope S__law_lists)) (NX := ["_law_cell_here", "_law_holdings_here", "_law_cards", "_law_many", "_law_made", "_law_k", "_law_number"]) (N := ["_law_k"]) (ix := [none]) rfl (by refine ⟨rfl, ?_, ?_, ?_, ?_, rfl, ?_⟩ <;> decide +kernel) (pi_range1 rfl B.range (pac_Name (pvQ v__law_lists_3 rfl rfl) pa_nil)) (by intros; exact (pg_name (i := 0) (show (["_law_k"] : List Str).Nodup by decide +kernel) rfl (Or.inl rfl))) (by intros; exact ptl_nil) (by intros; exact (pm_lst pa_nil)))
    (pss_cons (ps_for PassesOwn.never rfl (pi_range1 rfl B.range (pac_Call (pe_callB call_len_seq rfl B.len boot_len (pac_Name (pvQ v__law_lists_1 rfl rfl) pa_nil)) pa_nil)) (pg_name (i := 5) sc__law_lists.nd rfl (Or.inl rfl)) (pss_cons (ps_set (i := 6) sc__law_lists.nd rfl (Or.inl rfl) (pe_op op_mod (pe_ix ix_list (pm_lst (pac_Call (pe_callB (call_sumT rfl) rfl B.sum boot_sum (pac_Subscript (pe_ix ix_list (pvQ v__law_lists_1 rfl rfl) (pvQ v__law_lists_5 rfl rfl) (fun _ _ => rfl)) pa_nil)) (pac_Call (pe_callB (call_sumT rfl) rfl B.sum boot_sum (pac_Subscript (pe_ix ix_list (pvQ v__law_lists_1 rfl rfl) (pvQ v__law_lists_5 rfl rfl) (fun _ _ => rfl)) pa_nil)) (pac_Name (pvQ v__law_lists_5 rfl rfl) (pac_Call (pe_callF F__law_mixed (hr.mono (by decide)) (pac_Name (pvQ v__law_lists_0 rfl rfl) (pac_Name (pvQ v__law_lists_5 rfl rfl) pa_nil))) pa_nil))))) (pe_op op_mod (pvQ v__law_lists_0 rfl rfl) pe_int) (fun _ _ => rfl)) (pvQ v__law_lists_3 rfl rfl)))
    (pss_one (ps_expr (pe_bm PySem.F.plainAttrs_list PySem.F.slot_list_append PySem.F.type_list_append mt_append (pe_ix ix_list (pvQ v__law_lists_4 rfl rfl) (pvQ v__law_lists_6 rfl rfl) (fun _ _ => rfl)) (pac_Subscript (pe_ix ix_list (pvQ v__law_lists_1 rfl rfl) (pvQ v__law_lists_5 rfl rfl) (fun _ _ => rfl)) pa_nil))))))
    (pss_one (ps_ret (pvQ v__law_lists_4 rfl rfl))))))), rd__law_lists_l h⟩
theorem ok__law_three {f : Addr} {fd : FuncData} (D : Def K mg "_law_three" S__law_three ["_law_cell_here", "_law_many"] f fd) (B : Blt mg) : FnB P w K mg base 1 "_law_three" ["_law_cell_here", "_law_many"] (sp__law_three K) := by
  refine D.ok sc__law_three (fun vs H Q E h => len__law_three h) (fun cdv A outer s H vs Q E hr h => ?_)
  have hu := hr.units0
  have hux := hr.units64
  exact ⟨t__law_three K, (pss_cons (ps_set (i := 2) sc__law_three.nd rfl (Or.inl rfl) (pe_callTy (call_lrng rfl) rfl B.list boot_list (pac_Call (pe_callTy call_rngV rfl B.range boot_range (pac_Name (pvQ v__law_three_1 rfl rfl) pa_nil)) pa_nil)))
    (pss_cons (ps_set (i := 3) sc__law_three.nd rfl (Or.inl rfl) (pm_lst pa_nil))
    (pss_cons (ps_for PassesOwn.never rfl (pi_range1 rfl B.range (pac_Constant pe_int pa_nil)) (pg_name (i := 4) sc__law_three.nd rfl (Or.inl rfl)) (pss_cons (ps_expr (pe_bm PySem.F.plainAttrs_list PySem.F.slot_list_append PySem.F.type_list_append mt_append (pvQ v__law_three_3 rfl rfl) (pac_Call (pe_bm PySem.F.plainAttrs_list PySem.F.slot_list_pop PySem.F.type_list_pop mt_popAt (pvQ v__law_three_2 rfl rfl) (pac_BinOp (pe_op op_mod (pvQ v__law_three_0 rfl rfl) (pe_callB call_len_seq rfl B.len boot_len (pac_Name (pvQ v__law_three_2 rfl rfl) pa_nil))) pa_nil)) pa_nil)))
    (pss_one (ps_set (i := 0) sc__law_three.nd rfl (Or.inl rfl) (pe_op op_fdiv (pvQ v__law_three_0 rfl rfl) pe_int)))))
    (pss_one (ps_ret (pvQ v__law_three_3 rfl rfl)))))), rd__law_three h⟩
theorem ok__law_order {f : Addr} {fd : FuncData} (D : Def K mg "_law_order" S__law_order ["_law_cell_here", "_law_many"] f fd) (B : Blt mg) (F__law_mixed : FnB P w K mg base 1 "_law_mixed" ["_law_cell_here", "_law_k"] (sp__law_mixed_l K)) : FnB P w K mg base 2 "_law_order" ["_law_cell_here", "_law_many"] (sp__law_order K) := by
  refine D.ok sc__law_order (fun vs H Q E h => len__law_order h) (fun cdv A outer s H vs Q E hr h => ?_)
  have hu := hr.units0
  have hux := hr.units64
  exact ⟨t__law_order K, (pss_cons (ps_set (i := 2) sc__law_order.nd rfl (Or.inl rfl) (pm_lst pa_nil))
    (pss_cons (ps_for PassesOwn.never rfl (pi_range1 rfl B.range (pac_Name (pvQ v__law_order_1 rfl rfl) pa_nil)) (pg_name (i := 3) sc__law_order.nd rfl (Or.inl rfl)) (pss_one (ps_expr (pe_bm PySem.F.plainAttrs_list PySem.F.slot_list_insert PySem.F.type_list_insert mt_insert (pvQ v__law_order_2 rfl rfl) (pac_BinOp (pe_op op_mod (pe_callF F__law_mixed (hr.mono (by decide)) (pac_Name (pvQ v__law_order_0 rfl rfl) (pac_Name (pvQ v__law_order_3 rfl rfl) pa_nil))) (pe_op op_add (pvQ v__law_order_3 rfl rfl) pe_int)) (pac_Name (pvQ v__law_order_3 rfl rfl) pa_nil))))))
    (pss_one (ps_ret (pvQ v__law_order_2 rfl rfl))))), rd__law_order h⟩
theorem ok__law_exchanged {f : Addr} {fd : FuncData} (D : Def K mg "_law_exchanged" S__law_exchanged ["_law_lists_here", "_law_order_here"] f fd) (B : Blt mg) : FnB P w K mg base 1 "_law_exchanged" ["_law_lists_here", "_law_order_here"] (sp__law_exchanged K) := by
  refine D.ok sc__law_exchanged (fun vs H Q E h => len__law_exchanged h) (fun cdv A outer s H vs Q E hr h => ?_)
  have hu := hr.units0
  have hux := hr.units64
  exact ⟨t__law_exchanged K, (pss_cons (ps_set (i := 2) sc__law_exchanged.nd rfl (Or.inl rfl) (pm_lst pa_nil))
    (pss_cons (ps_for PassesOwn.never rfl (pi_list (pvQ v__law_exchanged_0 rfl rfl)) (pg_name (i := 3) sc__law_exchanged.nd rfl (Or.inl rfl)) (pss_one (ps_expr (pe_bm PySem.F.plainAttrs_list PySem.F.slot_list_append PySem.F.type_list_append mt_append (pvQ v__law_exchanged_2 rfl rfl) (pac_ListComp (pe_comp (sc := (defScope S__law_exchanged)) (NX := ["_law_lists_here", "_law_order_here", "_law_made", "_law_some"]) (N := ["_law_held", "_law_order_here"]) (ix := [none, some 1]) rfl (by refine ⟨rfl, ?_, ?_, ?_, ?_, rfl, ?_⟩ <;> decide +kernel) (pi_list (pvQ v__law_exchanged_3 rfl rfl)) (by intros; exact (pg_name (i := 0) (show (["_law_held", "_law_order_here"] : List Str).Nodup by decide +kernel) rfl (Or.inl rfl))) (by intros; exact ptl_nil) (by intros; exact (pe_callTy cm_tuple rfl B.tuple boot_tuple (pac_Call (pe_callB call_sorted rfl B.sorted boot_sorted (pac_ListComp (pe_comp (sc := _) (hsc := rfl) (NX := ["_law_held", "_law_order_here"]) (N := ["_law_card", "_law_order_here"]) (ix := [none, some 1]) rfl (by refine ⟨rfl, ?_, ?_, ?_, ?_, rfl, ?_⟩ <;> first | decide +kernel | exact comp_free (by decide +kernel)) (pi_tup (pv 0)) (by intros; exact (pg_name (i := 0) (show (["_law_card", "_law_order_here"] : List Str).Nodup by decide +kernel) rfl (Or.inl rfl))) (by intros; exact ptl_nil) (by intros; exact (pe_ix ix_list (pv 1) (pv 0) (fun _ _ => rfl)))) pa_nil)) pa_nil)))) pa_nil)))))
    (pss_one (ps_ret (pvQ v__law_exchanged_2 rfl rfl))))), rd__law_exchanged h⟩
theorem ok__law_fails {f : Addr} {fd : FuncData} (D : Def K mg "_law_fails" S__law_fails ["_law_cards", "_law_sizes", "_law_lists_here", "_law_hands"] f fd) (B : Blt mg) (F_fails : FnB P w K mg base 6 "fails" ["cards", "sizes", "words", "a", "b", "e"] (sp_fails K)) : FnB P w K mg base 7 "_law_fails" ["_law_cards", "_law_sizes", "_law_lists_here", "_law_hands"] (sp__law_fails K) := by
  refine D.ok sc__law_fails (fun vs H Q E h => len__law_fails h) (fun cdv A outer s H vs Q E hr h => ?_)
  have hu := hr.units0
  have hux := hr.units64
  exact ⟨t__law_fails K, (pss_one (ps_ret (pe_callF F_fails (hr.mono (by decide)) (pac_Name (pvQ v__law_fails_0 rfl rfl) (pac_Call (pe_callTy cm_list rfl B.list boot_list (pac_Name (pvQ v__law_fails_1 rfl rfl) pa_nil)) (pac_ListComp (pe_comp (sc := (defScope S__law_fails)) (NX := ["_law_cards", "_law_sizes", "_law_lists_here", "_law_hands"]) (N := ["_law_some"]) (ix := [none]) rfl (by refine ⟨rfl, ?_, ?_, ?_, ?_, rfl, ?_⟩ <;> decide +kernel) (pi_list (pvQ v__law_fails_2 rfl rfl)) (by intros; exact (pg_name (i := 0) (show (["_law_some"] : List Str).Nodup by decide +kernel) rfl (Or.inl rfl))) (by intros; exact ptl_nil) (by intros; exact (pe_callTy cm_list rfl B.list boot_list (pac_Name (pv 0) pa_nil)))) (pac_Subscript (pe_ix ix_list (pvQ v__law_fails_3 rfl rfl) pe_int (fun _ _ => rfl)) (pac_Subscript (pe_ix ix_list (pvQ v__law_fails_3 rfl rfl) pe_int (fun _ _ => rfl)) (pac_Subscript (pe_ix ix_list (pvQ v__law_fails_3 rfl rfl) pe_int (fun _ _ => rfl)) pa_nil))))))))), rd__law_fails h⟩
theorem ok_law {f : Addr} {fd : FuncData} (D : Def K mg "law" S_law ["_law_script"] f fd) (B : Blt mg) (F__law_cell : FnB P w K mg base 1 "_law_cell" ["_law_script", "_law_k"] (sp__law_cell_l K)) (F__law_exchanged : FnB P w K mg base 1 "_law_exchanged" ["_law_lists_here", "_law_order_here"] (sp__law_exchanged K)) (F__law_fails : FnB P w K mg base 7 "_law_fails" ["_law_cards", "_law_sizes", "_law_lists_here", "_law_hands"] (sp__law_fails K)) (F__law_holdings : FnB P w K mg base 1 "_law_holdings" ["_law_cards", "_law_size"] (sp__law_holdings K)) (F__law_lists : FnB P w K mg base 2 "_law_lists" ["_law_cell_here", "_law_holdings_here", "_law_cards"] (sp__law_lists_l K)) (F__law_order : FnB P w K mg base 2 "_law_order" ["_law_cell_here", "_law_many"] (sp__law_order K)) (F__law_pack : FnB P w K mg base 1 "_law_pack" ["_law_cell_here"] (sp__law_pack_l K)) (F__law_three : FnB P w K mg base 1 "_law_three" ["_law_cell_here", "_law_many"] (sp__law_three K)) : FnOk P w K mg base CX0 8 f fd ["_law_script"] (spLaw K) := by
  refine D.fn.ok sc_law (fun vs H Q E h => len_law h) (fun cdv A outer s H vs Q E hr h => ?_)
  have hu := hr.units0
  have hux := hr.units64
  exact ⟨t_law K, (pss_cons (ps_set (i := 1) sc_law.nd rfl (Or.inl rfl) (pe_callF F__law_cell (hr.mono (by decide)) (pac_Name (pvQ v_law_0 rfl rfl) (pac_Constant pe_int pa_nil))))
    (pss_cons (ps_asg (pe_callF F__law_pack (hr.mono (by decide)) (pac_Name (pvQ v_law_1 rfl rfl) pa_nil)) (pg_tup rfl (pgs_cons (pg_name (i := 2) sc_law.nd rfl (Or.inl rfl)) (pgs_cons (pg_name (i := 3) sc_law.nd rfl (Or.inr rfl)) pgs_nil))))
    (pss_cons (ps_set (i := 4) sc_law.nd rfl (Or.inl rfl) (pe_callF F__law_three (hr.mono (by decide)) (pac_Call (pe_callF F__law_cell (hr.mono (by decide)) (pac_Name (pvQ v_law_0 rfl rfl) (pac_Constant pe_int pa_nil))) (pac_Call (pe_callB call_len_seq rfl B.len boot_len (pac_Name (pvQ v_law_3 rfl rfl) pa_nil)) pa_nil))))
    (pss_cons (ps_set (i := 5) sc_law.nd rfl (Or.inl rfl) (pe_callF F__law_cell (hr.mono (by decide)) (pac_Name (pvQ v_law_0 rfl rfl) (pac_Constant pe_int pa_nil))))
    (pss_cons (ps_if (pt_cmpR op_eq (pe_op op_mod (pe_op op_fdiv (pvQ v_law_1 rfl rfl) pe_int) pe_int) pe_int (nomark _)) (pss_cons (ps_asg (pe_ix ix_list (pm_lst (pac_Tuple (pm_tup (pac_Constant pe_int (pac_List (pm_lst (pac_Constant pe_int (pac_Constant pe_int (pac_Constant pe_int pa_nil)))) pa_nil))) (pac_Tuple (pm_tup (pac_Constant pe_int (pac_List (pm_lst (pac_Constant pe_int (pac_Constant pe_int (pac_Constant pe_int pa_nil)))) pa_nil))) pa_nil))) (pe_op op_mod (pvQ v_law_1 rfl rfl) pe_int) (fun _ _ => rfl)) (pg_tup rfl (pgs_cons (pg_name (i := 2) sc_law.nd rfl (Or.inl rfl)) (pgs_cons (pg_name (i := 3) sc_law.nd rfl (Or.inr rfl)) pgs_nil))))
    (pss_cons (ps_set (i := 4) sc_law.nd rfl (Or.inl rfl) (pe_ix ix_list (pm_lst (pac_List (pm_lst (pac_Constant pe_int (pac_Constant pe_int (pac_Constant pe_int pa_nil)))) (pac_List (pm_lst (pac_Constant pe_int (pac_Constant pe_int (pac_Constant pe_int pa_nil)))) pa_nil))) (pe_op op_mod (pe_op op_fdiv (pvQ v_law_1 rfl rfl) pe_int) pe_int) (fun _ _ => rfl)))
    (pss_one (ps_set (i := 5) sc_law.nd rfl (Or.inl rfl) pe_int)))) pss_nil)
    (pss_cons (ps_set (i := 6) sc_law.nd rfl (Or.inr rfl) (pe_callF F__law_lists (hr.mono (by decide)) (pac_Name (pvQ v_law_5 rfl rfl) (pac_Call (pe_callF F__law_holdings (hr.mono (by decide)) (pac_Name (pvQ v_law_2 rfl rfl) (pac_Subscript (pe_ix ix_list (pvQ v_law_3 rfl rfl) (pe_ix ix_list (pvQ v_law_4 rfl rfl) pe_int (fun _ _ => rfl)) (fun _ _ => rfl)) pa_nil))) (pac_Name (pvQ v_law_2 rfl rfl) pa_nil)))))
    (pss_cons (ps_set (i := 7) sc_law.nd rfl (Or.inl rfl) (pe_callF F__law_fails (hr.mono (by decide)) (pac_Name (pvQ v_law_2 rfl rfl) (pac_Name (pvQ v_law_3 rfl rfl) (pac_Name (pvQ v_law_6 rfl rfl) (pac_Name (pvQ v_law_4 rfl rfl) pa_nil))))))
    (pss_cons (ps_set (i := 8) sc_law.nd rfl (Or.inr rfl) (pe_callF F__law_order (hr.mono (by decide)) (pac_Call (pe_callF F__law_cell (hr.mono (by decide)) (pac_Name (pvQ v_law_0 rfl rfl) (pac_Constant pe_int pa_nil))) (pac_Call (pe_callB call_len_seq rfl B.len boot_len (pac_Name (pvQ v_law_6 rfl rfl) pa_nil)) pa_nil))))
    (pss_cons (ps_setComp (i := 9) sc_law.nd rfl rfl (sc := (defScope S_law)) (NX := ["_law_script", "_law_cell_here", "_law_cards", "_law_sizes", "_law_hands", "_law_way", "_law_lists_here", "_law_found", "_law_order_here", "_law_turned", "_law_row", "_law_other", "_law_moved"]) (N := ["_law_k", "_law_lists_here"]) (ix := [none, some 6]) rfl (by refine ⟨rfl, ?_, ?_, ?_, ?_, rfl, ?_⟩ <;> decide +kernel) (pi_list (pvQ v_law_8 rfl rfl)) (by intros; exact (pg_name (i := 0) (show (["_law_k", "_law_lists_here"] : List Str).Nodup by decide +kernel) rfl (Or.inl rfl))) (by intros; exact ptl_nil) (by intros; exact (pe_revL (pe_ix ix_list (pv 1) (pv 0) (fun _ _ => rfl)) (po_some (pe_un un_neg pe_int)))))
    (pss_cons (ps_if (pt_cmpR (op_neF hux) (pe_callF F__law_fails (hr.mono (by decide)) (pac_Name (pvQ v_law_2 rfl rfl) (pac_Name (pvQ v_law_3 rfl rfl) (pac_Name (pvQ v_law_9 rfl rfl) (pac_Name (pvQ v_law_4 rfl rfl) pa_nil))))) (pvQ v_law_7 rfl rfl) (nomark _)) (pss_one (ps_ret pe_bl)) pss_nil)
    (pss_cons (ps_set (i := 8) sc_law.nd rfl (Or.inr rfl) (pe_callF F__law_order (hr.mono (by decide)) (pac_Call (pe_callF F__law_cell (hr.mono (by decide)) (pac_Name (pvQ v_law_0 rfl rfl) (pac_Constant pe_int pa_nil))) (pac_Name (pvQ v_law_2 rfl rfl) pa_nil))))
    (pss_cons (ps_for PassesOwn.never rfl (pi_list (pm_lst (pac_Name (pvQ v_law_8 rfl rfl) (pac_Subscript (pe_revL (pvQ v_law_8 rfl rfl) (po_some (pe_un un_neg pe_int))) pa_nil)))) (pg_name (i := 10) sc_law.nd rfl (Or.inl rfl)) (pss_cons (ps_set (i := 11) sc_law.nd rfl (Or.inl rfl) (pe_callF F__law_fails (hr.mono (by decide)) (pac_Name (pvQ v_law_2 rfl rfl) (pac_Name (pvQ v_law_3 rfl rfl) (pac_Call (pe_callF F__law_exchanged (hr.mono (by decide)) (pac_Name (pvQ v_law_6 rfl rfl) (pac_Name (pvQ v_law_10 rfl rfl) pa_nil))) (pac_Name (pvQ v_law_4 rfl rfl) pa_nil))))))
    (pss_one (ps_if (pt_cmpR op_ne (pe_cmpR op_isNone (pvQ v_law_11 rfl rfl) pe_non (nomark _)) (pe_cmpR op_isNone (pvQ v_law_7 rfl rfl) pe_non (nomark _)) (nomark _)) (pss_one (ps_ret pe_bl)) pss_nil))))
    (pss_cons (ps_set (i := 8) sc_law.nd rfl (Or.inr rfl) (pe_callF F__law_order (hr.mono (by decide)) (pac_Call (pe_callF F__law_cell (hr.mono (by decide)) (pac_Name (pvQ v_law_0 rfl rfl) (pac_Constant pe_int pa_nil))) (pac_Call (pe_callB call_len_seq rfl B.len boot_len (pac_Name (pvQ v_law_3 rfl rfl) pa_nil)) pa_nil))))
    (pss_cons (ps_setComp (i := 12) sc_law.nd rfl rfl (sc := (defScope S_law)) (NX := ["_law_script", "_law_cell_here", "_law_cards", "_law_sizes", "_law_hands", "_law_way", "_law_lists_here", "_law_found", "_law_order_here", "_law_turned", "_law_row", "_law_other", "_law_moved"]) (N := ["_law_hand", "_law_order_here"]) (ix := [none, some 8]) rfl (by refine ⟨rfl, ?_, ?_, ?_, ?_, rfl, ?_⟩ <;> decide +kernel) (pi_list (pvQ v_law_4 rfl rfl)) (by intros; exact (pg_name (i := 0) (show (["_law_hand", "_law_order_here"] : List Str).Nodup by decide +kernel) rfl (Or.inl rfl))) (by intros; exact ptl_nil) (by intros; exact (pe_bm PySem.F.plainAttrs_list PySem.F.slot_list_index PySem.F.type_list_index mt_index (pv 1) (pac_Name (pv 0) pa_nil))))
    (pss_cons (ps_set (i := 11) sc_law.nd rfl (Or.inl rfl) (pe_callF F__law_fails (hr.mono (by decide)) (pac_Name (pvQ v_law_2 rfl rfl) (pac_ListComp (pe_comp (sc := (defScope S_law)) (NX := ["_law_script", "_law_cell_here", "_law_cards", "_law_sizes", "_law_hands", "_law_way", "_law_lists_here", "_law_found", "_law_order_here", "_law_turned", "_law_row", "_law_other", "_law_moved"]) (N := ["_law_hand", "_law_sizes"]) (ix := [none, some 3]) rfl (by refine ⟨rfl, ?_, ?_, ?_, ?_, rfl, ?_⟩ <;> decide +kernel) (pi_list (pvQ v_law_8 rfl rfl)) (by intros; exact (pg_name (i := 0) (show (["_law_hand", "_law_sizes"] : List Str).Nodup by decide +kernel) rfl (Or.inl rfl))) (by intros; exact ptl_nil) (by intros; exact (pe_ix ix_list (pv 1) (pv 0) (fun _ _ => rfl)))) (pac_Name (pvQ v_law_6 rfl rfl) (pac_Name (pvQ v_law_12 rfl rfl) pa_nil))))))
    (pss_one (ps_ret (pe_cmpR op_eq (pe_cmpR op_isNone (pvQ v_law_11 rfl rfl) pe_non (nomark _)) (pe_cmpR op_isNone (pvQ v_law_7 rfl rfl) pe_non (nomark _)) (nomark _))))))))))))))))))), rd_law h⟩
theorem build (B : Blt mg) {f1 : Addr} {fd1 : FuncData} (D_is_whole : Def K mg "is_whole" S_is_whole ["thing"] f1 fd1) {f2 : Addr} {fd2 : FuncData} (D_is_within : Def K mg "is_within" S_is_within ["thing", "least", "most"] f2 fd2) {f3 : Addr} {fd3 : FuncData} (D_is_pack : Def K mg "is_pack" S_is_pack ["cards", "sizes"] f3 fd3) {f4 : Addr} {fd4 : FuncData} (D_how_many : Def K mg "how_many" S_how_many ["cards", "sizes"] f4 fd4) {f5 : Addr} {fd5 : FuncData} (D_choices : Def K mg "choices" S_choices ["many", "taken"] f5 fd5) {f6 : Addr} {fd6 : FuncData} (D_deals_of : Def K mg "deals_of" S_deals_of ["cards", "sizes"] f6 fd6) {f7 : Addr} {fd7 : FuncData} (D_with_one_more : Def K mg "with_one_more" S_with_one_more ["begun", "room"] f7 fd7) {f8 : Addr} {fd8 : FuncData} (D_cards_of : Def K mg "cards_of" S_cards_of ["deal", "who"] f8 fd8) {f9 : Addr} {fd9 : FuncData} (D_first_view : Def K mg "first_view" S_first_view ["deals", "hand"] f9 fd9) {f10 : Addr} {fd10 : FuncData} (D_split : Def K mg "split" S_split ["view", "values"] f10 fd10) {f11 : Addr} {fd11 : FuncData} (D_least_with_same : Def K mg "least_with_same" S_least_with_same ["marks"] f11 fd11) {f12 : Addr} {fd12 : FuncData} (D_fails : Def K mg "fails" S_fails ["cards", "sizes", "words", "a", "b", "e"] f12 fd12) {f13 : Addr} {fd13 : FuncData} (D_words_said : Def K mg "words_said" S_words_said ["deals", "words", "a"] f13 fd13) {f14 : Addr} {fd14 : FuncData} (D_least_unlike : Def K mg "least_unlike" S_least_unlike ["view", "other_view"] f14 fd14) {f15 : Addr} {fd15 : FuncData} (D_least_told : Def K mg "least_told" S_least_told ["deals", "view", "e"] f15 fd15) {f16 : Addr} {fd16 : FuncData} (D_least_unmoved : Def K mg "least_unmoved" S_least_unmoved ["deal", "least", "moved", "e"] f16 fd16) {f17 : Addr} {fd17 : FuncData} (D__law_cell : Def K mg "_law_cell" S__law_cell ["_law_script", "_law_k"] f17 fd17) {f18 : Addr} {fd18 : FuncData} (D__law_mixed : Def K mg "_law_mixed" S__law_mixed ["_law_cell_here", "_law_k"] f18 fd18) {f19 : Addr} {fd19 : FuncData} (D__law_pack : Def K mg "_law_pack" S__law_pack ["_law_cell_here"] f19 fd19) {f20 : Addr} {fd20 : FuncData} (D__law_holdings : Def K mg "_law_holdings" S__law_holdings ["_law_cards", "_law_size"] f20 fd20) {f21 : Addr} {fd21 : FuncData} (D__law_lists : Def K mg "_law_lists" S__law_lists ["_law_cell_here", "_law_holdings_here", "_law_cards"] f21 fd21) {f22 : Addr} {fd22 : FuncData} (D__law_three : Def K mg "_law_three" S__law_three ["_law_cell_here", "_law_many"] f22 fd22) {f23 : Addr} {fd23 : FuncData} (D__law_order : Def K mg "_law_order" S__law_order ["_law_cell_here", "_law_many"] f23 fd23) {f24 : Addr} {fd24 : FuncData} (D__law_exchanged : Def K mg "_law_exchanged" S__law_exchanged ["_law_lists_here", "_law_order_here"] f24 fd24) {f25 : Addr} {fd25 : FuncData} (D__law_fails : Def K mg "_law_fails" S__law_fails ["_law_cards", "_law_sizes", "_law_lists_here", "_law_hands"] f25 fd25) {f26 : Addr} {fd26 : FuncData} (D_law : Def K mg "law" S_law ["_law_script"] f26 fd26) {t_MOST_CARDS : Tok} (m_MOST_CARDS : mg "MOST_CARDS" = some (.int 12 t_MOST_CARDS)) {t_MOST_HANDS : Tok} (m_MOST_HANDS : mg "MOST_HANDS" = some (.int 5 t_MOST_HANDS)) {t_MOST_DEALS : Tok} (m_MOST_DEALS : mg "MOST_DEALS" = some (.int 2000 t_MOST_DEALS)) : FnOk P w K mg base CX0 8 f26 fd26 ["_law_script"] (spLaw K) := by
  have F__law_cell : FnB P w K mg base 1 "_law_cell" ["_law_script", "_law_k"] (sp__law_cell_l K) := ok__law_cell D__law_cell B
  have F__law_exchanged : FnB P w K mg base 1 "_law_exchanged" ["_law_lists_here", "_law_order_here"] (sp__law_exchanged K) := ok__law_exchanged D__law_exchanged B
  have F_choices : FnB P w K mg base 1 "choices" ["many", "taken"] (sp_choices K) := ok_choices D_choices B
  have F_is_whole : FnB P w K mg base 1 "is_whole" ["thing"] (sp_is_whole K) := ok_is_whole D_is_whole B
  have F_is_within : FnB P w K mg base 2 "is_within" ["thing", "least", "most"] (sp_is_within K) := ok_is_within D_is_within B F_is_whole
  have F_is_pack : FnB P w K mg base 3 "is_pack" ["cards", "sizes"] (sp_is_pack K) := ok_is_pack D_is_pack B m_MOST_CARDS m_MOST_HANDS F_is_within
  have F_how_many : FnB P w K mg base 4 "how_many" ["cards", "sizes"] (sp_how_many K) := ok_how_many D_how_many B F_choices F_is_pack
  have F_with_one_more : FnB P w K mg base 1 "with_one_more" ["begun", "room"] (sp_with_one_more K) := ok_with_one_more D_with_one_more B
  have F_deals_of : FnB P w K mg base 5 "deals_of" ["cards", "sizes"] (sp_deals_of K) := ok_deals_of D_deals_of B m_MOST_DEALS F_how_many F_with_one_more
  have F_cards_of : FnB P w K mg base 1 "cards_of" ["deal", "who"] (sp_cards_of K) := ok_cards_of D_cards_of B
  have F_least_with_same : FnB P w K mg base 1 "least_with_same" ["marks"] (sp_least_with_same K) := ok_least_with_same D_least_with_same B
  have F_first_view : FnB P w K mg base 2 "first_view" ["deals", "hand"] (sp_first_view K) := ok_first_view D_first_view B F_cards_of F_least_with_same
  have F_least_unmoved : FnB P w K mg base 1 "least_unmoved" ["deal", "least", "moved", "e"] (sp_least_unmoved K) := ok_least_unmoved D_least_unmoved B
  have F_least_told : FnB P w K mg base 2 "least_told" ["deals", "view", "e"] (sp_least_told K) := ok_least_told D_least_told B F_least_unmoved
  have F_least_unlike : FnB P w K mg base 1 "least_unlike" ["view", "other_view"] (sp_least_unlike K) := ok_least_unlike D_least_unlike B
  have F_split : FnB P w K mg base 2 "split" ["view", "values"] (sp_split K) := ok_split D_split B F_least_with_same
  have F_words_said : FnB P w K mg base 2 "words_said" ["deals", "words", "a"] (sp_words_said K) := ok_words_said D_words_said B F_cards_of
  have F_fails : FnB P w K mg base 6 "fails" ["cards", "sizes", "words", "a", "b", "e"] (sp_fails K) := ok_fails D_fails B F_deals_of F_first_view F_least_told F_least_unlike F_split F_words_said
  have F__law_fails : FnB P w K mg base 7 "_law_fails" ["_law_cards", "_law_sizes", "_law_lists_here", "_law_hands"] (sp__law_fails K) := ok__law_fails D__law_fails B F_fails
  have F__law_holdings : FnB P w K mg base 1 "_law_holdings" ["_law_cards", "_law_size"] (sp__law_holdings K) := ok__law_holdings D__law_holdings B
  have F__law_mixed : FnB P w K mg base 1 "_law_mixed" ["_law_cell_here", "_law_k"] (sp__law_mixed_l K) := ok__law_mixed D__law_mixed B
  have F__law_lists : FnB P w K mg base 2 "_law_lists" ["_law_cell_here", "_law_holdings_here", "_law_cards"] (sp__law_lists_l K) := ok__law_lists D__law_lists B F__law_mixed
  have F__law_order : FnB P w K mg base 2 "_law_order" ["_law_cell_here", "_law_many"] (sp__law_order K) := ok__law_order D__law_order B F__law_mixed
  have F__law_pack : FnB P w K mg base 1 "_law_pack" ["_law_cell_here"] (sp__law_pack_l K) := ok__law_pack D__law_pack B
  have F__law_three : FnB P w K mg base 1 "_law_three" ["_law_cell_here", "_law_many"] (sp__law_three K) := ok__law_three D__law_three B
  exact ok_law D_law B F__law_cell F__law_exchanged F__law_fails F__law_holdings F__law_lists F__law_order F__law_pack F__law_three
end
@[elab_as_elim] theorem ofLen1 {α : Type} {P : List α → Prop} (us : List α) (hl : us.length = 1) (h : ∀ a0 : α, P [a0]) : P us := match us, hl with | [a0], _ => h a0
@[elab_as_elim] theorem ofLen2 {α : Type} {P : List α → Prop} (us : List α) (hl : us.length = 2) (h : ∀ a0 a1 : α, P [a0, a1]) : P us := match us, hl with | [a0, a1], _ => h a0 a1
@[elab_as_elim] theorem ofLen3 {α : Type} {P : List α → Prop} (us : List α) (hl : us.length = 3) (h : ∀ a0 a1 a2 : α, P [a0, a1, a2]) : P us := match us, hl with | [a0, a1, a2], _ => h a0 a1 a2
@[elab_as_elim] theorem ofLen4 {α : Type} {P : List α → Prop} (us : List α) (hl : us.length = 4) (h : ∀ a0 a1 a2 a3 : α, P [a0, a1, a2, a3]) : P us := match us, hl with | [a0, a1, a2, a3], _ => h a0 a1 a2 a3
@[elab_as_elim] theorem ofLen6 {α : Type} {P : List α → Prop} (us : List α) (hl : us.length = 6) (h : ∀ a0 a1 a2 a3 a4 a5 : α, P [a0, a1, a2, a3, a4, a5]) : P us := match us, hl with | [a0, a1, a2, a3, a4, a5], _ => h a0 a1 a2 a3 a4 a5
theorem all_mk {l : PySem.W.OpenLaw} {w : World} {K : PySem.W.Frag} {h : Heap} {mg : Str → Option Value} {fa f1 f2 f3 f4 f5 f6 f7 f8 f9 f10 f11 f12 f13 f14 f15 f16 f17 f18 f19 f20 f21 f22 f23 f24 f25 f26 : Addr} (X : K.In h) (G : h.Ns mainGlobals mg) (hfa : mg "law" = some (.ref fa))
    {od1 an1 od2 an2 od3 an3 od4 an4 od5 an5 od6 an6 od7 an7 od8 an8 od9 an9 od10 an10 od11 an11 od12 an12 od13 an13 od14 an14 od15 an15 od16 an16 od17 an17 od18 an18 od19 an19 od20 an20 od21 an21 od22 an22 od23 an23 od24 an24 od25 an25 od26 an26 : Option Addr} {sl1 sl2 sl3 sl4 sl5 sl6 sl7 sl8 sl9 sl10 sl11 sl12 sl13 sl14 sl15 sl16 sl17 sl18 sl19 sl20 sl21 sl22 sl23 sl24 sl25 sl26 : Array (Option Value)} {oc1 kV1 dc1 pm1 cd1 ct1 oc2 kV2 dc2 pm2 cd2 ct2 oc3 kV3 dc3 pm3 cd3 ct3 oc4 kV4 dc4 pm4 cd4 ct4 oc5 kV5 dc5 pm5 cd5 ct5 oc6 kV6 dc6 pm6 cd6 ct6 oc7 kV7 dc7 pm7 cd7 ct7 oc8 kV8 dc8 pm8 cd8 ct8 oc9 kV9 dc9 pm9 cd9 ct9 oc10 kV10 dc10 pm10 cd10 ct10 oc11 kV11 dc11 pm11 cd11 ct11 oc12 kV12 dc12 pm12 cd12 ct12 oc13 kV13 dc13 pm13 cd13 ct13 oc14 kV14 dc14 pm14 cd14 ct14 oc15 kV15 dc15 pm15 cd15 ct15 oc16 kV16 dc16 pm16 cd16 ct16 oc17 kV17 dc17 pm17 cd17 ct17 oc18 kV18 dc18 pm18 cd18 ct18 oc19 kV19 dc19 pm19 cd19 ct19 oc20 kV20 dc20 pm20 cd20 ct20 oc21 kV21 dc21 pm21 cd21 ct21 oc22 kV22 dc22 pm22 cd22 ct22 oc23 kV23 dc23 pm23 cd23 ct23 oc24 kV24 dc24 pm24 cd24 ct24 oc25 kV25 dc25 pm25 cd25 ct25 oc26 kV26 dc26 pm26 cd26 ct26 : Value} {t_MOST_CARDS : Tok}  {t_MOST_HANDS : Tok}  {t_MOST_DEALS : Tok} 
    (a1 : PySem.W.nsIn K mainGlobals "is_whole" = some (some (.ref f1))) (l1 : K.lookup f1 = some ⟨oc1, od1, .func (PySem.W.fnOf "is_whole" "is_whole" (defArgs S_is_whole) (defBody S_is_whole) (defScope S_is_whole) .none kV1 dc1 pm1 an1 cd1 ct1), sl1⟩) (c1 : PySem.W.codeIn K cd1 "is_whole" = true) (k1 : PySem.W.keepIn K (.ref f1) = true)
    (a2 : PySem.W.nsIn K mainGlobals "is_within" = some (some (.ref f2))) (l2 : K.lookup f2 = some ⟨oc2, od2, .func (PySem.W.fnOf "is_within" "is_within" (defArgs S_is_within) (defBody S_is_within) (defScope S_is_within) .none kV2 dc2 pm2 an2 cd2 ct2), sl2⟩) (c2 : PySem.W.codeIn K cd2 "is_within" = true) (k2 : PySem.W.keepIn K (.ref f2) = true)
    (a3 : PySem.W.nsIn K mainGlobals "is_pack" = some (some (.ref f3))) (l3 : K.lookup f3 = some ⟨oc3, od3, .func (PySem.W.fnOf "is_pack" "is_pack" (defArgs S_is_pack) (defBody S_is_pack) (defScope S_is_pack) .none kV3 dc3 pm3 an3 cd3 ct3), sl3⟩) (c3 : PySem.W.codeIn K cd3 "is_pack" = true) (k3 : PySem.W.keepIn K (.ref f3) = true)
    (a4 : PySem.W.nsIn K mainGlobals "how_many" = some (some (.ref f4))) (l4 : K.lookup f4 = some ⟨oc4, od4, .func (PySem.W.fnOf "how_many" "how_many" (defArgs S_how_many) (defBody S_how_many) (defScope S_how_many) .none kV4 dc4 pm4 an4 cd4 ct4), sl4⟩) (c4 : PySem.W.codeIn K cd4 "how_many" = true) (k4 : PySem.W.keepIn K (.ref f4) = true)
    (a5 : PySem.W.nsIn K mainGlobals "choices" = some (some (.ref f5))) (l5 : K.lookup f5 = some ⟨oc5, od5, .func (PySem.W.fnOf "choices" "choices" (defArgs S_choices) (defBody S_choices) (defScope S_choices) .none kV5 dc5 pm5 an5 cd5 ct5), sl5⟩) (c5 : PySem.W.codeIn K cd5 "choices" = true) (k5 : PySem.W.keepIn K (.ref f5) = true)
    (a6 : PySem.W.nsIn K mainGlobals "deals_of" = some (some (.ref f6))) (l6 : K.lookup f6 = some ⟨oc6, od6, .func (PySem.W.fnOf "deals_of" "deals_of" (defArgs S_deals_of) (defBody S_deals_of) (defScope S_deals_of) .none kV6 dc6 pm6 an6 cd6 ct6), sl6⟩) (c6 : PySem.W.codeIn K cd6 "deals_of" = true) (k6 : PySem.W.keepIn K (.ref f6) = true)
    (a7 : PySem.W.nsIn K mainGlobals "with_one_more" = some (some (.ref f7))) (l7 : K.lookup f7 = some ⟨oc7, od7, .func (PySem.W.fnOf "with_one_more" "with_one_more" (defArgs S_with_one_more) (defBody S_with_one_more) (defScope S_with_one_more) .none kV7 dc7 pm7 an7 cd7 ct7), sl7⟩) (c7 : PySem.W.codeIn K cd7 "with_one_more" = true) (k7 : PySem.W.keepIn K (.ref f7) = true)
    (a8 : PySem.W.nsIn K mainGlobals "cards_of" = some (some (.ref f8))) (l8 : K.lookup f8 = some ⟨oc8, od8, .func (PySem.W.fnOf "cards_of" "cards_of" (defArgs S_cards_of) (defBody S_cards_of) (defScope S_cards_of) .none kV8 dc8 pm8 an8 cd8 ct8), sl8⟩) (c8 : PySem.W.codeIn K cd8 "cards_of" = true) (k8 : PySem.W.keepIn K (.ref f8) = true)
    (a9 : PySem.W.nsIn K mainGlobals "first_view" = some (some (.ref f9))) (l9 : K.lookup f9 = some ⟨oc9, od9, .func (PySem.W.fnOf "first_view" "first_view" (defArgs S_first_view) (defBody S_first_view) (defScope S_first_view) .none kV9 dc9 pm9 an9 cd9 ct9), sl9⟩) (c9 : PySem.W.codeIn K cd9 "first_view" = true) (k9 : PySem.W.keepIn K (.ref f9) = true)
    (a10 : PySem.W.nsIn K mainGlobals "split" = some (some (.ref f10))) (l10 : K.lookup f10 = some ⟨oc10, od10, .func (PySem.W.fnOf "split" "split" (defArgs S_split) (defBody S_split) (defScope S_split) .none kV10 dc10 pm10 an10 cd10 ct10), sl10⟩) (c10 : PySem.W.codeIn K cd10 "split" = true) (k10 : PySem.W.keepIn K (.ref f10) = true)
    (a11 : PySem.W.nsIn K mainGlobals "least_with_same" = some (some (.ref f11))) (l11 : K.lookup f11 = some ⟨oc11, od11, .func (PySem.W.fnOf "least_with_same" "least_with_same" (defArgs S_least_with_same) (defBody S_least_with_same) (defScope S_least_with_same) .none kV11 dc11 pm11 an11 cd11 ct11), sl11⟩) (c11 : PySem.W.codeIn K cd11 "least_with_same" = true) (k11 : PySem.W.keepIn K (.ref f11) = true)
    (a12 : PySem.W.nsIn K mainGlobals "fails" = some (some (.ref f12))) (l12 : K.lookup f12 = some ⟨oc12, od12, .func (PySem.W.fnOf "fails" "fails" (defArgs S_fails) (defBody S_fails) (defScope S_fails) .none kV12 dc12 pm12 an12 cd12 ct12), sl12⟩) (c12 : PySem.W.codeIn K cd12 "fails" = true) (k12 : PySem.W.keepIn K (.ref f12) = true)
    (a13 : PySem.W.nsIn K mainGlobals "words_said" = some (some (.ref f13))) (l13 : K.lookup f13 = some ⟨oc13, od13, .func (PySem.W.fnOf "words_said" "words_said" (defArgs S_words_said) (defBody S_words_said) (defScope S_words_said) .none kV13 dc13 pm13 an13 cd13 ct13), sl13⟩) (c13 : PySem.W.codeIn K cd13 "words_said" = true) (k13 : PySem.W.keepIn K (.ref f13) = true)
    (a14 : PySem.W.nsIn K mainGlobals "least_unlike" = some (some (.ref f14))) (l14 : K.lookup f14 = some ⟨oc14, od14, .func (PySem.W.fnOf "least_unlike" "least_unlike" (defArgs S_least_unlike) (defBody S_least_unlike) (defScope S_least_unlike) .none kV14 dc14 pm14 an14 cd14 ct14), sl14⟩) (c14 : PySem.W.codeIn K cd14 "least_unlike" = true) (k14 : PySem.W.keepIn K (.ref f14) = true)
    (a15 : PySem.W.nsIn K mainGlobals "least_told" = some (some (.ref f15))) (l15 : K.lookup f15 = some ⟨oc15, od15, .func (PySem.W.fnOf "least_told" "least_told" (defArgs S_least_told) (defBody S_least_told) (defScope S_least_told) .none kV15 dc15 pm15 an15 cd15 ct15), sl15⟩) (c15 : PySem.W.codeIn K cd15 "least_told" = true) (k15 : PySem.W.keepIn K (.ref f15) = true)
    (a16 : PySem.W.nsIn K mainGlobals "least_unmoved" = some (some (.ref f16))) (l16 : K.lookup f16 = some ⟨oc16, od16, .func (PySem.W.fnOf "least_unmoved" "least_unmoved" (defArgs S_least_unmoved) (defBody S_least_unmoved) (defScope S_least_unmoved) .none kV16 dc16 pm16 an16 cd16 ct16), sl16⟩) (c16 : PySem.W.codeIn K cd16 "least_unmoved" = true) (k16 : PySem.W.keepIn K (.ref f16) = true)
    (a17 : PySem.W.nsIn K mainGlobals "_law_cell" = some (some (.ref f17))) (l17 : K.lookup f17 = some ⟨oc17, od17, .func (PySem.W.fnOf "_law_cell" "_law_cell" (defArgs S__law_cell) (defBody S__law_cell) (defScope S__law_cell) .none kV17 dc17 pm17 an17 cd17 ct17), sl17⟩) (c17 : PySem.W.codeIn K cd17 "_law_cell" = true) (k17 : PySem.W.keepIn K (.ref f17) = true)
    (a18 : PySem.W.nsIn K mainGlobals "_law_mixed" = some (some (.ref f18))) (l18 : K.lookup f18 = some ⟨oc18, od18, .func (PySem.W.fnOf "_law_mixed" "_law_mixed" (defArgs S__law_mixed) (defBody S__law_mixed) (defScope S__law_mixed) .none kV18 dc18 pm18 an18 cd18 ct18), sl18⟩) (c18 : PySem.W.codeIn K cd18 "_law_mixed" = true) (k18 : PySem.W.keepIn K (.ref f18) = true)
    (a19 : PySem.W.nsIn K mainGlobals "_law_pack" = some (some (.ref f19))) (l19 : K.lookup f19 = some ⟨oc19, od19, .func (PySem.W.fnOf "_law_pack" "_law_pack" (defArgs S__law_pack) (defBody S__law_pack) (defScope S__law_pack) .none kV19 dc19 pm19 an19 cd19 ct19), sl19⟩) (c19 : PySem.W.codeIn K cd19 "_law_pack" = true) (k19 : PySem.W.keepIn K (.ref f19) = true)
    (a20 : PySem.W.nsIn K mainGlobals "_law_holdings" = some (some (.ref f20))) (l20 : K.lookup f20 = some ⟨oc20, od20, .func (PySem.W.fnOf "_law_holdings" "_law_holdings" (defArgs S__law_holdings) (defBody S__law_holdings) (defScope S__law_holdings) .none kV20 dc20 pm20 an20 cd20 ct20), sl20⟩) (c20 : PySem.W.codeIn K cd20 "_law_holdings" = true) (k20 : PySem.W.keepIn K (.ref f20) = true)
    (a21 : PySem.W.nsIn K mainGlobals "_law_lists" = some (some (.ref f21))) (l21 : K.lookup f21 = some ⟨oc21, od21, .func (PySem.W.fnOf "_law_lists" "_law_lists" (defArgs S__law_lists) (defBody S__law_lists) (defScope S__law_lists) .none kV21 dc21 pm21 an21 cd21 ct21), sl21⟩) (c21 : PySem.W.codeIn K cd21 "_law_lists" = true) (k21 : PySem.W.keepIn K (.ref f21) = true)
    (a22 : PySem.W.nsIn K mainGlobals "_law_three" = some (some (.ref f22))) (l22 : K.lookup f22 = some ⟨oc22, od22, .func (PySem.W.fnOf "_law_three" "_law_three" (defArgs S__law_three) (defBody S__law_three) (defScope S__law_three) .none kV22 dc22 pm22 an22 cd22 ct22), sl22⟩) (c22 : PySem.W.codeIn K cd22 "_law_three" = true) (k22 : PySem.W.keepIn K (.ref f22) = true)
    (a23 : PySem.W.nsIn K mainGlobals "_law_order" = some (some (.ref f23))) (l23 : K.lookup f23 = some ⟨oc23, od23, .func (PySem.W.fnOf "_law_order" "_law_order" (defArgs S__law_order) (defBody S__law_order) (defScope S__law_order) .none kV23 dc23 pm23 an23 cd23 ct23), sl23⟩) (c23 : PySem.W.codeIn K cd23 "_law_order" = true) (k23 : PySem.W.keepIn K (.ref f23) = true)
    (a24 : PySem.W.nsIn K mainGlobals "_law_exchanged" = some (some (.ref f24))) (l24 : K.lookup f24 = some ⟨oc24, od24, .func (PySem.W.fnOf "_law_exchanged" "_law_exchanged" (defArgs S__law_exchanged) (defBody S__law_exchanged) (defScope S__law_exchanged) .none kV24 dc24 pm24 an24 cd24 ct24), sl24⟩) (c24 : PySem.W.codeIn K cd24 "_law_exchanged" = true) (k24 : PySem.W.keepIn K (.ref f24) = true)
    (a25 : PySem.W.nsIn K mainGlobals "_law_fails" = some (some (.ref f25))) (l25 : K.lookup f25 = some ⟨oc25, od25, .func (PySem.W.fnOf "_law_fails" "_law_fails" (defArgs S__law_fails) (defBody S__law_fails) (defScope S__law_fails) .none kV25 dc25 pm25 an25 cd25 ct25), sl25⟩) (c25 : PySem.W.codeIn K cd25 "_law_fails" = true) (k25 : PySem.W.keepIn K (.ref f25) = true)
    (a26 : PySem.W.nsIn K mainGlobals "law" = some (some (.ref f26))) (l26 : K.lookup f26 = some ⟨oc26, od26, .func (PySem.W.fnOf "law" "law" (defArgs S_law) (defBody S_law) (defScope S_law) .none kV26 dc26 pm26 an26 cd26 ct26), sl26⟩) (c26 : PySem.W.codeIn K cd26 "law" = true) (k26 : PySem.W.keepIn K (.ref f26) = true)
    (y1 : PySem.W.nsIn K mainGlobals "MOST_CARDS" = some (some (.int 12 t_MOST_CARDS)))
    (y2 : PySem.W.nsIn K mainGlobals "MOST_HANDS" = some (some (.int 5 t_MOST_HANDS)))
    (y3 : PySem.W.nsIn K mainGlobals "MOST_DEALS" = some (some (.int 2000 t_MOST_DEALS)))
    (z1 : PySem.W.nsIn K mainGlobals "len" = some none) (z2 : PySem.W.nsIn K mainGlobals "range" = some none) (z3 : PySem.W.nsIn K mainGlobals "tuple" = some none) (z4 : PySem.W.nsIn K mainGlobals "list" = some none) (z5 : PySem.W.nsIn K mainGlobals "int" = some none) (z6 : PySem.W.nsIn K mainGlobals "bool" = some none) (z7 : PySem.W.nsIn K mainGlobals "str" = some none) (z8 : PySem.W.nsIn K mainGlobals "dict" = some none) (z9 : PySem.W.nsIn K mainGlobals "sum" = some none) (z10 : PySem.W.nsIn K mainGlobals "all" = some none) (z11 : PySem.W.nsIn K mainGlobals "min" = some none) (z12 : PySem.W.nsIn K mainGlobals "max" = some none) (z13 : PySem.W.nsIn K mainGlobals "sorted" = some none) (z14 : PySem.W.nsIn K mainGlobals "enumerate" = some none) (z15 : PySem.W.nsIn K mainGlobals "zip" = some none) (z16 : PySem.W.nsIn K mainGlobals "isinstance" = some none) :
    ∃ fd : FuncData, (∀ (s : Shared) (v : Value), BindsTo s fd ⟨[v], []⟩ [("_law_script", v)]) ∧ ∀ base : Heap, K.In base → base.Ns mainGlobals mg → FnOk l.prog w K mg base CX0 8 fa fd ["_law_script"] (spLaw K) := by
  have e := hfa.symm.trans (PySem.W.mg_of X G a26)
  cases e
  have B : Blt mg := ⟨PySem.W.mg_none_of X G z1, PySem.W.mg_none_of X G z2, PySem.W.mg_none_of X G z3, PySem.W.mg_none_of X G z4, PySem.W.mg_none_of X G z5, PySem.W.mg_none_of X G z6, PySem.W.mg_none_of X G z7, PySem.W.mg_none_of X G z8, PySem.W.mg_none_of X G z9, PySem.W.mg_none_of X G z10, PySem.W.mg_none_of X G z11, PySem.W.mg_none_of X G z12, PySem.W.mg_none_of X G z13, PySem.W.mg_none_of X G z14, PySem.W.mg_none_of X G z15, PySem.W.mg_none_of X G z16⟩
  have F1 := fun_mk (st := S_is_whole) l1 c1 k1
  have D1 : Def K mg "is_whole" S_is_whole ["thing"] _ _ := ⟨F1, PySem.W.mg_of X G a1, F1.binds (ps := ["thing"]) fun _ _ _ _ _ _ us hl => ofLen1 us hl fun _ => rfl⟩
  have F2 := fun_mk (st := S_is_within) l2 c2 k2
  have D2 : Def K mg "is_within" S_is_within ["thing", "least", "most"] _ _ := ⟨F2, PySem.W.mg_of X G a2, F2.binds (ps := ["thing", "least", "most"]) fun _ _ _ _ _ _ us hl => ofLen3 us hl fun _ _ _ => rfl⟩
  have F3 := fun_mk (st := S_is_pack) l3 c3 k3
  have D3 : Def K mg "is_pack" S_is_pack ["cards", "sizes"] _ _ := ⟨F3, PySem.W.mg_of X G a3, F3.binds (ps := ["cards", "sizes"]) fun _ _ _ _ _ _ us hl => ofLen2 us hl fun _ _ => rfl⟩
  have F4 := fun_mk (st := S_how_many) l4 c4 k4
  have D4 : Def K mg "how_many" S_how_many ["cards", "sizes"] _ _ := ⟨F4, PySem.W.mg_of X G a4, F4.binds (ps := ["cards", "sizes"]) fun _ _ _ _ _ _ us hl => ofLen2 us hl fun _ _ => rfl⟩
  have F5 := fun_mk (st := S_choices) l5 c5 k5
  have D5 : Def K mg "choices" S_choices ["many", "taken"] _ _ := ⟨F5, PySem.W.mg_of X G a5, F5.binds (ps := ["many", "taken"]) fun _ _ _ _ _ _ us hl => ofLen2 us hl fun _ _ => rfl⟩
  have F6 := fun_mk (st := S_deals_of) l6 c6 k6
  have D6 : Def K mg "deals_of" S_deals_of ["cards", "sizes"] _ _ := ⟨F6, PySem.W.mg_of X G a6, F6.binds (ps := ["cards", "sizes"]) fun _ _ _ _ _ _ us hl => ofLen2 us hl fun _ _ => rfl⟩
  have F7 := fun_mk (st := S_with_one_more) l7 c7 k7
  have D7 : Def K mg "with_one_more" S_with_one_more ["begun", "room"] _ _ := ⟨F7, PySem.W.mg_of X G a7, F7.binds (ps := ["begun", "room"]) fun _ _ _ _ _ _ us hl => ofLen2 us hl fun _ _ => rfl⟩
  have F8 := fun_mk (st := S_cards_of) l8 c8 k8
  have D8 : Def K mg "cards_of" S_cards_of ["deal", "who"] _ _ := ⟨F8, PySem.W.mg_of X G a8, F8.binds (ps := ["deal", "who"]) fun _ _ _ _ _ _ us hl => ofLen2 us hl fun _ _ => rfl⟩
  have F9 := fun_mk (st := S_first_view) l9 c9 k9
  have D9 : Def K mg "first_view" S_first_view ["deals", "hand"] _ _ := ⟨F9, PySem.W.mg_of X G a9, F9.binds (ps := ["deals", "hand"]) fun _ _ _ _ _ _ us hl => ofLen2 us hl fun _ _ => rfl⟩
  have F10 := fun_mk (st := S_split) l10 c10 k10
  have D10 : Def K mg "split" S_split ["view", "values"] _ _ := ⟨F10, PySem.W.mg_of X G a10, F10.binds (ps := ["view", "values"]) fun _ _ _ _ _ _ us hl => ofLen2 us hl fun _ _ => rfl⟩
  have F11 := fun_mk (st := S_least_with_same) l11 c11 k11
  have D11 : Def K mg "least_with_same" S_least_with_same ["marks"] _ _ := ⟨F11, PySem.W.mg_of X G a11, F11.binds (ps := ["marks"]) fun _ _ _ _ _ _ us hl => ofLen1 us hl fun _ => rfl⟩
  have F12 := fun_mk (st := S_fails) l12 c12 k12
  have D12 : Def K mg "fails" S_fails ["cards", "sizes", "words", "a", "b", "e"] _ _ := ⟨F12, PySem.W.mg_of X G a12, F12.binds (ps := ["cards", "sizes", "words", "a", "b", "e"]) fun _ _ _ _ _ _ us hl => ofLen6 us hl fun _ _ _ _ _ _ => rfl⟩
  have F13 := fun_mk (st := S_words_said) l13 c13 k13
  have D13 : Def K mg "words_said" S_words_said ["deals", "words", "a"] _ _ := ⟨F13, PySem.W.mg_of X G a13, F13.binds (ps := ["deals", "words", "a"]) fun _ _ _ _ _ _ us hl => ofLen3 us hl fun _ _ _ => rfl⟩
  have F14 := fun_mk (st := S_least_unlike) l14 c14 k14
  have D14 : Def K mg "least_unlike" S_least_unlike ["view", "other_view"] _ _ := ⟨F14, PySem.W.mg_of X G a14, F14.binds (ps := ["view", "other_view"]) fun _ _ _ _ _ _ us hl => ofLen2 us hl fun _ _ => rfl⟩
  have F15 := fun_mk (st := S_least_told) l15 c15 k15
  have D15 : Def K mg "least_told" S_least_told ["deals", "view", "e"] _ _ := ⟨F15, PySem.W.mg_of X G a15, F15.binds (ps := ["deals", "view", "e"]) fun _ _ _ _ _ _ us hl => ofLen3 us hl fun _ _ _ => rfl⟩
  have F16 := fun_mk (st := S_least_unmoved) l16 c16 k16
  have D16 : Def K mg "least_unmoved" S_least_unmoved ["deal", "least", "moved", "e"] _ _ := ⟨F16, PySem.W.mg_of X G a16, F16.binds (ps := ["deal", "least", "moved", "e"]) fun _ _ _ _ _ _ us hl => ofLen4 us hl fun _ _ _ _ => rfl⟩
  have F17 := fun_mk (st := S__law_cell) l17 c17 k17
  have D17 : Def K mg "_law_cell" S__law_cell ["_law_script", "_law_k"] _ _ := ⟨F17, PySem.W.mg_of X G a17, F17.binds (ps := ["_law_script", "_law_k"]) fun _ _ _ _ _ _ us hl => ofLen2 us hl fun _ _ => rfl⟩
  have F18 := fun_mk (st := S__law_mixed) l18 c18 k18
  have D18 : Def K mg "_law_mixed" S__law_mixed ["_law_cell_here", "_law_k"] _ _ := ⟨F18, PySem.W.mg_of X G a18, F18.binds (ps := ["_law_cell_here", "_law_k"]) fun _ _ _ _ _ _ us hl => ofLen2 us hl fun _ _ => rfl⟩
  have F19 := fun_mk (st := S__law_pack) l19 c19 k19
  have D19 : Def K mg "_law_pack" S__law_pack ["_law_cell_here"] _ _ := ⟨F19, PySem.W.mg_of X G a19, F19.binds (ps := ["_law_cell_here"]) fun _ _ _ _ _ _ us hl => ofLen1 us hl fun _ => rfl⟩
  have F20 := fun_mk (st := S__law_holdings) l20 c20 k20
  have D20 : Def K mg "_law_holdings" S__law_holdings ["_law_cards", "_law_size"] _ _ := ⟨F20, PySem.W.mg_of X G a20, F20.binds (ps := ["_law_cards", "_law_size"]) fun _ _ _ _ _ _ us hl => ofLen2 us hl fun _ _ => rfl⟩
  have F21 := fun_mk (st := S__law_lists) l21 c21 k21
  have D21 : Def K mg "_law_lists" S__law_lists ["_law_cell_here", "_law_holdings_here", "_law_cards"] _ _ := ⟨F21, PySem.W.mg_of X G a21, F21.binds (ps := ["_law_cell_here", "_law_holdings_here", "_law_cards"]) fun _ _ _ _ _ _ us hl => ofLen3 us hl fun _ _ _ => rfl⟩
  have F22 := fun_mk (st := S__law_three) l22 c22 k22
  have D22 : Def K mg "_law_three" S__law_three ["_law_cell_here", "_law_many"] _ _ := ⟨F22, PySem.W.mg_of X G a22, F22.binds (ps := ["_law_cell_here", "_law_many"]) fun _ _ _ _ _ _ us hl => ofLen2 us hl fun _ _ => rfl⟩
  have F23 := fun_mk (st := S__law_order) l23 c23 k23
  have D23 : Def K mg "_law_order" S__law_order ["_law_cell_here", "_law_many"] _ _ := ⟨F23, PySem.W.mg_of X G a23, F23.binds (ps := ["_law_cell_here", "_law_many"]) fun _ _ _ _ _ _ us hl => ofLen2 us hl fun _ _ => rfl⟩
  have F24 := fun_mk (st := S__law_exchanged) l24 c24 k24
  have D24 : Def K mg "_law_exchanged" S__law_exchanged ["_law_lists_here", "_law_order_here"] _ _ := ⟨F24, PySem.W.mg_of X G a24, F24.binds (ps := ["_law_lists_here", "_law_order_here"]) fun _ _ _ _ _ _ us hl => ofLen2 us hl fun _ _ => rfl⟩
  have F25 := fun_mk (st := S__law_fails) l25 c25 k25
  have D25 : Def K mg "_law_fails" S__law_fails ["_law_cards", "_law_sizes", "_law_lists_here", "_law_hands"] _ _ := ⟨F25, PySem.W.mg_of X G a25, F25.binds (ps := ["_law_cards", "_law_sizes", "_law_lists_here", "_law_hands"]) fun _ _ _ _ _ _ us hl => ofLen4 us hl fun _ _ _ _ => rfl⟩
  have F26 := fun_mk (st := S_law) l26 c26 k26
  have D26 : Def K mg "law" S_law ["_law_script"] _ _ := ⟨F26, PySem.W.mg_of X G a26, F26.binds (ps := ["_law_script"]) fun _ _ _ _ _ _ us hl => ofLen1 us hl fun _ => rfl⟩
  refine ⟨PySem.W.fnOf "law" "law" (defArgs S_law) (defBody S_law) (defScope S_law) .none kV26 dc26 pm26 an26 cd26 ct26, fun s v => .of_eq rfl, fun base _ _ => ?_⟩
  exact build B D1 D2 D3 D4 D5 D6 D7 D8 D9 D10 D11 D12 D13 D14 D15 D16 D17 D18 D19 D20 D21 D22 D23 D24 D25 D26  (PySem.W.mg_of X G y1) (PySem.W.mg_of X G y2) (PySem.W.mg_of X G y3)
end Kc_k58
open PySem PySem.W PyProof.Rows
set_option maxRecDepth 100000 in
set_option maxHeartbeats 0 in
theorem PySem.Challenge.cw_knowcards_k58_whole_codes_exchanged_holds : PySem.Challenge.rw_knowcards_k58_whole_codes_exchanged.Holds := by
  w_on; o_law; k_head; (case hw => w_witness2)
  k_fill
  refine L2.walk_ofB (l := PySem.Challenge.rw_knowcards_k58_whole_codes_exchanged) (k := 8) (x := "_law_script") rfl rfl ⟨rfl, by decide, by decide⟩ (fun w h Y => PySem.W.kIn_of Y) ?F
  case F =>
    intro w mg fa h KX G hmg
    refine' Kc_k58.all_mk KX G hmg ?a1 ?l1 ?c1 ?k1 ?a2 ?l2 ?c2 ?k2 ?a3 ?l3 ?c3 ?k3 ?a4 ?l4 ?c4 ?k4 ?a5 ?l5 ?c5 ?k5 ?a6 ?l6 ?c6 ?k6 ?a7 ?l7 ?c7 ?k7 ?a8 ?l8 ?c8 ?k8 ?a9 ?l9 ?c9 ?k9 ?a10 ?l10 ?c10 ?k10 ?a11 ?l11 ?c11 ?k11 ?a12 ?l12 ?c12 ?k12 ?a13 ?l13 ?c13 ?k13 ?a14 ?l14 ?c14 ?k14 ?a15 ?l15 ?c15 ?k15 ?a16 ?l16 ?c16 ?k16 ?a17 ?l17 ?c17 ?k17 ?a18 ?l18 ?c18 ?k18 ?a19 ?l19 ?c19 ?k19 ?a20 ?l20 ?c20 ?k20 ?a21 ?l21 ?c21 ?k21 ?a22 ?l22 ?c22 ?k22 ?a23 ?l23 ?c23 ?k23 ?a24 ?l24 ?c24 ?k24 ?a25 ?l25 ?c25 ?k25 ?a26 ?l26 ?c26 ?k26 ?y1 ?y2 ?y3 ?z1 ?z2 ?z3 ?z4 ?z5 ?z6 ?z7 ?z8 ?z9 ?z10 ?z11 ?z12 ?z13 ?z14 ?z15 ?z16
    (case a1 => k_is); (case l1 => k_is); (case c1 => k_is); (case k1 => k_is)
    (case a2 => k_is); (case l2 => k_is); (case c2 => k_is); (case k2 => k_is)
    (case a3 => k_is); (case l3 => k_is); (case c3 => k_is); (case k3 => k_is)
    (case a4 => k_is); (case l4 => k_is); (case c4 => k_is); (case k4 => k_is)
    (case a5 => k_is); (case l5 => k_is); (case c5 => k_is); (case k5 => k_is)
    (case a6 => k_is); (case l6 => k_is); (case c6 => k_is); (case k6 => k_is)
    (case a7 => k_is); (case l7 => k_is); (case c7 => k_is); (case k7 => k_is)
    (case a8 => k_is); (case l8 => k_is); (case c8 => k_is); (case k8 => k_is)
    (case a9 => k_is); (case l9 => k_is); (case c9 => k_is); (case k9 => k_is)
    (case a10 => k_is); (case l10 => k_is); (case c10 => k_is); (case k10 => k_is)
    (case a11 => k_is); (case l11 => k_is); (case c11 => k_is); (case k11 => k_is)
    (case a12 => k_is); (case l12 => k_is); (case c12 => k_is); (case k12 => k_is)
    (case a13 => k_is); (case l13 => k_is); (case c13 => k_is); (case k13 => k_is)
    (case a14 => k_is); (case l14 => k_is); (case c14 => k_is); (case k14 => k_is)
    (case a15 => k_is); (case l15 => k_is); (case c15 => k_is); (case k15 => k_is)
    (case a16 => k_is); (case l16 => k_is); (case c16 => k_is); (case k16 => k_is)
    (case a17 => k_is); (case l17 => k_is); (case c17 => k_is); (case k17 => k_is)
    (case a18 => k_is); (case l18 => k_is); (case c18 => k_is); (case k18 => k_is)
    (case a19 => k_is); (case l19 => k_is); (case c19 => k_is); (case k19 => k_is)
    (case a20 => k_is); (case l20 => k_is); (case c20 => k_is); (case k20 => k_is)
    (case a21 => k_is); (case l21 => k_is); (case c21 => k_is); (case k21 => k_is)
    (case a22 => k_is); (case l22 => k_is); (case c22 => k_is); (case k22 => k_is)
    (case a23 => k_is); (case l23 => k_is); (case c23 => k_is); (case k23 => k_is)
    (case a24 => k_is); (case l24 => k_is); (case c24 => k_is); (case k24 => k_is)
    (case a25 => k_is); (case l25 => k_is); (case c25 => k_is); (case k25 => k_is)
    (case a26 => k_is); (case l26 => k_is); (case c26 => k_is); (case k26 => k_is)
    (case y1 => k_is)
    (case y2 => k_is)
    (case y3 => k_is)
    (case z1 => k_is); (case z2 => k_is); (case z3 => k_is); (case z4 => k_is); (case z5 => k_is); (case z6 => k_is); (case z7 => k_is); (case z8 => k_is); (case z9 => k_is); (case z10 => k_is); (case z11 => k_is); (case z12 => k_is); (case z13 => k_is); (case z14 => k_is); (case z15 => k_is); (case z16 => k_is)
