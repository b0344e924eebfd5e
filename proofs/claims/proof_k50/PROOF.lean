import PyProof.Rows.All
import Wide.All
import OpenK.AllK
import Wide.FinOn
import Lean
import PyProof.EqAt
import PyProof.EqKinds
import PyProof.TupleCall
import PyProof.NeKinds
import PyProof.SumWalkG
import PyProof.ConsumeWalk
import KE.IntBitsLaws
import PyProof.ZipIter
import KE.KDictLaws
import PyProof.ListMulRoad
import PyProof.Rows.SetFrom
import PyProof.Rows.CallKwBuiltin
import PyProof.Rows.SeqMore
import PyProof.WalkInts
import KE.KMinBuiltin
import PyProof.DictWalks
import KE.KDictList
import PyProof.Rows.Range3
import PyProof.Rows.EqDataRows
import PySem.Challenge.RW_knowcards_k50_whole_papers_beat_every_wa
set_option compiler.extract_closed false
section
-- KcLayer
-- CHANGE: your row's module here, as the last of these rows
set_option Elab.async false
set_option linter.all false
set_option maxRecDepth 100000
/-! THE HAND LAYER, for ints, bools, texts, own classes, LISTS and tuples (index, slices, in, append, pop ..), calls, loops. Paste it whole ahead of your own text; what your proof does not reach may be deleted. -/
namespace L2
open PySem PySem.Spec PyProof.Rows

noncomputable abbrev Key := Sum Int Str
noncomputable def keyIs : Key → Value → Bool
  | .inl k, v => Value.isInt k v
  | .inr x, v => Value.isStrOf x v
noncomputable def keyH (w : World) : Key → Int
  | .inl k => hashInt k
  | .inr x => hashStr w x
theorem keyIs_shape : ∀ {k : Key} {v : Value}, keyIs k v = true → (∃ i t, k = Sum.inl i ∧ v = Value.int i t) ∨ (∃ x t, k = Sum.inr x ∧ v = Value.str x t)
  | .inl i, v, h => by
    obtain ⟨t, e⟩ := Value.isInt_shape (k := i) (v := v) h
    exact .inl ⟨i, t, rfl, e⟩
  | .inr x, v, h => by
    obtain ⟨t, e⟩ := Value.isStrOf_shape (x := x) (v := v) h
    exact .inr ⟨x, t, rfl, e⟩
theorem key_ll (a b : Int) : decide ((Sum.inl a : Key) = Sum.inl b) = (a == b) := by
  by_cases e : a = b
  · subst e; simp
  · have h : ¬ (Sum.inl a : Key) = Sum.inl b := fun q => e (Sum.inl.inj q)
    rw [decide_eq_false h]
    exact (beq_eq_false_iff_ne.mpr e).symm
theorem key_rr (a b : Str) : decide ((Sum.inr a : Key) = Sum.inr b) = decide (a = b) := by
  by_cases e : a = b
  · subst e; simp
  · have h : ¬ (Sum.inr a : Key) = Sum.inr b := fun q => e (Sum.inr.inj q)
    rw [decide_eq_false h, decide_eq_false e]
theorem key_lr (a : Int) (b : Str) : decide ((Sum.inl a : Key) = Sum.inr b) = false := decide_eq_false (fun q => nomatch q)
theorem key_rl (a : Str) (b : Int) : decide ((Sum.inr a : Key) = Sum.inl b) = false := decide_eq_false (fun q => nomatch q)

noncomputable def mixKind (prog : Program) (w : World) : PySem.KeyKind prog w Key where
  is := keyIs
  hash := keyH w
  inj := fun v a b ha hb => by
    rcases keyIs_shape ha with ⟨i, t, rfl, rfl⟩ | ⟨x, t, rfl, rfl⟩
    · rcases keyIs_shape hb with ⟨j, u, rfl, e⟩ | ⟨y, u, rfl, e⟩
      · injection e with e1 _; rw [e1]
      · exact nomatch e
    · rcases keyIs_shape hb with ⟨j, u, rfl, e⟩ | ⟨y, u, rfl, e⟩
      · exact nomatch e
      · injection e with e1 _; rw [e1]
  byValue := fun k v h => by
    rcases keyIs_shape h with ⟨i, t, rfl, rfl⟩ | ⟨x, t, rfl, rfl⟩ <;> rfl
  pyHash := fun hv h => by
    rcases keyIs_shape hv with ⟨i, t, rfl, rfl⟩ | ⟨x, t, rfl, rfl⟩
    · exact wpAny_pyHash_int h
    · exact wpAny_pyHash_str h
  eqBool := fun hu hv h => by
    rcases keyIs_shape hu with ⟨i, t, rfl, rfl⟩ | ⟨x, t, rfl, rfl⟩
    · rcases keyIs_shape hv with ⟨j, u, rfl, rfl⟩ | ⟨y, u, rfl, rfl⟩
      · rw [key_ll] at h; exact wpAny_eqBool_int h
      · rw [key_lr] at h; exact SeqAt.EqAt.int_str i t y u _ _ _ _ h
    · rcases keyIs_shape hv with ⟨j, u, rfl, rfl⟩ | ⟨y, u, rfl, rfl⟩
      · rw [key_rl] at h; exact SeqAt.EqAt.str_int x t j u _ _ _ _ h
      · rw [key_rr] at h; exact wpAny_eqBool_str h
  «strs» := fun k x t v h => by
    rcases keyIs_shape h with ⟨i, u, rfl, e⟩ | ⟨y, u, rfl, e⟩
    · exact nomatch e
    · injection e with e1 _
      subst e1
      cases v <;> rfl

end L2

namespace L2
open PySem PySem.Spec PyProof.Rows

inductive V where
  | non | bl (b : Bool) | int (i : Int) | str (x : Str) | byt (b : Array UInt8) | flt (b : UInt64) | ref (a : Addr) | ty (n : String)
  deriving DecidableEq

noncomputable def RelV : V → Value → Prop
  | .non, u => u = Value.none
  | .bl b, u => u = Value.bool b
  | .int i, u => ∃ t, u = Value.int i t
  | .str x, u => ∃ t, u = Value.str x t
  | .byt b, u => ∃ t, u = Value.bytes b t
  | .flt b, u => ∃ t, u = Value.float b t
  | .ref a, u => u = Value.ref a
  | .ty n, u => u = Value.type n

noncomputable abbrev Vals : List V → List Value → Prop := Paired RelV
theorem Vals.length {xs : List V} {us : List Value} (r : Vals xs us) : xs.length = us.length := Paired.length r
theorem Vals.get : ∀ {xs : List V} {us : List Value} {i : Nat} {x : V}, Vals xs us → xs[i]? = some x → ∃ u, us[i]? = some u ∧ RelV x u
  | _, _, _, _, .nil, e => by simp at e
  | _, _, 0, _, .cons r _, e => by simp at e; subst e; exact ⟨_, rfl, r⟩
  | _, _, i + 1, x, .cons _ t, e => by
    obtain ⟨u, h1, h2⟩ := Vals.get (i := i) (x := x) t (by simpa using e)
    exact ⟨u, by simpa using h1, h2⟩
theorem Vals.set {x : V} {u : Value} (r : RelV x u) : ∀ {xs : List V} {us : List Value} (i : Nat), Vals xs us → Vals (xs.set i x) (us.set i u)
  | _, _, _, .nil => .nil
  | _, _, 0, .cons _ t => .cons r t
  | _, _, i + 1, .cons q t => .cons q (Vals.set r i t)
theorem Vals.append : ∀ {xs ys : List V} {us ws : List Value}, Vals xs us → Vals ys ws → Vals (xs ++ ys) (us ++ ws)
  | _, _, _, _, .nil, s => s
  | _, _, _, _, .cons r t, s => .cons r (Vals.append t s)
theorem Vals.take : ∀ {xs : List V} {us : List Value} (n : Nat), Vals xs us → Vals (xs.take n) (us.take n)
  | _, _, 0, _ => .nil
  | _, _, _ + 1, .nil => .nil
  | _, _, n + 1, .cons r t => .cons r (Vals.take n t)
theorem Vals.drop : ∀ {xs : List V} {us : List Value} (n : Nat), Vals xs us → Vals (xs.drop n) (us.drop n)
  | _, _, 0, r => r
  | _, _, _ + 1, .nil => .nil
  | _, _, n + 1, .cons _ t => Vals.drop n t
noncomputable def RelO : Option V → Option Value → Prop
  | some v, some u => RelV v u
  | none, none => True
  | _, _ => False
noncomputable def KV {κ : Type} : List (κ × V) → List (κ × Value) → Prop := Paired fun (p : κ × V) (q : κ × Value) => p.1 = q.1 ∧ RelV p.2 q.2

noncomputable def kV : Key → V
  | .inl i => .int i
  | .inr x => .str x

inductive HO where
  /-- a list -/
  | lst (xs : List V)
  /-- a tuple (never changes) -/
  | tup (xs : List V)
  /-- a dict whose keys are ints and texts; one whose keys are tuples of ints and texts (the empty one is both) -/
  | dK (kvs : List (Key × V)) | dT (kvs : List (List Key × V))
  /-- a set of ints: its members, its size -/
  | set (S : Int → Bool) (n : Nat)
  /-- an instance of the class at C, its dict at dx, its attributes -/
  | ins (C dx : Addr) (fs : List (Str × V))
  /-- the dict of the instance at x -/
  | own (x : Addr)
  /-- the dict of an exception -/
  | xd (fs : List (Str × V))
  /-- a bound method, f of x -/
  | met (f x : Addr)
  /-- a range object lo, lo + 1, .. below hi -/
  | rng (lo hi : Int)
  /-- a thing that is known to the object (the script; a dict while a loop walks it): read, never written while it is so -/
  | frz (o : Obj) (u : HO)
  /-- a code object's table -/
  | tbl (ps : Array Value)
  /-- any other thing, by what is true of its one object (a def of one's own: SetO a S n := HO.ext fun h => ..) -/
  | ext (φ : Heap → Prop)

noncomputable abbrev Hp := Addr → Option HO
noncomputable def upd (H : Hp) (a : Addr) (o : HO) : Hp := fun b => if b = a then some o else H b
theorem upd_same {H : Hp} {a : Addr} {o : HO} : upd H a o a = some o := by unfold upd; rw [if_pos rfl]
theorem upd_ne {H : Hp} {a b : Addr} {o : HO} (h : b ≠ a) : upd H a o b = H b := by unfold upd; rw [if_neg h]
theorem ne_of {H : Hp} {a b : Addr} {o u : HO} (h : H a = some o) (h' : H b = some u) (d : o ≠ u) : a ≠ b := by
  intro e; subst e; rw [h] at h'; exact d (Option.some.inj h')
theorem ne_of_none {H : Hp} {a b : Addr} {o : HO} (h : H a = some o) (h' : H b = none) : a ≠ b := by
  intro e; subst e; rw [h] at h'; cases h'

noncomputable def IsTupD (h : Heap) (a : Addr) (items : Array Value) : Prop := ∃ o, h.get? a = some o ∧ o.cls = .type "tuple" ∧ (∃ n, o.data = .seq items n) ∧ o.dict = none
theorem IsTupD.lt {h : Heap} {a : Addr} {items : Array Value} (x : IsTupD h a items) : a < h.objs.size := let ⟨_, e, _⟩ := x; Heap.lt_size e
theorem IsTupD.tup {h : Heap} {a : Addr} {items : Array Value} (x : IsTupD h a items) : IsTup h a items := let ⟨o, e, c, d, _⟩ := x; ⟨o, e, c, d⟩
theorem IsTupD.new (h : Heap) (items : Array Value) : IsTupD (h.push { cls := .type "tuple", data := .seq items }) h.objs.size items := ⟨_, Heap.get?_push_size _ rfl, rfl, ⟨_, rfl⟩, rfl⟩
section
variable (P : Program) (w : World)
noncomputable def ObjOk (H : Hp) (h : Heap) (a : Addr) : HO → Prop
  | .lst xs => xs.length ≤ sizeLine ∧ ∃ (its : List Value) (n : Nat), Vals xs its ∧ h.get? a = some { cls := .type "list", data := .seq its.toArray n }
  | .tup xs => xs.length ≤ sizeLine ∧ ∃ its : List Value, Vals xs its ∧ IsTupD h a its.toArray
  | .dK kvs => kvs.length ≤ sizeLine ∧ (a == sysModules) = false ∧ ∃ vs, KV kvs vs ∧ h.DictOf (mixKind P w) a vs
  | .dT kvs => kvs.length ≤ sizeLine ∧ (a == sysModules) = false ∧ ∃ xs : List (List Key × Addr × Value),
      Paired (fun (p : List Key × V) (q : List Key × Addr × Value) => p.1 = q.1 ∧ H q.2.1 = some (.tup (p.1.map kV)) ∧ RelV p.2 q.2.2) kvs xs ∧
      ∃ o es ep, h.get? a = some o ∧ o.ExactDict ∧ o.data = .dict es ep ∧ es.toList = xs.map (entryOfKey (tupleKind (mixKind P w))) ∧ (xs.map (·.1)).Nodup
  | .set S n => h.SetOf (intKind P w) a S n
  | .ins C dx fs => H dx = some (.own a) ∧ fs.length ≤ 1000 ∧ dx ≠ a ∧ h.get? a = some (PySem.W.instObj C dx) ∧
      ∃ mA, h.Ns1 dx mA ∧ (∀ f, RelO (fs.lookup f) (mA f)) ∧ PySem.Within mA (fs.map (·.1))
  | .own _ => ∃ o, h.get? a = some o
  | .xd fs => ∃ mA, h.Ns1 a mA ∧ ∀ f, RelO (fs.lookup f) (mA f)
  | .rng lo hi => ∃ t u v, h.get? a = some { cls := .type "range", data := .fields #[.int lo t, .int hi u, .int 1 v] }
  | .frz o u => h.get? a = some o ∧ ObjOk H h a u
  | .tbl ps => h.get? a = some { cls := .none, data := .fields ps }
  | .met f x => h.get? a = some (PySem.W.methodObj (.ref f) (.ref x))
  | .ext φ => φ h ∧ (∃ o, h.get? a = some o) ∧ ∀ h1 h2 : Heap, φ h1 → (∀ o, h1.get? a = some o → h2.get? a = some o) → φ h2
noncomputable def HOk (H : Hp) (h : Heap) : Prop := ∀ a o, H a = some o → ObjOk P w H h a o
end

section
variable {P : Program} {w : World} {H H' : Hp} {h h' : Heap} {a : Addr} {o : HO}
theorem ObjOk.lt (x : ObjOk P w H h a o) : a < h.objs.size := by
  cases o with
  | lst xs => obtain ⟨_, _, _, _, e⟩ := x; exact Heap.lt_size e
  | tup xs => obtain ⟨_, _, _, p⟩ := x; exact p.lt
  | dK kvs => obtain ⟨_, _, _, _, o, _, _, e, _⟩ := x; exact Heap.lt_size e
  | dT kvs => obtain ⟨_, _, _, _, o, _, _, e, _⟩ := x; exact Heap.lt_size e
  | set S n => obtain ⟨o, _, _, _, e, _⟩ := x; exact Heap.lt_size e
  | ins C dx fs => obtain ⟨_, _, _, e, _⟩ := x; exact Heap.lt_size e
  | own y => obtain ⟨_, e⟩ := x; exact Heap.lt_size e
  | xd fs => obtain ⟨_, ⟨_, _, _, e, _⟩, _⟩ := x; exact Heap.lt_size e
  | rng lo hi => obtain ⟨_, _, _, e⟩ := x; exact Heap.lt_size e
  | frz ob u => obtain ⟨e, _⟩ := x; exact Heap.lt_size e
  | tbl ps => exact Heap.lt_size (show h.get? a = some _ from x)
  | met f y => exact Heap.lt_size (show h.get? a = some _ from x)
  | ext φ => obtain ⟨_, ⟨_, e⟩, _⟩ := x; exact Heap.lt_size e
theorem Paired.mapP {α β : Type} {F G : α → β → Prop} : ∀ {l₁ : List α} {l₂ : List β}, Paired F l₁ l₂ → (∀ a b, F a b → G a b) → Paired G l₁ l₂
  | _, _, .nil, _ => .nil
  | _, _, .cons r t, f => .cons (f _ _ r) (Paired.mapP t f)
theorem ObjOk.stay (x : ObjOk P w H h a o) (k : ∀ b u, (b = a ∨ H b = some (.own a)) → h.get? b = some u → h'.get? b = some u)
    (ho : ∀ b, H b = some (.own a) → H' b = some (.own a)) (ht : ∀ b xs, H b = some (.tup xs) → H' b = some (.tup xs)) : ObjOk P w H' h' a o := by
  induction o with
  | lst xs => obtain ⟨z, its, n, r, e⟩ := x; exact ⟨z, its, n, r, k _ _ (.inl rfl) e⟩
  | tup xs => obtain ⟨z, its, r, ob, e, c⟩ := x; exact ⟨z, its, r, ob, k _ _ (.inl rfl) e, c⟩
  | dK kvs => obtain ⟨z, y, vs, r, ob, es, ep, e, c⟩ := x; exact ⟨z, y, vs, r, ob, es, ep, k _ _ (.inl rfl) e, c⟩
  | dT kvs =>
    obtain ⟨z, y, xs, r, ob, es, ep, e, c⟩ := x
    exact ⟨z, y, xs, Paired.mapP r fun p q z => ⟨z.1, ht _ _ z.2.1, z.2.2⟩, ob, es, ep, k _ _ (.inl rfl) e, c⟩
  | set S n => obtain ⟨ob, es, ep, t, e, c⟩ := x; exact ⟨ob, es, ep, t, k _ _ (.inl rfl) e, c⟩
  | ins C dx fs =>
    obtain ⟨d, z, ne, e, mA, ⟨od, es, ep, e2, c⟩, r⟩ := x
    exact ⟨ho _ d, z, ne, k _ _ (.inl rfl) e, mA, ⟨od, es, ep, k _ _ (.inr d) e2, c⟩, r⟩
  | own y => obtain ⟨ob, e⟩ := x; exact ⟨ob, k _ _ (.inl rfl) e⟩
  | xd fs => obtain ⟨mA, ⟨od, es, ep, e, c⟩, r⟩ := x; exact ⟨mA, ⟨od, es, ep, k _ _ (.inl rfl) e, c⟩, r⟩
  | rng lo hi => obtain ⟨t, u, v, e⟩ := x; exact ⟨t, u, v, k _ _ (.inl rfl) e⟩
  | frz ob u ih => obtain ⟨e, q⟩ := x; exact ⟨k _ _ (.inl rfl) e, ih q⟩
  | tbl ps =>
    have e : h.get? a = some { cls := .none, data := .fields ps } := x
    show h'.get? a = some { cls := .none, data := .fields ps }
    exact k a _ (.inl rfl) e
  | met f y =>
    have e : h.get? a = some (PySem.W.methodObj (.ref f) (.ref y)) := x
    show h'.get? a = some (PySem.W.methodObj (.ref f) (.ref y))
    exact k a _ (.inl rfl) e
  | ext φ => obtain ⟨p, ⟨o, e⟩, st⟩ := x; exact ⟨st _ _ p fun o q => k _ _ (.inl rfl) q, ⟨o, k _ _ (.inl rfl) e⟩, st⟩
theorem HOk.lt (x : HOk P w H h) (e : H a = some o) : a < h.objs.size := (x a o e).lt
theorem HOk.fresh (x : HOk P w H h) (e : h.objs.size ≤ a) : H a = none := by
  cases q : H a with
  | none => rfl
  | some u => exact absurd (Nat.lt_of_lt_of_le (x.lt q) e) (Nat.lt_irrefl _)
theorem HOk.kept (x : HOk P w H h) (k : ∀ b u, h.get? b = some u → h'.get? b = some u) : HOk P w H h' := fun a o e =>
  (x a o e).stay (fun b u _ q => k b u q) (fun _ q => q) fun _ _ q => q
theorem HOk.laid (x : HOk P w H h) (k : ∀ b u, h.get? b = some u → h'.get? b = some u) (hp : h.objs.size ≤ a) (new : ObjOk P w (upd H a o) h' a o) : HOk P w (upd H a o) h' := fun b u e => by
  have hn := x.fresh hp
  by_cases hb : b = a
  · subst hb; rw [upd_same] at e; cases e; exact new
  · rw [upd_ne hb] at e
    exact (x b u e).stay (fun c v _ q => k c v q) (fun c q => by rw [upd_ne (ne_of_none q hn)]; exact q) fun c xs q => by rw [upd_ne (ne_of_none q hn)]; exact q
end

noncomputable def Rd (H : Hp) (a : Addr) (u : HO) : Prop := H a = some u ∨ ∃ o, H a = some (.frz o u)
theorem Rd.of {H : Hp} {a : Addr} {u : HO} (h : H a = some u) : Rd H a u := .inl h
theorem Rd.ok {P : Program} {w : World} {H : Hp} {h : Heap} {a : Addr} {u : HO} (r : Rd H a u) (x : HOk P w H h) : ObjOk P w H h a u := by
  rcases r with r | ⟨o, r⟩
  · exact x a u r
  · obtain ⟨_, q⟩ := x a _ r
    exact q
noncomputable def Mut : Option HO → Prop
  | some (.lst _) => True
  | some (.dK _) => True
  | some (.dT _) => True
  | some (.set _ _) => True
  | some (.ins _ _ _) => True
  | some (.ext _) => True
  | _ => False
section
variable {P : Program} {w : World} {H : Hp} {h h' : Heap} {x e : Addr} {o' : HO}
theorem HOk.write (ok : HOk P w H h) (mu : Mut (H x)) (he : e = x ∨ H e = some (.own x)) (k : ∀ b u, b ≠ e → h.get? b = some u → h'.get? b = some u) (heo : ∃ u, h'.get? e = some u)
    (new : ObjOk P w (upd H x o') h' x o') : HOk P w (upd H x o') h' := fun b u q => by
  have nown : ∀ c y, H c = some (.own y) → c ≠ x := fun c y r z => by subst z; rw [r] at mu; exact mu
  have ntup : ∀ c xs, H c = some (.tup xs) → c ≠ x := fun c xs r z => by subst z; rw [r] at mu; exact mu
  by_cases hb : b = x
  · subst hb; rw [upd_same] at q; cases q; exact new
  · rw [upd_ne hb] at q
    by_cases hbe : b = e
    · have q' : H b = some (.own x) := by
        rcases he with z | z
        · exact absurd (hbe.trans z) hb
        · rw [hbe]; exact z
      rw [q] at q'; cases q'
      obtain ⟨v, hv⟩ := heo
      exact ⟨v, by rw [hbe]; exact hv⟩
    · refine (ok b u q).stay (fun c v hc r => k c v ?_ r) (fun c r => by rw [upd_ne (nown c b r)]; exact r) fun c xs r => by rw [upd_ne (ntup c xs r)]; exact r
      rcases hc with rfl | hc
      · exact hbe
      · rintro rfl
        rcases he with z | z
        · exact nown c b hc z
        · rw [hc] at z; cases z; exact hb rfl
end

/-! ### kept unless tracked; of the frames at fs (the callers') the slots may change (an exception that passes writes there); of the records at ex (iterators) nothing is said -/
structure Un (fs ex : List Addr) (H H' : Hp) (h h' : Heap) : Prop where
  keep : ∀ b o, h.get? b = some o → H b = none → b ∉ fs → b ∉ ex → h'.get? b = some o
  slot : ∀ b o, h.get? b = some o → H b = none → b ∈ fs → b ∉ ex → ∃ sl, h'.get? b = some { o with slots := sl }
  free : ∀ b o, h.get? b = some o → H b = none → b ∉ ex → H' b = none
  there : ∀ b o, h.get? b = some o → b ∉ ex → ∃ o', h'.get? b = some o'
  tups : ∀ b xs, H b = some (.tup xs) → H' b = some (.tup xs)
  frzs : ∀ b o u, H b = some (.frz o u) → H' b = some (.frz o u)
  tbls : ∀ b ps, H b = some (.tbl ps) → ∃ more, H' b = some (.tbl (ps ++ more))
section
variable {fs fs' ex ex' : List Addr} {H H1 H2 : Hp} {h h1 h2 h' : Heap} {a x e : Addr} {o : HO}
theorem Un.any (u : Un fs ex H H1 h h1) {b : Addr} {ob : Obj} (q : h.get? b = some ob) (n : H b = none) (hx : b ∉ ex) : ∃ sl, h1.get? b = some { ob with slots := sl } := by
  by_cases hb : b ∈ fs
  · exact u.slot b ob q n hb hx
  · exact ⟨ob.slots, u.keep b ob q n hb hx⟩
theorem Un.trans (a : Un fs ex H H1 h h1) (b : Un fs ex H1 H2 h1 h2) : Un fs ex H H2 h h2 where
  keep := fun c ob q n hc hx => b.keep c ob (a.keep c ob q n hc hx) (a.free c ob q n hx) hc hx
  slot := fun c ob q n hc hx => by
    obtain ⟨sl, e1⟩ := a.slot c ob q n hc hx
    obtain ⟨sl', e2⟩ := b.slot c _ e1 (a.free c ob q n hx) hc hx
    exact ⟨sl', e2⟩
  free := fun c ob q n hx => by
    obtain ⟨o', e1⟩ := a.there c ob q hx
    exact b.free c o' e1 (a.free c ob q n hx) hx
  there := fun c ob q hx => by
    obtain ⟨o', e1⟩ := a.there c ob q hx
    exact b.there c o' e1 hx
  tups := fun c xs q => b.tups c xs (a.tups c xs q)
  frzs := fun c ob xs q => b.frzs c ob xs (a.frzs c ob xs q)
  tbls := fun c ps q => by
    obtain ⟨m1, e1⟩ := a.tbls c ps q
    obtain ⟨m2, e2⟩ := b.tbls c _ e1
    exact ⟨m1 ++ m2, by rw [e2, Array.append_assoc]⟩
theorem Un.kept (k : ∀ b u, h.get? b = some u → h'.get? b = some u) : Un fs ex H H h h' :=
  ⟨fun b ob q _ _ _ => k b ob q, fun b ob q _ _ _ => ⟨ob.slots, k b ob q⟩, fun _ _ _ n _ => n, fun b ob q _ => ⟨ob, k b ob q⟩, fun _ _ q => q, fun _ _ _ q => q, fun _ ps q => ⟨#[], by rw [q]; simp⟩⟩
theorem Un.refl : Un fs ex H H h h := Un.kept fun _ _ q => q
theorem Un.laid (k : ∀ b u, h.get? b = some u → h'.get? b = some u) (hp : h.objs.size ≤ a) (hn : H a = none) : Un fs ex H (upd H a o) h h' where
  keep := fun b u q _ _ _ => k b u q
  slot := fun b u q _ _ _ => ⟨u.slots, k b u q⟩
  free := fun b u q n _ => by rw [upd_ne (Nat.ne_of_lt (Nat.lt_of_lt_of_le (Heap.lt_size q) hp))]; exact n
  there := fun b u q _ => ⟨u, k b u q⟩
  tups := fun b xs q => by rw [upd_ne (ne_of_none q hn)]; exact q
  frzs := fun b u xs q => by rw [upd_ne (ne_of_none q hn)]; exact q
  tbls := fun b ps q => ⟨#[], by rw [upd_ne (ne_of_none q hn), q]; simp⟩
theorem Un.write (mu : Mut (H x)) (he : e = x ∨ H e = some (.own x)) (k : ∀ b u, b ≠ e → h.get? b = some u → h'.get? b = some u) (heo : ∃ u, h'.get? e = some u) : Un fs ex H (upd H x o) h h' := by
  have hx : ∀ b, H b = none → b ≠ x := fun b n z => by subst z; rw [n] at mu; exact mu
  have hb : ∀ b, H b = none → b ≠ e := fun b n z => by
    subst z
    rcases he with r | r
    · exact hx b n r
    · rw [n] at r; cases r
  have hm : ∀ b u, H b = some u → ¬ Mut (some u) → b ≠ x := fun b u q nm z => by subst z; rw [q] at mu; exact nm mu
  refine ⟨fun b u q n _ _ => k b u (hb b n) q, fun b u q n _ _ => ⟨u.slots, k b u (hb b n) q⟩, fun b u q n _ => by rw [upd_ne (hx b n)]; exact n, fun b u q _ => ?_,
    fun b xs q => by rw [upd_ne (hm b _ q fun z => z)]; exact q, fun b u xs q => by rw [upd_ne (hm b _ q fun z => z)]; exact q, fun b ps q => ⟨#[], by rw [upd_ne (hm b _ q fun z => z), q]; simp⟩⟩
  by_cases hbe : b = e
  · subst hbe; exact heo
  · exact ⟨u, k b u hbe q⟩
theorem Un.mono (u : Un fs ex H H1 h h1) (hs : ∀ b ∈ fs, b ∈ fs') (hx : ∀ b ∈ ex, b ∈ ex') : Un fs' ex' H H1 h h1 :=
  ⟨fun b ob q n hb he => u.keep b ob q n (fun z => hb (hs b z)) fun z => he (hx b z), fun _ _ q n _ he => u.any q n fun z => he (hx _ z), fun b ob q n he => u.free b ob q n fun z => he (hx b z), fun b ob q he => u.there b ob q fun z => he (hx b z), u.tups, u.frzs, u.tbls⟩
end

/-! ### the heap without what is tracked -/
noncomputable def trk (h : Heap) (H : Hp) : List Addr := (List.range h.objs.size).filter fun a => (H a).isSome
noncomputable def hidT (h : Heap) (H : Hp) : Heap := PySem.W.hideAll h (trk h H)
theorem hidT_size (h : Heap) (H : Hp) : (hidT h H).objs.size = h.objs.size := PySem.W.hideAll_size _ _
theorem hidT_get {h : Heap} {H : Hp} {b : Addr} {o : Obj} (e : h.get? b = some o) (n : H b = none) : (hidT h H).get? b = some o :=
  PySem.W.hideAll_get _ e fun hm => by
    have q : (H b).isSome = true := (List.mem_filter.mp hm).2
    rw [n] at q; simp at q
theorem of_hidT {h : Heap} {H : Hp} {b : Addr} {o : Obj} (e : (hidT h H).get? b = some o) : h.get? b = some o ∧ H b = none := by
  have e' : h.get? b = some o := PySem.W.of_hideAll (trk h H) e
  refine ⟨e', ?_⟩
  cases q : H b with
  | none => rfl
  | some x =>
    have hm : b ∈ trk h H := List.mem_filter.mpr ⟨List.mem_range.mpr (Heap.lt_size e'), by simp [q]⟩
    have z : (hidT h H).get? b = none := PySem.W.hideAll_none (trk h H) hm
    rw [z] at e; cases e

/-! ### OpenK's ledger, filled with every new object but one -/
noncomputable def allNews (g h : Heap) (L : Addr) : List (Addr × Obj) := (List.range h.objs.size).filterMap fun a => if a = L ∨ (g.get? a).isSome = true then none else (h.get? a).map fun o => (a, o)
noncomputable def rest (g h : Heap) (L d : Addr) : List (Addr × Obj) := (allNews g h L).filter fun p => decide (p.1 ≠ d)
end L2

namespace L2
open PySem PySem.Spec PyProof.Rows

structure Mod (K : PySem.W.Frag) (mg : Str → Option Value) (base : Heap) : Prop where
  kin : K.In base
  glob : base.Ns mainGlobals mg
  blt : ∃ mb, base.Ns builtinsNs mb ∧ ∀ x : Str, x ≠ "__name__" → mb x = bootBuiltins x
  nolimit : base.NoLimit

structure Cx where
  prog : Program
  w : World
  K : PySem.W.Frag
  mg : Str → Option Value
  base : Heap
  A : Around
  N : List Str
  s₀ : Shared
  H₀ : Hp
  env : Env
  outer : List Env
  stack : List Env
  ex : List Addr
  fn : Str → Bool
  calm : Bool
  pn : List (Addr × Obj)
  xe : Value → Shared → Prop
noncomputable def frs (l : List Env) : List Addr := l.filterMap (·.frame)
noncomputable abbrev Cx.fs (X : Cx) : List Addr := frs X.outer

noncomputable def Vis (sc : Scope) (x : Str) : Prop := sc.names.lookup x = some .local ∨ sc.names.lookup x = some .cell ∨ sc.names.lookup x = some .free
noncomputable def Loc (sc : Scope) (x : Str) : Prop := sc.names.lookup x = some .local ∨ sc.names.lookup x = some .cell
noncomputable def Look (env : Env) (h : Heap) (m : Str → Option Value) (x : Str) (u : Value) : Prop :=
  (env.kindOf x = some .local ∧ m x = some u) ∨ ((env.kindOf x = some .cell ∨ env.kindOf x = some .free) ∧ ∃ c, env.cells.lookup x = some c ∧ h.IsCell c (some u))

structure Cx.Ok (X : Cx) : Prop where
  mod : Mod X.K X.mg X.base
  kind : X.env.scope.kind = .function
  glob : X.env.globals = mainGlobals
  blt : X.env.builtins = builtinsNs
  above : X.s₀.heap.objs.size ≤ X.env.locals
  inj : ∀ x y c, X.env.cells.lookup x = some c → X.env.cells.lookup y = some c → x = y
  has : ∀ x, (X.env.kindOf x = some .cell ∨ X.env.kindOf x = some .free) → ∃ c, X.env.cells.lookup x = some c
  cab : ∀ x c, X.fn x = true → X.env.cells.lookup x = some c → X.s₀.heap.objs.size ≤ c
  hd : X.calm = true → X.A.handled = none
  frames : X.A.frames = some X.stack
  stk : X.stack = X.outer ∨ (X.stack = X.env :: X.outer ∧ X.env.frame = some X.env.locals)
  exf : ∀ b ∈ X.ex, b ≠ X.env.locals ∧ ∀ x c, X.env.cells.lookup x = some c → c ≠ b
  bs : ∀ b o, X.base.get? b = some o → X.s₀.heap.get? b = some o ∧ X.H₀ b = none
  bsz : X.base.objs.size ≤ X.s₀.heap.objs.size
  noex : ∀ b o, X.base.get? b = some o → b ∉ X.ex
  exfs : ∀ b ∈ X.ex, b ∉ X.fs
  funs : X.s₀.heap.FunFrames X.base X.outer
  frf : ∀ b ∈ X.fs, X.H₀ b = none

structure Inv (X : Cx) (pins : List (Addr × Obj)) (σ : List (Option V)) (H : Hp) (s : Shared) : Prop where
  ok : X.Ok
  os : s.os = X.s₀.os
  bare : AllBare s.gens
  base : Un X.fs X.ex X.H₀ H X.s₀.heap s.heap
  loc : ∃ m, s.heap.Ns X.env.locals m ∧ ∀ (i : Nat) (x : Str) (v : V), X.N[i]? = some x → σ[i]? = some (some v) → Vis X.env.scope x → ∃ u, RelV v u ∧ Look X.env s.heap m x u
  cell : ∀ x c, X.env.cells.lookup x = some c → ∃ v, s.heap.IsCell c v
  free : H X.env.locals = none
  freeC : ∀ x c, X.env.cells.lookup x = some c → H c = none
  pin : ∀ p ∈ X.pn ++ pins, s.heap.get? p.1 = some p.2 ∧ H p.1 = none ∧ p.1 ≠ X.env.locals ∧ p.1 ∉ X.fs ∧ ∀ v, p.2.data ≠ .cell v
  hok : HOk X.prog X.w H s.heap
  len : σ.length = X.N.length

section
variable {X : Cx} {pins : List (Addr × Obj)} {σ : List (Option V)} {H H' : Hp} {s : Shared} {h' : Heap}

theorem Cx.Ok.nofr (ok : X.Ok) {b : Addr} {o : Obj} (e : X.base.get? b = some o) : b ∉ X.fs := fun hb => by
  have := (ok.funs.mem hb).1
  rw [e] at this; cases this
theorem Inv.bs (I : Inv X pins σ H s) : ∀ b o, X.base.get? b = some o → s.heap.get? b = some o ∧ H b = none := fun b o e =>
  ⟨I.base.keep b o (I.ok.bs b o e).1 (I.ok.bs b o e).2 (I.ok.nofr e) (I.ok.noex b o e), I.base.free b o (I.ok.bs b o e).1 (I.ok.bs b o e).2 (I.ok.noex b o e)⟩
theorem Inv.bk (I : Inv X pins σ H s) : ∀ b o, X.base.get? b = some o → s.heap.get? b = some o := fun b o e => (I.bs b o e).1
theorem Inv.mod (I : Inv X pins σ H s) : Mod X.K X.mg X.base := I.ok.mod
theorem Inv.kIn (I : Inv X pins σ H s) : X.K.In s.heap := I.ok.mod.kin.keeps I.bk
theorem Inv.nolimit (I : Inv X pins σ H s) : s.heap.NoLimit := I.ok.mod.nolimit.keeps I.bk
theorem Inv.lt (I : Inv X pins σ H s) : X.env.locals < s.heap.objs.size := let ⟨_, hn, _⟩ := I.loc; hn.lt
theorem Inv.sz (I : Inv X pins σ H s) : X.s₀.heap.objs.size ≤ s.heap.objs.size := Nat.le_trans I.ok.above (Nat.le_of_lt I.lt)
theorem Inv.nofs (I : Inv X pins σ H s) {a : Addr} (h : s.heap.objs.size ≤ a) : a ∉ X.fs := fun hb => by
  obtain ⟨_, o, ho, _⟩ := I.ok.funs.mem hb
  exact absurd (Nat.lt_of_lt_of_le (Heap.lt_size ho) (Nat.le_trans I.sz h)) (Nat.lt_irrefl _)
theorem Inv.cne (I : Inv X pins σ H s) : ∀ x c, X.env.cells.lookup x = some c → c ≠ X.env.locals := fun x c e z => by
  obtain ⟨v, o, ho, hd⟩ := I.cell x c e
  obtain ⟨m, ⟨o', es, ep, ho', hd', _⟩, _⟩ := I.loc
  rw [z, ho'] at ho; cases ho; rw [hd'] at hd; cases hd
theorem Inv.funs (I : Inv X pins σ H s) : s.heap.FunFrames X.base X.outer := by
  have all : ∀ (l : List Env), (∀ b ∈ frs l, b ∈ X.fs) → X.s₀.heap.FunFrames X.base l → s.heap.FunFrames X.base l := by
    intro l
    induction l with
    | nil => intro _ _; trivial
    | cons env r ih =>
      intro hs hl
      obtain ⟨hk, ⟨L, o, hf, hn, ho, hd⟩, hr⟩ := hl
      have hL : L ∈ X.fs := hs L (by unfold frs; rw [List.filterMap_cons, hf]; exact List.mem_cons_self)
      obtain ⟨sl, e⟩ := I.base.slot L o ho (I.ok.frf L hL) hL fun z => I.ok.exfs L z hL
      exact ⟨hk, ⟨L, _, hf, hn, e, hd⟩, ih (fun b hb => hs b (by unfold frs; rw [List.filterMap_cons, hf]; exact List.mem_cons_of_mem _ hb)) hr⟩
  exact all X.outer (fun _ hb => hb) I.ok.funs

theorem Inv.stack (I : Inv X pins σ H s) : s.heap.FunFrames X.base X.stack := by
  rcases I.ok.stk with e | ⟨e, hf⟩
  · rw [e]; exact I.funs
  · rw [e]
    obtain ⟨m, hn, _⟩ := I.loc
    refine .cons (by rw [I.ok.kind]; decide) hf hn ?_ I.funs
    exact Heap.get?_none_of_le (Nat.le_trans I.ok.bsz I.ok.above)
theorem Inv.stkSub (I : Inv X pins σ H s) : ∀ b ∈ frs X.stack, b ∈ X.env.locals :: X.fs := fun b hb => by
  rcases I.ok.stk with e | ⟨e, hf⟩
  · rw [e] at hb; exact List.mem_cons_of_mem _ hb
  · rw [e] at hb
    unfold frs at hb
    rw [List.filterMap_cons, hf] at hb
    exact hb
theorem Inv.stkFree (I : Inv X pins σ H s) : ∀ b ∈ frs X.stack, H b = none := fun b hb => by
  rcases List.mem_cons.mp (I.stkSub b hb) with e | hb
  · rw [e]; exact I.free
  · obtain ⟨_, o, ho, _⟩ := I.ok.funs.mem hb
    exact I.base.free b o ho (I.ok.frf b hb) fun z => I.ok.exfs b z hb

theorem Inv.step {g' : Array GenState} {t' : Nat} {d' : Drawn} {ch : List Addr} (I : Inv X pins σ H s)
    (hch : ∀ b ∈ ch, (b ∈ X.ex ∨ X.s₀.heap.objs.size ≤ b) ∧ b ≠ X.env.locals ∧ (∀ x c, X.env.cells.lookup x = some c → c ≠ b) ∧ ∀ p ∈ X.pn ++ pins, p.1 ≠ b)
    (keep : ∀ b o, b ≠ X.env.locals → b ∉ X.fs → b ∉ ch → s.heap.get? b = some o → H b = none → h'.get? b = some o)
    (slot : ∀ b o, b ≠ X.env.locals → b ∈ X.fs → b ∉ ch → s.heap.get? b = some o → H b = none → ∃ sl, h'.get? b = some { o with slots := sl }) (free : ∀ b o, b ∉ ch → s.heap.get? b = some o → H b = none → H' b = none)
    (there : ∀ b o, b ∉ ch → s.heap.get? b = some o → ∃ o', h'.get? b = some o')
    (tups : ∀ b xs, H b = some (.tup xs) → H' b = some (.tup xs)) (frzs : ∀ b o u, H b = some (.frz o u) → H' b = some (.frz o u)) (tbls : ∀ b ps, H b = some (.tbl ps) → ∃ more, H' b = some (.tbl (ps ++ more)))
    (ns : ∀ m, s.heap.Ns X.env.locals m → h'.Ns X.env.locals m) (hok : HOk X.prog X.w H' h') (hg : AllBare g') :
    Inv X pins σ H' { s with heap := h', gens := g', drawn := d', toks := t' } := by
  have neL : ∀ b o, X.s₀.heap.get? b = some o → b ≠ X.env.locals := fun b o e => Nat.ne_of_lt (Nat.lt_of_lt_of_le (Heap.lt_size e) I.ok.above)
  have neC : ∀ b o, X.s₀.heap.get? b = some o → b ∉ X.ex → b ∉ ch := fun b o e hx hb => by
    rcases (hch b hb).1 with z | z
    · exact hx z
    · exact absurd (Nat.lt_of_lt_of_le (Heap.lt_size e) z) (Nat.lt_irrefl _)
  have cellK : ∀ x c, X.env.cells.lookup x = some c → ∀ v, s.heap.IsCell c v → h'.IsCell c v := fun x c e v ⟨o, ho, hd⟩ => by
    have nch : c ∉ ch := fun z => (hch c z).2.2.1 x c e rfl
    by_cases hc : c ∈ X.fs
    · obtain ⟨sl, q⟩ := slot c o (I.cne x c e) hc nch ho (I.freeC x c e)
      exact ⟨_, q, hd⟩
    · exact ⟨o, keep c o (I.cne x c e) hc nch ho (I.freeC x c e), hd⟩
  refine ⟨I.ok, I.os, hg, ⟨fun b o e n hb hx => ?_, fun b o e n hb hx => ?_, fun b o e n hx => ?_, fun b o e hx => ?_, fun b xs e => tups b xs (I.base.tups b xs e), fun b o xs e => frzs b o xs (I.base.frzs b o xs e), fun b ps e => ?_⟩, ?_, fun x c e => ?_, ?_, fun x c e => ?_, fun p hp => ?_, hok, I.len⟩
  · exact keep b o (neL b o e) hb (neC b o e hx) (I.base.keep b o e n hb hx) (I.base.free b o e n hx)
  · obtain ⟨sl, e1⟩ := I.base.slot b o e n hb hx
    obtain ⟨sl', e2⟩ := slot b _ (neL b o e) hb (neC b o e hx) e1 (I.base.free b o e n hx)
    exact ⟨sl', e2⟩
  · obtain ⟨o', e1⟩ := I.base.there b o e hx
    exact free b o' (neC b o e hx) e1 (I.base.free b o e n hx)
  · obtain ⟨o', e1⟩ := I.base.there b o e hx
    exact there b o' (neC b o e hx) e1
  · obtain ⟨m1, e1⟩ := I.base.tbls b ps e
    obtain ⟨m2, e2⟩ := tbls b _ e1
    exact ⟨m1 ++ m2, by rw [e2, Array.append_assoc]⟩
  · obtain ⟨m, hn, hl⟩ := I.loc
    refine ⟨m, ns m hn, fun i x v e1 e2 e3 => ?_⟩
    obtain ⟨u, r, l⟩ := hl i x v e1 e2 e3
    refine ⟨u, r, ?_⟩
    rcases l with l | ⟨k, c, e, z⟩
    · exact .inl l
    · exact .inr ⟨k, c, e, cellK x c e _ z⟩
  · obtain ⟨v, z⟩ := I.cell x c e
    exact ⟨v, cellK x c e v z⟩
  · obtain ⟨m, ⟨o, _, _, ho, _⟩, _⟩ := I.loc
    exact free _ o (fun z => (hch _ z).2.1 rfl) ho I.free
  · obtain ⟨v, o, ho, hd⟩ := I.cell x c e
    exact free c o (fun z => (hch c z).2.2.1 x c e rfl) ho (I.freeC x c e)
  · obtain ⟨e, n, ne, nf, d⟩ := I.pin p hp
    have nch : p.1 ∉ ch := fun z => (hch p.1 z).2.2.2 p hp rfl
    exact ⟨keep p.1 p.2 ne nf nch e n, free p.1 p.2 nch e n, ne, nf, d⟩
theorem Inv.un {t' : Nat} (I : Inv X pins σ H s) (u : Un X.fs [] H H' s.heap h') (hok : HOk X.prog X.w H' h') : Inv X pins σ H' { s with heap := h', toks := t' } := by
  obtain ⟨m, ⟨o, es, ep, ho, r⟩, _⟩ := id I.loc
  obtain ⟨sl, hL⟩ := u.any ho I.free (by simp)
  exact I.step (g' := s.gens) (d' := s.drawn) (ch := []) (fun _ z => nomatch z) (fun b o _ hb _ e n => u.keep b o e n hb (by simp)) (fun b o _ hb _ e n => u.slot b o e n hb (by simp)) (fun b o _ e n => u.free b o e n (by simp)) (fun b o _ e => u.there b o e (by simp)) u.tups u.frzs u.tbls (fun m' hm => by
    obtain ⟨o', es', ep', ho', r'⟩ := hm
    rw [ho] at ho'; cases ho'
    exact ⟨_, es', ep', hL, r'⟩) hok I.bare
theorem Inv.call {g' : Array GenState} {t' : Nat} {d' : Drawn} {ch : List Addr} (I : Inv X pins σ H s) (u : Un (frs X.stack) ch H H' s.heap h') (hok : HOk X.prog X.w H' h') (hg : AllBare g')
    (hch : ∀ b ∈ ch, (b ∈ X.ex ∨ X.s₀.heap.objs.size ≤ b) ∧ b ≠ X.env.locals ∧ (∀ x c, X.env.cells.lookup x = some c → c ≠ b) ∧ ∀ p ∈ X.pn ++ pins, p.1 ≠ b) :
    Inv X pins σ H' { s with heap := h', gens := g', drawn := d', toks := t' } := by
  obtain ⟨m, ⟨o, es, ep, ho, r⟩, _⟩ := id I.loc
  obtain ⟨sl, hL⟩ := u.any ho I.free fun z => (hch _ z).2.1 rfl
  exact I.step (ch := ch) hch (fun b o hL hb hc e n => u.keep b o e n (fun z => (List.mem_cons.mp (I.stkSub b z)).elim hL hb) hc) (fun b o _ _ hc e n => u.any e n hc) (fun b o hc e n => u.free b o e n hc) (fun b o hc e => u.there b o e hc) u.tups u.frzs u.tbls (fun m' hm => by
    obtain ⟨o', es', ep', ho', r'⟩ := hm
    rw [ho] at ho'; cases ho'
    exact ⟨_, es', ep', hL, r'⟩) hok hg
theorem Inv.turned {t' : Nat} {it : Addr} (I : Inv X pins σ H s) (k : ∀ b o, b ≠ it → s.heap.get? b = some o → h'.get? b = some o) (hn : H it = none) (hL : it ≠ X.env.locals)
    (h1 : it ∈ X.ex ∨ X.s₀.heap.objs.size ≤ it) (h2 : ∀ x c, X.env.cells.lookup x = some c → c ≠ it) (h3 : ∀ p ∈ X.pn ++ pins, p.1 ≠ it) : Inv X pins σ H { s with heap := h', toks := t' } := by
  have nit : ∀ b u, H b = some u → b ≠ it := fun b u e z => by rw [z, hn] at e; cases e
  refine I.step (g' := s.gens) (d' := s.drawn) (ch := [it]) (fun b hb => ?_) (fun b o _ _ hc e _ => k b o (fun z => hc (by simp [z])) e) (fun b o _ _ hc e _ => ⟨o.slots, k b o (fun z => hc (by simp [z])) e⟩) (fun _ _ _ _ n => n)
    (fun b o hc e => ⟨o, k b o (fun z => hc (by simp [z])) e⟩) (fun _ _ e => e) (fun _ _ _ e => e) (fun b ps e => ⟨#[], by rw [e]; simp⟩) (fun m hm => ?_) (fun b u e => ?_) I.bare
  · have e : b = it := by simpa using hb
    subst e
    exact ⟨h1, hL, h2, h3⟩
  · obtain ⟨o, es, ep, ho, r⟩ := hm
    exact ⟨o, es, ep, k _ o (Ne.symm hL) ho, r⟩
  · refine (I.hok b u e).stay (fun c v hc q => k c v ?_ q) (fun _ q => q) fun _ _ q => q
    rcases hc with z | z
    · rw [z]; exact nit b u e
    · exact nit c _ z
theorem Inv.tok (I : Inv X pins σ H s) (t : Nat) : Inv X pins σ H { s with toks := t } := I.un (h' := s.heap) (t' := t) Un.refl I.hok
theorem Inv.kept {t' : Nat} (I : Inv X pins σ H s) (k : ∀ b u, s.heap.get? b = some u → h'.get? b = some u) : Inv X pins σ H { s with heap := h', toks := t' } := I.un (Un.kept k) (I.hok.kept k)
theorem Inv.laid {a : Addr} {o : HO} {t' : Nat} (I : Inv X pins σ H s) (k : ∀ b u, s.heap.get? b = some u → h'.get? b = some u) (hp : s.heap.objs.size ≤ a) (new : ObjOk X.prog X.w (upd H a o) h' a o) :
    Inv X pins σ (upd H a o) { s with heap := h', toks := t' } := I.un (Un.laid k hp (I.hok.fresh hp)) (I.hok.laid k hp new)
theorem Inv.write {x e : Addr} {o : HO} {t' : Nat} (I : Inv X pins σ H s) (mu : Mut (H x)) (he : e = x ∨ H e = some (.own x)) (k : ∀ b u, b ≠ e → s.heap.get? b = some u → h'.get? b = some u) (heo : ∃ u, h'.get? e = some u)
    (new : ObjOk X.prog X.w (upd H x o) h' x o) : Inv X pins σ (upd H x o) { s with heap := h', toks := t' } := I.un (Un.write mu he k heo) (I.hok.write mu he k heo new)
theorem Inv.weak {σ' : List (Option V)} (I : Inv X pins σ H s) (hl : σ'.length = σ.length) (w : ∀ (i : Nat) v, σ'[i]? = some (some v) → σ[i]? = some (some v)) : Inv X pins σ' H s :=
  ⟨I.ok, I.os, I.bare, I.base, let ⟨m, hn, hl'⟩ := I.loc; ⟨m, hn, fun i x v e1 e2 e3 => hl' i x v e1 (w i v e2) e3⟩, I.cell, I.free, I.freeC, I.pin, I.hok, hl.trans I.len⟩
theorem Inv.pins_of {pins' : List (Addr × Obj)} (I : Inv X pins σ H s) (h : ∀ p ∈ pins', s.heap.get? p.1 = some p.2 ∧ H p.1 = none ∧ p.1 ≠ X.env.locals ∧ p.1 ∉ X.fs ∧ ∀ v, p.2.data ≠ .cell v) : Inv X pins' σ H s :=
  ⟨I.ok, I.os, I.bare, I.base, I.loc, I.cell, I.free, I.freeC, fun p hp => (List.mem_append.mp hp).elim (fun z => I.pin p (List.mem_append_left _ z)) (h p), I.hok, I.len⟩

theorem nodup_ix {N : List Str} (hN : N.Nodup) {i j : Nat} {x : Str} (a : N[i]? = some x) (b : N[j]? = some x) : i = j := by
  obtain ⟨h1, e1⟩ := List.getElem?_eq_some_iff.mp a
  obtain ⟨h2, e2⟩ := List.getElem?_eq_some_iff.mp b
  exact (List.getElem_inj hN).mp (e1.trans e2.symm)

theorem store_ok2 {M : Model} {A : Around} {E : Value → Shared → Prop} {i : Nat} {x : Str} {v : V} {u : Value} {Q : Unit → Shared → Prop} (I : Inv X pins σ H s) (hN : X.N.Nodup) (hi : X.N[i]? = some x) (hx : Loc X.env.scope x) (r : RelV v u)
    (h : ∀ s', Inv X pins (σ.set i (some v)) H s' → (∃ a, Heap.SameBut a s.heap s'.heap ∧ (a = X.env.locals ∨ X.env.cells.lookup x = some a)) → Q () s') (hf : X.fn x = true ∨ X.env.scope.names.lookup x = some .local := by first | exact .inl rfl | exact .inr rfl | assumption) : wpAny M A (storeName X.env x u) Q E s := by
  obtain ⟨m, hn, hl⟩ := id I.loc
  have hcls : (X.env.scope.kind == .class || (X.env.scope.kind == .module && X.env.locals != X.env.globals)) = false := by rw [I.ok.kind]; rfl
  have hiσ : i < σ.length := by rw [I.len]; exact (List.getElem?_eq_some_iff.mp hi).1
  have cne := I.cne
  have tracked : ∀ {a : Addr} {h' : Heap}, (∃ o, s.heap.get? a = some o ∧ H a = none) → Heap.SameBut a s.heap h' → HOk X.prog X.w H h' := fun {a h'} ha hs b ob e => by
    obtain ⟨_, _, hfree⟩ := ha
    refine (I.hok b ob e).stay (fun c w' hc q => (hs.2 c ?_).trans q) (fun _ q => q) fun _ _ q => q
    rintro rfl
    rcases hc with rfl | hc
    · rw [hfree] at e; cases e
    · rw [hfree] at hc; cases hc
  rcases hx with hk | hk
  · refine wpAny_storeName_local hk hn (fun h' hn' hs => ?_) hcls
    obtain ⟨oL, _, _, hoL, _⟩ := id hn
    refine h _ ⟨I.ok, I.os, I.bare, ⟨fun b o e n hb hx => ?_, fun b o e n hb hx => ?_, I.base.free, fun b o e hx => ?_, I.base.tups, I.base.frzs, I.base.tbls⟩, ⟨_, hn', fun j y v' e1 e2 e3 => ?_⟩, fun y c e => ?_, I.free, I.freeC, fun p hp => ?_, tracked ⟨oL, hoL, I.free⟩ hs, by simpa using I.len⟩ ⟨_, hs, .inl rfl⟩
    · exact (hs.2 b (Nat.ne_of_lt (Nat.lt_of_lt_of_le (Heap.lt_size e) I.ok.above))).trans (I.base.keep b o e n hb hx)
    · obtain ⟨sl, e1⟩ := I.base.slot b o e n hb hx
      exact ⟨sl, (hs.2 b (Nat.ne_of_lt (Nat.lt_of_lt_of_le (Heap.lt_size e) I.ok.above))).trans e1⟩
    · obtain ⟨o', e1⟩ := I.base.there b o e hx
      exact ⟨o', (hs.2 b (Nat.ne_of_lt (Nat.lt_of_lt_of_le (Heap.lt_size e) I.ok.above))).trans e1⟩
    · by_cases hj : j = i
      · subst hj
        rw [hi] at e1; cases e1
        rw [List.getElem?_set_self hiσ] at e2
        cases e2
        exact ⟨u, r, .inl ⟨hk, by simp⟩⟩
      · rw [List.getElem?_set_ne (Ne.symm hj)] at e2
        obtain ⟨u', r', q⟩ := hl j y v' e1 e2 e3
        refine ⟨u', r', ?_⟩
        rcases q with ⟨k, e⟩ | ⟨k, c, e, z⟩
        · refine .inl ⟨k, ?_⟩
          have : y ≠ x := fun e => hj (nodup_ix hN e1 (e ▸ hi))
          simp [this, e]
        · exact .inr ⟨k, c, e, z.sameBut hs (cne y c e)⟩
    · obtain ⟨w', z⟩ := I.cell y c e
      exact ⟨w', z.sameBut hs (cne y c e)⟩
    · obtain ⟨e, n, ne, nf, d⟩ := I.pin p hp
      exact ⟨(hs.2 p.1 ne).trans e, n, ne, nf, d⟩
  · have hfn : X.fn x = true := by
      rcases hf with z | z
      · exact z
      · rw [z] at hk; cases hk
    obtain ⟨c, hc⟩ := I.ok.has x (.inl hk)
    obtain ⟨w', z⟩ := I.cell x c hc
    refine wpAny_storeName_cell I.ok.kind hk hc z (fun h' hc' hs => ?_)
    obtain ⟨oc, hoc, hocd⟩ := id z
    refine h { s with heap := h' } ⟨I.ok, I.os, I.bare, ⟨fun b o e n hb hx => ?_, fun b o e n hb hx => ?_, I.base.free, fun b o e hx => ?_, I.base.tups, I.base.frzs, I.base.tbls⟩, ⟨m, hn.sameBut hs (Ne.symm (cne x c hc)), fun j y v' e1 e2 e3 => ?_⟩, fun y c' e => ?_, I.free, I.freeC, fun p hp => ?_, tracked ⟨oc, hoc, I.freeC x c hc⟩ hs, by simpa using I.len⟩ ⟨c, hs, .inr hc⟩
    · exact (hs.2 b (Nat.ne_of_lt (Nat.lt_of_lt_of_le (Heap.lt_size e) (I.ok.cab x c hfn hc)))).trans (I.base.keep b o e n hb hx)
    · obtain ⟨sl, e1⟩ := I.base.slot b o e n hb hx
      exact ⟨sl, (hs.2 b (Nat.ne_of_lt (Nat.lt_of_lt_of_le (Heap.lt_size e) (I.ok.cab x c hfn hc)))).trans e1⟩
    · obtain ⟨o', e1⟩ := I.base.there b o e hx
      exact ⟨o', (hs.2 b (Nat.ne_of_lt (Nat.lt_of_lt_of_le (Heap.lt_size e) (I.ok.cab x c hfn hc)))).trans e1⟩
    · by_cases hj : j = i
      · subst hj
        rw [hi] at e1; cases e1
        rw [List.getElem?_set_self hiσ] at e2
        cases e2
        exact ⟨u, r, .inr ⟨.inl hk, c, hc, hc'⟩⟩
      · rw [List.getElem?_set_ne (Ne.symm hj)] at e2
        obtain ⟨u', r', q⟩ := hl j y v' e1 e2 e3
        refine ⟨u', r', ?_⟩
        rcases q with q | ⟨k, c', e, z'⟩
        · exact .inl q
        · refine .inr ⟨k, c', e, z'.sameBut hs ?_⟩
          rintro rfl
          exact hj (nodup_ix hN e1 (I.ok.inj _ _ _ e hc ▸ hi))
    · by_cases hcc : c' = c
      · subst hcc; exact ⟨_, hc'⟩
      · obtain ⟨w2, z2⟩ := I.cell y c' e
        exact ⟨w2, z2.sameBut hs hcc⟩
    · obtain ⟨e, n, ne, nf, d⟩ := I.pin p hp
      refine ⟨(hs.2 p.1 ?_).trans e, n, ne, nf, d⟩
      intro q
      rw [q, hoc] at e
      have q' : oc = p.2 := Option.some.inj e
      exact d w' (by rw [← q']; exact hocd)
theorem store_ok {M : Model} {A : Around} {E : Value → Shared → Prop} {i : Nat} {x : Str} {v : V} {u : Value} {Q : Unit → Shared → Prop} (I : Inv X pins σ H s) (hN : X.N.Nodup) (hi : X.N[i]? = some x) (hx : Loc X.env.scope x) (r : RelV v u)
    (h : ∀ s', Inv X pins (σ.set i (some v)) H s' → Q () s') (hf : X.fn x = true ∨ X.env.scope.names.lookup x = some .local := by first | exact .inl rfl | exact .inr rfl | assumption) : wpAny M A (storeName X.env x u) Q E s :=
  store_ok2 I hN hi hx r (fun s' I' _ => h s' I') hf
theorem Inv.call' {s' : Shared} {ch : List Addr} (I : Inv X pins σ H s) (ho : s'.os = s.os) (u : Un (frs X.stack) ch H H' s.heap s'.heap) (hok : HOk X.prog X.w H' s'.heap) (hg : AllBare s'.gens)
    (hch : ∀ b ∈ ch, (b ∈ X.ex ∨ X.s₀.heap.objs.size ≤ b) ∧ b ≠ X.env.locals ∧ (∀ x c, X.env.cells.lookup x = some c → c ≠ b) ∧ ∀ p ∈ X.pn ++ pins, p.1 ≠ b) : Inv X pins σ H' s' := by
  obtain ⟨h', g', d', t', o'⟩ := s'
  have e : o' = s.os := ho
  subst e
  exact I.call (g' := g') (t' := t') (d' := d') u hok hg hch
end

/-! ### the judgements -/
noncomputable abbrev XK := Value → Option Addr → Hp → Prop
noncomputable abbrev St := List (Option V)
noncomputable abbrev VK := V → Hp → Prop
noncomputable abbrev TE := St → Hp → VK → Prop
noncomputable abbrev TT := St → Hp → (Bool → Hp → Prop) → Prop
noncomputable abbrev TA := St → Hp → (List V → Hp → Prop) → Prop
structure Ends where
  nx : St → Hp → Prop
  rt : VK
  bk : St → Hp → Prop := fun _ _ => False
  ct : St → Hp → Prop := fun _ _ => False
noncomputable abbrev TS := Ends → St → Hp → Prop

noncomputable def EP (X : Cx) (pins : List (Addr × Obj)) (σ : St) (Q : VK) (u : Value) (s' : Shared) : Prop := ∃ v H', Inv X pins σ H' s' ∧ RelV v u ∧ Q v H'
noncomputable def TP (X : Cx) (pins : List (Addr × Obj)) (σ : St) (Q : Bool → Hp → Prop) (b : Bool) (s' : Shared) : Prop := ∃ H', Inv X pins σ H' s' ∧ Q b H'
noncomputable def AP (X : Cx) (pins : List (Addr × Obj)) (σ : St) (Q : List V → Hp → Prop) (us : List Value) (s' : Shared) : Prop := ∃ vs H', Inv X pins σ H' s' ∧ Vals vs us ∧ Q vs H'
noncomputable def SP (X : Cx) (pins : List (Addr × Obj)) (D : Ends) (f : Flow) (s' : Shared) : Prop :=
  match f with
  | .next => ∃ σ' H', Inv X pins σ' H' s' ∧ D.nx σ' H'
  | .brk => ∃ σ' H', Inv X pins σ' H' s' ∧ D.bk σ' H'
  | .cont => ∃ σ' H', Inv X pins σ' H' s' ∧ D.ct σ' H'
  | .ret u => ∃ v σ' H', Inv X pins σ' H' s' ∧ RelV v u ∧ D.rt v H'

noncomputable def PE (X : Cx) (e : Expr) (t : TE) : Prop :=
  ∀ (pins : List (Addr × Obj)) (s : Shared) (σ : St) (H : Hp) (Q : VK), Inv X pins σ H s → t σ H Q → wpAny (model X.prog X.w) X.A (eval e X.env) (EP X pins σ Q) X.xe s
noncomputable def PT (X : Cx) (e : Expr) (t : TT) : Prop :=
  ∀ (pins : List (Addr × Obj)) (s : Shared) (σ : St) (H : Hp) (Q : Bool → Hp → Prop), Inv X pins σ H s → t σ H Q → wpAny (model X.prog X.w) X.A (isTrue e X.env (eval e X.env)) (TP X pins σ Q) X.xe s
noncomputable def PW (X : Cx) (e : Expr) (t : TT) : Prop :=
  ∀ (whole : Sem Value) (pins : List (Addr × Obj)) (s : Shared) (σ : St) (H : Hp) (Q : Bool → Hp → Prop), Inv X pins σ H s → t σ H Q → wpAny (model X.prog X.w) X.A (isTrue e X.env whole) (TP X pins σ Q) X.xe s
theorem PW.pt {X : Cx} {e : Expr} {t : TT} (h : PW X e t) : PT X e t := h _
noncomputable def PA (X : Cx) (es : List Expr) (t : TA) : Prop :=
  ∀ (pos : Pos) (pins : List (Addr × Obj)) (s : Shared) (σ : St) (H : Hp) (Q : List V → Hp → Prop), Inv X pins σ H s → t σ H Q → wpAny (model X.prog X.w) X.A (spliced (backTo pos (starEach es X.env))) (AP X pins σ Q) X.xe s
noncomputable def PS (X : Cx) (st : Stmt) (t : TS) : Prop :=
  ∀ (pins : List (Addr × Obj)) (s : Shared) (σ : St) (H : Hp) (D : Ends), Inv X pins σ H s → t D σ H → wpAny (model X.prog X.w) X.A (exec st X.env) (SP X pins D) X.xe s
noncomputable def PSs (X : Cx) (st : List Stmt) (t : TS) : Prop :=
  ∀ (pins : List (Addr × Obj)) (s : Shared) (σ : St) (H : Hp) (D : Ends), Inv X pins σ H s → t D σ H → wpAny (model X.prog X.w) X.A (execs st X.env) (SP X pins D) X.xe s
theorem thn {α : Type} {t : Sem α} {Q Q' : α → Shared → Prop} {M : Model} {A : Around} {E : Value → Shared → Prop} {s : Shared} (h : wpAny M A t Q E s) (hQ : ∀ a s, Q a s → Q' a s) : wpAny M A t Q' E s := wpAny_mono h hQ fun _ _ x => x
end L2

namespace L2
open PySem PySem.Spec PyProof.Rows
section
variable {X : Cx}

/-! ### names and constants -/
noncomputable def tVar (i : Nat) : TE := fun σ H Q => ∃ v, σ[i]? = some (some v) ∧ Q v H
noncomputable def tC (v : V) : TE := fun _ H Q => Q v H
theorem pe_var {i : Nat} {x : Str} {pos : Pos} (hN : X.N[i]? = some x) (hv : Vis X.env.scope x) (hd : (x == ("__debug__" : Str)) = false := by decide) (hcd : (x == ("__classdict__" : Str)) = false := by decide) : PE X (.Name x pos) (tVar i) := by
  intro pins s σ H Q I h
  obtain ⟨v, e, h⟩ := h
  obtain ⟨m, hn, hl⟩ := I.loc
  obtain ⟨u, r, l⟩ := hl i x v hN e hv
  have fin : EP X pins σ Q u s := ⟨v, H, I, r, h⟩
  rcases l with ⟨hk, hm⟩ | ⟨hk, c, hc, hcell⟩
  · exact wpAny_Name (wpAny_loadName_local I.ok.kind hk hn hm fin) hd
  · rcases hk with hk | hk
    · exact wpAny_Name (wpAny_loadName_cell I.ok.kind hk hc hcell fin) hd
    · exact wpAny_Name (wpAny_loadName_free I.ok.kind hk hc hcell fin hcd) hd
theorem pe_int {i j pos} : PE X (.Constant (.int i) j pos) (tC (.int i)) := fun _ _ _ H _ I h => wpAny_Constant_int ⟨.int i, H, I.tok _, ⟨_, rfl⟩, h⟩
theorem pe_bl {b j pos} : PE X (.Constant (.bool b) j pos) (tC (.bl b)) := fun _ _ _ H _ I h => Constant_bool ⟨.bl b, H, I, rfl, h⟩
theorem pe_non {j pos} : PE X (.Constant .none j pos) (tC .non) := fun _ _ _ H _ I h => Constant_none ⟨.non, H, I, rfl, h⟩
theorem pe_str {x j pos} : PE X (.Constant (.str x) j pos) (tC (.str x)) := fun _ _ _ H _ I h => Calls.Constant_str ⟨.str x, H, I.tok _, ⟨_, rfl⟩, h⟩

noncomputable def Gl (X : Cx) (x : Str) : Prop := X.env.kindOf x = some .globalImplicit
theorem ld_glob {E : Value → Shared → Prop} {pins : List (Addr × Obj)} {s : Shared} {σ : St} {H : Hp} {x : Str} {u : Value} {pos : Pos} {Q : Value → Shared → Prop} (I : Inv X pins σ H s) (hg : Gl X x) (hm : X.mg x = some u) (h : Q u s)
    (hd : (x == ("__debug__" : Str)) = false := by decide) : wpAny (model X.prog X.w) X.A (eval (.Name x pos) X.env) Q E s :=
  Calls.Name_function_global I.ok.kind hg (Calls.loadGlobal_global (by rw [I.ok.glob]; exact I.mod.glob.keeps I.bk) hm h) hd
theorem ld_blt {E : Value → Shared → Prop} {pins : List (Addr × Obj)} {s : Shared} {σ : St} {H : Hp} {x : Str} {u : Value} {pos : Pos} {Q : Value → Shared → Prop} (I : Inv X pins σ H s) (hg : Gl X x) (hm : X.mg x = none) (hv : bootBuiltins x = some u) (h : Q u s)
    (hn : x ≠ "__name__" := by decide) (hd : (x == ("__debug__" : Str)) = false := by decide) : wpAny (model X.prog X.w) X.A (eval (.Name x pos) X.env) Q E s := by
  obtain ⟨mb, h1, h2⟩ := I.mod.blt
  exact Calls.Name_function_global I.ok.kind hg (Calls.loadGlobal_builtin (by rw [I.ok.glob]; exact I.mod.glob.keeps I.bk) hm (by rw [I.ok.blt]; exact h1.keeps I.bk) ((h2 x hn).trans hv) h) hd
theorem pe_glob {x : Str} {v : V} {u : Value} {pos : Pos} (hg : Gl X x) (hm : X.mg x = some u) (r : RelV v u) (hd : (x == ("__debug__" : Str)) = false := by decide) : PE X (.Name x pos) (tC v) :=
  fun _ _ _ H _ I h => ld_glob I hg hm ⟨v, H, I, r, h⟩ hd
/-! ### arithmetic -/
variable {a b : Expr} {ta tb : TE} {pos : Pos}
/-! ### comparisons -/
noncomputable def tB (t : TE) : TT := fun σ H Q => t σ H fun x H1 => ∃ c, x = .bl c ∧ Q c H1
theorem pt_val {e : Expr} {t : TE} (h : PE X e t) (he : ∀ whole, isTrue e X.env whole = (do let v ← whole; standAt e.pos; holding [v] (truthy v)) := by intro _; rfl) : PT X e (tB t) := by
  intro pins s σ H Q I hw
  refine isTrue_plain (thn (h pins s σ H _ I hw) fun v s1 ⟨x, H1, I1, r1, q1⟩ => ?_) (he _)
  obtain ⟨d, rfl, q⟩ := q1
  cases r1
  exact wpAny_truthy_bool ⟨H1, I1, q⟩

/-! ### and, or, not -/
variable {tA tB' : TT} {rest : List Expr}
noncomputable def tAnd (t u : TT) : TT := fun σ H Q => t σ H fun c H1 => if c = true then u σ H1 Q else Q false H1
noncomputable def tOr (t u : TT) : TT := fun σ H Q => t σ H fun c H1 => if c = true then Q true H1 else u σ H1 Q
noncomputable def tNot (t : TT) : TT := fun σ H Q => t σ H fun c H1 => Q (!c) H1
theorem pw_and1 (ha : PT X a tA) : PW X (.BoolOp .And [a] pos) tA := by
  intro wh pins s σ H Q I h
  refine isTrue_and (thn (ha pins s σ H Q I h) fun c s1 e => ?_)
  cases c with
  | true => exact isTrue_and_nil e
  | false => exact e
theorem pw_or1 (ha : PT X a tA) : PW X (.BoolOp .Or [a] pos) tA := by
  intro wh pins s σ H Q I h
  refine isTrue_or (thn (ha pins s σ H Q I h) fun c s1 e => ?_)
  cases c with
  | false => exact isTrue_or_nil e
  | true => exact e
theorem pw_and (ha : PT X a tA) (hb : PW X (.BoolOp .And (b :: rest) pos) tB') : PW X (.BoolOp .And (a :: b :: rest) pos) (tAnd tA tB') := by
  intro wh pins s σ H Q I h
  refine isTrue_and (thn (ha pins s σ H _ I h) fun c s1 ⟨H1, I1, q1⟩ => ?_)
  cases c with
  | true => exact hb wh pins s1 σ H1 Q I1 q1
  | false => exact ⟨H1, I1, q1⟩
theorem pw_or (ha : PT X a tA) (hb : PW X (.BoolOp .Or (b :: rest) pos) tB') : PW X (.BoolOp .Or (a :: b :: rest) pos) (tOr tA tB') := by
  intro wh pins s σ H Q I h
  refine isTrue_or (thn (ha pins s σ H _ I h) fun c s1 ⟨H1, I1, q1⟩ => ?_)
  cases c with
  | true => exact ⟨H1, I1, q1⟩
  | false => exact hb wh pins s1 σ H1 Q I1 q1
theorem pt_not (ha : PT X a tA) : PT X (.UnaryOp .Not a pos) (tNot tA) := by
  intro pins s σ H Q I h
  exact isTrue_not (ha pins s σ H (fun c H1 => Q (!c) H1) I h)
noncomputable def tAndV (ta tb : TE) : TE := fun σ H Q => ta σ H fun x H1 => ∃ c, x = .bl c ∧ if c = true then tb σ H1 Q else Q (.bl false) H1
noncomputable def tOrV (ta tb : TE) : TE := fun σ H Q => ta σ H fun x H1 => ∃ c, x = .bl c ∧ if c = true then Q (.bl true) H1 else tb σ H1 Q
noncomputable def tNotV (ta : TE) : TE := fun σ H Q => ta σ H fun x H1 => ∃ c, x = .bl c ∧ Q (.bl (!c)) H1
theorem pe_one {op} {t : TE} (h : PE X a t) : PE X (.BoolOp op [a] pos) t := fun pins s σ H Q I hw => BoolOp_one (h pins s σ H Q I hw)
theorem pe_and (ha : PE X a ta) (hb : PE X (.BoolOp .And (b :: rest) pos) tb) : PE X (.BoolOp .And (a :: b :: rest) pos) (tAndV ta tb) := by
  intro pins s σ H Q I h
  refine BoolOp_and (thn (ha pins s σ H _ I h) fun v s1 ⟨x, H1, I1, r1, q1⟩ => ?_)
  obtain ⟨c, rfl, q1⟩ := q1
  cases r1
  refine wpAny_truthy_bool ?_
  cases c with
  | true => exact hb pins s1 σ H1 Q I1 q1
  | false => exact ⟨.bl false, H1, I1, rfl, q1⟩
theorem pe_or (ha : PE X a ta) (hb : PE X (.BoolOp .Or (b :: rest) pos) tb) : PE X (.BoolOp .Or (a :: b :: rest) pos) (tOrV ta tb) := by
  intro pins s σ H Q I h
  refine BoolOp_or (thn (ha pins s σ H _ I h) fun v s1 ⟨x, H1, I1, r1, q1⟩ => ?_)
  obtain ⟨c, rfl, q1⟩ := q1
  cases r1
  refine wpAny_truthy_bool ?_
  cases c with
  | false => exact hb pins s1 σ H1 Q I1 q1
  | true => exact ⟨.bl true, H1, I1, rfl, q1⟩
theorem pe_not (ha : PE X a ta) : PE X (.UnaryOp .Not a pos) (tNotV ta) := by
  intro pins s σ H Q I h
  refine UnaryOp_ (thn (ha pins s σ H _ I h) fun v s1 ⟨x, H1, I1, r1, q1⟩ => ?_)
  obtain ⟨c, rfl, q1⟩ := q1
  cases r1
  exact not_of (wpAny_truthy_bool ⟨.bl (!c), H1, I1, rfl, q1⟩)
noncomputable def tIf (t : TT) (ta tb : TE) : TE := fun σ H Q => t σ H fun c H1 => if c = true then ta σ H1 Q else tb σ H1 Q
theorem pe_ifExp {c : Expr} (hc : PT X c tA) (ha : PE X a ta) (hb : PE X b tb) : PE X (.IfExp c a b pos) (tIf tA ta tb) := by
  intro pins s σ H Q I h
  refine wpAny_IfExp (thn (hc pins s σ H _ I h) fun d s1 ⟨H1, I1, q1⟩ => ?_)
  cases d with
  | true => exact ha pins s1 σ H1 Q I1 q1
  | false => exact hb pins s1 σ H1 Q I1 q1
end
end L2

namespace L2
open PySem PySem.Spec PyProof.Rows

/-! ### a list, a tuple that is read: tracked, frozen, or an object of the module -/
noncomputable def SqL (K : PySem.W.Frag) (H : Hp) (a : Addr) (xs : List V) : Prop :=
  Rd H a (.lst xs) ∨
    ∃ (o : Obj) (its : Array Value) (n : Nat), K.lookup a = some o ∧ o.cls = .type "list" ∧ o.dict = none ∧ o.data = .seq its n ∧ its.size ≤ sizeLine ∧ Vals xs its.toList
noncomputable def SqT (K : PySem.W.Frag) (H : Hp) (a : Addr) (xs : List V) : Prop :=
  Rd H a (.tup xs) ∨
    ∃ (o : Obj) (its : Array Value) (n : Nat), K.lookup a = some o ∧ o.cls = .type "tuple" ∧ o.data = .seq its n ∧ its.size ≤ sizeLine ∧ Vals xs its.toList
noncomputable def absV : Value → Option V
  | .none => some .non
  | .bool b => some (.bl b)
  | .int i _ => some (.int i)
  | .str x _ => some (.str x)
  | .bytes b _ => some (.byt b)
  | .float b _ => some (.flt b)
  | .ref a => some (.ref a)
  | .type n => some (.ty n)
  | _ => none
theorem RelV.abs {x : V} {u : Value} (r : RelV x u) : absV u = some x := by
  cases x with
  | non => cases r; rfl
  | bl _ => cases r; rfl
  | int _ => obtain ⟨t, rfl⟩ := r; rfl
  | str _ => obtain ⟨t, rfl⟩ := r; rfl
  | byt _ => obtain ⟨t, rfl⟩ := r; rfl
  | flt _ => obtain ⟨t, rfl⟩ := r; rfl
  | ref _ => cases r; rfl
  | ty _ => cases r; rfl
theorem RelV.inj {x y : V} {u : Value} (r : RelV x u) (q : RelV y u) : x = y := Option.some.inj (r.abs.symm.trans q.abs)
theorem Vals.inj {xs ys : List V} {us : List Value} (h : Vals xs us) : Vals ys us → xs = ys := by
  induction h generalizing ys with
  | nil => intro h; cases h; rfl
  | cons r t ih => intro h; cases h with
    | cons r' t' => rw [r.inj r', ih t']
section
variable {X : Cx} {pins : List (Addr × Obj)} {σ : St} {H : Hp} {s : Shared} {a : Addr} {xs ys : List V}
theorem SqL.of {K : PySem.W.Frag} (h : H a = some (.lst xs)) : SqL K H a xs := .inl (.inl h)
theorem SqT.of {K : PySem.W.Frag} (h : H a = some (.tup xs)) : SqT K H a xs := .inl (.inl h)
theorem Inv.list (I : Inv X pins σ H s) (h : SqL X.K H a xs) : ∃ its : List Value, Vals xs its ∧ PlainL s.heap a its.toArray ∧ xs.length ≤ sizeLine := by
  rcases h with h | ⟨o, its, n, hk, hc, hd, hs, hz, r⟩
  · obtain ⟨z, its, n, r, e⟩ := h.ok I.hok
    exact ⟨its, r, ⟨_, n, e, rfl, rfl, rfl⟩, z⟩
  · refine ⟨its.toList, r, ⟨o, n, I.kIn a o hk, hc, hd, by simpa using hs⟩, ?_⟩
    have e := r.length
    simp only [Array.length_toList] at e
    omega
theorem Inv.tuple (I : Inv X pins σ H s) (h : SqT X.K H a xs) : ∃ its : List Value, Vals xs its ∧ IsTup s.heap a its.toArray ∧ xs.length ≤ sizeLine := by
  rcases h with h | ⟨o, its, n, hk, hc, hs, hz, r⟩
  · obtain ⟨z, its, r, p⟩ := h.ok I.hok
    exact ⟨its, r, p.tup, z⟩
  · refine ⟨its.toList, r, ⟨o, I.kIn a o hk, hc, n, by simpa using hs⟩, ?_⟩
    have e := r.length
    simp only [Array.length_toList] at e
    omega
theorem Inv.list_inj (I : Inv X pins σ H s) (h : SqL X.K H a xs) (h' : SqL X.K H a ys) : xs = ys := by
  obtain ⟨its, r, ⟨o, n, e, _, _, d⟩, _⟩ := I.list h
  obtain ⟨its', r', ⟨o', n', e', _, _, d'⟩, _⟩ := I.list h'
  rw [e] at e'; cases e'
  rw [d] at d'
  injection d' with d1 _
  have : its = its' := by simpa using congrArg Array.toList d1
  subst this
  exact r.inj r'
theorem Inv.tuple_inj (I : Inv X pins σ H s) (h : SqT X.K H a xs) (h' : SqT X.K H a ys) : xs = ys := by
  obtain ⟨its, r, ⟨o, e, _, n, d⟩, _⟩ := I.tuple h
  obtain ⟨its', r', ⟨o', e', _, n', d'⟩, _⟩ := I.tuple h'
  rw [e] at e'; cases e'
  rw [d] at d'
  injection d' with d1 _
  have : its = its' := by simpa using congrArg Array.toList d1
  subst this
  exact r.inj r'
end

/-! ### another wish about exceptions -/
noncomputable abbrev Cx.wish (X : Cx) (E : Value → Shared → Prop) : Cx := { X with xe := E }
noncomputable abbrev Cx.nox (X : Cx) : Cx := X.wish fun _ _ => False
theorem Cx.Ok.wish {X : Cx} (ok : X.Ok) (E : Value → Shared → Prop) : (X.wish E).Ok :=
  ⟨ok.mod, ok.kind, ok.glob, ok.blt, ok.above, ok.inj, ok.has, ok.cab, ok.hd, ok.frames, ok.stk, ok.exf, ok.bs, ok.bsz, ok.noex, ok.exfs, ok.funs, ok.frf⟩
theorem Cx.Ok.unwish {X : Cx} {E : Value → Shared → Prop} (ok : (X.wish E).Ok) : X.Ok :=
  ⟨ok.mod, ok.kind, ok.glob, ok.blt, ok.above, ok.inj, ok.has, ok.cab, ok.hd, ok.frames, ok.stk, ok.exf, ok.bs, ok.bsz, ok.noex, ok.exfs, ok.funs, ok.frf⟩
section
variable {X : Cx} {pins : List (Addr × Obj)} {σ : St} {H : Hp} {s : Shared} {E : Value → Shared → Prop}
theorem Inv.wish (I : Inv X pins σ H s) (E : Value → Shared → Prop) : Inv (X.wish E) pins σ H s := ⟨I.ok.wish E, I.os, I.bare, I.base, I.loc, I.cell, I.free, I.freeC, I.pin, I.hok, I.len⟩
theorem Inv.unwish (I : Inv (X.wish E) pins σ H s) : Inv X pins σ H s := ⟨I.ok.unwish, I.os, I.bare, I.base, I.loc, I.cell, I.free, I.freeC, I.pin, I.hok, I.len⟩
theorem SP.unwish {D : Ends} {f : Flow} {s' : Shared} (h : SP (X.wish E) pins D f s') : SP X pins D f s' := by
  cases f with
  | next => obtain ⟨σ', H', I, q⟩ := h; exact ⟨σ', H', I.unwish, q⟩
  | brk => obtain ⟨σ', H', I, q⟩ := h; exact ⟨σ', H', I.unwish, q⟩
  | cont => obtain ⟨σ', H', I, q⟩ := h; exact ⟨σ', H', I.unwish, q⟩
  | ret u => obtain ⟨v, σ', H', I, r, q⟩ := h; exact ⟨v, σ', H', I.unwish, r, q⟩
theorem PE.nox {e : Expr} {t : TE} (h : PE X.nox e t) : PE X e t := fun pins s σ H Q I hw =>
  wpAny_mono (h pins s σ H Q (I.wish _) hw) (fun _ _ ⟨v, H', I', r, q⟩ => ⟨v, H', I'.unwish, r, q⟩) fun _ _ z => False.elim z
theorem PT.nox {e : Expr} {t : TT} (h : PT X.nox e t) : PT X e t := fun pins s σ H Q I hw =>
  wpAny_mono (h pins s σ H Q (I.wish _) hw) (fun _ _ ⟨H', I', q⟩ => ⟨H', I'.unwish, q⟩) fun _ _ z => False.elim z
theorem PSs.nox {st : List Stmt} {t : TS} (h : PSs X.nox st t) : PSs X st t := fun pins s σ H D I hw =>
  wpAny_mono (h pins s σ H D (I.wish _) hw) (fun _ _ q => q.unwish) fun _ _ z => False.elim z
end

/-! ### blocks and small statements -/
section
variable {X : Cx} {st : Stmt} {rest : List Stmt} {t u : TS} {e : Expr} {te : TE} {pos : Pos}
noncomputable def tNext : TS := fun D σ H => D.nx σ H
noncomputable def tSeq (t u : TS) : TS := fun D σ H => t { D with nx := u D } σ H
theorem pss_nil : PSs X [] tNext := fun _ _ σ H _ I h => wpAny_execs_nil ⟨σ, H, I, h⟩
theorem pss_cons (h1 : PS X st t) (h2 : PSs X rest u) : PSs X (st :: rest) (tSeq t u) := by
  intro pins s σ H D I h
  refine wpAny_execs_cons (thn (h1 pins s σ H { D with nx := u D } I h) fun f s1 q => ?_)
  cases f with
  | next =>
    obtain ⟨σ', H', I', q⟩ := q
    exact h2 pins s1 σ' H' D I' q
  | ret v => exact q
  | brk => exact q
  | cont => exact q
theorem pss_one (h1 : PS X st t) : PSs X [st] t := by
  intro pins s σ H D I h
  refine wpAny_execs_cons (thn (h1 pins s σ H D I h) fun f s1 q => ?_)
  cases f with
  | next => exact wpAny_execs_nil q
  | ret v => exact q
  | brk => exact q
  | cont => exact q
noncomputable def tBreak : TS := fun D σ H => D.bk σ H
noncomputable def tCont : TS := fun D σ H => D.ct σ H
theorem Inv.quiet {pins : List (Addr × Obj)} {σ : St} {H : Hp} {s : Shared} (I : Inv X pins σ H s) : interactive X.env = false := by simp [interactive, I.ok.kind]
noncomputable def tDrop (te : TE) : TS := fun D σ H => te σ H fun _ H1 => D.nx σ H1
theorem ps_expr (he : PE X e te) (hs : swapsWith e none pos.line X.env = pure false := by rfl) : PS X (.Expr e pos) (tDrop te) := by
  intro pins s σ H D I h
  exact wpAny_Expr_any (thn (he pins s σ H _ I h) fun v s1 ⟨x, H1, I1, r1, q1⟩ => ⟨σ, H1, I1, q1⟩) I.quiet hs
noncomputable def tRet (te : TE) : TS := fun D σ H => te σ H D.rt
theorem ps_ret (he : PE X e te) : PS X (.Return (some e) pos) (tRet te) := by
  intro pins s σ H D I h
  exact wpAny_Return_some (thn (he pins s σ H _ I h) fun v s1 ⟨x, H1, I1, r1, q1⟩ => ⟨x, σ, H1, I1, r1, q1⟩)
noncomputable def tRetN : TS := fun D _ H => D.rt .non H
noncomputable def tIfS (c : TT) (t u : TS) : TS := fun D σ H => c σ H fun b H1 => if b = true then t D σ H1 else u D σ H1
theorem ps_if {c : Expr} {a b : List Stmt} {tc : TT} (hc : PT X c tc) (ha : PSs X a t) (hb : PSs X b u) : PS X (.If c a b pos) (tIfS tc t u) := by
  intro pins s σ H D I h
  refine wpAny_If (thn (hc pins s σ H _ I h) fun d s1 ⟨H1, I1, q1⟩ => ?_)
  cases d with
  | true => exact ha pins s1 σ H1 D I1 q1
  | false => exact hb pins s1 σ H1 D I1 q1
end

/-! ### targets -/
noncomputable abbrev TG := V → St → Hp → (St → Hp → Prop) → Prop
noncomputable abbrev TGs := List V → St → Hp → (St → Hp → Prop) → Prop
noncomputable def PG (X : Cx) (target : Expr) (t : TG) : Prop :=
  ∀ (pins : List (Addr × Obj)) (s : Shared) (σ : St) (H : Hp) (v : V) (u : Value) (Q : St → Hp → Prop), Inv X pins σ H s → RelV v u → t v σ H Q →
    wpAny (model X.prog X.w) X.A (assign target X.env u) (fun _ s' => ∃ σ' H', Inv X pins σ' H' s' ∧ Q σ' H') X.xe s
noncomputable def PGs (X : Cx) (ts : List Expr) (t : TGs) : Prop :=
  ∀ (pins : List (Addr × Obj)) (s : Shared) (σ : St) (H : Hp) (vs : List V) (us : List Value) (Q : St → Hp → Prop), Inv X pins σ H s → Vals vs us → t vs σ H Q →
    wpAny (model X.prog X.w) X.A (assignInOrder ((assignEach ts X.env).map (·.2)) us) (fun _ s' => ∃ σ' H', Inv X pins σ' H' s' ∧ Q σ' H') X.xe s
noncomputable abbrev TSet := V → V → V → Hp → (Hp → Prop) → Prop
noncomputable def PSet (X : Cx) (t : TSet) : Prop :=
  ∀ (pins : List (Addr × Obj)) (s : Shared) (σ : St) (H : Hp) (o i v : V) (ov iv u : Value) (Q : Hp → Prop), Inv X pins σ H s → RelV o ov → RelV i iv → RelV v u → t o i v H Q →
    wpAny (model X.prog X.w) X.A (setItem ov iv u) (fun _ s' => ∃ H', Inv X pins σ H' s' ∧ Q H') X.xe s
section
variable {X : Cx} {pos : Pos}
noncomputable def gName (i : Nat) : TG := fun v σ H Q => Q (σ.set i (some v)) H
theorem pg_name {i : Nat} {x : Str} (hN : X.N.Nodup) (hi : X.N[i]? = some x) (hx : Loc X.env.scope x) (hf : X.fn x = true ∨ X.env.scope.names.lookup x = some .local := by first | exact .inl rfl | exact .inr rfl | assumption) : PG X (.Name x pos) (gName i) := by
  intro pins s σ H v u Q I r h
  exact wpAny_assign_Name (store_ok I hN hi hx r (fun s' I' => ⟨_, H, I', h⟩) hf)
noncomputable def gNil : TGs := fun vs σ H Q => vs = [] ∧ Q σ H
noncomputable def gCons (t : TG) (u : TGs) : TGs := fun vs σ H Q => ∃ v r, vs = v :: r ∧ t v σ H fun σ' H' => u r σ' H' Q
theorem pgs_nil : PGs X [] gNil := by
  intro pins s σ H vs us Q I r h
  obtain ⟨e, h⟩ := h
  subst e
  cases r
  exact assignInOrder_nil ⟨σ, H, I, h⟩
theorem pgs_cons {e : Expr} {es : List Expr} {t : TG} {u : TGs} (h1 : PG X e t) (h2 : PGs X es u)
    (hs : (assignEach (e :: es) X.env).map (·.2) = assign e X.env :: (assignEach es X.env).map (·.2) := by rfl) : PGs X (e :: es) (gCons t u) := by
  intro pins s σ H vs us Q I r h
  obtain ⟨v, vr, e1, h⟩ := h
  subst e1
  cases r with
  | cons r rr =>
    rw [hs]
    refine assignInOrder_cons (thn (h1 pins s σ H _ _ _ I r h) fun _ s1 ⟨σ1, H1, I1, q1⟩ => ?_)
    exact h2 pins s1 σ1 H1 _ _ Q I1 rr q1
noncomputable def gTup (K : PySem.W.Frag) (n : Nat) (t : TGs) : TG := fun v σ H Q => ∃ a xs, v = .ref a ∧ SqT K H a xs ∧ xs.length = n ∧ t xs σ H Q
theorem pg_tup {es : List Expr} {k : Nat} {t : TGs} {n : Nat} (hc : X.calm = true) (h : PGs X es t)
    (hn : (assignEach es X.env).length = n := by rfl) (hst : (assignEach es X.env).findIdx? (·.1) = none := by rfl) : PG X (.Tuple es k pos) (gTup X.K n t) := by
  intro pins s σ H v u Q I r hw
  obtain ⟨a, xs, e1, hq, hl, hw⟩ := hw
  subst e1
  cases r
  obtain ⟨its, rv, ht, hz⟩ := I.tuple hq
  refine assign_Tuple_tuple (I.ok.hd hc) ht (by simp [hn, ← hl, rv.length]) hst fun h' hx => ?_
  have I1 : Inv X pins σ H { s with heap := h' } := I.kept (t' := s.toks) fun b o e => hx b o (Nat.ne_of_lt (Heap.lt_size e)) e
  exact h pins _ σ H xs _ Q I1 (by simpa using rv) hw
noncomputable def gSub (to ti : TE) (t : TSet) : TG := fun v σ H Q => to σ H fun o H1 => ti σ H1 fun i H2 => t o i v H2 fun H3 => Q σ H3
theorem pg_sub {o i : Expr} {to ti : TE} {t : TSet} (ho : PE X o to) (hi : PE X i ti) (hs : PSet X t)
    (ha : ∀ v, assign (.Subscript o i pos) X.env v = (do
      let ov ← holding [v] (eval o X.env)
      let iv ← holding [v, ov] (eval i X.env)
      standAt pos
      holding [v, ov, iv] (setItem ov iv v)
      release [v, ov, iv] []) := by intro _; rfl) : PG X (.Subscript o i pos) (gSub to ti t) := by
  intro pins s σ H v u Q I r h
  rw [ha]
  refine wpAny_bind (wpAny_holding (thn (ho pins s σ H _ I h) fun ov s1 ⟨x, H1, I1, r1, q1⟩ => ?_))
  refine wpAny_bind (wpAny_holding (thn (hi pins s1 σ H1 _ I1 q1) fun iv s2 ⟨y, H2, I2, r2, q2⟩ => ?_))
  refine wpAny_bind (wpAny_standAt (wpAny_bind (wpAny_holding (thn (hs pins s2 σ H2 x y v ov iv u _ I2 r1 r2 r q2) fun _ s3 ⟨H3, I3, q3⟩ => ?_))))
  exact wpAny_release ⟨σ, H3, I3, q3⟩
noncomputable def tAsg (te : TE) (g : TG) : TS := fun D σ H => te σ H fun x H1 => g x σ H1 D.nx
theorem ps_asg {tg e : Expr} {te : TE} {g : TG} (he : PE X e te) (hg : PG X tg g) (hs : swapsWithSole [tg] e pos.line X.env = pure false := by rfl) (hw : swappedStores [tg] e X.env = pure none := by rfl)
    (h1 : (assignEach [tg] X.env).map (·.2) = [assign tg X.env] := by rfl) : PS X (.Assign [tg] e pos) (tAsg te g) := by
  intro pins s σ H D I h
  refine wpAny_Assign_stores (thn (he pins s σ H _ I h) fun v s1 ⟨x, H1, I1, r1, q1⟩ => ?_) hs hw
  rw [h1]
  exact thn (hg pins s1 σ H1 x v _ I1 r1 q1) fun _ s2 q => q
theorem ps_set {i : Nat} {x : Str} {e : Expr} {te : TE} {pos' : Pos} (hN : X.N.Nodup) (hi : X.N[i]? = some x) (hx : Loc X.env.scope x) (he : PE X e te) (hs : swapsWith e (some (.Name x pos')) pos.line X.env = pure false := by rfl) (hf : X.fn x = true ∨ X.env.scope.names.lookup x = some .local := by first | exact .inl rfl | exact .inr rfl | assumption) :
    PS X (.Assign [.Name x pos'] e pos) (tAsg te (gName i)) := by
  intro pins s σ H D I h
  refine wpAny_Assign_Name (thn (he pins s σ H _ I h) fun v s1 ⟨y, H1, I1, r1, q1⟩ => ?_) hs
  exact store_ok I1 hN hi hx r1 (fun s2 I2 => ⟨_, H1, I2, q1⟩) hf
end

/-! ### while -/
section
variable {X : Cx} {pos : Pos}
noncomputable def tWhile (c : TT) (tb : TS) : TS := fun D σ H => ∃ W : Nat → St → Hp → Prop, (∃ m, W m σ H) ∧ ∀ m σ H, W m σ H →
  c σ H fun b H1 => if b = true then ∃ N : St → Hp → Prop, (∀ σ' H', N σ' H' → ∃ m', m' < m ∧ W m' σ' H') ∧ tb { D with nx := N, ct := N, bk := D.nx } σ H1 else D.nx σ H1
theorem ps_while {c : Expr} {body : List Stmt} {tc : TT} {tb : TS} (hp : PassesOwn (model X.prog X.w) X.A X.env X.xe) (hc : PT X c tc) (hb : PSs X body tb) : PS X (.While c body [] pos) (tWhile tc tb) := by
  intro pins s σ H D I h
  obtain ⟨W, ⟨m0, w0⟩, turn⟩ := h
  refine wpAny_While (codeAny_whileLoop (fun n s' => ∃ σ' H', Inv X pins σ' H' s' ∧ W n σ' H') ?_ m0 ⟨σ, H, I, w0⟩)
  rintro n s1 ⟨σ1, H1, I1, w1⟩
  refine wpAny_passesOwn hp (thn (hc pins s1 σ1 H1 _ I1 (turn n σ1 H1 w1)) fun b s2 ⟨H2, I2, q2⟩ => ?_)
  cases b with
  | true =>
    obtain ⟨N, hN, q2⟩ := q2
    rw [if_pos rfl]
    refine wpAny_passesOwn hp (thn (hb pins s2 σ1 H2 _ I2 q2) fun f s3 q3 => ?_)
    cases f with
    | next =>
      obtain ⟨σ3, H3, I3, n3⟩ := q3
      obtain ⟨m', hm, w3⟩ := hN σ3 H3 n3
      exact ⟨m', hm, σ3, H3, I3, w3⟩
    | cont =>
      obtain ⟨σ3, H3, I3, n3⟩ := q3
      obtain ⟨m', hm, w3⟩ := hN σ3 H3 n3
      exact ⟨m', hm, σ3, H3, I3, w3⟩
    | brk => exact q3
    | ret v => exact q3
  | false =>
    rw [if_neg Bool.false_ne_true]
    exact wpAny_execs_nil ⟨σ1, H2, I2, q2⟩
end

/-! ### what a loop or a comprehension walks -/
structure It where
  go : Nat → Hp → Prop
  yld : Nat → Hp → V → Hp → Prop
  stop : Nat → Hp → Prop
noncomputable def FpOk (X : Cx) (pins : List (Addr × Obj)) (H : Hp) (b : Addr) : Prop :=
  H b = none ∧ b ≠ X.env.locals ∧ b ∉ X.fs ∧ (b ∈ X.ex ∨ X.s₀.heap.objs.size ≤ b) ∧ (∀ x c, X.env.cells.lookup x = some c → c ≠ b) ∧ ∀ p ∈ X.pn ++ pins, p.1 ≠ b
theorem Inv.fpOk {X : Cx} {pins : List (Addr × Obj)} {σ : St} {H H' : Hp} {s : Shared} {b : Addr} (I : Inv X pins σ H s) (hb : s.heap.objs.size ≤ b) (hn : H' b = none) : FpOk X pins H' b := by
  refine ⟨hn, Nat.ne_of_gt (Nat.lt_of_lt_of_le I.lt hb), I.nofs hb, .inr (Nat.le_trans I.sz hb), fun x c e z => ?_, fun p hp z => ?_⟩
  · obtain ⟨v, q⟩ := I.cell x c e
    exact absurd (Nat.lt_of_lt_of_le q.lt (by rw [z]; exact hb)) (Nat.lt_irrefl _)
  · exact absurd (Nat.lt_of_lt_of_le (Heap.lt_size (I.pin p hp).1) (by rw [z]; exact hb)) (Nat.lt_irrefl _)
structure Turn (P : Program) (w : World) (K : PySem.W.Frag) (tg : Expr) (J : It) (fp : List Addr) (it : Addr) (tn : Nat → Heap → Prop) : Prop where
  mem : it ∈ fp
  obj : ∀ i h, tn i h → ∀ b ∈ fp, ∃ o, h.get? b = some o ∧ ∀ v, o.data ≠ .cell v
  keep : ∀ i h h', tn i h → (∀ b ∈ fp, ∀ o, h.get? b = some o → h'.get? b = some o) → tn i h'
  item : ∀ (X : Cx), X.prog = P → X.w = w → X.K = K → X.calm = true → ∀ (i : Nat) (pins : List (Addr × Obj)) (s : Shared) (σ : St) (H : Hp) (E : Value → Shared → Prop), Inv X pins σ H s → (∀ b ∈ fp, FpOk X pins H b) → tn i s.heap → J.go i H →
    wpAny (model P w) X.A (pyNext (.ref it)) (fun r s1 => ∃ u, r = some u ∧
      wpAny (model P w) X.A (letOwnedTupleGo tg (.ref it) u) (fun _ s2 => ∃ x H', Inv X pins σ H' s2 ∧ RelV x u ∧ J.yld i H x H' ∧ tn (i + 1) s2.heap ∧ ∀ b ∈ fp, H' b = none) E s1) E s
  done : ∀ (X : Cx), X.prog = P → X.w = w → X.K = K → X.calm = true → ∀ (i : Nat) (pins : List (Addr × Obj)) (s : Shared) (σ : St) (H : Hp) (E : Value → Shared → Prop), Inv X pins σ H s → (∀ b ∈ fp, FpOk X pins H b) → tn i s.heap → J.stop i H →
    wpAny (model P w) X.A (pyNext (.ref it)) (fun r s1 => r = none ∧ Inv X pins σ H s1) E s
  self : ∀ (A : Around) (i : Nat) (s : Shared) (Q : Value → Shared → Prop) (E : Value → Shared → Prop), tn i s.heap → Q (.ref it) s → wpAny (model P w) A (pyIter (.ref it)) Q E s
noncomputable abbrev TI := St → Hp → (It → Hp → Prop) → Prop
noncomputable def PIE (X : Cx) (pins : List (Addr × Obj)) (σ : St) (tg : Expr) (R : It → Hp → Prop) (itv : Value) (s2 : Shared) : Prop :=
  ∃ (it : Addr) (fp : List Addr) (tn : Nat → Heap → Prop) (J : It) (H' : Hp), itv = .ref it ∧ Inv X pins σ H' s2 ∧ Turn X.prog X.w X.K tg J fp it tn ∧ tn 0 s2.heap ∧ (∀ b ∈ fp, FpOk X pins H' b) ∧ R J H'
noncomputable def PI (X : Cx) (tg iter : Expr) (wi : TI) : Prop :=
  ∀ (pins : List (Addr × Obj)) (s : Shared) (σ : St) (H : Hp) (R : It → Hp → Prop), Inv X pins σ H s → wi σ H R →
    wpAny (model X.prog X.w) X.A (eval iter X.env) (fun v s1 => wpAny (model X.prog X.w) X.A (pyIter v) (PIE X pins σ tg R) X.xe s1) X.xe s

theorem go_of {M : Model} {A : Around} {E : Value → Shared → Prop} {s : Shared} {tg : Expr} {it : Addr} {u : Value} {o : Obj} {n : String} {vs : Array Value} {Q : Unit → Shared → Prop} (ho : s.heap.get? it = some o) (hc : o.cls = .type n) (hd : o.data = .fields vs)
    (hn : ["enumerate", "zip", "dict_itemiterator", "dict_reverseitemiterator", "odict_iterator", "itertools.zip_longest", "itertools.pairwise"].contains n = false) (hQ : Q () s) : wpAny M A (letOwnedTupleGo tg (.ref it) u) Q E s := by
  unfold letOwnedTupleGo
  cases tg <;> first
    | exact wpAny_pure hQ
    | (cases u <;> first
        | exact wpAny_pure hQ
        | (refine wpAny_bind (wpAny_load ho ?_)
           rw [hc, hd]
           show wpAny M A (if (["enumerate", "zip", "dict_itemiterator", "dict_reverseitemiterator", "odict_iterator", "itertools.zip_longest", "itertools.pairwise"].contains n && vs[0]? == some (rawInt _)) = true then _ else _) Q E s
           rw [if_neg (by intro h; rw [hn, Bool.false_and] at h; cases h)]
           exact wpAny_pure hQ))

noncomputable def Itl (K : PySem.W.Frag) (a : Addr) : It :=
  ⟨fun i H => ∃ xs x, SqL K H a xs ∧ xs[i]? = some x, fun i H x H' => H' = H ∧ ∀ xs, SqL K H a xs → xs[i]? = some x, fun i H => ∃ xs, SqL K H a xs ∧ xs.length ≤ i⟩
noncomputable def Itt (K : PySem.W.Frag) (a : Addr) : It :=
  ⟨fun i H => ∃ xs x, SqT K H a xs ∧ xs[i]? = some x, fun i H x H' => H' = H ∧ ∀ xs, SqT K H a xs → xs[i]? = some x, fun i H => ∃ xs, SqT K H a xs ∧ xs.length ≤ i⟩
noncomputable def Itr (lo : Int) (n : Nat) : It := ⟨fun i _ => i < n, fun i H x H' => H' = H ∧ x = .int (lo + i), fun i _ => n ≤ i⟩
theorem turn_list {P : Program} {w : World} {K : PySem.W.Frag} {tg : Expr} (a it : Addr) : Turn P w K tg (Itl K a) [it] it (fun i h => h.IsListIter it a i) where
  mem := by simp
  obj := fun i h st b hb => by
    have e : b = it := by simpa using hb
    subst e
    obtain ⟨o, e, c, d⟩ := st
    exact ⟨o, e, fun v z => by rw [d] at z; cases z⟩
  keep := fun i h h' st k => st.at fun o e => k it (by simp) o e
  item := by
    intro X hP hw hK hc i pins s σ H E I hf st hg
    subst hP hw hK
    obtain ⟨xs, x, hq, hx⟩ := hg
    obtain ⟨its, rv, p, hz⟩ := I.list hq
    obtain ⟨u, hu, ru⟩ := rv.get hx
    obtain ⟨f0, f1, f2, f3, f4, f5⟩ := hf it (by simp)
    refine wpAny_pyNext_list_item st p.isList (x := u) (by simpa using hu) fun h' st' sb => ?_
    have I1 : Inv X pins σ H { s with heap := h' } := I.turned (t' := s.toks) (fun b o hb e => (sb.2 b hb).trans e) f0 f1 f3 f4 f5
    obtain ⟨o, e, c, d⟩ := id st'
    exact ⟨u, rfl, go_of (s := { s with heap := h' }) e c d (by decide) ⟨x, H, I1, ru, ⟨rfl, fun ys hy => by rw [I.list_inj hy hq]; exact hx⟩, st', fun b hb => (hf b hb).1⟩⟩
  done := by
    intro X hP hw hK hc i pins s σ H E I hf st hg
    subst hP hw hK
    obtain ⟨xs, hq, hx⟩ := hg
    obtain ⟨its, rv, p, hz⟩ := I.list hq
    obtain ⟨f0, f1, f2, f3, f4, f5⟩ := hf it (by simp)
    have hl := rv.length
    exact wpAny_pyNext_list_end (I.ok.hd hc) st p.isList (by simp; omega) fun h' eb => ⟨rfl, I.turned (t' := s.toks) (fun b o hb e => eb b o hb e) f0 f1 f3 f4 f5⟩
  self := fun _ _ _ _ _ st h => wpAny_pyIter_listiter st h
theorem turn_tuple {P : Program} {w : World} {K : PySem.W.Frag} {tg : Expr} (a it : Addr) : Turn P w K tg (Itt K a) [it] it (fun i h => h.IsTupleIter it a i) where
  mem := by simp
  obj := fun i h st b hb => by
    have e : b = it := by simpa using hb
    subst e
    obtain ⟨o, e, c, d⟩ := st
    exact ⟨o, e, fun v z => by rw [d] at z; cases z⟩
  keep := fun i h h' st k => st.at fun o e => k it (by simp) o e
  item := by
    intro X hP hw hK hc i pins s σ H E I hf st hg
    subst hP hw hK
    obtain ⟨xs, x, hq, hx⟩ := hg
    obtain ⟨its, rv, p, hz⟩ := I.tuple hq
    obtain ⟨u, hu, ru⟩ := rv.get hx
    obtain ⟨f0, f1, f2, f3, f4, f5⟩ := hf it (by simp)
    refine wpAny_pyNext_tuple_item st (show s.heap.IsTuple a its.toArray from p) (x := u) (by simpa using hu) fun h' st' sb => ?_
    have I1 : Inv X pins σ H { s with heap := h' } := I.turned (t' := s.toks) (fun b o hb e => (sb.2 b hb).trans e) f0 f1 f3 f4 f5
    obtain ⟨o, e, c, d⟩ := id st'
    exact ⟨u, rfl, go_of (s := { s with heap := h' }) e c d (by decide) ⟨x, H, I1, ru, ⟨rfl, fun ys hy => by rw [I.tuple_inj hy hq]; exact hx⟩, st', fun b hb => (hf b hb).1⟩⟩
  done := by
    intro X hP hw hK hc i pins s σ H E I hf st hg
    subst hP hw hK
    obtain ⟨xs, hq, hx⟩ := hg
    obtain ⟨its, rv, p, hz⟩ := I.tuple hq
    obtain ⟨f0, f1, f2, f3, f4, f5⟩ := hf it (by simp)
    have hl := rv.length
    exact wpAny_pyNext_tuple_end (I.ok.hd hc) st (show s.heap.IsTuple a its.toArray from p) (by simp; omega) fun h' eb => ⟨rfl, I.turned (t' := s.toks) (fun b o hb e => eb b o hb e) f0 f1 f3 f4 f5⟩
  self := fun _ _ _ _ _ st h => wpAny_pyIter_tupleiter st h
theorem turn_range {P : Program} {w : World} {K : PySem.W.Frag} {tg : Expr} (it : Addr) (lo : Int) (n : Nat) : Turn P w K tg (Itr lo n) [it] it (fun i h => IsRangeIter h it (lo + (i : Nat) * 1) ((n : Int) - (i : Nat)) 1) where
  mem := by simp
  obj := fun i h st b hb => by
    have e : b = it := by simpa using hb
    subst e
    exact ⟨_, st, fun v z => by
      have z' : Data.fields _ = Data.cell v := z
      cases z'⟩
  keep := fun i h h' st k => k it (by simp) _ st
  item := by
    intro X hP hw hK hc i pins s σ H E I hf st hg
    subst hP hw hK
    obtain ⟨f0, f1, f2, f3, f4, f5⟩ := hf it (by simp)
    have W := Walks.range (prog := X.prog) (w := X.w) (I.ok.hd hc) it lo 1 n
    refine W.item i s _ _ hg st fun v h' tk hv st' kk => ?_
    obtain ⟨t, rfl⟩ := hv
    have I1 : Inv X pins σ H { s with heap := h', toks := tk } := I.turned (fun b o hb e => kk b o (by simpa using hb) e) f0 f1 f3 f4 f5
    refine ⟨_, rfl, go_of (s := { s with heap := h', toks := tk }) (n := "range_iterator") st' rfl rfl (by decide) ⟨.int (lo + i), H, I1, ⟨t, ?_⟩, ⟨rfl, rfl⟩, st', fun b hb => (hf b hb).1⟩⟩
    rw [Int.mul_one]
  done := by
    intro X hP hw hK hc i pins s σ H E I hf st hg
    subst hP hw hK
    obtain ⟨f0, f1, f2, f3, f4, f5⟩ := hf it (by simp)
    exact wpAny_pyNext_range_end (I.ok.hd hc) st (by have : n ≤ i := hg; omega) fun h' eb => ⟨rfl, I.turned (t' := s.toks) (fun b o hb e => eb b o hb e) f0 f1 f3 f4 f5⟩
  self := fun _ _ _ _ _ st h => wpAny_pyIter_rangeiter st h
end L2

namespace L2
open PySem PySem.Spec PyProof.Rows
section
variable {X : Cx} {tg : Expr}
noncomputable def iList (K : PySem.W.Frag) (tl : TE) : TI := fun σ H R => tl σ H fun x H1 => ∃ a, x = .ref a ∧ (∃ xs, SqL K H1 a xs) ∧ R (Itl K a) H1
noncomputable def iTup (K : PySem.W.Frag) (tl : TE) : TI := fun σ H R => tl σ H fun x H1 => ∃ a, x = .ref a ∧ (∃ xs, SqT K H1 a xs) ∧ R (Itt K a) H1
theorem pi_list {l : Expr} {tl : TE} (hl : PE X l tl) : PI X tg l (iList X.K tl) := by
  intro pins s σ H R I h
  refine thn (hl pins s σ H _ I h) fun v s1 ⟨x, H1, I1, r1, q1⟩ => ?_
  obtain ⟨a, e, ⟨xs, hq⟩, q⟩ := q1
  subst e
  cases r1
  obtain ⟨its, rv, p, hz⟩ := I1.list hq
  refine wpAny_pyIter_list p.isList ?_
  refine ⟨s1.heap.objs.size, [s1.heap.objs.size], _, _, H1, rfl, I1.kept (t' := s1.toks) fun b o e => Heap.get?_push_of_some _ e, turn_list a _, ⟨_, Heap.get?_push_size _ rfl, rfl, rfl⟩, fun b hb => ?_, q⟩
  have e : b = s1.heap.objs.size := by simpa using hb
  subst e
  exact I1.fpOk (Nat.le_refl _) (I1.hok.fresh (Nat.le_refl _))
theorem pi_tup {l : Expr} {tl : TE} (hl : PE X l tl) : PI X tg l (iTup X.K tl) := by
  intro pins s σ H R I h
  refine thn (hl pins s σ H _ I h) fun v s1 ⟨x, H1, I1, r1, q1⟩ => ?_
  obtain ⟨a, e, ⟨xs, hq⟩, q⟩ := q1
  subst e
  cases r1
  obtain ⟨its, rv, p, hz⟩ := I1.tuple hq
  refine wpAny_pyIter_tuple (show s1.heap.IsTuple a its.toArray from p) ?_
  refine ⟨s1.heap.objs.size, [s1.heap.objs.size], _, _, H1, rfl, I1.kept (t' := s1.toks) fun b o e => Heap.get?_push_of_some _ e, turn_tuple a _, ⟨_, Heap.get?_push_size _ rfl, rfl, rfl⟩, fun b hb => ?_, q⟩
  have e : b = s1.heap.objs.size := by simpa using hb
  subst e
  exact I1.fpOk (Nat.le_refl _) (I1.hok.fresh (Nat.le_refl _))
theorem range_it {pins : List (Addr × Obj)} {σ : St} {H : Hp} {s : Shared} {R : It → Hp → Prop} {E : Value → Shared → Prop} {lo hi : Int} {t u v : Tok} {tk : Nat} (I : Inv X pins σ H s) (h1 : -(2 ^ 62) ≤ lo) (h2 : lo < 2 ^ 62) (h3 : -(2 ^ 62) ≤ hi) (h4 : hi < 2 ^ 62)
    (q : R (Itr lo (hi - lo).toNat) H) : wpAny (model X.prog X.w) X.A (pyIter (.ref s.heap.objs.size)) (PIE X pins σ tg R) E { s with heap := s.heap.push { cls := .type "range", data := .fields #[.int lo t, .int hi u, .int 1 v] }, toks := tk } := by
  refine wpAny_pyIter_range (IsRange.new ..) (small_one h1 h2 h3 h4) ?_
  have I1 : Inv X pins σ H { s with heap := s.heap.push { cls := .type "range", data := .fields #[.int lo t, .int hi u, .int 1 v] }, toks := tk } := I.kept fun b o e => Heap.get?_push_of_some _ e
  refine ⟨(s.heap.push { cls := .type "range", data := .fields #[.int lo t, .int hi u, .int 1 v] }).objs.size, [(s.heap.push { cls := .type "range", data := .fields #[.int lo t, .int hi u, .int 1 v] }).objs.size], _, _, H, rfl,
    I1.kept (t' := tk) fun b o e => Heap.get?_push_of_some _ e, turn_range _ lo (hi - lo).toNat, ?_, fun b hb => ?_, q⟩
  · have e1 : lo + ((0 : Nat) : Int) * 1 = lo := by simp
    have e2 : (((hi - lo).toNat : Nat) : Int) - ((0 : Nat) : Int) = Builtin.Range.rangeSize lo hi 1 := by rw [rangeSize_one]; split <;> omega
    show IsRangeIter _ _ (lo + ((0 : Nat) : Int) * 1) ((((hi - lo).toNat : Nat) : Int) - ((0 : Nat) : Int)) 1
    rw [e1, e2]
    exact Heap.get?_push_size _ rfl
  · have e : b = (s.heap.push { cls := .type "range", data := .fields #[.int lo t, .int hi u, .int 1 v] }).objs.size := by simpa using hb
    subst e
    exact I1.fpOk (Nat.le_refl _) (I1.hok.fresh (Nat.le_refl _))
noncomputable def iRng1 (ta : TA) : TI := fun σ H R => ta σ H fun vs H1 => ∃ j : Int, vs = [.int j] ∧ -(2 ^ 62) ≤ j ∧ j < 2 ^ 62 ∧ R (Itr 0 j.toNat) H1
noncomputable def iRng2 (ta : TA) : TI := fun σ H R => ta σ H fun vs H1 => ∃ i j : Int, vs = [.int i, .int j] ∧ (-(2 ^ 62) ≤ i ∧ i < 2 ^ 62 ∧ -(2 ^ 62) ≤ j ∧ j < 2 ^ 62) ∧ R (Itr i (j - i).toNat) H1
theorem pi_range1 {a : Expr} {ta : TA} {p pos : Pos} (hg : Gl X "range") (hm : X.mg "range" = none) (ha : PA X [a] ta) (hs : starEach [a] X.env = [(false, eval a X.env)] := by rfl) : PI X tg (.Call (.Name "range" p) [a] [] pos) (iRng1 ta) := by
  intro pins s σ H R I h
  refine Call_ (ld_blt I hg hm boot_range (PyProof.Rows.callWith_type1 (thn (ha pos pins s σ H _ I h) fun us s1 ⟨vs, H1, I1, r1, q1⟩ => ?_) hs rfl))
  obtain ⟨j, e, q1, q2, q⟩ := q1
  subst e
  cases r1 with
  | cons r rr =>
    cases rr
    obtain ⟨t, rfl⟩ := r
    exact call_range_1 (range_it I1 (by omega) (by omega) q1 q2 (by simpa using q))
/-! ### for -/
noncomputable def tFor (wi : TI) (g : TG) (tb : TS) : TS := fun D σ H => wi σ H fun J H1 => ∃ W : Nat → Nat → St → Hp → Prop, (∃ m, W 0 m σ H1) ∧ ∀ i m σ H, W i m σ H →
  (J.stop i H ∧ D.nx σ H) ∨ (J.go i H ∧ ∃ N : St → Hp → Prop, (∀ σ' H', N σ' H' → ∃ m', m' < m ∧ W (i + 1) m' σ' H') ∧ ∀ x H', J.yld i H x H' → g x σ H' fun σ2 H2 => tb { D with nx := N, ct := N, bk := D.nx } σ2 H2)
noncomputable def pinsAt (fp : List Addr) (h : Heap) : List (Addr × Obj) := fp.filterMap fun b => (h.get? b).map fun o => (b, o)
theorem mem_pinsAt {fp : List Addr} {h : Heap} {b : Addr} {o : Obj} (hb : b ∈ fp) (e : h.get? b = some o) : (b, o) ∈ pinsAt fp h := List.mem_filterMap.mpr ⟨b, hb, by rw [e]; rfl⟩
theorem of_pinsAt {fp : List Addr} {h : Heap} {p : Addr × Obj} (hp : p ∈ pinsAt fp h) : p.1 ∈ fp ∧ h.get? p.1 = some p.2 := by
  obtain ⟨b, hb, e⟩ := List.mem_filterMap.mp hp
  cases q : h.get? b with
  | none => rw [q] at e; cases e
  | some o =>
    rw [q] at e
    have e' : (b, o) = p := Option.some.inj e
    subst e'
    exact ⟨hb, q⟩
theorem Inv.pinned {pins : List (Addr × Obj)} {σ : St} {H : Hp} {s : Shared} {fp : List Addr} (I : Inv X pins σ H s) (hf : ∀ b ∈ fp, FpOk X pins H b) (ho : ∀ b ∈ fp, ∃ o, s.heap.get? b = some o ∧ ∀ v, o.data ≠ .cell v) : Inv X (pins ++ pinsAt fp s.heap) σ H s :=
  I.pins_of fun p hp => (List.mem_append.mp hp).elim (fun z => I.pin p (List.mem_append_right _ z)) fun z => by
    obtain ⟨hb, e⟩ := of_pinsAt z
    obtain ⟨f0, f1, f2, _⟩ := hf p.1 hb
    obtain ⟨o, e', d⟩ := ho p.1 hb
    rw [e] at e'; cases e'
    exact ⟨e, f0, f1, f2, d⟩
theorem Inv.unpinned {pins pl : List (Addr × Obj)} {σ : St} {H : Hp} {s : Shared} (I : Inv X (pins ++ pl) σ H s) : Inv X pins σ H s := I.pins_of fun p hp => I.pin p (List.mem_append_right _ (List.mem_append_left _ hp))
theorem ps_for {iter : Expr} {body : List Stmt} {wi : TI} {g : TG} {tb : TS} {pos : Pos} (hp : PassesOwn (model X.prog X.w) X.A X.env X.xe) (hc : X.calm = true) (hi : PI X tg iter wi) (hg : PG X tg g) (hb : PSs X body tb)
    (hs : ∀ x, foldedSetIterable iter X.env x = pure x := by intro _; rfl) : PS X (.For tg iter body [] pos) (tFor wi g tb) := by
  intro pins s σ H D I h
  refine wpAny_For (thn (hi pins s σ H _ I h) fun v s1 h1 => thn h1 fun itv s2 h2 => ?_) hs
  obtain ⟨it, fp, tn, J, H2, e, I2, T, st2, f2, W, ⟨m0, w0⟩, turn⟩ := h2
  subst e
  -- what stays true of the iterator's objects through the loop
  have stat : ∀ {H' : Hp}, (∀ b ∈ fp, H' b = none) → ∀ b ∈ fp, FpOk X pins H' b := fun hn b hb => ⟨hn b hb, (f2 b hb).2⟩
  refine codeAny_forLoop_any (fun n s' => ∃ i σ' H', Inv X pins σ' H' s' ∧ tn i s'.heap ∧ (∀ b ∈ fp, H' b = none) ∧ W i n σ' H') ?_ m0 ⟨0, σ, H2, I2, st2, fun b hb => (f2 b hb).1, w0⟩
  rintro n s3 ⟨i, σ3, H3, I3, st3, fr3, w3⟩
  rcases turn i n σ3 H3 w3 with ⟨stop, qn⟩ | ⟨go, N, hN, step⟩
  · refine wpAny_passesOwn hp (thn (T.done X rfl rfl rfl hc i pins s3 σ3 H3 X.xe I3 (stat fr3) st3 stop) fun r s4 ⟨hr, I4⟩ => ?_)
    subst hr
    exact wpAny_execs_nil ⟨σ3, H3, I4, qn⟩
  · refine wpAny_passesOwn hp (thn (T.item X rfl rfl rfl hc i pins s3 σ3 H3 X.xe I3 (stat fr3) st3 go) fun r s4 ⟨u, hr, h4⟩ => ?_)
    subst hr
    refine wpAny_passesOwn hp (thn h4 fun _ s5 ⟨x, H5, I5, r5, y5, st5, fr5⟩ => ?_)
    have I5' := I5.pinned (stat fr5) (T.obj _ _ st5)
    refine wpAny_passesOwn hp (thn (hg _ s5 σ3 H5 x u _ I5' r5 (step x H5 y5)) fun _ s6 ⟨σ6, H6, I6, q6⟩ => ?_)
    refine wpAny_passesOwn hp (thn (hb _ s6 σ6 H6 _ I6 q6) fun f s7 q7 => ?_)
    have again : ∀ {σ7 : St} {H7 : Hp}, Inv X (pins ++ pinsAt fp s5.heap) σ7 H7 s7 → N σ7 H7 → ∃ m, m < n ∧ ∃ i σ' H', Inv X pins σ' H' s7 ∧ tn i s7.heap ∧ (∀ b ∈ fp, H' b = none) ∧ W i m σ' H' := fun {σ7 H7} I7 n7 => by
      obtain ⟨m', hm, w7⟩ := hN σ7 H7 n7
      refine ⟨m', hm, i + 1, σ7, H7, I7.unpinned, T.keep _ _ _ st5 fun b hb o e => (I7.pin (b, o) (List.mem_append_right _ (List.mem_append_right _ (mem_pinsAt hb e)))).1, fun b hb => ?_, w7⟩
      obtain ⟨o, e, d⟩ := T.obj _ _ st5 b hb
      exact (I7.pin (b, o) (List.mem_append_right _ (List.mem_append_right _ (mem_pinsAt hb e)))).2.1
    cases f with
    | next => obtain ⟨σ7, H7, I7, n7⟩ := q7; exact again I7 n7
    | cont => obtain ⟨σ7, H7, I7, n7⟩ := q7; exact again I7 n7
    | brk => obtain ⟨σ7, H7, I7, q7⟩ := q7; exact ⟨σ7, H7, I7.unpinned, q7⟩
    | ret v => obtain ⟨x7, σ7, H7, I7, r7, q7⟩ := q7; exact ⟨x7, σ7, H7, I7.unpinned, r7, q7⟩
end

/-! ### the forms one uses -/
theorem for_list {K : PySem.W.Frag} {a : Addr} {xs : List V} {g : TG} {tb : TS} {D : Ends} {σ : St} {H : Hp} (Pv : Nat → St → Hp → Prop) (h0 : Pv 0 σ H) (hl : ∀ i σ H, i ≤ xs.length → Pv i σ H → SqL K H a xs)
    (hs : ∀ i x σ H, xs[i]? = some x → Pv i σ H → g x σ H fun σ2 H2 => tb { D with nx := Pv (i + 1), ct := Pv (i + 1), bk := D.nx } σ2 H2) (hd : ∀ σ H, Pv xs.length σ H → D.nx σ H) :
    ∃ W : Nat → Nat → St → Hp → Prop, (∃ m, W 0 m σ H) ∧ ∀ i m σ H, W i m σ H →
      ((Itl K a).stop i H ∧ D.nx σ H) ∨ ((Itl K a).go i H ∧ ∃ N : St → Hp → Prop, (∀ σ' H', N σ' H' → ∃ m', m' < m ∧ W (i + 1) m' σ' H') ∧ ∀ x H', (Itl K a).yld i H x H' → g x σ H' fun σ2 H2 => tb { D with nx := N, ct := N, bk := D.nx } σ2 H2) := by
  refine ⟨fun i m σ H => m = xs.length - i ∧ i ≤ xs.length ∧ Pv i σ H, ⟨xs.length, by simp, Nat.zero_le _, h0⟩, ?_⟩
  rintro i m σ H ⟨rfl, hi, p⟩
  have q := hl i σ H hi p
  by_cases hlt : i < xs.length
  · refine .inr ⟨⟨xs, xs[i], q, by simp [hlt]⟩, Pv (i + 1), fun σ' H' p' => ⟨xs.length - (i + 1), by omega, rfl, hlt, p'⟩, fun x H' y => ?_⟩
    obtain ⟨e, y⟩ := y
    subst e
    exact hs i x σ _ (y xs q) p
  · have e : i = xs.length := by omega
    subst e
    exact .inl ⟨⟨xs, q, Nat.le_refl _⟩, hd σ H p⟩
theorem for_tup {K : PySem.W.Frag} {a : Addr} {xs : List V} {g : TG} {tb : TS} {D : Ends} {σ : St} {H : Hp} (Pv : Nat → St → Hp → Prop) (h0 : Pv 0 σ H) (hl : ∀ i σ H, i ≤ xs.length → Pv i σ H → SqT K H a xs)
    (hs : ∀ i x σ H, xs[i]? = some x → Pv i σ H → g x σ H fun σ2 H2 => tb { D with nx := Pv (i + 1), ct := Pv (i + 1), bk := D.nx } σ2 H2) (hd : ∀ σ H, Pv xs.length σ H → D.nx σ H) :
    ∃ W : Nat → Nat → St → Hp → Prop, (∃ m, W 0 m σ H) ∧ ∀ i m σ H, W i m σ H →
      ((Itt K a).stop i H ∧ D.nx σ H) ∨ ((Itt K a).go i H ∧ ∃ N : St → Hp → Prop, (∀ σ' H', N σ' H' → ∃ m', m' < m ∧ W (i + 1) m' σ' H') ∧ ∀ x H', (Itt K a).yld i H x H' → g x σ H' fun σ2 H2 => tb { D with nx := N, ct := N, bk := D.nx } σ2 H2) := by
  refine ⟨fun i m σ H => m = xs.length - i ∧ i ≤ xs.length ∧ Pv i σ H, ⟨xs.length, by simp, Nat.zero_le _, h0⟩, ?_⟩
  rintro i m σ H ⟨rfl, hi, p⟩
  have q := hl i σ H hi p
  by_cases hlt : i < xs.length
  · refine .inr ⟨⟨xs, xs[i], q, by simp [hlt]⟩, Pv (i + 1), fun σ' H' p' => ⟨xs.length - (i + 1), by omega, rfl, hlt, p'⟩, fun x H' y => ?_⟩
    obtain ⟨e, y⟩ := y
    subst e
    exact hs i x σ _ (y xs q) p
  · have e : i = xs.length := by omega
    subst e
    exact .inl ⟨⟨xs, q, Nat.le_refl _⟩, hd σ H p⟩
theorem for_range {lo : Int} {n : Nat} {g : TG} {tb : TS} {D : Ends} {σ : St} {H : Hp} (Pv : Nat → St → Hp → Prop) (h0 : Pv 0 σ H)
    (hs : ∀ i σ H, i < n → Pv i σ H → g (.int (lo + i)) σ H fun σ2 H2 => tb { D with nx := Pv (i + 1), ct := Pv (i + 1), bk := D.nx } σ2 H2) (hd : ∀ σ H, Pv n σ H → D.nx σ H) :
    ∃ W : Nat → Nat → St → Hp → Prop, (∃ m, W 0 m σ H) ∧ ∀ i m σ H, W i m σ H →
      ((Itr lo n).stop i H ∧ D.nx σ H) ∨ ((Itr lo n).go i H ∧ ∃ N : St → Hp → Prop, (∀ σ' H', N σ' H' → ∃ m', m' < m ∧ W (i + 1) m' σ' H') ∧ ∀ x H', (Itr lo n).yld i H x H' → g x σ H' fun σ2 H2 => tb { D with nx := N, ct := N, bk := D.nx } σ2 H2) := by
  refine ⟨fun i m σ H => m = n - i ∧ i ≤ n ∧ Pv i σ H, ⟨n, by simp, Nat.zero_le _, h0⟩, ?_⟩
  rintro i m σ H ⟨rfl, hi, p⟩
  by_cases hlt : i < n
  · refine .inr ⟨hlt, Pv (i + 1), fun σ' H' p' => ⟨n - (i + 1), by omega, rfl, hlt, p'⟩, fun x H' y => ?_⟩
    obtain ⟨e, y⟩ := y
    subst e y
    exact hs i σ _ hlt p
  · have e : i = n := by omega
    subst e
    exact .inl ⟨Nat.le_refl _, hd σ H p⟩
end L2

namespace L2
open PySem PySem.Spec PyProof.Rows

noncomputable abbrev R2 := V → V → Hp → VK → Prop
noncomputable def OpR (X : Cx) (f : Value → Value → Sem Value) (r : R2) : Prop :=
  ∀ (pins : List (Addr × Obj)) (s : Shared) (σ : St) (H : Hp) (x y : V) (v u : Value) (Q : VK), Inv X pins σ H s → RelV x v → RelV y u → r x y H Q →
    wpAny (model X.prog X.w) X.A (f v u) (EP X pins σ Q) X.xe s
noncomputable def UnR (X : Cx) (f : Value → Sem Value) (r : V → Hp → VK → Prop) : Prop :=
  ∀ (pins : List (Addr × Obj)) (s : Shared) (σ : St) (H : Hp) (x : V) (v : Value) (Q : VK), Inv X pins σ H s → RelV x v → r x H Q →
    wpAny (model X.prog X.w) X.A (f v) (EP X pins σ Q) X.xe s
noncomputable def CallR (X : Cx) (f : Value) (r : List V → Hp → VK → Prop) : Prop :=
  ∀ (pins : List (Addr × Obj)) (s : Shared) (σ : St) (H : Hp) (xs : List V) (us : List Value) (Q : VK), Inv X pins σ H s → Vals xs us → r xs H Q →
    wpAny (model X.prog X.w) X.A (call f us) (EP X pins σ Q) X.xe s
noncomputable def tOp (r : R2) (ta tb : TE) : TE := fun σ H Q => ta σ H fun x H1 => tb σ H1 fun y H2 => r x y H2 Q
noncomputable def tUn (r : V → Hp → VK → Prop) (ta : TE) : TE := fun σ H Q => ta σ H fun x H1 => r x H1 Q
noncomputable def rI (C : Int → Int → Prop) (g : Int → Int → V) : R2 := fun x y H Q => ∃ i j, x = .int i ∧ y = .int j ∧ C i j ∧ Q (g i j) H
noncomputable def rI0 (g : Int → Int → V) : R2 := fun x y H Q => ∃ i j, x = .int i ∧ y = .int j ∧ Q (g i j) H
noncomputable def rU (g : Int → V) : V → Hp → VK → Prop := fun x H Q => ∃ i, x = .int i ∧ Q (g i) H

section
variable {X : Cx} {a b c : Expr} {ta tb tc : TE} {pos : Pos}

theorem binT (ha : PE X a ta) (hb : PE X b tb) {pins : List (Addr × Obj)} {s : Shared} {σ : St} {H : Hp} {R : V → V → Hp → Prop} (I : Inv X pins σ H s)
    (h : ta σ H fun x H1 => tb σ H1 fun y H2 => R x y H2) {Q : Value → Shared → Prop} {f : Value → Value → Sem Value}
    (hf : ∀ v u s2 x y H2, Inv X pins σ H2 s2 → RelV x v → RelV y u → R x y H2 → wpAny (model X.prog X.w) X.A (f v u) Q X.xe s2) :
    wpAny (model X.prog X.w) X.A (eval a X.env) (fun v s₁ => wpAny (model X.prog X.w) X.A (eval b X.env) (fun u s₂ => wpAny (model X.prog X.w) X.A (f v u) Q X.xe s₂) X.xe s₁) X.xe s := by
  refine thn (ha pins s σ H _ I h) fun v s1 ⟨x, H1, I1, r1, q1⟩ => ?_
  refine thn (hb pins s1 σ H1 _ I1 q1) fun u s2 ⟨y, H2, I2, r2, q2⟩ => ?_
  exact hf v u s2 x y H2 I2 r1 r2 q2

theorem pe_op {op : Operator} {r : R2} (ho : OpR X (binaryOp op) r) (ha : PE X a ta) (hb : PE X b tb) : PE X (.BinOp a op b pos) (tOp r ta tb) := by
  intro pins s σ H Q I h
  exact wpAny_BinOp (binT ha hb I h fun v u s2 x y H2 I2 rx ry q => ho pins s2 σ H2 x y v u Q I2 rx ry q)
theorem pe_un {op : UnaryOp} {r : V → Hp → VK → Prop} (ho : UnR X (unaryOp op) r) (ha : PE X a ta) : PE X (.UnaryOp op a pos) (tUn r ta) := by
  intro pins s σ H Q I h
  exact UnaryOp_ (thn (ha pins s σ H _ I h) fun v s1 ⟨x, H1, I1, r1, q1⟩ => ho pins s1 σ H1 x v Q I1 r1 q1)
/-! ### ints -/
theorem opI {f : Value → Value → Sem Value} {C : Int → Int → Prop} {g : Int → Int → Int}
    (rule : ∀ (i j : Int) (t u : Tok) (s : Shared) (Q : Value → Shared → Prop) (E : Value → Shared → Prop), C i j → Q (.int (g i j) s.toks) { s with toks := s.toks + 1 } → wpAny (model X.prog X.w) X.A (f (.int i t) (.int j u)) Q E s) :
    OpR X f (rI C fun i j => .int (g i j)) := by
  intro pins s σ H x y v u Q I rx ry h
  obtain ⟨i, j, rfl, rfl, hc, q⟩ := h
  obtain ⟨t, rfl⟩ := rx
  obtain ⟨t', rfl⟩ := ry
  exact rule i j t t' s _ _ hc ⟨.int (g i j), H, I.tok _, ⟨_, rfl⟩, q⟩
theorem opI0 {f : Value → Value → Sem Value} {g : Int → Int → Int}
    (rule : ∀ (i j : Int) (t u : Tok) (s : Shared) (Q : Value → Shared → Prop) (E : Value → Shared → Prop), Q (.int (g i j) s.toks) { s with toks := s.toks + 1 } → wpAny (model X.prog X.w) X.A (f (.int i t) (.int j u)) Q E s) :
    OpR X f (rI0 fun i j => .int (g i j)) := by
  intro pins s σ H x y v u Q I rx ry h
  obtain ⟨i, j, rfl, rfl, q⟩ := h
  obtain ⟨t, rfl⟩ := rx
  obtain ⟨t', rfl⟩ := ry
  exact rule i j t t' s _ _ ⟨.int (g i j), H, I.tok _, ⟨_, rfl⟩, q⟩
theorem opB0 {f : Value → Value → Sem Value} {g : Int → Int → Bool}
    (rule : ∀ (i j : Int) (t u : Tok) (s : Shared) (Q : Value → Shared → Prop) (E : Value → Shared → Prop), Q (.bool (g i j)) s → wpAny (model X.prog X.w) X.A (f (.int i t) (.int j u)) Q E s) :
    OpR X f (rI0 fun i j => .bl (g i j)) := by
  intro pins s σ H x y v u Q I rx ry h
  obtain ⟨i, j, rfl, rfl, q⟩ := h
  obtain ⟨t, rfl⟩ := rx
  obtain ⟨t', rfl⟩ := ry
  exact rule i j t t' s _ _ ⟨.bl (g i j), H, I, rfl, q⟩

noncomputable def CDiv (i j : Int) : Prop := 0 < j ∧ j < 1073741824
noncomputable def CPow (i j : Int) : Prop := 0 ≤ j ∧ j ≤ 1000000 ∧ i.natAbs < 2 ^ 64
noncomputable def CMul (i j : Int) : Prop := (-(2 ^ 64) < i ∧ i < 2 ^ 64) ∨ (-(2 ^ 64) < j ∧ j < 2 ^ 64)
theorem CMul.ok {i j : Int} (h : CMul i j) : IntMulOk i j := by
  rcases h with ⟨h1, h2⟩ | ⟨h1, h2⟩
  · exact .of_left (intBits_le_64 h1 h2)
  · exact .of_right (intBits_le_64 h1 h2)
theorem op_add : OpR X (binaryOp .Add) (rI0 fun i j => .int (i + j)) := opI0 fun _ _ _ _ _ _ _ q => add_int q
theorem op_sub : OpR X (binaryOp .Sub) (rI0 fun i j => .int (i - j)) := opI0 fun _ _ _ _ _ _ _ q => sub_int q
theorem op_fdiv : OpR X (binaryOp .FloorDiv) (rI CDiv fun i j => .int (i / j)) := opI fun i j _ _ _ _ _ hc q => by
  have h1 : (0 : Int) < j := hc.1
  have h2 : j < 1073741824 := hc.2
  exact floordiv_int (by omega) (by rw [Int.fdiv_eq_ediv_of_nonneg i (by omega)]; exact q) (.inl (PyProof.noPylong_small (by omega)))
theorem op_mod : OpR X (binaryOp .Mod) (rI (fun _ j => 0 < j) fun i j => .int (i % j)) := opI fun i j _ _ _ _ _ hc q => by
  have h1 : (0 : Int) < j := hc
  exact mod_int' (by omega) (by rw [Int.fmod_eq_emod_of_nonneg i (by omega)]; exact q)
theorem op_pow : OpR X (binaryOp .Pow) (rI CPow fun i j => .int (i ^ j.toNat)) := opI fun _ _ _ _ _ _ _ hc q => pow_int_small hc.1 hc.2.1 hc.2.2 q
theorem unI {f : Value → Sem Value} {g : Int → Int}
    (rule : ∀ (i : Int) (t : Tok) (s : Shared) (Q : Value → Shared → Prop) (E : Value → Shared → Prop), Q (.int (g i) s.toks) { s with toks := s.toks + 1 } → wpAny (model X.prog X.w) X.A (f (.int i t)) Q E s) :
    UnR X f (rU fun i => .int (g i)) := by
  intro pins s σ H x v Q I rx h
  obtain ⟨i, rfl, q⟩ := h
  obtain ⟨t, rfl⟩ := rx
  exact rule i t s _ _ ⟨.int (g i), H, I.tok _, ⟨_, rfl⟩, q⟩
theorem un_neg : UnR X (unaryOp .USub) (rU fun i => .int (-i)) := unI fun _ _ _ _ _ q => neg_int q
/-! ### bools among ints: n += (a < b) -/
end

/-! ### comparisons -/
noncomputable def scal : V → V → Bool
  | .non, .non => true | .non, .int _ => true | .int _, .non => true | .non, .bl _ => true | .bl _, .non => true | .non, .str _ => true | .str _, .non => true
  | .int _, .int _ => true | .bl _, .bl _ => true | .str _, .str _ => true | .byt _, .byt _ => true
  | .int _, .str _ => true | .str _, .int _ => true | .bl _, .str _ => true | .str _, .bl _ => true
  | _, _ => false
noncomputable def rEq : R2 := fun x y H Q => scal x y = true ∧ Q (.bl (decide (x = y))) H
noncomputable def rNe : R2 := fun x y H Q => scal x y = true ∧ Q (.bl (!decide (x = y))) H

theorem dec_int {i j : Int} : decide (V.int i = V.int j) = (i == j) := by
  rw [Bool.eq_iff_iff]
  simp
theorem dec_bl {i j : Bool} : decide (V.bl i = V.bl j) = (i == j) := by
  rw [Bool.eq_iff_iff]
  simp
theorem dec_str {i j : Str} : decide (V.str i = V.str j) = (i == j) := by
  rw [Bool.eq_iff_iff]
  simp
theorem dec_byt {i j : Array UInt8} : decide (V.byt i = V.byt j) = (i.toList == j.toList) := by
  rw [Bool.eq_iff_iff]
  cases i
  cases j
  simp

section
variable {X : Cx} {a b c : Expr} {ta tb tc : TE} {pos : Pos}
theorem fin_bl {pins : List (Addr × Obj)} {σ : St} {H : Hp} {s : Shared} {Q : VK} {k k' : Bool} (I : Inv X pins σ H s) (q : Q (.bl k) H) (e : k = k') : EP X pins σ Q (.bool k') s := by
  subst e
  exact ⟨.bl k, H, I, rfl, q⟩
theorem op_eq : OpR X (compareOp .Eq) rEq := by
  intro pins s σ H x y v u Q I rx ry h
  obtain ⟨hs, q⟩ := h
  cases x with
  | non =>
    cases rx
    cases y with
    | non => cases ry; exact PySem.EqNone.eq_none_none (fin_bl I q (by simp))
    | bl j => cases ry; exact PySem.EqNone.eq_none_bool (fin_bl I q (by simp))
    | int j => obtain ⟨t', rfl⟩ := ry; exact PySem.EqNone.eq_none_int (fin_bl I q (by simp))
    | str j => obtain ⟨t', rfl⟩ := ry; exact PySem.EqNone.eq_none_str (fin_bl I q (by simp))
    | _ => exact absurd (show false = true from hs) Bool.false_ne_true
  | bl i =>
    cases rx
    cases y with
    | non => cases ry; exact PySem.EqNone.eq_bool_none (fin_bl I q (by simp))
    | bl j => cases ry; exact eq_bool (fin_bl I q dec_bl)
    | str j => obtain ⟨t', rfl⟩ := ry; exact PySem.EqMixed.eq_bool_str (fin_bl I q (by simp))
    | _ => exact absurd (show false = true from hs) Bool.false_ne_true
  | int i =>
    obtain ⟨t, rfl⟩ := rx
    cases y with
    | non => cases ry; exact PySem.EqNone.eq_int_none (fin_bl I q (by simp))
    | int j => obtain ⟨t', rfl⟩ := ry; exact eq_int (fin_bl I q dec_int)
    | str j => obtain ⟨t', rfl⟩ := ry; exact PySem.EqMixed.eq_int_str (fin_bl I q (by simp))
    | _ => exact absurd (show false = true from hs) Bool.false_ne_true
  | str i =>
    obtain ⟨t, rfl⟩ := rx
    cases y with
    | non => cases ry; exact PySem.EqNone.eq_str_none (fin_bl I q (by simp))
    | bl j => cases ry; exact PySem.EqMixed.eq_str_bool (fin_bl I q (by simp))
    | int j => obtain ⟨t', rfl⟩ := ry; exact PySem.EqMixed.eq_str_int (fin_bl I q (by simp))
    | str j => obtain ⟨t', rfl⟩ := ry; exact eq_str (fin_bl I q dec_str)
    | _ => exact absurd (show false = true from hs) Bool.false_ne_true
  | byt i =>
    obtain ⟨t, rfl⟩ := rx
    cases y with
    | byt j => obtain ⟨t', rfl⟩ := ry; exact PySem.W.eq_bytes (fin_bl I q dec_byt)
    | _ => exact absurd (show false = true from hs) Bool.false_ne_true
  | _ => cases y <;> exact absurd (show false = true from hs) Bool.false_ne_true
theorem op_ne : OpR X (compareOp .NotEq) rNe := by
  intro pins s σ H x y v u Q I rx ry h
  obtain ⟨hs, q⟩ := h
  cases x with
  | non =>
    cases rx
    cases y with
    | non => cases ry; exact PySem.EqNone.ne_none_none (fin_bl I q (by simp))
    | bl j => cases ry; exact PySem.EqNone.ne_none_bool (fin_bl I q (by simp))
    | int j => obtain ⟨t', rfl⟩ := ry; exact PySem.EqNone.ne_none_int (fin_bl I q (by simp))
    | str j => obtain ⟨t', rfl⟩ := ry; exact PySem.EqNone.ne_none_str (fin_bl I q (by simp))
    | _ => exact absurd (show false = true from hs) Bool.false_ne_true
  | bl i =>
    cases rx
    cases y with
    | non => cases ry; exact PySem.EqNone.ne_bool_none (fin_bl I q (by simp))
    | bl j => cases ry; exact ne_bool (fin_bl I q (congrArg not dec_bl))
    | str j => obtain ⟨t', rfl⟩ := ry; exact PySem.EqMixed.ne_bool_str (fin_bl I q (by simp))
    | _ => exact absurd (show false = true from hs) Bool.false_ne_true
  | int i =>
    obtain ⟨t, rfl⟩ := rx
    cases y with
    | non => cases ry; exact PySem.EqNone.ne_int_none (fin_bl I q (by simp))
    | int j => obtain ⟨t', rfl⟩ := ry; exact ne_int (fin_bl I q (congrArg not dec_int))
    | str j => obtain ⟨t', rfl⟩ := ry; exact PySem.EqMixed.ne_int_str (fin_bl I q (by simp))
    | _ => exact absurd (show false = true from hs) Bool.false_ne_true
  | str i =>
    obtain ⟨t, rfl⟩ := rx
    cases y with
    | non => cases ry; exact PySem.EqNone.ne_str_none (fin_bl I q (by simp))
    | bl j => cases ry; exact PySem.EqMixed.ne_str_bool (fin_bl I q (by simp))
    | int j => obtain ⟨t', rfl⟩ := ry; exact PySem.EqMixed.ne_str_int (fin_bl I q (by simp))
    | str j => obtain ⟨t', rfl⟩ := ry; exact ne_str (fin_bl I q (congrArg not dec_str))
    | _ => exact absurd (show false = true from hs) Bool.false_ne_true
  | byt i =>
    obtain ⟨t, rfl⟩ := rx
    cases y with
    | byt j => obtain ⟨t', rfl⟩ := ry; exact PySem.W.ne_bytes (fin_bl I q (congrArg not dec_byt))
    | _ => exact absurd (show false = true from hs) Bool.false_ne_true
  | _ => cases y <;> exact absurd (show false = true from hs) Bool.false_ne_true

theorem op_lt : OpR X (compareOp .Lt) (rI0 fun i j => .bl (decide (i < j))) := opB0 fun _ _ _ _ _ _ _ q => lt_int q
theorem op_le : OpR X (compareOp .LtE) (rI0 fun i j => .bl (decide (i ≤ j))) := opB0 fun _ _ _ _ _ _ _ q => le_int q
theorem op_gt : OpR X (compareOp .Gt) (rI0 fun i j => .bl (decide (j < i))) := opB0 fun _ _ _ _ _ _ _ q => gt_int q
theorem OpR.or {f : Value → Value → Sem Value} {r r' : R2} (h : OpR X f r) (h' : OpR X f r') : OpR X f (fun x y H Q => r x y H Q ∨ r' x y H Q) := by
  intro pins s σ H x y v u Q I rx ry q
  rcases q with q | q
  · exact h pins s σ H x y v u Q I rx ry q
  · exact h' pins s σ H x y v u Q I rx ry q

theorem nomark (b : Expr) {op : CmpOp} (h : op ≠ .In := by decide) (h2 : op ≠ .NotIn := by decide) : behindInMarks op b = false := by
  have e1 : (op == CmpOp.In) = false := by cases op <;> first | rfl | exact absurd rfl h
  have e2 : (op == CmpOp.NotIn) = false := by cases op <;> first | rfl | exact absurd rfl h2
  cases b <;> simp [behindInMarks, e1, e2]
theorem pe_cmpR {op : CmpOp} {r : R2} (ho : OpR X (compareOp op) r) (ha : PE X a ta) (hb : PE X b tb) (hm : behindInMarks op b = false) : PE X (.Compare a [op] [b] pos) (tOp r ta tb) := by
  intro pins s σ H Q I h
  exact wpAny_Compare1 (binT ha hb I h fun v u s2 x y H2 I2 rx ry q => ho pins s2 σ H2 x y v u Q I2 rx ry q) hm
noncomputable def tTest (t : TE) : TT := fun σ H Q => t σ H fun x H' => ∃ k, x = .bl k ∧ Q k H'
theorem pt_cmpR {op : CmpOp} {r : R2} (ho : OpR X (compareOp op) r) (ha : PE X a ta) (hb : PE X b tb) (hm : behindInMarks op b = false) : PT X (.Compare a [op] [b] pos) (tTest (tOp r ta tb)) := by
  intro pins s σ H Q I h
  refine wpAny_isTrue_Compare1 (thn (ha pins s σ H _ I h) fun v s1 ⟨x, H1, I1, r1, q1⟩ => thn (hb pins s1 σ H1 _ I1 q1) fun u s2 ⟨y, H2, I2, r2, q2⟩ =>
    thn (ho pins s2 σ H2 x y v u _ I2 r1 r2 q2) fun c s3 ⟨z, H3, I3, r3, k, e, q3⟩ => ?_) hm
  subst e
  cases r3
  exact wpAny_truthy_bool ⟨H3, I3, q3⟩
noncomputable def tChain (r r' : R2) (ta tb tc : TE) : TE := fun σ H Q => ta σ H fun x H1 => tb σ H1 fun y H2 => r x y H2 fun z H3 => ∃ k, z = .bl k ∧
  (if k = true then tc σ H3 fun w' H4 => r' y w' H4 Q else Q (.bl false) H3)
theorem pe_chain {op op' : CmpOp} {r r' : R2} (ho : OpR X (compareOp op) r) (ho' : OpR X (compareOp op') r') (ha : PE X a ta) (hb : PE X b tb) (hc : PE X c tc)
    (hm : lastMarks [op, op'] [b, c] = false := by with_unfolding_all rfl) : PE X (.Compare a [op, op'] [b, c] pos) (tChain r r' ta tb tc) := by
  intro pins s σ H Q I h
  refine Compare_chain (thn (ha pins s σ H _ I h) fun v s1 ⟨x, H1, I1, r1, q1⟩ => chain_link (thn (hb pins s1 σ H1 _ I1 q1) fun u s2 ⟨y, H2, I2, r2, q2⟩ =>
    thn (ho pins s2 σ H2 x y v u _ I2 r1 r2 q2) fun d s3 ⟨z, H3, I3, r3, k, e, q3⟩ => ?_)) hm
  subst e
  cases r3
  refine wpAny_truthy_bool ?_
  cases k with
  | false => exact ite_ff ⟨.bl false, H3, I3, rfl, q3⟩
  | true => exact ite_tt (chain_last (thn (hc pins s3 σ H3 _ I3 q3) fun w' s4 ⟨z', H4, I4, r4, q4⟩ => ho' pins s4 σ H4 y z' u w' Q I4 r2 r4 q4))
/-! ### truth -/
theorem line63 : (sizeLine : Nat) < 2 ^ 63 := by rw [sizeLine_eq]; decide
/-! ### strs and bytes -/
/-! ### scalar builtins, by CallR -/
theorem vals1 {x : V} {us : List Value} (r : Vals [x] us) : ∃ u, us = [u] ∧ RelV x u := by
  cases r with
  | cons r1 r2 => cases r2; exact ⟨_, rfl, r1⟩
theorem vals2 {x y : V} {us : List Value} (r : Vals [x, y] us) : ∃ u w', us = [u, w'] ∧ RelV x u ∧ RelV y w' := by
  cases r with
  | cons r1 r2 =>
    cases r2 with
    | cons r3 r4 => cases r4; exact ⟨_, _, rfl, r1, r3⟩
theorem call_max2 (hc : X.calm = true) : CallR X (.builtin "max") (fun xs H Q => ∃ i j, xs = [.int i, .int j] ∧ Q (.int (if j > i then j else i)) H) := by
  intro pins s σ H xs us Q I r h
  obtain ⟨i, j, rfl, q⟩ := h
  obtain ⟨u, w', rfl, ⟨t, rfl⟩, ⟨t', rfl⟩⟩ := vals2 r
  refine max_two_ints (I.ok.hd hc) fun h' tk k => ⟨_, H, I.kept k, ?_, q⟩
  by_cases hj : j > i
  · rw [if_pos hj, if_pos hj]; exact ⟨_, rfl⟩
  · rw [if_neg hj, if_neg hj]; exact ⟨_, rfl⟩
theorem call_int1 : CallR X (.type "int") (fun xs H Q => (∃ i, xs = [.int i] ∧ Q (.int i) H) ∨ ∃ k, xs = [.bl k] ∧ Q (.int (if k then 1 else 0)) H) := by
  intro pins s σ H xs us Q I r h
  rcases h with ⟨i, rfl, q⟩ | ⟨k, rfl, q⟩
  · obtain ⟨u, rfl, t, rfl⟩ := vals1 r
    exact call_int_int ⟨.int i, H, I, ⟨_, rfl⟩, q⟩
  · obtain ⟨u, rfl, r1⟩ := vals1 r
    cases r1
    exact call_int_bool ⟨.int (if k then 1 else 0), H, I.tok _, ⟨_, rfl⟩, q⟩
end
end L2

namespace L2
open PySem PySem.Spec PyProof.Rows

/-! ### an instance, its attributes a map -/
structure ObjM (h : Heap) (x dx C : Addr) (mA : Str → Option Value) : Prop where
  obj : h.get? x = some (PySem.W.instObj C dx)
  ns : h.Ns1 dx mA
  ne : dx ≠ x

section
variable {prog : Program} {w : World} {A : Around} {E : Value → Shared → Prop} {s : Shared} {K : PySem.W.Frag} {x dx C f : Addr} {mA : Str → Option Value} {name : Str} {v : Value}

end

/-! ### the attributes as a list of pairs -/
theorem RelO.some_of {v : V} {o : Option Value} (r : RelO (some v) o) : ∃ u, o = some u ∧ RelV v u := by
  cases o with
  | none => exact (show False from r).elim
  | some u => exact ⟨u, rfl, r⟩
section
variable {P : Program} {w : World} {H H' : Hp} {h h' : Heap} {a C dx : Addr} {fs fs' : List (Str × V)}
end

/-! ### what of the text a class must have -/
structure Cls (K : PySem.W.Frag) (C : Addr) : Prop where
  pg : PySem.W.plainGet K C Str.empty = true
  hd : PySem.W.hasDictIn K C = true
  po : PySem.W.plainOver K C = true
  sa : PySem.W.findIn K (.ref C) "__setattr__" = some (some (.builtin "object.__setattr__"))
theorem Cls.get {K : PySem.W.Frag} {C : Addr} (c : Cls K C) (f : Str) : PySem.W.plainGet K C f = true := c.pg
structure Con (K : PySem.W.Frag) (C : Addr) (f : Str) (v : V) (u : Value) : Prop where
  at_ : PySem.W.findIn K (.ref C) f = some (some u)
  rel : RelV v u
  get : PySem.W.specialIn K u "__get__" = some none
  cp : PySem.W.copiedNames.contains f = false
structure Meth (K : PySem.W.Frag) (C : Addr) (m : Str) (f : Addr) : Prop where
  at_ : PySem.W.findIn K (.ref C) m = some (some (.ref f))
  fn : PySem.W.isFn K (.ref f) = true
  kp : PySem.W.keepIn K (.ref f) = true

section
variable {X : Cx} {pins : List (Addr × Obj)} {σ : St} {H : Hp} {s : Shared} {a C dx : Addr} {fs : List (Str × V)} {f : Str} {v : V} {A : Around} {E : Value → Shared → Prop}

end

/-! ### readings and rules -/
section
variable {X : Cx} {o e value : Expr} {f : Str} {pos pos' tpos : Pos} {ta tv : TE}
end

/-! ### isinstance -/
section
variable {X : Cx} {pins : List (Addr × Obj)} {σ : St} {H : Hp} {s : Shared} {A : Around} {E : Value → Shared → Prop} {Q : Value → Shared → Prop} {c : Value} {b : Bool}
inductive TyOf (K : PySem.W.Frag) (H : Hp) : V → Value → Prop where
  | non : TyOf K H .non (.type "NoneType")
  | bl (x : Bool) : TyOf K H (.bl x) (.type "bool")
  | int (i : Int) : TyOf K H (.int i) (.type "int")
  | str (x : Str) : TyOf K H (.str x) (.type "str")
  | flt (x : UInt64) : TyOf K H (.flt x) (.type "float")
  | lst {a : Addr} {xs : List V} (e : H a = some (.lst xs)) : TyOf K H (.ref a) (.type "list")
  | frz {a : Addr} {o : Obj} {xs : List V} (e : H a = some (.frz o (.lst xs))) : TyOf K H (.ref a) (.type "list")
  | tup {a : Addr} {xs : List V} (e : H a = some (.tup xs)) : TyOf K H (.ref a) (.type "tuple")
  | dK {a : Addr} {kvs : List (Key × V)} (e : H a = some (.dK kvs)) : TyOf K H (.ref a) (.type "dict")
  | dT {a : Addr} {kvs : List (List Key × V)} (e : H a = some (.dT kvs)) : TyOf K H (.ref a) (.type "dict")
  | ins {a C dx : Addr} {fs : List (Str × V)} (e : H a = some (.ins C dx fs)) (cl : Cls K C) (ha : PySem.W.findIn K (.ref C) "__class__" = some (some (.builtin "object.__class__")))
      (hn : PySem.W.specialIn K (.builtin "object.__class__") "__get__" = some (some (.builtin "getset_descriptor.__get__"))) (htk : PySem.W.takesIn K (.builtin "object.__class__") = some true)
      (hm : PySem.W.mroIn K C (.type "object") = some true) : TyOf K H (.ref a) (.ref C)
end
end L2

namespace L2
open PySem PySem.Spec PyProof.Rows

/-! ### room -/
structure Room (k : Nat) (A : Around) : Prop where
  hd : A.handled = none
  dp : A.depth + 3 * k + 5 < recursionLimit
  un : A.units + 16 * k + 200 < cLine
theorem Room.mono {j k : Nat} {A : Around} (r : Room k A) (h : j ≤ k) : Room j A := ⟨r.hd, by have := r.dp; omega, by have := r.un; omega⟩
theorem Room.deeper {k : Nat} {A : Around} (r : Room (k + 1) A) (env : Env) : Room k (A.deeper env) :=
  ⟨r.hd, by have := r.dp; show A.depth + 1 + 3 * k + 5 < _; omega, by have := r.un; show A.units + 3 + 16 * k + 200 < _; omega⟩
theorem Room.in1 {k : Nat} {A : Around} (r : Room (k + 1) A) : Room k A.in1 :=
  ⟨r.hd, by have := r.dp; show A.depth + 3 * k + 5 < _; omega, by have := r.un; show A.units + 1 + 16 * k + 200 < _; omega⟩
theorem Room.depth {k : Nat} {A : Around} (r : Room k A) : A.depth < recursionLimit := by have := r.dp; omega
theorem Room.units {k : Nat} {A : Around} (r : Room k A) : A.units + 64 < cLine := by have := r.un; omega
theorem Room.units0 {k : Nat} {A : Around} (r : Room k A) : A.units < cLine := by have := r.un; omega

/-! ### argument lists and displays -/
noncomputable def tNil : TA := fun _ H Q => Q [] H
noncomputable def tCons (ta : TE) (tr : TA) : TA := fun σ H Q => ta σ H fun x H1 => tr σ H1 fun xs H2 => Q (x :: xs) H2
section
variable {X : Cx} {e : Expr} {es : List Expr} {te : TE} {t : TA} {pos : Pos}
theorem pa_nil : PA X [] tNil := fun _ _ _ _ H Q I h => Calls.spliced_nil ⟨[], H, I, .nil, h⟩
theorem pa_cons (ha : PE X e te) (hr : PA X es t) (hs : starEach (e :: es) X.env = (false, eval e X.env) :: starEach es X.env := by rfl) : PA X (e :: es) (tCons te t) := by
  intro pos pins s σ H Q I h
  rw [hs]
  show wpAny _ _ (spliced ((false, eval e X.env) :: backTo pos (starEach es X.env))) _ _ s
  refine Calls.spliced_cons (thn (ha pins s σ H _ I h) fun u s1 ⟨x, H1, I1, r1, q1⟩ => ?_)
  exact thn (hr pos pins s1 σ H1 _ I1 q1) fun us s2 ⟨xs, H2, I2, r2, q2⟩ => ⟨x :: xs, H2, I2, .cons r1 r2, q2⟩

noncomputable def tTup (t : TA) : TE := fun σ H Q => t σ H fun xs H1 => xs.length ≤ sizeLine ∧ ∀ p, H1 p = none → Q (.ref p) (upd H1 p (.tup xs))
noncomputable def tLst (t : TA) : TE := fun σ H Q => t σ H fun xs H1 => xs.length ≤ sizeLine ∧ ∀ p, H1 p = none → Q (.ref p) (upd H1 p (.lst xs))
end

/-! ### what a def promises -/
noncomputable abbrev Sp := List V → Hp → VK → XK → Prop
noncomputable abbrev CXT := List Env → Hp → Shared → XK → Value → Shared → Prop

structure Env0 (P : Program) (w : World) (K : PySem.W.Frag) (mg : Str → Option Value) (base : Heap) (A : Around) (outer : List Env) (s : Shared) (H : Hp) : Prop where
  frames : A.frames = some outer
  mod : Mod K mg base
  bs : ∀ b o, base.get? b = some o → s.heap.get? b = some o ∧ H b = none
  bsz : base.objs.size ≤ s.heap.objs.size
  funs : s.heap.FunFrames base outer
  frf : ∀ b ∈ frs outer, H b = none
  hok : HOk P w H s.heap
  bare : AllBare s.gens
noncomputable def CE (outer : List Env) (P : Program) (w : World) (H : Hp) (s : Shared) (Q : VK) (u : Value) (s' : Shared) : Prop :=
  ∃ v H', s'.os = s.os ∧ AllBare s'.gens ∧ Un (frs outer) [] H H' s.heap s'.heap ∧ HOk P w H' s'.heap ∧ RelV v u ∧ Q v H'
noncomputable def CR (CX : CXT) (outer : List Env) (P : Program) (w : World) (H : Hp) (s : Shared) (Q : VK) (E : XK) (r : Result) (s' : Shared) : Prop :=
  match r with
  | .ok (.ret u) => CE outer P w H s Q u s'
  | .ok _ => False
  | .error e => CX outer H s E e s'
structure FnOk (P : Program) (w : World) (K : PySem.W.Frag) (mg : Str → Option Value) (base : Heap) (CX : CXT) (k : Nat) (f : Addr) (fd : FuncData) (ps : List Str) (sp : Sp) : Prop where
  len : ∀ vs H Q E, sp vs H Q E → vs.length = ps.length
  run : ∀ (A : Around) (outer : List Env) (s : Shared) (H : Hp) (args : Args) (us : List Value) (vs : List V) (Q : VK) (E : XK), Room k A → Env0 P w K mg base A outer s H → BindsTo s fd args (ps.zip us) → Vals vs us → sp vs H Q E →
    codeAny (model P w) A (.call (.ref f) args) (CR CX outer P w H s Q E) s
theorem FnOk.mono {P : Program} {w : World} {K : PySem.W.Frag} {mg : Str → Option Value} {base : Heap} {CX : CXT} {j k : Nat} {f : Addr} {fd : FuncData} {ps : List Str} {sp : Sp} (F : FnOk P w K mg base CX j f fd ps sp) (h : j ≤ k) :
    FnOk P w K mg base CX k f fd ps sp := ⟨F.len, fun A outer s H args us vs Q E hr => F.run A outer s H args us vs Q E (hr.mono h)⟩
theorem Env0.in1 {P : Program} {w : World} {K : PySem.W.Frag} {mg : Str → Option Value} {base : Heap} {A : Around} {outer : List Env} {s : Shared} {H : Hp} (e : Env0 P w K mg base A outer s H) :
    Env0 P w K mg base A.in1 outer s H := ⟨e.frames, e.mod, e.bs, e.bsz, e.funs, e.frf, e.hok, e.bare⟩

section
variable {X : Cx} {pins : List (Addr × Obj)} {σ : St} {H : Hp} {s s' : Shared}
theorem Inv.env0 (I : Inv X pins σ H s) : Env0 X.prog X.w X.K X.mg X.base X.A X.stack s H :=
  ⟨I.ok.frames, I.ok.mod, I.bs, Nat.le_trans I.ok.bsz I.sz, I.stack, I.stkFree, I.hok, I.bare⟩
theorem Inv.after {Q : VK} {u : Value} (I : Inv X pins σ H s) (h : CE X.stack X.prog X.w H s Q u s') : EP X pins σ Q u s' := by
  obtain ⟨v, H', os, bare, un, hok, r, q⟩ := h
  obtain ⟨hh, g, d, t, os'⟩ := s'
  obtain rfl : os' = s.os := os
  exact ⟨v, H', I.call (h' := hh) (g' := g) (d' := d) (t' := t) (ch := []) un hok bare (fun b z => absurd z (by simp)), r, q⟩
end

/-! ### calls -/
noncomputable def tCall (sp : Sp) (dvs : List V) (E : XK) (t : TA) : TE := fun σ H Q => t σ H fun vs H1 => sp (vs ++ dvs) H1 Q E
noncomputable def Binds (K : PySem.W.Frag) (fd : FuncData) (ps : List Str) (ds : List Value) : Prop :=
  ∀ (s : Shared) (us : List Value), K.In s.heap → (us ++ ds).length = ps.length → BindsTo s fd ⟨us, []⟩ (ps.zip (us ++ ds))
theorem Binds.all {K : PySem.W.Frag} {fd : FuncData} {ps : List Str} (h : ∀ us : List Value, us.length = ps.length → bindArgs fd ⟨us, []⟩ = pure (ps.zip us)) : Binds K fd ps [] := fun s us _ hl => by
  rw [List.append_nil] at hl ⊢
  exact .of_eq (h us hl)

noncomputable def Passes (CX : CXT) (X : Cx) (E : XK) : Prop := ∀ (pins : List (Addr × Obj)) (σ : St) (H : Hp) (s : Shared) (e : Value) (s' : Shared), Inv X pins σ H s → CX X.stack H s E e s' → X.xe e s'

section
variable {X : Cx} {CX : CXT} {k : Nat} {f C : Addr} {fd : FuncData} {ps : List Str} {sp : Sp} {dvs : List V} {ds : List Value} {E : XK} {x m : Str} {p pos apos : Pos} {e o : Expr} {es : List Expr} {ta : TE} {t : TA}

theorem run_fn {pins : List (Addr × Obj)} {σ : St} {H : Hp} {s : Shared} {Q : VK} {us : List Value} {vs : List V} (F : FnOk X.prog X.w X.K X.mg X.base CX k f fd ps sp) (hr : Room k X.A) (hb : Binds X.K fd ps ds) (hd : Vals dvs ds) (hx : Passes CX X E)
    (I : Inv X pins σ H s) (r : Vals vs us) (h : sp (vs ++ dvs) H Q E) : wpAny (model X.prog X.w) X.A (call (.ref f) us) (EP X pins σ Q) X.xe s := by
  have r2 : Vals (vs ++ dvs) (us ++ ds) := r.append hd
  have hl : (us ++ ds).length = ps.length := by rw [← r2.length]; exact F.len _ _ _ _ h
  refine wpAny_call (codeAny_mono (F.run X.A X.stack s H ⟨us, []⟩ (us ++ ds) (vs ++ dvs) Q E hr I.env0 (hb s us I.kIn hl) r2 h) fun r s' hq => ?_)
  cases r with
  | error e => exact hx pins σ H s e s' I hq
  | ok fl =>
    cases fl with
    | ret u => exact I.after hq
    | next => exact False.elim hq
    | brk => exact False.elim hq
    | cont => exact False.elim hq

theorem pe_call (F : FnOk X.prog X.w X.K X.mg X.base CX k f fd ps sp) (hr : Room k X.A) (hg : Gl X x) (hm : X.mg x = some (.ref f)) (hk : PySem.W.keepIn X.K (.ref f) = true) (hb : Binds X.K fd ps ds) (hd : Vals dvs ds) (hx : Passes CX X E)
    (ha : PA X (e :: es) t) (hdb : (x == ("__debug__" : Str)) = false := by decide) (he : starEach (e :: es) X.env = (false, eval e X.env) :: starEach es X.env := by rfl) (hpl : (backTo pos (starEach es X.env)).any (·.1) = false := by rfl) :
    PE X (.Call (.Name x p) (e :: es) [] pos) (tCall sp dvs E t) := by
  intro pins s σ H Q I h
  refine wpAny_Call_Name_kw (ld_glob I hg hm ?_ hdb)
  refine PySem.W.callWith_K (h₀ := X.base) I.ok.mod.kin hk (thn (ha pos pins s σ H _ I h) fun us s1 ⟨vs, H1, I1, r, q⟩ => ⟨I1.kIn, ?_⟩) he hpl
  exact run_fn F hr hb hd hx I1 r q
structure Mk (K : PySem.W.Frag) (C f : Addr) : Prop where
  makes : PySem.W.makesIn K C = true
  init : PySem.W.findIn K (.ref C) "__init__" = some (some (.ref f))
  fn : PySem.W.isFn K (.ref f) = true
  kp : PySem.W.keepIn K (.ref C) = true

end

/-! ### keywords -/
noncomputable def PK (X : Cx) (kws : List Keyword) (t : TA) : Prop :=
  ∀ (pos : Pos) (pins : List (Addr × Obj)) (s : Shared) (σ : St) (H : Hp) (Q : List V → Hp → Prop), Inv X pins σ H s → t σ H Q → wpAny (model X.prog X.w) X.A (evalAll ((backToKw pos (keywordEach kws X.env)).map (·.2))) (AP X pins σ Q) X.xe s
section
variable {X : Cx} {CX : CXT} {k : Nat} {f C : Addr} {fd : FuncData} {ps ks : List Str} {sp : Sp} {E : XK} {x m : Str} {p pos apos kpos : Pos} {e o : Expr} {es : List Expr} {kws : List Keyword} {te ta : TE} {t tk : TA} {nm : Option Str}
theorem pk_nil : PK X [] tNil := fun _ _ _ _ H Q I h => wpAny_evalAll_nil ⟨[], H, I, .nil, h⟩
theorem pk_cons (ha : PE X e te) (hr : PK X kws t) : PK X (⟨nm, e, kpos⟩ :: kws) (tCons te t) := by
  intro pos pins s σ H Q I h
  show wpAny _ _ (evalAll ((do let v ← eval e X.env; standAt pos; pure v) :: (backToKw pos (keywordEach kws X.env)).map (·.2))) _ _ s
  refine wpAny_evalAll_cons (wpAny_bind (thn (ha pins s σ H _ I h) fun u s1 ⟨x, H1, I1, r1, q1⟩ => wpAny_bind (wpAny_standAt (wpAny_pure ?_))))
  exact thn (hr pos pins s1 σ H1 _ I1 q1) fun us s2 ⟨xs, H2, I2, r2, q2⟩ => ⟨x :: xs, H2, I2, .cons r1 r2, q2⟩

structure KBinds (K : PySem.W.Frag) (fd : FuncData) (ps ks : List Str) (g : List Value → List Value → List Value) (gV : List V → List V → List V) : Prop where
  to : ∀ (s : Shared) (us ws : List Value), K.In s.heap → (g us ws).length = ps.length → BindsTo s fd ⟨us, ks.zip ws⟩ (ps.zip (g us ws))
  rel : ∀ {vs : List V} {us : List Value} {zs : List V} {ws : List Value}, Vals vs us → Vals zs ws → Vals (gV vs zs) (g us ws)
variable {g : List Value → List Value → List Value} {gV : List V → List V → List V}
end

/-! ### a def's body keeps its promise -/
structure FnScope (N P : List Str) (sc : Scope) : Prop where
  kind : sc.kind = .function
  co : sc.isCoroutine = false
  gen : sc.isGenerator = false
  nd : N.Nodup
  pre : N.take P.length = P
  par : ∀ x ∈ P, sc.names.lookup x = some .local ∨ sc.names.lookup x = some .cell
  nofree : ∀ y ∈ sc.names, y.2 ≠ .free

theorem bindL_out {kindOf : Str → Option NameKind} {x : Str} : ∀ {binds : List (Str × Value)} {m : Str → Option Value}, (∀ v, (x, v) ∉ binds) → bindL kindOf binds m x = m x
  | [], _, _ => rfl
  | (n, v) :: r, m, h => by
    unfold bindL
    rw [bindL_out fun w hw => h w (List.mem_cons_of_mem _ hw)]
    split
    · have : x ≠ n := by rintro rfl; exact h v List.mem_cons_self
      simp [this]
    · rfl
theorem bindC_out {kindOf : Str → Option NameKind} {x : Str} : ∀ {binds : List (Str × Value)} {m : Str → Option Value}, (∀ v, (x, v) ∉ binds) → bindC kindOf binds m x = m x
  | [], _, _ => rfl
  | (n, v) :: r, m, h => by
    unfold bindC
    rw [bindC_out fun w hw => h w (List.mem_cons_of_mem _ hw)]
    split
    · rfl
    · have : x ≠ n := by rintro rfl; exact h v List.mem_cons_self
      simp [this]
theorem bindL_get {kindOf : Str → Option NameKind} {x : Str} {v : Value} : ∀ {P : List Str} {vs : List Value} {i : Nat} {m : Str → Option Value}, P.Nodup → P[i]? = some x → vs[i]? = some v → kindOf x = some .local →
    bindL kindOf (P.zip vs) m x = some v
  | [], _, _, _, _, h, _, _ => by simp at h
  | _ :: _, [], _, _, _, _, h, _ => by simp at h
  | p :: P, w :: vs, 0, m, nd, h1, h2, hk => by
    simp at h1 h2; subst h1; subst h2
    show bindL kindOf ((p, w) :: P.zip vs) m p = _
    unfold bindL
    rw [bindL_out fun v hv => (List.nodup_cons.mp nd).1 (List.of_mem_zip hv).1, if_pos hk]
    simp
  | p :: P, w :: vs, i + 1, m, nd, h1, h2, hk => by
    show bindL kindOf ((p, w) :: P.zip vs) m x = _
    unfold bindL
    exact bindL_get (i := i) (List.nodup_cons.mp nd).2 (by simpa using h1) (by simpa using h2) hk
theorem bindC_get {kindOf : Str → Option NameKind} {x : Str} {v : Value} : ∀ {P : List Str} {vs : List Value} {i : Nat} {m : Str → Option Value}, P.Nodup → P[i]? = some x → vs[i]? = some v → kindOf x ≠ some .local →
    bindC kindOf (P.zip vs) m x = some v
  | [], _, _, _, _, h, _, _ => by simp at h
  | _ :: _, [], _, _, _, _, h, _ => by simp at h
  | p :: P, w :: vs, 0, m, nd, h1, h2, hk => by
    simp at h1 h2; subst h1; subst h2
    show bindC kindOf ((p, w) :: P.zip vs) m p = _
    unfold bindC
    rw [bindC_out fun v hv => (List.nodup_cons.mp nd).1 (List.of_mem_zip hv).1, if_neg hk]
    simp
  | p :: P, w :: vs, i + 1, m, nd, h1, h2, hk => by
    show bindC kindOf ((p, w) :: P.zip vs) m x = _
    unfold bindC
    exact bindC_get (i := i) (List.nodup_cons.mp nd).2 (by simpa using h1) (by simpa using h2) hk

noncomputable def start (N : List Str) (vs : List V) : St := vs.map some ++ List.replicate (N.length - vs.length) none

noncomputable def cxOf (CX : CXT) (P : Program) (w : World) (K : PySem.W.Frag) (mg : Str → Option Value) (base : Heap) (N : List Str) (qual : Str) (scope : Scope) (f : Addr) (cd : Value) (A : Around) (outer : List Env) (s : Shared) (H : Hp) (E : XK) : Cx where
  prog := P
  w := w
  K := K
  mg := mg
  base := base
  A := A.deeper (envOfC qual scope s.heap.objs.size f cd)
  N := N
  s₀ := s
  H₀ := H
  env := envOfC qual scope s.heap.objs.size f cd
  outer := outer
  stack := envOfC qual scope s.heap.objs.size f cd :: outer
  ex := []
  calm := true
  fn := fun _ => true
  pn := []
  xe := fun e s' => wpAny (model P w) (A.deeper (envOfC qual scope s.heap.objs.size f cd)) («leaving» (envOfC qual scope s.heap.objs.size f cd) e) (fun _ s'' => CX outer H s E e s'') (fun e' s'' => CX outer H s E e' s'') s'

theorem cell_has {sc : Scope} {n : Nat} {x : Str} (h : sc.names.lookup x = some .cell) : ∃ c, (cellsFrom n sc.names []).lookup x = some c := by
  have q := PySem.W.cellsFrom_some sc.names n [] (.inl h)
  exact Option.isSome_iff_exists.mp q

theorem inv_start {CX : CXT} {P : Program} {w : World} {K : PySem.W.Frag} {mg : Str → Option Value} {base : Heap} {N ps : List Str} {qual : Str} {scope : Scope} {f : Addr} {cd : Value} {A : Around} {outer : List Env} {s s1 : Shared} {H : Hp} {E : XK} {us : List Value} {vs : List V}
    (S : FnScope N ps scope) (hd : A.handled = none) (e0 : Env0 P w K mg base A outer s H) (hl : vs.length = ps.length) (r : Vals vs us)
    (x : InCallC s s.heap.objs.size (bindL (envOfC qual scope s.heap.objs.size f cd).kindOf (ps.zip us) fun _ => none) (cellsFrom (s.heap.objs.size + 1) scope.names []) (bindC (envOfC qual scope s.heap.objs.size f cd).kindOf (ps.zip us) fun _ => none) s1) :
    Inv (cxOf CX P w K mg base N qual scope f cd A outer s H E) [] (start N vs) H s1 := by
  have hpl : ps.length ≤ N.length := by have := congrArg List.length S.pre; rw [List.length_take] at this; omega
  obtain ⟨h1, tk, rfl, hk⟩ := x.done
  have noA : ∀ b : Addr, b ∉ (cxOf CX P w K mg base N qual scope f cd A outer s H E).ex := fun b z => absurd (show b ∈ ([] : List Addr) from z) (by simp)
  refine ⟨⟨e0.mod, S.kind, rfl, rfl, Nat.le_refl _, fun y z c h1 h2 => ?_, fun y hy => ?_, fun y c _ h => ?_, fun _ => hd, Around.frames_deeper e0.frames, .inr ⟨rfl, rfl⟩, fun b z => absurd z (noA b), e0.bs, e0.bsz, fun b _ _ => noA b, fun b z => absurd z (noA b), e0.funs, e0.frf⟩,
    rfl, e0.bare, Un.kept hk, ⟨_, x.toInCall.ns, fun i y v h1 h2 h3 => ?_⟩, fun y c h => ⟨_, x.cell y c h⟩, e0.hok.fresh (Nat.le_refl _), fun y c h => ?_, fun p hp => absurd (show p ∈ ([] : List (Addr × Obj)) from hp) (by simp), e0.hok.kept hk, ?_⟩
  · exact name_of_addr x.apart (PySem.mem_of_lookup h1) (PySem.mem_of_lookup h2)
  · have hy : scope.names.lookup y = some .cell ∨ scope.names.lookup y = some .free := hy
    rcases hy with hy | hy
    · exact cell_has hy
    · exact absurd rfl (S.nofree _ (PySem.mem_of_lookup hy))
  · exact Nat.le_of_lt (x.above y c (PySem.mem_of_lookup h))
  · have hi : i < vs.length := by
      unfold start at h2
      by_cases hi : i < vs.length
      · exact hi
      · rw [List.getElem?_append_right (by simpa using hi)] at h2
        rw [List.getElem?_replicate] at h2
        split at h2 <;> cases h2
    have ha : vs[i]? = some v := by
      unfold start at h2
      rw [List.getElem?_append_left (by simpa using hi), List.getElem?_map] at h2
      cases e : vs[i]? with
      | none => rw [e] at h2; cases h2
      | some a => rw [e] at h2; cases h2; rfl
    obtain ⟨u, hu, rv⟩ := r.get ha
    have hp : ps[i]? = some y := by
      rw [← S.pre, List.getElem?_take_of_lt (by omega)]; exact h1
    have ndP : ps.Nodup := by rw [← S.pre]; exact S.nd.sublist (List.take_sublist _ _)
    refine ⟨u, rv, ?_⟩
    rcases S.par y (List.mem_of_getElem? hp) with k | k
    · exact .inl ⟨k, bindL_get ndP hp hu k⟩
    · obtain ⟨c, e⟩ := cell_has (n := s.heap.objs.size + 1) k
      refine .inr ⟨.inl k, c, e, ?_⟩
      have q := x.cell y c e
      rw [bindC_get ndP hp hu (by show scope.names.lookup y ≠ _; rw [k]; decide)] at q
      exact q
  · exact e0.hok.fresh (Nat.le_of_lt (x.above y c (PySem.mem_of_lookup h)))
  · unfold start
    show _ = N.length
    rw [List.length_append, List.length_map, List.length_replicate]
    omega

theorem fn_of {CX : CXT} {P : Program} {w : World} {K : PySem.W.Frag} {mg : Str → Option Value} {base : Heap} {k : Nat} {f : Addr} {name qual : Str} {params : Arguments} {body : List Stmt} {scope : Scope} {dV kV doc pm cdv ct oc : Value} {an od : Option Addr}
    {osl : Array (Option Value)} {N ps : List Str} {sp : Sp} (lk : K.lookup f = some ⟨oc, od, .func (PySem.W.fnOf name qual params body scope dV kV doc pm an cdv ct), osl⟩) (hcd : PySem.W.codeIn K cdv qual = true) (S : FnScope N ps scope)
    (len : ∀ vs H Q E, sp vs H Q E → vs.length = ps.length)
    (hbody : ∀ (A : Around) (outer : List Env) (s : Shared) (H : Hp) (vs : List V) (Q : VK) (E : XK), Room k (A.deeper (envOfC qual scope s.heap.objs.size f cdv)) → sp vs H Q E →
      ∃ t, PSs (cxOf CX P w K mg base N qual scope f cdv A outer s H E) body t ∧ t { nx := fun _ H' => Q .non H', rt := Q } (start N vs) H) :
    FnOk P w K mg base CX (k + 1) f (PySem.W.fnOf name qual params body scope dV kV doc pm an cdv ct) ps sp := by
  refine ⟨len, fun A outer s H args us vs Q E hr e0 hb r hsp => ?_⟩
  have hl := len _ _ _ _ hsp
  have KX : K.In s.heap := e0.mod.kin.keeps fun b o e => (e0.bs b o e).1
  have lim : s.heap.NoLimit := e0.mod.nolimit.keeps fun b o e => (e0.bs b o e).1
  have hkind : ∀ y ∈ ps.zip us, scope.names.lookup y.1 = some .local ∨ (scope.names.lookup y.1 = some .cell ∧ ((cellsFrom (s.heap.objs.size + 1) scope.names []).lookup y.1).isSome = true) := fun ⟨n, v⟩ hy => by
    rcases S.par n (List.of_mem_zip hy).1 with q | q
    · exact .inl q
    · exact .inr ⟨q, PySem.W.cellsFrom_some _ _ _ (.inl q)⟩
  refine codeAny_call_function hr.depth (KX _ _ lk) rfl S.co S.gen rfl (PySem.W.codeRec_of KX hcd) (hb _ _ _ _ ?_)
  refine wpAny_newFunctionEnv_cells S.kind hkind fun env he s1 x => ?_
  subst he
  refine ⟨lim.keeps x.toInCall.keep, codeAny_func ?_⟩
  obtain ⟨t, ht, hq⟩ := hbody A outer s H vs Q E (hr.deeper _) hsp
  have I : Inv (cxOf CX P w K mg base N qual scope f cdv A outer s H E) [] (start N vs) H s1 := inv_start S hr.hd e0 hl r x
  refine wpAny_mono (ht [] s1 (start N vs) H _ I hq) (fun fl s' hs => ?_) fun e s' hs => hs
  have fin : ∀ {σ' : St} {H' : Hp} {v : V} {u : Value}, Inv (cxOf CX P w K mg base N qual scope f cdv A outer s H E) [] σ' H' s' → RelV v u → Q v H' → CE outer P w H s Q u s' :=
    fun {σ' H' v u} J rv q => ⟨v, H', J.os, J.bare, J.base, J.hok, rv, q⟩
  cases fl with
  | ret u =>
    obtain ⟨v, σ', H', J, rv, q⟩ := hs
    exact fin J rv q
  | next =>
    obtain ⟨σ', H', J, q⟩ := hs
    exact fin (v := V.non) (u := Value.none) J rfl q
  | brk =>
    obtain ⟨_, _, _, q⟩ := hs
    exact False.elim q
  | cont =>
    obtain ⟨_, _, _, q⟩ := hs
    exact False.elim q
end L2

namespace L2
open PySem PySem.Spec PyProof.Rows
section
variable {X : Cx} {x : Str} {p pos : Pos} {e : Expr} {es : List Expr} {t : TA} {id T : String} {r : List V → Hp → VK → Prop}

noncomputable def tCB (r : List V → Hp → VK → Prop) (t : TA) : TE := fun σ H Q => t σ H fun vs H1 => r vs H1 Q
theorem pe_callB (hc : CallR X (.builtin id) r) (hg : Gl X x) (hm : X.mg x = none) (hv : bootBuiltins x = some (.builtin id)) (ha : PA X (e :: es) t) (hn : x ≠ "__name__" := by decide) (hdb : (x == ("__debug__" : Str)) = false := by decide)
    (he : starEach (e :: es) X.env = (false, eval e X.env) :: starEach es X.env := by rfl) (hpl : (backTo pos (starEach es X.env)).any (·.1) = false := by rfl) : PE X (.Call (.Name x p) (e :: es) [] pos) (tCB r t) := by
  intro pins s σ H Q I h
  refine wpAny_Call_Name_kw (ld_blt I hg hm hv ?_ hn hdb)
  exact PyProof.Rows.callWith_builtin1 (thn (ha pos pins s σ H _ I h) fun us s1 ⟨vs, H1, I1, r1, q1⟩ => hc pins s1 σ H1 vs us Q I1 r1 q1) he hpl
theorem pe_callTy (hc : CallR X (.type T) r) (hg : Gl X x) (hm : X.mg x = none) (hv : bootBuiltins x = some (.type T)) (ha : PA X (e :: es) t) (hn : x ≠ "__name__" := by decide) (hdb : (x == ("__debug__" : Str)) = false := by decide)
    (he : starEach (e :: es) X.env = (false, eval e X.env) :: starEach es X.env := by rfl) (hpl : (backTo pos (starEach es X.env)).any (·.1) = false := by rfl) : PE X (.Call (.Name x p) (e :: es) [] pos) (tCB r t) := by
  intro pins s σ H Q I h
  refine wpAny_Call_Name_kw (ld_blt I hg hm hv ?_ hn hdb)
  exact PyProof.Rows.callWith_type1 (thn (ha pos pins s σ H _ I h) fun us s1 ⟨vs, H1, I1, r1, q1⟩ => hc pins s1 σ H1 vs us Q I1 r1 q1) he hpl
end
end L2

namespace HT
open PySem PyProof.Rows

section
open PySem.SeqAt
open PySem.AutoSeq1 (wpAny_loadPart')
open PySem.MeetsSeq PySem.MeetsSeq2 PySem.MeetsSeq3

end

section
variable {prog : Program} {w : World} {A : Around} {E : Value → Shared → Prop} {s : Shared}

theorem cat_tup {t b : Addr} {vs ws : List Value} {Q : Value → Shared → Prop} (ht : IsTup s.heap t vs.toArray) (hb : IsTup s.heap b ws.toArray) (hv : vs ≠ [])
    (h1 : ws = [] → Q (.ref t) s) (h2 : ws ≠ [] → Q (.ref s.heap.objs.size) { s with heap := s.heap.push { cls := .type "tuple", data := .seq (vs ++ ws).toArray } })
    (hsz : vs.length + ws.length ≤ sizeLine) : wpAny (model prog w) A (binaryOp .Add (.ref t) (.ref b)) Q E s := by
  obtain ⟨⟨cls, dd, data, sl⟩, ho, hc, n, hd⟩ := id ht
  obtain ⟨⟨cls2, dd2, data2, sl2⟩, ho2, hc2, n2, hd2⟩ := id hb
  simp only at hc hd hc2 hd2
  subst hc hd hc2 hd2
  have e : vs.toArray ++ ws.toArray = (vs ++ ws).toArray := by simp
  by_cases hw : ws = []
  · exact concat_meets ⟨_, ho, rfl⟩ ⟨_, ho2, rfl⟩ noFill_tuple_add seq_tuple_add PySem.F.slot_tuple_add PySem.F.entry_tuple_add (PySem.F.args_tuple_add_2 _ _)
      (tuple_addW1 t b vs.toArray ws.toArray n n2 dd dd2 sl sl2 (by simpa using hv) (by simp [hw])) ⟨ho, ho2, h1 hw⟩
  · refine concat_meets ⟨_, ho, rfl⟩ ⟨_, ho2, rfl⟩ noFill_tuple_add seq_tuple_add PySem.F.slot_tuple_add PySem.F.entry_tuple_add (PySem.F.args_tuple_add_2 _ _)
      (tuple_addW2 t b vs.toArray ws.toArray n n2 dd dd2 sl sl2 (by simpa using hv) (by simpa using hw) (by rw [List.size_toArray, List.size_toArray]; exact hsz)) ⟨ho, ho2, ?_⟩
    rw [e]
    exact h2 hw

/-! ### t[a:b], not the whole -/
noncomputable def sIx (n d : Nat) : Option Int → Nat
  | none => d
  | some v => if v < 0 then (v + (n : Int)).toNat else min v.toNat n
theorem sIx_le (n d : Nat) (hd : d ≤ n) (o : Option Int) : sIx n d o ≤ n := by
  cases o with
  | none => exact hd
  | some v =>
    show (if v < 0 then (v + (n : Int)).toNat else min v.toNat n) ≤ n
    by_cases hv : v < 0
    · rw [if_pos hv]; omega
    · rw [if_neg hv]; exact Nat.min_le_right _ _
theorem clip_eq (v : Int) (n d : Nat) : (if v < 0 then max (v + (n : Int)) 0 else min v (n : Int)) = ((sIx n d (some v) : Nat) : Int) := by
  show (if v < 0 then max (v + (n : Int)) 0 else min v (n : Int)) = (((if v < 0 then (v + (n : Int)).toNat else min v.toNat n) : Nat) : Int)
  by_cases hv : v < 0
  · simp only [if_pos hv]; omega
  · simp only [if_neg hv]; omega
theorem adjust_gen (lo hi : Option Int) (n : Nat) : Builtin.Slice.sliceAdjust lo hi 1 (n : Int) = (((sIx n 0 lo : Nat) : Int), ((sIx n n hi : Nat) : Int)) := by
  have h1 : ¬ ((1 : Int) < 0) := by omega
  unfold Builtin.Slice.sliceAdjust
  simp only [h1, if_false]
  refine Prod.ext ?_ ?_
  · cases lo with
    | none => rfl
    | some v => exact clip_eq v n 0
  · cases hi with
    | none => rfl
    | some v => exact clip_eq v n n
theorem places_gen (i j : Nat) : Builtin.Slice.slicePlaces (i : Int) (j : Int) 1 = j - i := by
  unfold Builtin.Slice.slicePlaces
  have h1 : (1 : Int) > 0 := by omega
  simp only [h1, if_true, Int.ediv_one]
  split <;> omega
theorem slicePart_ {v : Value} {o : Option Int} {Q : Option Int → Shared → Prop} (p : IsPart v o) (h : Q o s) : wpAny (model prog w) A (Builtin.Slice.slicePartIndex v) Q E s := by
  cases p with
  | none => exact slicePart_none h
  | int i t => exact slicePart_int h
theorem sliceApplied_gen {sl : Addr} {vl vu : Value} {lo hi : Option Int} {n : Nat} {Q : Int × Int × Nat → Shared → Prop} (hs : s.heap.IsSliceOf sl vl vu .none) (pl : IsPart vl lo) (pu : IsPart vu hi)
    (h : Q (((sIx n 0 lo : Nat) : Int), 1, sIx n n hi - sIx n 0 lo) s) : wpAny (model prog w) A (Builtin.Slice.sliceApplied (.ref sl) (pure (n : Int))) Q E s := by
  obtain ⟨os, hos, hcs, hds⟩ := id hs
  unfold Builtin.Slice.sliceApplied Builtin.Slice.sliceFields
  refine wpAny_bind (wpAny_bind (wpAny_field hos hds (x := vl) rfl (wpAny_bind (wpAny_field hos hds (x := vu) rfl (wpAny_bind (wpAny_field hos hds (x := .none) rfl (wpAny_pure ?_)))))))
  refine wpAny_bind (slicePart_none ?_)
  show wpAny _ _ (if ((1 : Int) == 0) = true then _ else _) _ _ s
  rw [if_neg (by decide)]
  refine wpAny_bind (slicePart_ pl (wpAny_bind (slicePart_ pu (wpAny_bind (wpAny_pure ?_)))))
  show wpAny _ _ (match Builtin.Slice.sliceAdjust lo hi 1 (n : Int) with | (lo, hi) => pure (lo, (1 : Int), Builtin.Slice.slicePlaces lo hi 1)) _ _ s
  rw [adjust_gen lo hi n]
  show wpAny _ _ (pure (((sIx n 0 lo : Nat) : Int), (1 : Int), Builtin.Slice.slicePlaces ((sIx n 0 lo : Nat) : Int) ((sIx n n hi : Nat) : Int) 1)) _ _ s
  rw [places_gen]
  exact wpAny_pure h
theorem pick_gen (xs : Array Value) (i k : Nat) : ((List.range k).filterMap fun (m : Nat) => xs[((i : Int) + (m : Int) * 1).toNat]?).toArray = ((xs.toList.drop i).take k).toArray := by
  have e : (fun (m : Nat) => xs[((i : Int) + (m : Int) * 1).toNat]?) = fun m => xs[i + m]? := by
    funext m
    have : ((i : Int) + (m : Int) * 1).toNat = i + m := by omega
    rw [this]
  rw [e]
  have := pick_run xs i k
  rw [List.filterMap_map] at this
  have e2 : ((fun x => xs[x]?) ∘ fun x => i + x) = fun m => xs[i + m]? := rfl
  rw [e2] at this
  rw [this]

theorem getItem_tuple_cut {t sl : Addr} {items : Array Value} {vl vu : Value} {lo hi : Option Int} {Q : Value → Shared → Prop} (ht : IsTup s.heap t items) (hs : s.heap.IsSliceOf sl vl vu .none) (pl : IsPart vl lo) (pu : IsPart vu hi)
    (hw : ¬ (sIx items.size 0 lo = 0 ∧ sIx items.size items.size hi = items.size))
    (h : Q (.ref s.heap.objs.size) { s with heap := s.heap.push { cls := .type "tuple", data := .seq ((items.toList.drop (sIx items.size 0 lo)).take (sIx items.size items.size hi - sIx items.size 0 lo)).toArray } })
    (hsz : items.size ≤ sizeLine) : wpAny (model prog w) A (getItem (.ref t) (.ref sl)) Q E s := by
  have htake : sizeOk (.seq ((items.toList.drop (sIx items.size 0 lo)).take (sIx items.size items.size hi - sIx items.size 0 lo)).toArray) := by
    show ((items.toList.drop (sIx items.size 0 lo)).take (sIx items.size items.size hi - sIx items.size 0 lo)).toArray.size ≤ sizeLine
    rw [List.size_toArray, List.length_take, List.length_drop, Array.length_toList]
    omega
  have hj : sIx items.size items.size hi ≤ items.size := sIx_le _ _ (Nat.le_refl _) hi
  obtain ⟨os, hos, hcs, hds⟩ := id hs
  have hTs : s.TypeIs (.ref sl) "slice" := ⟨os, hos, hcs⟩
  unfold getItem
  try with_reducible refine wpAny_holding ?_
  first | refine wpAny_bind (wpAny_pure ?_) | skip
  refine wpAny_bind (wpAny_sequenceKey ht.typeIs (by decide) ?_)
  refine wpAny_bind (wpAny_callSpecial?_slot (name := Str.ofString "__getitem__") ht.typeIs PyProof.Rows.slot_tuple_getitem
    (wpAny_call_entry PyProof.Rows.slot_tuple_getitem ht.typeIs entry_tuple_getitem ?_ (args_tuple_getitem _ _)))
  show wpAny _ _ (Builtin.Tuple.tupleItemsOf (.ref t) >>= _) _ _ s
  refine wpAny_bind (tupleItemsOf_ ht ?_)
  refine wpAny_bind (wpAny_typeOf hTs ?_)
  rw [if_pos (by decide)]
  refine wpAny_bind (sliceApplied_gen hs pl pu ?_)
  have hno : ¬ ((((sIx items.size 0 lo : Nat) : Int) == 0 && (1 : Int) == 1 && (sIx items.size items.size hi - sIx items.size 0 lo) == items.size) = true) := by
    intro q
    rw [Bool.and_eq_true, Bool.and_eq_true] at q
    have q1 : ((sIx items.size 0 lo : Nat) : Int) = 0 := eq_of_beq q.1.1
    have q2 : sIx items.size items.size hi - sIx items.size 0 lo = items.size := eq_of_beq q.2
    exact hw ⟨by omega, by omega⟩
  show wpAny _ _ (if (((sIx items.size 0 lo : Nat) : Int) == 0 && (1 : Int) == 1 && (sIx items.size items.size hi - sIx items.size 0 lo) == items.size) = true then _ else _) _ _ s
  rw [if_neg hno, pick_gen]
  first
    | exact wpAny_bind (m := Builtin.Tuple.tupleExact _) (wpAny_newObj_type (wpAny_pure ⟨_, rfl, wpAny_pure h⟩) htake)
    | exact wpAny_bind (m := Builtin.Tuple.tupleExact _) (wpAny_newObj_type (wpAny_bind (wpAny_pure (wpAny_pure ⟨_, rfl, wpAny_pure h⟩))) htake)
    | exact wpAny_bind (wpAny_bind (m := Builtin.Tuple.tupleExact _) (wpAny_newObj_type (wpAny_pure (wpAny_pure ⟨_, rfl, wpAny_pure h⟩)) htake))
    | exact wpAny_bind (wpAny_bind (m := Builtin.Tuple.tupleExact _) (wpAny_newObj_type (wpAny_pure ⟨_, rfl, wpAny_pure h⟩) htake))
end
end HT

namespace L2
open PySem PySem.Spec PyProof.Rows

/-! ### the parts of a slice -/
noncomputable abbrev TO := St → Hp → (Option Int → Hp → Prop) → Prop
noncomputable def PO (X : Cx) (e : Option Expr) (t : TO) : Prop :=
  ∀ (pins : List (Addr × Obj)) (s : Shared) (σ : St) (H : Hp) (Q : Option Int → Hp → Prop), Inv X pins σ H s → t σ H Q →
    wpAny (model X.prog X.w) X.A (evalPart e X.env) (fun u s' => ∃ o H', Inv X pins σ H' s' ∧ IsPart u o ∧ Q o H') X.xe s
noncomputable def tNoPart : TO := fun _ H Q => Q none H
noncomputable def tPart (t : TE) : TO := fun σ H Q => t σ H fun x H1 => ∃ i, x = .int i ∧ Q (some i) H1

theorem intsAre_of {ns : List Int} : ∀ {us : List Value}, Vals (ns.map V.int) us → IntsAre us ns := by
  induction ns with
  | nil => intro us r; rw [List.map_nil] at r; cases r; exact .nil
  | cons n ns ih =>
    intro us r
    rw [List.map_cons] at r
    cases r with
    | cons r1 r2 =>
      obtain ⟨t, e⟩ := r1
      subst e
      exact .cons n t (ih r2)

section
variable {X : Cx} {e : Expr} {te : TE} {lo hi : Option Expr} {tl th : TO} {pos p2 : Pos}

theorem po_none : PO X none tNoPart := by
  intro pins s σ H Q I h
  rw [evalPart_none]
  exact wpAny_pure ⟨none, H, I, .none, h⟩
theorem po_some (h : PE X e te) : PO X (some e) (tPart te) := by
  intro pins s σ H Q I hw
  rw [evalPart_some]
  refine thn (h pins s σ H _ I hw) fun u s1 ⟨x, H1, I1, r1, q1⟩ => ?_
  obtain ⟨i, rfl, q⟩ := q1
  obtain ⟨t, rfl⟩ := r1
  exact ⟨some i, H1, I1, .int i t, q⟩

noncomputable def SlR (X : Cx) (r : V → Option Int → Option Int → Hp → VK → Prop) : Prop :=
  ∀ (pins : List (Addr × Obj)) (s : Shared) (σ : St) (H : Hp) (x : V) (v vl vu : Value) (lo hi : Option Int) (sl : Addr) (Q : VK), Inv X pins σ H s → RelV x v → s.heap.IsSliceOf sl vl vu .none → IsPart vl lo → IsPart vu hi → r x lo hi H Q →
    ∃ T id, typeLookup (.type T) "__getitem__" = pure (some (.builtin id)) ∧ s.TypeIs v T ∧ wpAny (model X.prog X.w) X.A (getItem v (.ref sl)) (EP X pins σ Q) X.xe s
theorem SlR.or {r r' : V → Option Int → Option Int → Hp → VK → Prop} (h : SlR X r) (h' : SlR X r') : SlR X (fun x lo hi H Q => r x lo hi H Q ∨ r' x lo hi H Q) := by
  intro pins s σ H x v vl vu lo hi sl Q I rx hs pl pu q
  rcases q with q | q
  · exact h pins s σ H x v vl vu lo hi sl Q I rx hs pl pu q
  · exact h' pins s σ H x v vl vu lo hi sl Q I rx hs pl pu q
noncomputable def tSl (r : V → Option Int → Option Int → Hp → VK → Prop) (te : TE) (tl th : TO) : TE := fun σ H Q => te σ H fun x H1 => tl σ H1 fun l H2 => th σ H2 fun u H3 => r x l u H3 Q
theorem pe_slice {r : V → Option Int → Option Int → Hp → VK → Prop} (hr : SlR X r) (he : PE X e te) (hl : PO X lo tl) (hu : PO X hi th) : PE X (.Subscript e (.Slice lo hi none p2) pos) (tSl r te tl th) := by
  intro pins s σ H Q I h
  refine Subscript_ (thn (he pins s σ H _ I h) fun v s1 ⟨x, H1, I1, r1, q1⟩ => ?_)
  refine wpAny_Slice (thn (hl pins s1 σ H1 _ I1 q1) fun vl s2 ⟨l, H2, I2, pl, q2⟩ => thn (hu pins s2 σ H2 _ I2 q2) fun vu s3 ⟨u, H3, I3, pu, q3⟩ => ?_)
  rw [evalPart_none]
  refine wpAny_pure ?_
  have I4 : Inv X pins σ H3 { s3 with heap := s3.heap.push { cls := .type "slice", data := .fields #[vl, vu, .none] } } := I3.kept (t' := s3.toks) fun b ob q => Heap.get?_push_of_some _ q
  obtain ⟨T, id, hT, ht, hg⟩ := hr pins { s3 with heap := s3.heap.push { cls := .type "slice", data := .fields #[vl, vu, .none] } } σ H3 x v vl vu l u s3.heap.objs.size Q I4 r1 (Heap.IsSliceOf.new ..) pl pu q3
  show wpAny (model X.prog X.w) X.A (subscriptTail e (.Slice lo hi none p2) v (.ref s3.heap.objs.size)) (EP X pins σ Q) X.xe { s3 with heap := s3.heap.push { cls := .type "slice", data := .fields #[vl, vu, .none] } }
  exact tail_any (ops := [.ref s3.heap.objs.size, v]) ht hT hg (by with_unfolding_all rfl)

noncomputable def cutV (xs : List V) (lo hi : Option Int) : List V := (xs.drop (HT.sIx xs.length 0 lo)).take (HT.sIx xs.length xs.length hi - HT.sIx xs.length 0 lo)
theorem cutV_length (xs : List V) (lo hi : Option Int) : (cutV xs lo hi).length ≤ xs.length := by
  unfold cutV
  rw [List.length_take, List.length_drop]
  omega
noncomputable def rSlT (K : PySem.W.Frag) : V → Option Int → Option Int → Hp → VK → Prop := fun x lo hi H Q => ∃ a xs, x = .ref a ∧ SqT K H a xs ∧
  ¬ (HT.sIx xs.length 0 lo = 0 ∧ HT.sIx xs.length xs.length hi = xs.length) ∧ ∀ p, H p = none → Q (.ref p) (upd H p (.tup (cutV xs lo hi)))
theorem sl_tup : SlR X (rSlT X.K) := by
  intro pins s σ H x v vl vu lo hi sl Q I rx hs pl pu h
  obtain ⟨a, xs, rfl, hx, hw, q⟩ := h
  cases rx
  obtain ⟨its, r, ht, hz⟩ := I.tuple hx
  have hlen : its.toArray.size = xs.length := by rw [List.size_toArray]; exact r.length.symm
  refine ⟨"tuple", _, PyProof.Rows.slot_tuple_getitem.lookup, ht.typeIs, ?_⟩
  refine HT.getItem_tuple_cut ht hs pl pu (by rw [hlen]; exact hw) ?_ (by rw [hlen]; exact hz)
  rw [hlen]
  refine ⟨.ref s.heap.objs.size, _, I.laid (t' := s.toks) (o := .tup (cutV xs lo hi)) (fun b ob q => Heap.get?_push_of_some _ q) (Nat.le_refl _) ?_, rfl, q _ (I.hok.fresh (Nat.le_refl _))⟩
  exact ⟨Nat.le_trans (cutV_length xs lo hi) hz, _, (r.drop (HT.sIx xs.length 0 lo)).take (HT.sIx xs.length xs.length hi - HT.sIx xs.length 0 lo), IsTupD.new _ _⟩

/-! ### t < u, t + u -/
noncomputable def rCatT (K : PySem.W.Frag) : R2 := fun x y H Q => ∃ a b xs ys, x = .ref a ∧ y = .ref b ∧ SqT K H a xs ∧ SqT K H b ys ∧ xs ≠ [] ∧ xs.length + ys.length ≤ sizeLine ∧
  (ys = [] → Q (.ref a) H) ∧ (ys ≠ [] → ∀ p, H p = none → Q (.ref p) (upd H p (.tup (xs ++ ys))))
theorem Vals.nil_iff {xs : List V} {us : List Value} (r : Vals xs us) : us = [] ↔ xs = [] := by
  cases r with
  | nil => simp
  | cons _ _ => simp
theorem op_catT : OpR X (binaryOp .Add) (rCatT X.K) := by
  intro pins s σ H x y v u Q I rx ry h
  obtain ⟨a, b, xs, ys, rfl, rfl, ha, hb, hx, hz, q1, q2⟩ := h
  cases rx
  cases ry
  obtain ⟨its, r1, p1, _⟩ := I.tuple ha
  obtain ⟨its2, r2, p2, _⟩ := I.tuple hb
  refine HT.cat_tup p1 p2 (fun z => hx (r1.nil_iff.mp z)) (fun z => ⟨.ref a, H, I, rfl, q1 (r2.nil_iff.mp z)⟩) (fun z => ?_) (by rw [← r1.length, ← r2.length]; exact hz)
  refine ⟨.ref s.heap.objs.size, _, I.laid (t' := s.toks) (o := .tup (xs ++ ys)) (fun b ob q => Heap.get?_push_of_some _ q) (Nat.le_refl _) ?_, rfl, q2 (fun w => z (r2.nil_iff.mpr w)) _ (I.hok.fresh (Nat.le_refl _))⟩
  exact ⟨by rw [List.length_append]; exact hz, _, r1.append r2, IsTupD.new _ _⟩
end
end L2

namespace L2
open PySem PySem.Spec PyProof.Rows

/-! ### places -/
noncomputable def ixN (n : Nat) (i : Int) : Option Nat := if 0 ≤ i then (if i < n then some i.toNat else none) else if -(n : Int) ≤ i then some (i + n).toNat else none
noncomputable def atI {α : Type} (xs : List α) (i : Int) : Option α := (ixN xs.length i).bind fun j => xs[j]?
theorem ixN_seq {n : Nat} {i : Int} {j : Nat} (h : ixN n i = some j) : seqIndex? i n = some j ∧ j < n ∧ -(n : Int) ≤ i ∧ i < n := by
  unfold ixN at h
  by_cases h0 : 0 ≤ i
  · rw [if_pos h0] at h
    by_cases h1 : i < n
    · rw [if_pos h1] at h
      have e : i.toNat = j := Option.some.inj h
      exact ⟨by rw [seqIndex_of h0 h1, e], by omega, by omega, h1⟩
    · rw [if_neg h1] at h; cases h
  · rw [if_neg h0] at h
    by_cases h1 : -(n : Int) ≤ i
    · rw [if_pos h1] at h
      have e : (i + n).toNat = j := Option.some.inj h
      exact ⟨by rw [seqIndex_neg (by omega) h1, e], by omega, h1, by omega⟩
    · rw [if_neg h1] at h; cases h
theorem atI_get {α : Type} {xs : List α} {i : Int} {v : α} (h : atI xs i = some v) : ∃ j, seqIndex? i xs.length = some j ∧ xs[j]? = some v ∧ j < xs.length ∧ -(xs.length : Int) ≤ i ∧ i < xs.length := by
  unfold atI at h
  cases e : ixN xs.length i with
  | none => rw [e] at h; cases h
  | some j =>
    rw [e] at h
    obtain ⟨h1, h2, h3, h4⟩ := ixN_seq e
    exact ⟨j, h1, h, h2, h3, h4⟩
theorem atI_nat {α : Type} {xs : List α} {j : Nat} {v : α} (h : xs[j]? = some v) : atI xs (j : Int) = some v := by
  have hj : j < xs.length := (List.getElem?_eq_some_iff.mp h).1
  have e : ixN xs.length (j : Int) = some j := by
    unfold ixN
    rw [if_pos (by omega), if_pos (by omega)]; simp
  unfold atI; rw [e]; exact h
/-! ### what may be subscripted -/
noncomputable def PlainIx (b : Expr) : Prop := ∀ o i, subscripted b false o i = operate [o, i] (getItem o i)
noncomputable def IxR (X : Cx) (r : R2) : Prop :=
  ∀ (value slice : Expr) (pins : List (Addr × Obj)) (s : Shared) (σ : St) (H : Hp) (x y : V) (v u : Value) (Q : VK), Inv X pins σ H s → RelV x v → RelV y u → r x y H Q →
    subscripted slice false v u = operate [v, u] (getItem v u) → wpAny (model X.prog X.w) X.A (subscriptTail value slice v u) (EP X pins σ Q) X.xe s
noncomputable def MtR (X : Cx) (id : String) (r : V → List V → Hp → VK → Prop) : Prop :=
  ∀ (pins : List (Addr × Obj)) (s : Shared) (σ : St) (H : Hp) (x : V) (xs : List V) (v : Value) (us : List Value) (Q : VK), Inv X pins σ H s → RelV x v → Vals xs us → r x xs H Q →
    wpAny (model X.prog X.w) X.A (call (.builtin id) (v :: us)) (EP X pins σ Q) X.xe s
section
variable {X : Cx} {a b : Expr} {ta tb : TE} {pos : Pos}
theorem IxR.or {r r' : R2} (h : IxR X r) (h' : IxR X r') : IxR X (fun x y H Q => r x y H Q ∨ r' x y H Q) := by
  intro value slice pins s σ H x y v u Q I rx ry q hs
  rcases q with q | q
  · exact h value slice pins s σ H x y v u Q I rx ry q hs
  · exact h' value slice pins s σ H x y v u Q I rx ry q hs
theorem MtR.or {id : String} {r r' : V → List V → Hp → VK → Prop} (h : MtR X id r) (h' : MtR X id r') : MtR X id (fun x xs H Q => r x xs H Q ∨ r' x xs H Q) := by
  intro pins s σ H x xs v us Q I rx rs q
  rcases q with q | q
  · exact h pins s σ H x xs v us Q I rx rs q
  · exact h' pins s σ H x xs v us Q I rx rs q
theorem pe_ix {r : R2} (hr : IxR X r) (ha : PE X a ta) (hb : PE X b tb) (hs : PlainIx b) : PE X (.Subscript a b pos) (tOp r ta tb) := by
  intro pins s σ H Q I h
  exact Subscript_ (binT ha hb I h fun v u s2 x y H2 I2 rx ry q => hr a b pins s2 σ H2 x y v u Q I2 rx ry q (hs _ _))

noncomputable def rIxL (K : PySem.W.Frag) : R2 := fun x y H Q => ∃ p xs i v, x = .ref p ∧ y = .int i ∧ SqL K H p xs ∧ atI xs i = some v ∧ Q v H
noncomputable def rIxT (K : PySem.W.Frag) : R2 := fun x y H Q => ∃ p xs i v, x = .ref p ∧ y = .int i ∧ SqT K H p xs ∧ atI xs i = some v ∧ Q v H
theorem ix_list : IxR X (rIxL X.K) := by
  intro value slice pins s σ H x y v u Q I rx ry h hs
  obtain ⟨p, xs, i, z, rfl, rfl, hq, he, q⟩ := h
  cases rx
  obtain ⟨t, rfl⟩ := ry
  obtain ⟨its, r, pl, hz⟩ := I.list hq
  obtain ⟨j, h1, h2, h3, h4, h5⟩ := atI_get he
  obtain ⟨w, ew, rw'⟩ := r.get h2
  have hl := r.length
  have hn := line63
  have fin : EP X pins σ Q w s := ⟨z, H, I, rw', q⟩
  by_cases h0 : 0 ≤ i
  · have hj : i.toNat = j := by
      rw [seqIndex_of h0 h5] at h1
      exact Option.some.inj h1
    exact item_listR pl.isList h0 (by omega) (by rw [hj]; simpa using ew) fin hs
  · have hj : (i + (its.toArray.size : Int)).toNat = j := by
      rw [seqIndex_neg (by omega) h4] at h1
      rw [List.size_toArray, ← hl]
      exact Option.some.inj h1
    exact subscriptTail_builtinR (x := w) pl.isList.typeIs slot_list_getitem.lookup
      (wpAny_getItem_list_neg (Q := fun r s' => r = w ∧ EP X pins σ Q r s') pl.isList (by omega) (by rw [List.size_toArray] <;> omega) (by omega) (by rw [hj]; simpa using ew) ⟨rfl, fin⟩) hs
theorem ix_tup : IxR X (rIxT X.K) := by
  intro value slice pins s σ H x y v u Q I rx ry h hs
  obtain ⟨p, xs, i, z, rfl, rfl, hq, he, q⟩ := h
  cases rx
  obtain ⟨t, rfl⟩ := ry
  obtain ⟨its, r, pl, hz⟩ := I.tuple hq
  obtain ⟨j, h1, h2, h3, h4, h5⟩ := atI_get he
  obtain ⟨w, ew, rw'⟩ := r.get h2
  have hl := r.length
  have hn := line63
  have fin : EP X pins σ Q w s := ⟨z, H, I, rw', q⟩
  exact subscriptTail_builtinR (x := w) pl.typeIs slot_tuple_getitem.lookup
    (getItem_tuple (j := j) (Q := fun r s' => r = w ∧ EP X pins σ Q r s') pl (by omega) (by omega) (by rw [List.size_toArray, ← hl]; exact h1) (by simpa using ew) ⟨rfl, fin⟩) hs
/-! ### xs[i] = v, any sign -/
theorem Inv.lst {pins : List (Addr × Obj)} {σ : St} {H : Hp} {s : Shared} {p : Addr} {xs : List V} (I : Inv X pins σ H s) (h : H p = some (.lst xs)) :
    ∃ (its : List Value) (n : Nat), Vals xs its ∧ s.heap.get? p = some { cls := .type "list", data := .seq its.toArray n } ∧ xs.length ≤ sizeLine := by
  obtain ⟨z, its, n, r, e⟩ := I.hok p _ h
  exact ⟨its, n, r, e, z⟩
/-! ### slices -/
/-! ### in, not in: flat items -/
noncomputable def flatV : V → Bool
  | .non => true
  | .bl _ => true
  | .int _ => true
  | .str _ => true
  | _ => false
noncomputable def eqV : V → V → Bool
  | .non, .non => true
  | .bl a, .bl b => a == b
  | .bl a, .int b => (if a then 1 else 0) == b
  | .int a, .bl b => a == (if b then 1 else 0)
  | .int a, .int b => a == b
  | .str a, .str b => a == b
  | _, _ => false
theorem eqAt_V {A : Around} {s : Shared} {y x : V} {u v : Value} (ry : RelV y u) (rx : RelV x v) (fy : flatV y = true) (fx : flatV x = true) : SeqAt.EqAt A s u v (eqV y x) := by
  cases y with
  | non =>
    cases ry
    cases x with
    | non => cases rx; exact SeqAt.EqAt.same _
    | bl b => cases rx; exact SeqAt.EqAt.none_bool b
    | int b => obtain ⟨t, rfl⟩ := rx; exact SeqAt.EqAt.none_int b t
    | str b => obtain ⟨t, rfl⟩ := rx; exact SeqAt.EqAt.none_str b t
    | _ => exact absurd (show false = true from fx) Bool.false_ne_true
  | bl a =>
    cases ry
    cases x with
    | non => cases rx; exact SeqAt.EqAt.bool_none a
    | bl b => cases rx; exact SeqAt.EqAt.bool_bool a b
    | int b => obtain ⟨t, rfl⟩ := rx; exact SeqAt.EqAt.bool_int a b t
    | str b => obtain ⟨t, rfl⟩ := rx; exact SeqAt.EqAt.bool_str a b t
    | _ => exact absurd (show false = true from fx) Bool.false_ne_true
  | int a =>
    obtain ⟨t', rfl⟩ := ry
    cases x with
    | non => cases rx; exact SeqAt.EqAt.int_none a t'
    | bl b => cases rx; exact SeqAt.EqAt.int_bool a t' b
    | int b => obtain ⟨t, rfl⟩ := rx; exact SeqAt.EqAt.int_int a t' b t
    | str b => obtain ⟨t, rfl⟩ := rx; exact SeqAt.EqAt.int_str a t' b t
    | _ => exact absurd (show false = true from fx) Bool.false_ne_true
  | str a =>
    obtain ⟨t', rfl⟩ := ry
    cases x with
    | non => cases rx; exact SeqAt.EqAt.str_none a t'
    | bl b => cases rx; exact SeqAt.EqAt.str_bool a t' b
    | int b => obtain ⟨t, rfl⟩ := rx; exact SeqAt.EqAt.str_int a t' b t
    | str b => obtain ⟨t, rfl⟩ := rx; exact SeqAt.EqAt.str_str a t' b t
    | _ => exact absurd (show false = true from fx) Bool.false_ne_true
  | _ => exact absurd (show false = true from fy) Bool.false_ne_true
/-! ### len, list(x), tuple(x) of any list or tuple that is read -/
theorem call_len_seq : CallR X (.builtin "len") (fun xs H Q => ∃ p ys, xs = [.ref p] ∧ (SqL X.K H p ys ∨ SqT X.K H p ys) ∧ Q (.int ys.length) H) := by
  intro pins s σ H xs us Q I r h
  obtain ⟨p, ys, rfl, hq, q⟩ := h
  obtain ⟨u, rfl, rx⟩ := vals1 r
  cases rx
  have hn := line63
  rcases hq with hq | hq
  · obtain ⟨its, r', pl, hz⟩ := I.list hq
    have hlen := r'.length
    exact Calls.call_len_list pl.isList (by simp only [List.size_toArray] <;> omega) ⟨.int ys.length, H, I.tok _, ⟨s.toks + 1, by rw [List.size_toArray, hlen]⟩, q⟩
  · obtain ⟨its, r', pl, hz⟩ := I.tuple hq
    have hlen := r'.length
    exact len_tuple pl (by simp only [List.size_toArray] <;> omega) ⟨.int ys.length, H, I.tok _, ⟨s.toks + 1, by rw [List.size_toArray, hlen]⟩, q⟩
theorem CallR.or {f : Value} {r r' : List V → Hp → VK → Prop} (h : CallR X f r) (h' : CallR X f r') : CallR X f (fun xs H Q => r xs H Q ∨ r' xs H Q) := by
  intro pins s σ H xs us Q I rs q
  rcases q with q | q
  · exact h pins s σ H xs us Q I rs q
  · exact h' pins s σ H xs us Q I rs q
/-! ### the call of a builtin's method: o.m(..) -/
noncomputable def tyV (K : PySem.W.Frag) (T : String) (x : V) (H : Hp) : Prop := match x with
  | .str _ => T = "str"
  | .int _ => T = "int"
  | .ref p => (T = "list" ∧ ∃ xs, SqL K H p xs) ∨ (T = "tuple" ∧ ∃ o, K.lookup p = some o ∧ o.cls = .type "tuple" ∧ o.dict = none) ∨
      (T = "dict" ∧ ((∃ kvs, H p = some (.dK kvs)) ∨ ∃ kvs, H p = some (.dT kvs))) ∨ (T = "set" ∧ ∃ S n, H p = some (.set S n))
  | _ => False
theorem tyV_is {pins : List (Addr × Obj)} {σ : St} {H : Hp} {s : Shared} {T : String} {x : V} {v : Value} (I : Inv X pins σ H s) (r : RelV x v) (ty : tyV X.K T x H) :
    s.TypeIs v T ∧ ∀ a, v = .ref a → ∃ ob, s.heap.get? a = some ob ∧ ob.dict = none := by
  cases x with
  | str z =>
    obtain ⟨t, rfl⟩ := r
    cases (show T = "str" from ty)
    exact ⟨typeIs_str s z t, fun _ e => nomatch e⟩
  | int i =>
    obtain ⟨t, rfl⟩ := r
    cases (show T = "int" from ty)
    exact ⟨typeIs_int s i t, fun _ e => nomatch e⟩
  | ref p =>
    cases r
    rcases ty with ⟨rfl, xs, hq⟩ | ⟨rfl, o, hk, hc, hd⟩ | ⟨rfl, hk⟩ | ⟨rfl, S, n, hk⟩
    · obtain ⟨its, _, pl, _⟩ := I.list hq
      refine ⟨pl.isList.typeIs, fun a e => ?_⟩
      cases e
      obtain ⟨o, n, e, c, hd, _⟩ := pl
      exact ⟨o, e, hd⟩
    · refine ⟨⟨o, I.kIn p o hk, hc⟩, fun a e => ?_⟩
      cases e
      exact ⟨o, I.kIn _ o hk, hd⟩
    · have z : ∃ o, s.heap.get? p = some o ∧ o.ExactDict := by
        rcases hk with ⟨kvs, hk⟩ | ⟨kvs, hk⟩
        · obtain ⟨_, _, _, _, o, _, _, e, ex, _⟩ := I.hok p _ hk
          exact ⟨o, e, ex⟩
        · obtain ⟨_, _, _, _, o, _, _, e, ex, _⟩ := I.hok p _ hk
          exact ⟨o, e, ex⟩
      obtain ⟨o, e, ex⟩ := z
      refine ⟨⟨o, e, ex.1⟩, fun a e2 => ?_⟩
      cases e2
      exact ⟨o, e, ex.2.1⟩
    · obtain ⟨o, _, _, _, e, ex, _⟩ := I.hok p _ hk
      refine ⟨⟨o, e, ex.1⟩, fun a e2 => ?_⟩
      cases e2
      exact ⟨o, e, ex.2.1⟩
  | _ => exact False.elim ty
noncomputable def tBM0 (K : PySem.W.Frag) (T : String) (r : V → List V → Hp → VK → Prop) (to : TE) : TE := fun σ H Q => to σ H fun x H1 => tyV K T x H1 ∧ r x [] H1 Q
noncomputable def tBM (K : PySem.W.Frag) (T : String) (r : V → List V → Hp → VK → Prop) (to : TE) (t : TA) : TE := fun σ H Q => to σ H fun x H1 => tyV K T x H1 ∧ t σ H1 fun xs H2 => r x xs H2 Q
variable {o e : Expr} {es : List Expr} {to : TE} {t : TA} {name : Str} {apos cpos : Pos} {T id : String} {r : V → List V → Hp → VK → Prop}
theorem pe_bm (pa : PlainAttrs T) (slot : Slot T name id) (hty : typeOf (.builtin id) = pure (.type "method_descriptor")) (hm : MtR X id r) (ho : PE X o to) (ha : PA X (e :: es) t)
    (hbase : attributeBase o name X.env (eval o X.env) = eval o X.env := by rfl)
    (hfew : ((backTo cpos (starEach (e :: es) X.env)).all (fun x => !x.1) && (backToKw cpos (keywordEach [] X.env)).all (fun x => x.1.isSome)
      && decide ((e :: es).length + ([] : List Keyword).length + (if ([] : List Keyword).isEmpty then 0 else 1) < 30)) = true := by rfl)
    (hline : (apos.endLine == cpos.line) = true := by rfl) (hs : starEach (e :: es) X.env = (false, eval e X.env) :: starEach es X.env := by rfl) (hplain : (backTo cpos (starEach es X.env)).any (·.1) = false := by rfl) :
    PE X (.Call (.Attribute o name apos) (e :: es) [] cpos) (tBM X.K T r to t) := by
  intro pins s σ H Q I h
  refine wpAny_Call_method_late hbase hfew hline rfl (thn (ho pins s σ H _ I h) fun v s1 ⟨x, H1, I1, r1, ty, q1⟩ => ?_)
  obtain ⟨h1, h2⟩ := tyV_is I1 r1 ty
  refine ⟨T, id, pa, slot, hty, h1, h2, ?_⟩
  have hA := ha cpos pins s1 σ H1 _ I1 q1
  rw [hs] at hA ⊢
  refine Calls.callWith_builtin (by show (false || (backTo cpos (starEach es X.env)).any (·.1)) = false; rw [hplain] <;> rfl) (Calls.evalArgs_plain ?_)
  exact thn hA fun us s2 ⟨vs, H2, I2, r2, q2⟩ => hm pins s2 σ H2 x vs v us Q I2 r1 r2 q2
/- xs.append(e), list.index on a module's tuple .. are MtR facts of 06m -/
end
end L2

namespace L2
open PySem PySem.Spec PyProof.Rows

noncomputable def MtM (X : Cx) (id : String) (r : V → List V → Hp → VK → Prop) : Prop :=
  ∀ (pins : List (Addr × Obj)) (s : Shared) (σ : St) (H : Hp) (x : V) (xs : List V) (v : Value) (us : List Value) (Q : VK), Inv X pins σ H s → RelV x v → Vals xs us → r x xs H Q →
    wpAny (model X.prog X.w) X.A (call (.builtin id) (v :: us)) (EP X pins σ Q) X.xe s

/-! ### lists of values -/
theorem Vals.one {x : V} {us : List Value} (h : Vals [x] us) : ∃ u, us = [u] ∧ RelV x u := by
  cases h with
  | cons r t => cases t; exact ⟨_, rfl, r⟩
theorem Vals.two {x y : V} {us : List Value} (h : Vals [x, y] us) : ∃ u v, us = [u, v] ∧ RelV x u ∧ RelV y v := by
  cases h with
  | cons r t => cases t with
    | cons q z => cases z; exact ⟨_, _, rfl, r, q⟩
theorem Vals.zero : ∀ {us : List Value}, Vals [] us → us = []
  | _, .nil => rfl
theorem Vals.rep {xs : List V} {us : List Value} (h : Vals xs us) : ∀ k : Nat, Vals (List.replicate k xs).flatten (List.replicate k us).flatten
  | 0 => .nil
  | k + 1 => by
    rw [List.replicate_succ, List.replicate_succ, List.flatten_cons, List.flatten_cons]
    exact Vals.append h (Vals.rep h k)
section
variable {X : Cx} {pins : List (Addr × Obj)} {σ : St} {H : Hp} {s : Shared} {l b : Addr} {xs ys zs : List V}

/-! ### the two steps: a tracked list is rewritten, a new list is laid -/
theorem Inv.lset {its its' : List Value} {n : Nat} {f : Array Value → Array Value} {t' : Nat} (I : Inv X pins σ H s) (hH : H l = some (.lst xs))
    (e : s.heap.get? l = some { cls := .type "list", data := .seq its.toArray n }) (hf : f its.toArray = its'.toArray) (hv : Vals ys its') (hz : ys.length ≤ sizeLine) :
    Inv X pins σ (upd H l (.lst ys)) { s with heap := s.heap.update l (Obj.mapSeq f), toks := t' } := by
  have q := PySem.IsL.update e f
  rw [hf] at q
  refine I.write (x := l) (e := l) (by rw [hH]; exact trivial) (.inl rfl) (fun b' u hb hu => (Heap.get?_update_other s.heap (Obj.mapSeq f) (Ne.symm hb)).trans hu) ⟨_, q⟩ ?_
  exact ⟨hz, its', _, hv, q⟩
theorem Inv.fresh (I : Inv X pins σ H s) : H s.heap.objs.size = none := I.hok.fresh (Nat.le_refl _)
theorem Inv.lstM (I : Inv X pins σ H s) (hH : H l = some (.lst xs)) : xs.length ≤ sizeLine ∧ ∃ (its : List Value) (n : Nat), Vals xs its ∧ xs.length = its.length ∧ s.heap.get? l = some { cls := .type "list", data := .seq its.toArray n } := by
  obtain ⟨z, its, n, r, e⟩ := I.hok l _ hH
  exact ⟨z, its, n, r, r.length, e⟩

theorem notLongL {n : Nat} (h : n ≤ sizeLine) : Builtin.List.listTooLong n = false := by
  unfold Builtin.List.listTooLong
  exact decide_eq_false (by omega)
end

section
variable {X : Cx}

/-! ### methods -/
noncomputable def rAppend : V → List V → Hp → VK → Prop := fun x vs H Q => ∃ l xs y, x = .ref l ∧ vs = [y] ∧ H l = some (.lst xs) ∧ xs.length < sizeLine ∧ Q .non (upd H l (.lst (xs ++ [y])))
theorem mt_append : MtM X "list.append" rAppend := by
  intro pins s σ H x vs v us Q I rx rv h
  obtain ⟨l, xs, y, rfl, rfl, hH, hz, q⟩ := h
  cases rx
  obtain ⟨u, rfl, ru⟩ := rv.one
  obtain ⟨z, its, n, r, hl, e⟩ := I.lstM hH
  refine call_meets F.slot_list_append ⟨_, e, rfl⟩ F.entry_list_append (F.args_list_append_2 _ _) (PySem.list_append l its.toArray n u (by rw [List.size_toArray]; omega)) ⟨e, ?_⟩
  refine ⟨.non, _, I.lset (its' := its ++ [u]) hH e (by simp) (r.append (.cons ru .nil)) ?_, rfl, q⟩
  rw [List.length_append, List.length_singleton]
  omega

noncomputable def rExtend : V → List V → Hp → VK → Prop := fun x vs H Q => ∃ l b xs zs, x = .ref l ∧ vs = [.ref b] ∧ H l = some (.lst xs) ∧ H b = some (.lst zs) ∧ xs.length + zs.length ≤ sizeLine ∧ Q .non (upd H l (.lst (xs ++ zs)))
theorem mt_extend : MtM X "list.extend" rExtend := by
  intro pins s σ H x vs v us Q I rx rv h
  obtain ⟨l, b, xs, zs, rfl, rfl, hH, hB, hz, q⟩ := h
  cases rx
  obtain ⟨u, rfl, ru⟩ := rv.one
  cases ru
  obtain ⟨z, its, n, r, hl, e⟩ := I.lstM hH
  obtain ⟨z2, its2, n2, r2, hl2, e2⟩ := I.lstM hB
  have hsz : its.toArray.size + its2.toArray.size ≤ sizeLine := by rw [List.size_toArray, List.size_toArray]; omega
  have hlong : ¬ (!its.toArray.isEmpty && Builtin.List.listTooLong (its.toArray.size + its2.toArray.size)) = true := by
    rw [notLongL hsz, Bool.and_false]
    exact Bool.false_ne_true
  refine call_meets F.slot_list_extend ⟨_, e, rfl⟩ F.entry_list_extend (F.args_list_extend_2 _ _)
    (AutoSeq1.list_extend_list_list_0 l its.toArray n b its2.toArray n2 hlong (by rw [List.size_toArray]; omega) (by omega)) ⟨e, e2, ?_⟩
  refine ⟨.non, _, I.lset (its' := its ++ its2) hH e (by simp) (r.append r2) ?_, rfl, q⟩
  rw [List.length_append]
  omega

/-! ### list + list, list += list, list * int -/
/-! ### del xs[i] -/
end

/-! ### xs[a:b] = ys -/
section
variable {prog : Program} {w : World} {A : Around} {E : Value → Shared → Prop} {s : Shared}
end

section
variable {X : Cx}
end
end L2

namespace Att
open PySem PySem.W PySem.Calls PyProof.Rows

/-! ### the script -/
theorem ints_of_wellAll {P : Params} {h : Heap} : ∀ (ns : List Int) (vs : List Value), WellAll P h vs (ns.map WData.int) → IntsAre vs ns := by
  intro ns
  induction ns with
  | nil =>
    intro vs w
    rw [List.map_nil] at w
    cases w
    exact .nil
  | cons n ns ih =>
    intro vs w
    rw [List.map_cons] at w
    cases w with
    | cons a b =>
      cases a
      exact .cons _ _ (ih _ b)

theorem script_of {l : OpenLaw} {n : Nat} (hn : l.most = some n) {P : Params} {h : Heap} {args : List WData} {vals : List Value}
    (hpre : l.row.toRowW.claim.pre args = true) (hwl : WellAll P h vals args) :
    ∃ a vs ns, vals = [Value.ref a] ∧ args = [WData.list (ns.map WData.int)] ∧ h.get? a = some { cls := .type "list", data := .seq vs.toArray } ∧ IntsAre vs ns ∧ ns.length ≤ n := by
  have hsh : WShape.hasAll [] args [.list .int] = true := (pre_splitW hpre).1
  have hc : l.pre.holds [] { args := args } = true := (pre_splitW hpre).2
  obtain ⟨d, r, rfl, h1, h2⟩ := hasAllW_cons hsh
  obtain rfl := hasAllW_nil h2
  obtain ⟨xs, rfl, h3⟩ := hasW_list h1
  obtain ⟨ns, rfl⟩ := items_int h3
  have hlen : ns.length ≤ n := by
    unfold OpenLaw.pre at hc
    have h4 : (WTm.not (.lt (.lit (.int (n : Int))) (.len (.arg 0)))).holds [] { args := [.list (ns.map .int)] } = true := by
      have h4 := (holds_andW hc).1
      rw [hn] at h4
      exact h4
    have h5 := condW_of h4 (w_not (w_lt w_lit (w_len_list (w_arg rfl))))
    rw [List.length_map] at h5
    refine Nat.le_of_not_lt fun q => ?_
    have q' : (n : Int) < ((ns.length : Nat) : Int) := by omega
    first
      | (rw [decide_eq_true q'] at h5; exact absurd h5 (by decide))
      | (simp at h5; omega)
  cases hwl with
  | cons w1 w2 =>
    cases w2
    cases w1 with
    | list ho hall => exact ⟨_, _, ns, rfl, rfl, ho, ints_of_wellAll ns _ hall, hlen⟩

theorem post_true (l : OpenLaw) (args : List WData) : l.row.toRowW.claim.post args (.bool true) args = true :=
  postW_of (r := l.row.toRowW) (X := (true == true))
    (show WShape.has [] (.bool true) .bool = true by first | rfl | decide | simp [WShape.has, WShape.arms, WShape.armsAll])
    (show (WTm.eq .res (.lit (.bool true))).value [] { args := args, res := some (.bool true), after := args } = some (.bool (true == true)) from w_eq_bool (w_res rfl) w_lit) rfl

/-! ### the attachment: holds_open's last premise (the goal 'hc' behind k_head) from a wpAny of the law's body -/
theorem attach_call {l : OpenLaw} {n : Nat} {q : Program} {loose : List Str} {XP : (Str → Option Value) → Heap → Prop} {YP : World → Heap → Prop} {d : DefRec}
    (hn : l.most = some n) (hdf : d.params.defaults = [])
    (call : ∀ (w : World) (s₀ s₁ : Shared) (mg mb : Str → Option Value) (fa : Addr) (o : Obj) (pm cd doc : Value) (a : Addr) (vs : List Value) (ns : List Int),
      Ground q loose [] XP w s₀ mg mb s₁.heap → YP w s₁.heap →
      s₁.heap.get? fa = some o → o.data = .func (docDef d.name d.params d.body d.scope pm cd doc) → s₁.heap.CodeRec cd d.name → mg d.name = some (.ref fa) →
      s₁.heap.get? a = some { cls := .type "list", data := .seq vs.toArray } → IntsAre vs ns → ns.length ≤ n → s₁.gens = #[] →
      codeAny (model l.prog w) callerA (.call (.ref fa) ⟨[.ref a], []⟩) (fun r s' => r = .ok (.ret (.bool true)) ∧ OldK s₁.heap s'.heap ∧ s'.os = s₁.os ∧ AllBare s'.gens) s₁) :
    WalkO q loose XP YP l.row.toRowW d [] (fun f vs => PySem.call f vs) := by
  intro w s₀ s₁ mg mb G Y fa o pm cd doc dV kV ho hd hcd hD hmg hg args vals as hpre hlay hrd hwl hlo
  obtain rfl : dV = .none := Dflts.none hD hdf
  obtain rfl : kV = .none := Dflts.noKw hD
  obtain ⟨a, vs, ns, rfl, rfl, hobj, hints, hlen⟩ := script_of hn hpre hwl
  refine enter_call (codeAny_mono (call w s₀ s₁ mg mb fa o pm cd doc a vs ns G Y ho (fd_plain hd) hcd hmg hobj hints hlen hg) fun r s' hq => ?_)
  obtain ⟨rfl, h2, h3, h4⟩ := hq
  exact ⟨.inl ⟨.bool true, .bool true, [], rfl, fun _ => rfl, .bool true, post_true l _, fun _ => ⟨List.Pairwise.nil, fun _ hm => (nomatch hm)⟩⟩, h2, h3, h4⟩

/-! ### rules over ANY heap (no ledger) from facts about the written part K: the library's own take a ledger (News) for what they write -/
section
variable {prog : Program} {w : World} {A : Around} {E : Value → Shared → Prop} {s : Shared} {K : Frag}

/-! the whole heap as the ledger: makes every rule that writes through a ledger a rule over any heap -/
noncomputable def ledger (h : Heap) (L d : Addr) : List (Addr × Obj) := (List.range h.objs.size).filterMap fun a => if a = L ∨ a = d then none else (h.get? a).map fun o => (a, o)
end
end Att

namespace L2
open PySem PySem.Spec PyProof.Rows

theorem vals_ints : ∀ {vs : List Value} {ns : List Int}, IntsAre vs ns → Vals (ns.map V.int) vs
  | _, _, .nil => .nil
  | _, _, .cons n t h => .cons ⟨t, rfl⟩ (vals_ints h)

noncomputable def Only (H : Hp) : Prop := ∀ b, H b = none ∨ ∃ o xs, H b = some (.frz o (.lst xs))

theorem law_call {P : Program} {w : World} {K : PySem.W.Frag} {mg mb : Str → Option Value} {CX : CXT} {k : Nat} {fa a : Addr} {fd : FuncData} {x : Str} {sp : Sp} {s₁ : Shared} {vs : List Value} {ns : List Int}
    (KX : K.In s₁.heap) (hns : s₁.heap.Ns mainGlobals mg) (hb : s₁.heap.Ns builtinsNs mb) (hbb : ∀ x : Str, x ≠ "__name__" → mb x = bootBuiltins x) (hlim : s₁.heap.NoLimit) (hg : s₁.gens = #[])
    (ha : s₁.heap.get? a = some { cls := .type "list", data := .seq vs.toArray }) (hi : IntsAre vs ns) (hl : ns.length ≤ sizeLine) (hr : Room k callerA)
    (F : ∀ base : Heap, K.In base → base.Ns mainGlobals mg → FnOk P w K mg base CX k fa fd [x] sp) (hbind : ∀ (s : Shared) (u : Value), BindsTo s fd ⟨[u], []⟩ [(x, u)])
    (hsp : ∀ H : Hp, Only H → SqL K H a (ns.map V.int) → sp [.ref a] H (fun v _ => v = .bl true) fun _ _ _ => False)
    (hCX : ∀ H e s', CX [] H s₁ (fun _ _ _ => False) e s' → False) :
    codeAny (model P w) callerA (.call (.ref fa) ⟨[.ref a], []⟩) (fun r s' => r = .ok (.ret (.bool true)) ∧ OldK s₁.heap s'.heap ∧ s'.os = s₁.os ∧ AllBare s'.gens) s₁ := by
  have rv := vals_ints hi
  have lenV := hi.length
  -- from an abstract heap in which nothing but the script may be tracked
  have core : ∀ H : Hp, Only H → SqL K H a (ns.map V.int) → HOk P w H s₁.heap → (∀ b, H b ≠ none → b = a) → (H a ≠ none → K.lookup a = none) →
      codeAny (model P w) callerA (.call (.ref fa) ⟨[.ref a], []⟩) (fun r s' => r = .ok (.ret (.bool true)) ∧ OldK s₁.heap s'.heap ∧ s'.os = s₁.os ∧ AllBare s'.gens) s₁ := by
    intro H hO hS hok hA hK
    have base_of : ∀ {b : Addr} {o : Obj}, s₁.heap.get? b = some o → H b = none → (hidT s₁.heap H).get? b = some o := fun e n => hidT_get e n
    have noA : ∀ {b : Addr} {o : Obj} {es : Array DictEntry} {ep : Nat}, s₁.heap.get? b = some o → o.data = .dict es ep → H b = none := fun {b o es ep} e d => by
      cases q : H b with
      | none => rfl
      | some u =>
        have e' : b = a := hA b (by rw [q]; simp)
        subst e'
        rw [ha] at e; cases e
        have d' : Data.seq vs.toArray _ = Data.dict es ep := d
        cases d'
    have nsK : ∀ {b : Addr} {m : Str → Option Value}, s₁.heap.Ns b m → (hidT s₁.heap H).Ns b m := fun {b m} ⟨o, es, ep, e, d, r⟩ => ⟨o, es, ep, base_of e (noA e d), d, r⟩
    have hKb : K.In (hidT s₁.heap H) := fun b o e => base_of (KX b o e) (by
      cases q : H b with
      | none => rfl
      | some u =>
        have e' : b = a := hA b (by rw [q]; simp)
        subst e'
        rw [hK (by rw [q]; simp)] at e; cases e)
    have hM : Mod K mg (hidT s₁.heap H) := ⟨hKb, nsK hns, ⟨mb, nsK hb, hbb⟩, let ⟨mc, h1, h2⟩ := hlim; ⟨mc, nsK h1, h2⟩⟩
    have e0 : Env0 P w K mg (hidT s₁.heap H) callerA [] s₁ H := ⟨rfl, hM, fun b o e => of_hidT e, Nat.le_of_eq (hidT_size _ _), trivial, fun b hb => absurd (show b ∈ ([] : List Addr) from hb) (by simp), hok, .of_eq hg⟩
    refine codeAny_mono ((F _ hKb (nsK hns)).run callerA [] s₁ H ⟨[.ref a], []⟩ [.ref a] [.ref a] _ _ hr e0 (hbind s₁ (.ref a)) (.cons rfl .nil) (hsp H hO hS)) fun r s' h => ?_
    cases r with
    | error e => exact (hCX H e s' h).elim
    | ok fl =>
      cases fl with
      | next => exact False.elim h
      | brk => exact False.elim h
      | cont => exact False.elim h
      | ret u =>
        obtain ⟨v, H', os, bare, un, hok', r', q⟩ := h
        have q' : v = .bl true := q
        subst q'
        obtain rfl : u = Value.bool true := r'
        refine ⟨rfl, OldK.of_keep fun b o e => ?_, os, bare⟩
        cases q : H b with
        | none => exact un.keep b o e q (by intro z; exact absurd (show b ∈ ([] : List Addr) from z) (by simp)) (by simp)
        | some u =>
          rcases hO b with z | ⟨ob, xs, z⟩
          · rw [q] at z; cases z
          · have z2 := un.frzs b ob _ z
            obtain ⟨e1, _⟩ := hok b _ z
            obtain ⟨e2, _⟩ := hok' b _ z2
            rw [e] at e1; cases e1
            exact e2
  cases hk : K.lookup a with
  | some o =>
    -- the script is one of the module's own objects
    have e := KX a o hk
    rw [ha] at e
    cases e
    refine core (fun _ => none) (fun _ => .inl rfl) (.inr ⟨_, vs.toArray, _, hk, rfl, rfl, rfl, by rw [List.size_toArray, lenV]; exact hl, by simpa using rv⟩) (fun b u z => by have z' : (none : Option HO) = some u := z; cases z') (fun b z => absurd rfl z) fun z => absurd rfl z
  | none =>
    refine core (fun b => if b = a then some (.frz { cls := .type "list", data := .seq vs.toArray } (.lst (ns.map V.int))) else none) (fun b => ?_) (.inl (.inr ⟨{ cls := .type "list", data := .seq vs.toArray }, if_pos rfl⟩)) (fun b u z => ?_) (fun b z => ?_) fun _ => hk
    · by_cases hb : b = a
      · exact .inr ⟨_, _, if_pos hb⟩
      · exact .inl (if_neg hb)
    · by_cases hb : b = a
      · have z' := (if_pos hb).symm.trans z
        cases z'
        subst hb
        exact ⟨ha, by rw [List.length_map]; exact hl, vs, _, rv, ha⟩
      · have z' := (if_neg hb).symm.trans z
        cases z'
    · by_cases hb : b = a
      · exact hb
      · exact absurd (if_neg hb) z
end L2

namespace L2
open PySem PySem.Spec PyProof.Rows

noncomputable abbrev KOf {K : PySem.W.Frag} {h : Heap} (_ : K.In h) : PySem.W.Frag := K

theorem walk_of {l : PySem.W.OpenLaw} {n k : Nat} {q : Program} {loose : List Str} {XP : (Str → Option Value) → Heap → Prop} {YP : World → Heap → Prop} {d : DefRec} {K : Params → PySem.W.Frag} {CX : World → CXT} {sp : World → Sp} {x : Str}
    (hn : l.most = some n) (hn2 : n ≤ sizeLine) (hdf : d.params.defaults = []) (hr : Room k callerA)
    (hY : ∀ (w : World) (h : Heap), YP w h → (K w.params).In h)
    (F : ∀ (w : World) (mg : Str → Option Value) (fa : Addr) (h : Heap), (K w.params).In h → h.Ns mainGlobals mg → mg d.name = some (.ref fa) →
      ∃ fd : FuncData, (∀ (s : Shared) (u : Value), BindsTo s fd ⟨[u], []⟩ [(x, u)]) ∧
        ∀ base : Heap, (K w.params).In base → base.Ns mainGlobals mg → FnOk l.prog w (K w.params) mg base (CX w) k fa fd [x] (sp w))
    (hsp : ∀ (w : World) (H : Hp) (a : Addr) (ns : List Int), ns.length ≤ n → Only H → SqL (K w.params) H a (ns.map V.int) → sp w [.ref a] H (fun v _ => v = .bl true) fun _ _ _ => False)
    (hCX : ∀ (w : World) (H : Hp) (s : Shared) (e : Value) (s' : Shared), CX w [] H s (fun _ _ _ => False) e s' → False) :
    PySem.W.WalkO q loose XP YP l.row.toRowW d [] (fun f vs => PySem.call f vs) := by
  refine Att.attach_call hn hdf fun w s₀ s₁ mg mb fa o pm cd doc a vs ns G Y ho hd hcd hmg hobj hints hlen hg => ?_
  have KX := hY w _ Y
  obtain ⟨fd, hb, hF⟩ := F w mg fa _ KX G.T.g hmg
  exact law_call KX G.T.g G.T.b G.T.builtins G.T.nolimit hg hobj hints (Nat.le_trans hlen hn2) hr hF hb (fun H hO hS => hsp w H a ns hlen hO hS) fun H e s' => hCX w H s₁ e s'
end L2

/- THE LAST THEOREM (shape; LID, My.* are yours):
   My.Adr: a structure of the addresses that your layer names (classes, functions); My.Txt K t: a structure (Prop) of the equations over K;
   My.txt_mk : {K} {implicit addresses ..} (e1 : nsIn K mainGlobals "law" = some (some (.ref f))) (e2 : K.lookup f = some ⟨oc, od, .func (fnOf "law" "law" params body scope dV kV doc pm an cdv ct), sl⟩) (e3 : codeIn K cdv "law" = true) .. : ∃ t, My.Txt K t

set_option maxRecDepth 100000 in
set_option maxHeartbeats 0 in
theorem PySem.Challenge.cw_LID_holds : PySem.Challenge.rw_LID.Holds := by
  w_on; o_law; k_head; (case hw => w_witness2)
  k_fill
  refine L2.walk_of (l := PySem.Challenge.rw_LID) (n := 63) (k := 40) (x := "script") (CX := fun w => ..) (sp := fun _ => My.sp_law) rfl (by decide) rfl ⟨rfl, by decide, by decide⟩ (fun w h Y => PySem.W.kIn_of Y) ?F ?S ?C
  case F =>
    intro w mg fa h KX G hmg
    have T : ∃ t, My.Txt (L2.KOf KX) t := by
      dsimp only [L2.KOf]                          -- K must stand as «<heap const> w.params» for k_is
      refine' My.txt_mk ?e1 ?e2 ?e3 ..
      (case e1 => PySem.W.k_is)                    -- in the order: a name -> its address -> its object -> its parts
      (case e2 => PySem.W.k_is)
      ..
    obtain ⟨t, T⟩ := T
    have e0 := hmg.symm.trans (PySem.W.mg_of KX G T.law)
    cases e0                                       -- fa is the law's own address
    exact ⟨_, fun s u => .of_eq rfl, fun base kb nb => My.law_fn T kb nb⟩     -- if «.of_eq rfl» comes too early: refine' ⟨_, ?b, fun base kb nb => My.law_fn T kb nb⟩; exact fun s u => .of_eq rfl
  case S => exact fun w H a ns hl hO hS => ..
  case C => exact ..
(the tactic k_is has no namespace: write k_is) -/

/-! SHORT WORDS over the layer: a def of the text, its body, what a loop and a test want. -/
namespace L2
open PySem PySem.Spec PyProof.Rows

/-! ### the text by places -/
noncomputable def defArgs (s : Stmt) : Arguments := match s with
  | .FunctionDef _ a _ _ _ _ _ _ _ _ => a
  | _ => { posonlyargs := [], args := [], vararg := none, kwonlyargs := [], kw_defaults := [], kwarg := none, defaults := [] }
noncomputable def defBody (s : Stmt) : List Stmt := match s with
  | .FunctionDef _ _ b _ _ _ _ _ _ _ => b
  | _ => []
noncomputable def defScope (s : Stmt) : Scope := match s with
  | .FunctionDef _ _ _ _ _ _ sc _ _ _ => sc
  | _ => { kind := .function, names := [], isGenerator := false, isCoroutine := false }

/-! ### no exception leaves a def -/
noncomputable abbrev CX0 : CXT := fun _ _ _ _ _ _ => False
noncomputable abbrev E0 : XK := fun _ _ _ => False
theorem pass0 {X : Cx} : Passes CX0 X E0 := fun _ _ _ _ _ _ _ h => h.elim

/-! ### a def (or method) of the text as it stands behind the top -/
structure Fun (K : PySem.W.Frag) (x qual : Str) (st : Stmt) (f : Addr) (fd : FuncData) : Prop where
  ex : ∃ (oc : Value) (od : Option Addr) (kV doc pm : Value) (an : Option Addr) (cdv ct : Value) (osl : Array (Option Value)),
    fd = PySem.W.fnOf x qual (defArgs st) (defBody st) (defScope st) .none kV doc pm an cdv ct ∧ K.lookup f = some ⟨oc, od, .func fd, osl⟩ ∧ PySem.W.codeIn K cdv qual = true
  kp : PySem.W.keepIn K (.ref f) = true
section
variable {P : Program} {w : World} {K : PySem.W.Frag} {mg : Str → Option Value} {base : Heap}
theorem Fun.ok {x qual : Str} {st : Stmt} {f : Addr} {fd : FuncData} {N ps : List Str} {k : Nat} {sp : Sp} (F : Fun K x qual st f fd) (S : FnScope N ps (defScope st)) (len : ∀ vs H Q E, sp vs H Q E → vs.length = ps.length)
    (hbody : ∀ (cdv : Value) (A : Around) (outer : List Env) (s : Shared) (H : Hp) (vs : List V) (Q : VK) (E : XK), Room k (A.deeper (envOfC qual (defScope st) s.heap.objs.size f cdv)) → sp vs H Q E →
      ∃ t, PSs (cxOf CX0 P w K mg base N qual (defScope st) f cdv A outer s H E).nox (defBody st) t ∧ t { nx := fun _ H' => Q .non H', rt := Q } (start N vs) H) : FnOk P w K mg base CX0 (k + 1) f fd ps sp := by
  obtain ⟨oc, od, kV, doc, pm, an, cdv, ct, osl, rfl, lk, hcd⟩ := F.ex
  refine fn_of lk hcd S len fun A outer s H vs Q E hr hsp => ?_
  obtain ⟨t, h, q⟩ := hbody cdv A outer s H vs Q E hr hsp
  exact ⟨t, h.nox, q⟩
theorem Fun.binds {x qual : Str} {st : Stmt} {f : Addr} {fd : FuncData} {ps : List Str} (F : Fun K x qual st f fd)
    (h : ∀ (kV doc pm : Value) (an : Option Addr) (cdv ct : Value) (us : List Value), us.length = ps.length → bindArgs (PySem.W.fnOf x qual (defArgs st) (defBody st) (defScope st) .none kV doc pm an cdv ct) ⟨us, []⟩ = pure (ps.zip us)) : Binds K fd ps [] := by
  obtain ⟨oc, od, kV, doc, pm, an, cdv, ct, osl, rfl, lk, hcd⟩ := F.ex
  exact .all (h kV doc pm an cdv ct)
theorem fun_mk {x qual : Str} {st : Stmt} {f : Addr} {oc : Value} {od an : Option Addr} {osl : Array (Option Value)} {kV doc pm cdv ct : Value} (l : K.lookup f = some ⟨oc, od, .func (PySem.W.fnOf x qual (defArgs st) (defBody st) (defScope st) .none kV doc pm an cdv ct), osl⟩)
    (c : PySem.W.codeIn K cdv qual = true) (k : PySem.W.keepIn K (.ref f) = true) : Fun K x qual st f (PySem.W.fnOf x qual (defArgs st) (defBody st) (defScope st) .none kV doc pm an cdv ct) := ⟨⟨oc, od, kV, doc, pm, an, cdv, ct, osl, rfl, l, c⟩, k⟩
end
theorem small1000 {n : Nat} (h : n ≤ 1000) : n < sizeLine := Nat.lt_of_le_of_lt h (by decide)

/-! ### expressions in short: the name that stands in the i-th slot -/
section
variable {X : Cx}
theorem pv (i : Nat) {x : Str} {pos : Pos} (hN : X.N[i]? = some x := by rfl) (hv : Vis X.env.scope x := by first | exact Or.inl rfl | exact Or.inr (Or.inl rfl) | exact Or.inr (Or.inr rfl)) (hd : (x == ("__debug__" : Str)) = false := by decide)
    (hcd : (x == ("__classdict__" : Str)) = false := by decide) : PE X (.Name x pos) (tVar i) := pe_var hN hv hd hcd
end

/-! ### tests -/
theorem iteF {A B : Prop} (h : B) : if false = true then A else B := by
  rw [if_neg Bool.false_ne_true]
  exact h
theorem iteT {A B : Prop} (h : A) : if true = true then A else B := by
  rw [if_pos rfl]
  exact h
/-! ### heaps -/
noncomputable def Same (H H' : Hp) : Prop := ∀ b o, H b = some o → H' b = some o
theorem Same.refl (H : Hp) : Same H H := fun _ _ h => h
theorem Same.trans {H H1 H2 : Hp} (a : Same H H1) (b : Same H1 H2) : Same H H2 := fun c o h => b c o (a c o h)
theorem Same.free {H H' : Hp} (e : Same H H') {l : Addr} (h : H' l = Option.none) : H l = Option.none := by
  cases q : H l with
  | none => rfl
  | some o =>
    rw [e l o q] at h
    cases h
theorem Same.seq {K : PySem.W.Frag} {H H' : Hp} {a : Addr} {xs : List V} (e : Same H H') (h : SqL K H a xs) : SqL K H' a xs := by
  rcases h with (h | ⟨o, h⟩) | h
  · exact .inl (.inl (e _ _ h))
  · exact .inl (.inr ⟨o, e _ _ h⟩)
  · exact .inr h

end L2

end

section
-- KcComp
set_option Elab.async false
set_option linter.all false
set_option maxRecDepth 100000
set_option maxHeartbeats 4000000
namespace L2
open PySem PySem.Spec PyProof.Rows

/-! ### addresses -/
theorem ltNe {a b : Addr} {n : Nat} (h : a < n) (h' : n ≤ b) : a ≠ b := Nat.ne_of_lt (Nat.lt_of_lt_of_le h h')
theorem neLt {a b : Addr} {n : Nat} (h : n ≤ a) (h' : b < n) : a ≠ b := Nat.ne_of_gt (Nat.lt_of_lt_of_le h' h)
/-! ### a list comprehension's block: its own context over the enclosing one -/
noncomputable def clOf (env : Env) : List (Str × NameKind) → List (Str × Addr) → List (Str × Addr)
  | [], acc => acc
  | (n, k) :: r, acc => if k = .free then (match env.cells.lookup n with | some c => clOf env r ((n, c) :: acc) | none => clOf env r acc) else clOf env r acc
theorem clOf_sound {env : Env} : ∀ (ns : List (Str × NameKind)) (acc : List (Str × Addr)), (∀ p ∈ acc, env.cells.lookup p.1 = some p.2) → ∀ p ∈ clOf env ns acc, env.cells.lookup p.1 = some p.2
  | [], acc, h => by intro p hp; exact h p hp
  | (n, k) :: r, acc, h => by
    intro p hp
    rw [clOf] at hp
    split at hp
    · split at hp
      · rename_i c hc
        refine clOf_sound r _ (fun q hq => ?_) p hp
        rcases List.mem_cons.mp hq with rfl | hq
        · exact hc
        · exact h q hq
      · exact clOf_sound r acc h p hp
    · exact clOf_sound r acc h p hp
theorem clOf_acc {env : Env} : ∀ (ns : List (Str × NameKind)) (acc : List (Str × Addr)), ∀ p ∈ acc, p ∈ clOf env ns acc
  | [], acc => fun p hp => hp
  | (n, k) :: r, acc => fun p hp => by
    rw [clOf]
    split
    · split
      · exact clOf_acc r _ p (List.mem_cons_of_mem _ hp)
      · exact clOf_acc r acc p hp
    · exact clOf_acc r acc p hp
theorem clOf_has {env : Env} : ∀ (ns : List (Str × NameKind)) (acc : List (Str × Addr)) (x : Str) (c : Addr), (x, NameKind.free) ∈ ns → env.cells.lookup x = some c → (x, c) ∈ clOf env ns acc
  | [], acc, x, c => fun h _ => (nomatch h)
  | (n, k) :: r, acc, x, c => fun h hc => by
    rw [clOf]
    rcases List.mem_cons.mp h with e | h
    · cases e
      rw [if_pos rfl, hc]
      exact clOf_acc r _ _ List.mem_cons_self
    · split
      · split
        · exact clOf_has r _ x c h hc
        · exact clOf_has r acc x c h hc
      · exact clOf_has r acc x c h hc
theorem lookup_of_mem {α : Type} {x : Str} {c : α} : ∀ {l : List (Str × α)}, (x, c) ∈ l → ∃ d, l.lookup x = some d
  | (y, d) :: r, h => by
    rw [List.lookup_cons]
    cases e : x == y with
    | true => exact ⟨d, rfl⟩
    | false =>
      rcases List.mem_cons.mp h with q | q
      · cases q
        rw [beq_self_eq_true] at e
        cases e
      · exact lookup_of_mem q
theorem clOf_lookup {env : Env} {ns : List (Str × NameKind)} {x : Str} {c : Addr} (h : (clOf env ns []).lookup x = some c) : env.cells.lookup x = some c :=
  clOf_sound ns [] (fun _ hp => (nomatch hp)) (x, c) (PySem.mem_of_lookup h)
theorem clOf_some {env : Env} {ns : List (Str × NameKind)} {x : Str} {c : Addr} (hm : (x, NameKind.free) ∈ ns) (hc : env.cells.lookup x = some c) : (clOf env ns []).lookup x = some c := by
  obtain ⟨d, hd⟩ := lookup_of_mem (clOf_has ns [] x c hm hc)
  have e := clOf_lookup hd
  rw [hc] at e
  cases e
  exact hd
theorem closure_of {scope : Scope} {env : Env} (h : ∀ y ∈ scope.names, y.2 = .free → ∃ c, env.cells.lookup y.1 = some c) : closureFor scope env = pure (clOf env scope.names []) := by
  have go : ∀ (ns : List (Str × NameKind)) (acc : List (Str × Addr)), (∀ y ∈ ns, y.2 = .free → ∃ c, env.cells.lookup y.1 = some c) →
      (forIn ns acc fun (x : Str × NameKind) (cs : List (Str × Addr)) => (match x with
        | (name, kind) => if (kind == NameKind.free) = true then (do let c ← cellOf env name; pure (ForInStep.yield ((name, c) :: cs))) else pure (ForInStep.yield cs) : Sem (ForInStep (List (Str × Addr))))) = (pure (clOf env ns acc) : Sem (List (Str × Addr))) := by
    intro ns
    induction ns with
    | nil => intro acc _; rfl
    | cons y r ih =>
      intro acc hy
      obtain ⟨n, k⟩ := y
      have ih' := fun acc => ih acc fun z hz => hy z (List.mem_cons_of_mem _ hz)
      rw [List.forIn_cons, clOf]
      by_cases hk : k = .free
      · subst hk
        obtain ⟨c, hc⟩ := hy (n, .free) List.mem_cons_self rfl
        have hc' : env.cells.lookup n = some c := hc
        simp only [beq_self_eq_true, if_true, cellOf, hc', pure_bind]
        exact ih' _
      · have hb : (k == NameKind.free) = false := by simpa using hk
        simp only [hb, Bool.false_eq_true, if_false, pure_bind, if_neg hk]
        exact ih' _
  unfold closureFor
  have g := go scope.names [] h
  simp only [bind_pure]
  exact g

structure CompScope (sc scope : Scope) (NX N : List Str) (ix : List (Option Nat)) : Prop where
  kind : scope.kind = .function
  nocell : ∀ y ∈ scope.names, y.2 ≠ .cell
  names : ∀ y ∈ scope.names, y.2 = .local → scope.names.lookup y.1 = some .local
  free : ∀ y ∈ scope.names, y.2 = .free → sc.names.lookup y.1 = some .cell ∨ sc.names.lookup y.1 = some .free
  nd : N.Nodup
  len : ix.length = N.length
  at_ : ∀ p ∈ N.zip ix, ∀ i ∈ p.2, NX[i]? = some p.1 ∧ scope.names.lookup p.1 = some .free
noncomputable def sub (ix : List (Option Nat)) (σ : St) : St := ix.map fun o => match o with | some i => (match σ[i]? with | some v => v | none => none) | none => none

noncomputable def cxComp (X : Cx) (N : List Str) (scope : Scope) (C : Addr) (s : Shared) (H : Hp) (fp : List Addr) : Cx where
  prog := X.prog
  w := X.w
  K := X.K
  mg := X.mg
  base := X.base
  A := X.A
  N := N
  s₀ := s
  H₀ := H
  env := compEnvC scope (clOf X.env scope.names []) C X.env
  outer := X.stack
  stack := X.stack
  ex := fp
  fn := fun _ => false
  calm := X.calm
  pn := []
  xe := fun _ _ => False

theorem relabel_look {scope : Scope} {env : Env} {x : Str} {k : NameKind} (h : (relabel scope env).names.lookup x = some k) : scope.names.lookup x = some k ∨ (k = .cell ∧ scope.names.lookup x = some .free) := by
  have go : ∀ ns : List (Str × NameKind), (ns.map fun (n, k) => if (k == NameKind.free && env.scope.kind == .function && env.kindOf n == some .cell) then (n, NameKind.cell) else (n, k)).lookup x = some k →
      ns.lookup x = some k ∨ (k = .cell ∧ ns.lookup x = some .free) := by
    intro ns
    induction ns with
    | nil => intro q; simp at q
    | cons y r ih =>
      obtain ⟨n, k'⟩ := y
      intro q
      rw [List.map_cons] at q
      by_cases hc : (k' == NameKind.free && env.scope.kind == .function && env.kindOf n == some .cell) = true
      · simp only [hc, if_true] at q
        have hk' : k' = .free := by
          have := (Bool.and_eq_true _ _ ▸ hc)
          have h1 := (Bool.and_eq_true _ _ ▸ this.1)
          exact eq_of_beq h1.1
        subst hk'
        rw [List.lookup_cons] at q ⊢
        cases e : x == n with
        | true =>
          rw [e] at q
          cases q
          exact .inr ⟨rfl, rfl⟩
        | false =>
          rw [e] at q
          exact ih q
      · simp only [hc] at q
        rw [if_neg (by simp)] at q
        rw [List.lookup_cons] at q ⊢
        cases e : x == n with
        | true => rw [e] at q; exact .inl q
        | false => rw [e] at q; exact ih q
  exact go scope.names h
theorem relabel_free {scope : Scope} {env : Env} {x : Str} (h : scope.names.lookup x = some .free) : (relabel scope env).names.lookup x = some .cell ∨ (relabel scope env).names.lookup x = some .free := by
  have go : ∀ ns : List (Str × NameKind), ns.lookup x = some .free →
      (ns.map fun (n, k) => if (k == NameKind.free && env.scope.kind == .function && env.kindOf n == some .cell) then (n, NameKind.cell) else (n, k)).lookup x = some .cell ∨
      (ns.map fun (n, k) => if (k == NameKind.free && env.scope.kind == .function && env.kindOf n == some .cell) then (n, NameKind.cell) else (n, k)).lookup x = some .free := by
    intro ns
    induction ns with
    | nil => intro q; simp at q
    | cons y r ih =>
      obtain ⟨n, k'⟩ := y
      intro q
      rw [List.map_cons]
      rw [List.lookup_cons] at q
      cases e : x == n with
      | true =>
        rw [e] at q
        cases q
        by_cases hc : (NameKind.free == NameKind.free && env.scope.kind == .function && env.kindOf n == some .cell) = true
        · simp only [hc, if_true]
          rw [List.lookup_cons, e]
          exact .inl rfl
        · simp only [hc]
          rw [if_neg (by simp), List.lookup_cons, e]
          exact .inr rfl
      | false =>
        rw [e] at q
        have z := ih q
        by_cases hc : (k' == NameKind.free && env.scope.kind == .function && env.kindOf n == some .cell) = true
        · simp only [hc, if_true]
          rw [List.lookup_cons, e]
          exact z
        · simp only [hc]
          rw [if_neg (by simp), List.lookup_cons, e]
          exact z
  exact go scope.names h

theorem Inv.gone {X : Cx} {pins : List (Addr × Obj)} {σ σ₂ : St} {H H₂ : Hp} {s s₂ : Shared} {C : Addr} {h'' : Heap} (I : Inv X pins σ H s) (I2 : Inv X pins σ₂ H₂ s₂) (hC : s₂.heap.objs.size ≤ C) (hn : H C = none) (hs : Heap.SameBut C s.heap h'') : Inv X pins σ H { s with heap := h'' } :=
  I.turned (t' := s.toks) (it := C) (fun b o hb e => hs.extBut b o hb e) hn (Nat.ne_of_gt (Nat.lt_of_lt_of_le I2.lt hC)) (.inr (Nat.le_trans I2.sz hC))
    (fun x c e => by
      obtain ⟨v, o, ho, _⟩ := I2.cell x c e
      exact ltNe (Heap.lt_size ho) hC) fun q hq => ltNe (Heap.lt_size (I2.pin q hq).1) hC
/-! ### the tests of a clause -/
noncomputable def PTL (X : Cx) (ifs : List Expr) (t : TT) : Prop :=
  ∀ (pins : List (Addr × Obj)) (s : Shared) (σ : St) (H : Hp) (Q : Bool → Hp → Prop), Inv X pins σ H s → t σ H Q →
    wpAny (model X.prog X.w) X.A (forIn ifs true fun c r => if r = true then do let ok ← isTrue c X.env (eval c X.env); pure (ForInStep.yield ok) else pure (ForInStep.yield r)) (TP X pins σ Q) X.xe s
noncomputable def tAlways : TT := fun _ H Q => Q true H
theorem ptl_nil {X : Cx} : PTL X [] tAlways := fun _ _ _ H _ I h => wpAny_tests_nil ⟨H, I, h⟩
theorem ptl_one {X : Cx} {c : Expr} {t : TT} (h : PT X c t) : PTL X [c] t := fun pins s σ H Q I q => wpAny_tests_one (h pins s σ H Q I q)

/-! ### the rule -/
noncomputable def CompBody (J : It) (g : TG) (tt : TT) (te : TE) (σ₀ : St) (p : Addr) (Q : VK) (W : Nat → Nat → List V → Hp → Prop) : Prop :=
  ∀ i m acc H, W i m acc H → H p = some (.lst acc) ∧
    ((J.stop i H ∧ Q (.ref p) H) ∨ (J.go i H ∧ acc.length < sizeLine ∧ ∃ N : List V → Hp → Prop, (∀ acc' H', N acc' H' → ∃ m', m' < m ∧ W (i + 1) m' acc' H') ∧
      ∀ x H1, J.yld i H x H1 → g x σ₀ H1 fun σ2 H2 => tt σ2 H2 fun b H3 => if b = true then te σ2 H3 fun y H4 => H4 p = some (.lst acc) ∧ N (acc ++ [y]) (upd H4 p (.lst (acc ++ [y]))) else N acc H3))
noncomputable abbrev CF (α : Type) := Addr → Shared → Hp → List Addr → α
noncomputable def tComp (wi : TI) (g : CF TG) (tt : CF TT) (te : CF TE) (ix : List (Option Nat)) : TE := fun σ H Q => wi σ H fun J H1 => ∀ p, H1 p = none →
  ∃ W : Nat → Nat → List V → Hp → Prop, (∃ m, W 0 m [] (upd H1 p (.lst []))) ∧ ∀ C s' H' fp, CompBody J (g C s' H' fp) (tt C s' H' fp) (te C s' H' fp) (sub ix σ) p Q W
section
variable {X : Cx} {elt tg iter : Expr} {ifs : List Expr} {scope sc : Scope} {pos : Pos} {NX N : List Str} {ix : List (Option Nat)} {wi : TI} {g : CF TG} {tt : CF TT} {te : CF TE}

theorem comp_loop {prog : Program} {w : World} {A : Around} {R : Result → Shared → Prop} {s : Shared} {it acc : Value} {env : Env} (I : Nat → Shared → Prop)
    (turn : ∀ n s, I n s → wpAny (model prog w) A (pyNext it) (fun r s₁ => match r with
      | none => R (.ok .next) s₁
      | some v => wpAny (model prog w) A (letOwnedTupleGo tg it v) (fun _ s₁' => wpAny (model prog w) A (assign tg env v) (fun _ s₂ =>
          wpAny (model prog w) A (forIn ifs true fun c r => if r = true then do let ok ← isTrue c env (eval c env); pure (ForInStep.yield ok) else pure (ForInStep.yield r)) (fun ok s₃ =>
            if ok = true then wpAny (model prog w) A (eval elt env) (fun x s₄ =>
              wpAny (model prog w) A (call (.builtin "list.append") [acc, x]) (fun _ s₅ => ∃ m, m < n ∧ I m s₅) (fun _ _ => False) s₄) (fun _ _ => False) s₃
            else ∃ m, m < n ∧ I m s₃) (fun _ _ => False) s₂) (fun _ _ => False) s₁') (fun _ _ => False) s₁) (fun _ _ => False) s)
    (n : Nat) (h : I n s) : codeAny (model prog w) A (.compLoop (.ListComp elt [⟨tg, iter, ifs, 0⟩] scope pos) 0 it acc env) R s := by
  refine codeAny_loop rfl I (fun n s hI => ?_) n h
  show wpAny _ A ((compTurn (.ListComp elt [⟨tg, iter, ifs, 0⟩] scope pos) 0 it acc env).onRaise (fun x => do noteFrame x env; theTreesLotGoes x)) _ _ s
  refine wpAny_noted ?_
  rw [compTurn_list]
  refine wpAny_bind (wpAny_standAt (wpAny_bind (wpAny_mono (turn n s hI) (fun r s₁ h₁ => ?_) fun _ _ z => z.elim)))
  cases r with
  | none => exact wpAny_pure h₁
  | some v =>
    refine wpAny_bind (wpAny_mono h₁ (fun _ s₁' h₁' => ?_) fun _ _ z => z.elim)
    refine wpAny_bind (wpAny_mono h₁' (fun _ s₂ h₂ => wpAny_bind (wpAny_mono h₂ (fun ok s₃ h₃ => ?_) fun _ _ z => z.elim)) fun _ _ z => z.elim)
    cases ok with
    | false => exact wpAny_pure ⟨rfl, h₃⟩
    | true => exact wpAny_bind (wpAny_bind (wpAny_mono h₃ (fun x s₄ h₄ => wpAny_bind (wpAny_mono h₄ (fun _ s₅ h₅ => wpAny_pure (wpAny_pure ⟨rfl, h₅⟩)) fun _ _ z => z.elim)) fun _ _ z => z.elim))

theorem comp_block {pins : List (Addr × Obj)} {σ : St} {H : Hp} {s : Shared} {fp : List Addr} {it : Addr} {J : It} {tn : Nat → Heap → Prop} {Q : VK} {E : Value → Shared → Prop} {RR : Value → Addr → Result → Shared → Prop}
    (hc : X.calm = true) (hsc : X.env.scope = sc) (hNX : X.N = NX) (S : CompScope sc scope NX N ix)
    (hg : ∀ C s H fp, PG (cxComp X N scope C s H fp) tg (g C s H fp)) (ht : ∀ C s H fp, PTL (cxComp X N scope C s H fp) ifs (tt C s H fp)) (he : ∀ C s H fp, PE (cxComp X N scope C s H fp) elt (te C s H fp))
    (I : Inv X pins σ H s) (T : Turn X.prog X.w X.K tg J fp it tn) (st : tn 0 s.heap) (hf : ∀ b ∈ fp, FpOk X pins H b)
    (hq : ∀ p, H p = none → ∃ W : Nat → Nat → List V → Hp → Prop, (∃ m, W 0 m [] (upd H p (.lst []))) ∧ ∀ C s' H' fp, CompBody J (g C s' H' fp) (tt C s' H' fp) (te C s' H' fp) (sub ix σ) p Q W)
    (hR : ∀ p C s' H' m, s.heap.objs.size ≤ p → s.heap.objs.size ≤ C → s'.heap.Ns C m → H' C = none → Q (.ref p) H' → Inv X pins σ H' s' → RR (.ref p) C (.ok .next) s') :
    wpAny (model X.prog X.w) X.A (newList []) (fun acc s₃ => wpAny (model X.prog X.w) X.A (newFunctionEnv scope X.env.globals (clOf X.env scope.names []) [] X.env.qual none .none (some X.env)) (fun cenv s₄ =>
      codeAny (model X.prog X.w) X.A (.compStart (.ListComp elt [⟨tg, iter, ifs, 0⟩] scope pos) 0 (.ref it) acc { cenv with scope := relabel scope X.env }) (RR acc cenv.locals) s₄) E s₃) E s := by
  refine wpAny_newObj_type (wpAny_newFunctionEnv S.nocell (by intro y hy; simp at hy) (fun h₁ hns₁ hsb₁ => ?_) S.kind)
  dsimp only at hns₁ hsb₁ ⊢
  have hsz : (s.heap.push { cls := .type "list", dict := none, data := .seq ([] : List Value).toArray }).objs.size = s.heap.objs.size + 1 := Heap.size_push ..
  generalize hC : (s.heap.push { cls := .type "list", dict := none, data := .seq ([] : List Value).toArray }).objs.size = C at hns₁ hsb₁ ⊢
  rw [hsz] at hC
  generalize hp : s.heap.objs.size = p at hC
  have pC : p ≠ C := by omega
  have old : ∀ b o, s.heap.get? b = some o → h₁.get? b = some o := fun b o e => hsb₁.extBut b o (ltNe (Heap.lt_size e) (by omega)) (Heap.get?_push_of_some _ (Heap.get?_push_of_some _ e))
  have hnew : h₁.get? p = some { cls := .type "list", data := .seq ([] : List Value).toArray } := hsb₁.extBut _ _ pC (Heap.get?_push_of_some _ (by rw [← hp]; exact Heap.get?_push_size _ rfl))
  have hfp : H p = none := I.hok.fresh (by omega)
  have hfC : H C = none := I.hok.fresh (by omega)
  have lt : ∀ b ∈ fp, b < p := fun b hb => by
    obtain ⟨o, e, _⟩ := T.obj 0 _ st b hb
    rw [← hp]
    exact Heap.lt_size e
  -- the free names' cells
  have hcells : ∀ y ∈ scope.names, y.2 = .free → ∃ c, X.env.cells.lookup y.1 = some c := fun y hy hk => by
    refine I.ok.has y.1 ?_
    show X.env.scope.names.lookup y.1 = some .cell ∨ X.env.scope.names.lookup y.1 = some .free
    rw [hsc]
    exact S.free y hy hk
  have noown : ∀ x, scope.names.lookup x ≠ some .cell := fun x e => S.nocell _ (PySem.mem_of_lookup e) rfl
  have hok : (cxComp X N scope C s H fp).Ok := by
    refine ⟨I.ok.mod, S.kind, I.ok.glob, I.ok.blt, by show s.heap.objs.size ≤ C; omega, fun x y c h1 h2 => I.ok.inj x y c (clOf_lookup h1) (clOf_lookup h2), fun x hx => ?_, fun x c z => (by cases z), I.ok.hd, I.ok.frames, .inl rfl, fun b hb => ?_, I.bs, Nat.le_trans I.ok.bsz I.sz, fun b o e hb => ?_, fun b hb z => ?_, I.stack, I.stkFree⟩
    · have hx' : scope.names.lookup x = some .free := by
        rcases hx with hx | hx
        · rcases relabel_look hx with q | q
          · exact absurd q (noown x)
          · exact q.2
        · rcases relabel_look hx with q | q
          · exact q
          · exact q.2
      obtain ⟨c, hc'⟩ := hcells _ (PySem.mem_of_lookup hx') rfl
      exact ⟨c, clOf_some (PySem.mem_of_lookup hx') hc'⟩
    · refine ⟨?_, fun x c e => (hf b hb).2.2.2.2.1 x c (clOf_lookup e)⟩
      show b ≠ C
      exact ltNe (lt b hb) (by omega)
    · rcases (hf b hb).2.2.2.1 with z | z
      · exact I.ok.noex b o e z
      · exact absurd (Nat.lt_of_lt_of_le (Heap.lt_size e) (Nat.le_trans I.ok.bsz z)) (Nat.lt_irrefl _)
    · rcases List.mem_cons.mp (I.stkSub b z) with q | q
      · exact (hf b hb).2.1 q
      · exact (hf b hb).2.2.1 q
  -- the free names' values lie in cells that stay
  have locs : ∀ h' : Heap, (∀ x c o, X.env.cells.lookup x = some c → s.heap.get? c = some o → ∃ sl, h'.get? c = some { o with slots := sl }) →
      ∀ (i : Nat) (x : Str) (v : V), N[i]? = some x → (sub ix σ)[i]? = some (some v) → ∃ u, RelV v u ∧ ∀ m, Look (compEnvC scope (clOf X.env scope.names []) C X.env) h' m x u := by
    intro h' hk i x v h1 h2
    obtain ⟨k, hk', hv⟩ : ∃ k, ix[i]? = some (some k) ∧ σ[k]? = some (some v) := by
      unfold sub at h2
      rw [List.getElem?_map] at h2
      cases e : ix[i]? with
      | none => rw [e] at h2; cases h2
      | some o =>
        rw [e] at h2
        cases o with
        | none => cases h2
        | some k =>
          refine ⟨k, rfl, ?_⟩
          have h2' : (match σ[k]? with | some v => v | none => none) = some v := Option.some.inj h2
          cases e2 : σ[k]? with
          | none => rw [e2] at h2'; cases h2'
          | some z =>
            rw [e2] at h2'
            rw [show z = some v from h2']
    have hm : (x, some k) ∈ N.zip ix := by
      refine List.mem_of_getElem? (i := i) ?_
      rw [List.getElem?_zip_eq_some]
      exact ⟨h1, hk'⟩
    obtain ⟨a1, a2⟩ := S.at_ _ hm k (by simp)
    have hX := S.free _ (PySem.mem_of_lookup a2) rfl
    have hvis : Vis X.env.scope x := by
      show _ ∨ _ ∨ _
      rw [hsc]
      exact .inr hX
    obtain ⟨m, hn, hl⟩ := I.loc
    obtain ⟨u, r, l⟩ := hl k x v (by rw [hNX]; exact a1) hv hvis
    refine ⟨u, r, fun m' => .inr ⟨relabel_free a2, ?_⟩⟩
    rcases l with ⟨l, _⟩ | ⟨_, c, e, z⟩
    · have l' : X.env.scope.names.lookup x = some .local := l
      rw [hsc] at l'
      rcases hX with q | q <;> (rw [q] at l'; cases l')
    · obtain ⟨o, ho, hd⟩ := z
      obtain ⟨sl, e'⟩ := hk x c o e ho
      exact ⟨c, clOf_some (PySem.mem_of_lookup a2) e, _, e', hd⟩
  have hlen : (sub ix σ).length = N.length := by
    unfold sub
    rw [List.length_map]
    exact S.len
  have I1 : Inv (cxComp X N scope C s H fp) [] (sub ix σ) (upd H p (.lst [])) { s with heap := h₁, toks := s.toks + ([] : List (Str × Value)).length } := by
    refine ⟨hok, rfl, I.bare, Un.laid old (Nat.le_of_eq hp) hfp, ⟨_, hns₁, fun i x v h1 h2 h3 => ?_⟩, fun x c e => ?_, ?_, fun x c e => ?_, fun q hq => (nomatch hq), I.hok.laid old (Nat.le_of_eq hp) ⟨Nat.zero_le _, [], 0, .nil, hnew⟩, hlen⟩
    · obtain ⟨u, r, l⟩ := locs h₁ (fun y c o _ ho => ⟨o.slots, old c o ho⟩) i x v h1 h2
      exact ⟨u, r, l _⟩
    · obtain ⟨v, o, ho, hd⟩ := I.cell x c (clOf_lookup e)
      exact ⟨v, o, old c o ho, hd⟩
    · show upd H p _ C = none
      rw [upd_ne (Ne.symm pC)]
      exact hfC
    · have e' := clOf_lookup e
      obtain ⟨v, o, ho, hd⟩ := I.cell x c e'
      rw [upd_ne (ltNe (Heap.lt_size ho) (Nat.le_of_eq hp))]
      exact I.freeC x c e'
  -- back to the block's first names
  have back : ∀ {pl : List (Addr × Obj)} {σ' : St} {H' : Hp} {s' : Shared}, Inv (cxComp X N scope C s H fp) pl σ' H' s' → Inv (cxComp X N scope C s H fp) pl (sub ix σ) H' s' := fun {pl σ' H' s'} J => by
    obtain ⟨m, hn, _⟩ := J.loc
    refine ⟨J.ok, J.os, J.bare, J.base, ⟨m, hn, fun i x v h1 h2 h3 => ?_⟩, J.cell, J.free, J.freeC, J.pin, J.hok, hlen⟩
    obtain ⟨u, r, l⟩ := locs s'.heap (fun y c o hc' ho => J.base.any ho (I.freeC y c hc') fun hb => (hf c hb).2.2.2.2.1 y c hc' rfl) i x v h1 h2
    exact ⟨u, r, l _⟩
  obtain ⟨W, ⟨m0, w0⟩, turn⟩ := hq p hfp
  have st1 : tn 0 h₁ := T.keep 0 _ _ st fun b _ o e => old b o e
  have fp1 : ∀ {H' : Hp}, (∀ b ∈ fp, H' b = none) → ∀ b ∈ fp, FpOk (cxComp X N scope C s H fp) [] H' b := fun {H'} hn b hb =>
    ⟨hn b hb, (hok.exf b hb).1, hok.exfs b hb, .inl hb, (hok.exf b hb).2, fun q hq => (nomatch hq)⟩
  have loop : codeAny (model X.prog X.w) X.A (.compLoop (.ListComp elt [⟨tg, iter, ifs, 0⟩] scope pos) 0 (.ref it) (.ref p) (compEnvC scope (clOf X.env scope.names []) C X.env)) (RR (.ref p) C) { s with heap := h₁, toks := s.toks + ([] : List (Str × Value)).length } := by
    refine comp_loop (fun n s' => ∃ i acc H', Inv (cxComp X N scope C s H fp) [] (sub ix σ) H' s' ∧ tn i s'.heap ∧ (∀ b ∈ fp, H' b = none) ∧ W i n acc H') ?_ m0
      ⟨0, [], _, I1, st1, fun b hb => by rw [upd_ne (ltNe (lt b hb) (Nat.le_refl _))]; exact (hf b hb).1, w0⟩
    rintro n s3 ⟨i, acc, H3, I3, st3, fr3, w3⟩
    obtain ⟨hacc, w4⟩ := turn C s H fp i n acc H3 w3
    rcases w4 with ⟨stop, qn⟩ | ⟨go, hln, N', hN', step⟩
    · refine thn (T.done (cxComp X N scope C s H fp) rfl rfl rfl hc i [] s3 _ H3 (fun _ _ => False) I3 (fp1 fr3) st3 stop) fun r s4 ⟨hr, I4⟩ => ?_
      subst hr
      obtain ⟨m, hn, _⟩ := I4.loc
      refine hR p C s4 H3 m (by omega) (by omega) hn I4.free qn ?_
      exact I.call' I4.os I4.base I4.hok I4.bare fun b hb => ⟨(hf b hb).2.2.2.1, (hf b hb).2.1, (hf b hb).2.2.2.2.1, (hf b hb).2.2.2.2.2⟩
    · refine thn (T.item (cxComp X N scope C s H fp) rfl rfl rfl hc i [] s3 _ H3 (fun _ _ => False) I3 (fp1 fr3) st3 go) fun r s4 ⟨u, hr, h4⟩ => ?_
      subst hr
      refine thn h4 fun _ s5 ⟨x, H5, I5, r5, y5, st5, fr5⟩ => ?_
      have I5' := I5.pinned (fp1 fr5) (T.obj _ _ st5)
      refine thn (hg C s H fp _ s5 _ H5 x u _ I5' r5 (step x H5 y5)) fun _ s6 ⟨σ6, H6, I6, q6⟩ => ?_
      have later : ∀ {s7 : Shared} {H7 : Hp} {acc' : List V} {σ7 : St}, Inv (cxComp X N scope C s H fp) ([] ++ pinsAt fp s5.heap) σ7 H7 s7 → (∃ m', m' < n ∧ W (i + 1) m' acc' H7) →
          ∃ m, m < n ∧ ∃ i acc H', Inv (cxComp X N scope C s H fp) [] (sub ix σ) H' s7 ∧ tn i s7.heap ∧ (∀ b ∈ fp, H' b = none) ∧ W i m acc H' := fun {s7 H7 acc' σ7} I7 ⟨m', hm, w7⟩ => by
        refine ⟨m', hm, i + 1, acc', H7, back (I7.unpinned (pins := [])), T.keep _ _ _ st5 fun b hb o e => (I7.pin (b, o) (List.mem_append_right _ (List.mem_append_right _ (mem_pinsAt hb e)))).1, fun b hb => ?_, w7⟩
        obtain ⟨o, e, d⟩ := T.obj _ _ st5 b hb
        exact (I7.pin (b, o) (List.mem_append_right _ (List.mem_append_right _ (mem_pinsAt hb e)))).2.1
      refine thn (ht C s H fp _ s6 σ6 H6 _ I6 q6) fun ok s7 ⟨H7, I7, q7⟩ => ?_
      cases ok with
      | false => exact later I7 (hN' _ _ q7)
      | true =>
        refine thn (he C s H fp _ s7 σ6 H7 _ I7 q7) fun y s8 ⟨v8, H8, I8, r8, hacc8, w8⟩ => ?_
        refine thn (mt_append (X := cxComp X N scope C s H fp) _ s8 σ6 H8 (.ref p) [v8] (.ref p) [y] (fun _ H9 => H9 = upd H8 p (.lst (acc ++ [v8]))) I8 rfl (.cons r8 .nil) ⟨p, acc, v8, rfl, rfl, hacc8, hln, rfl⟩) fun _ s9 ⟨_, H9, I9, _, e9⟩ => ?_
        subst e9
        exact later I9 (hN' _ _ w8)
  exact codeAny_compStart_list loop (T.self _ 0 _ _ _ st1 loop)

theorem pe_comp (hc : X.calm = true) (S : CompScope sc scope NX N ix) (hi : PI X tg iter wi)
    (hg : ∀ C s H fp, PG (cxComp X N scope C s H fp) tg (g C s H fp)) (ht : ∀ C s H fp, PTL (cxComp X N scope C s H fp) ifs (tt C s H fp)) (he : ∀ C s H fp, PE (cxComp X N scope C s H fp) elt (te C s H fp))
    (hsc : X.env.scope = sc := by rfl) (hNX : X.N = NX := by rfl) (hs : ∀ x, foldedSetIterable iter X.env x = pure x := by intro _; rfl) :
    PE X (.ListComp elt [⟨tg, iter, ifs, 0⟩] scope pos) (tComp wi g tt te ix) := by
  intro pins s σ H Q I h
  rw [eval_ListComp]
  have hcells : closureFor scope X.env = pure (clOf X.env scope.names []) := closure_of fun y hy hk => by
    refine I.ok.has y.1 ?_
    show X.env.scope.names.lookup y.1 = some .cell ∨ X.env.scope.names.lookup y.1 = some .free
    rw [hsc]
    exact S.free y hy hk
  refine wpAny_comprehension_free (use := none) rfl hs hcells S.kind S.names (thn (hi pins s σ H _ I h) fun v s1 h1 => thn h1 fun itv s2 h2 => ?_)
  obtain ⟨it, fp, tn, J, H2, e, I2, T, st2, f2, hq⟩ := h2
  subst e
  refine comp_block (Q := Q) (RR := fun acc C => compPost (model X.prog X.w) X.A X.xe none (EP X pins σ Q) acc C) hc hsc hNX S hg ht he I2 T st2 f2 hq ?_
  intro p C s' H' m hp hC hn hfree q I'
  exact ⟨m, hn, fun h'' hs'' => ⟨.ref p, H', I'.gone I2 hC hfree hs'', rfl, q⟩⟩
theorem ps_setComp {i : Nat} {y : Str} {py spos : Pos} (hN : X.N.Nodup) (hy : X.N[i]? = some y) (hl : X.env.scope.names.lookup y = some .local) (hc : X.calm = true) (S : CompScope sc scope NX N ix) (hi : PI X tg iter wi)
    (hg : ∀ C s H fp, PG (cxComp X N scope C s H fp) tg (g C s H fp)) (ht : ∀ C s H fp, PTL (cxComp X N scope C s H fp) ifs (tt C s H fp)) (he : ∀ C s H fp, PE (cxComp X N scope C s H fp) elt (te C s H fp))
    (hsw : swapsWith (.ListComp elt [⟨tg, iter, ifs, 0⟩] scope pos) (some (.Name y py)) spos.line X.env = pure true := by rfl)
    (hsc : X.env.scope = sc := by rfl) (hNX : X.N = NX := by rfl) (hs : ∀ x, foldedSetIterable iter X.env x = pure x := by intro _; rfl) :
    PS X (.Assign [.Name y py] (.ListComp elt [⟨tg, iter, ifs, 0⟩] scope pos) spos) (tAsg (tComp wi g tt te ix) (gName i)) := by
  intro pins s σ H D I h
  rw [exec_Assign_Name_used _ _ _ _ hsw]
  have hcells : closureFor scope X.env = pure (clOf X.env scope.names []) := closure_of fun z hz hk => by
    refine I.ok.has z.1 ?_
    show X.env.scope.names.lookup z.1 = some .cell ∨ X.env.scope.names.lookup z.1 = some .free
    rw [hsc]
    exact S.free z hz hk
  refine wpAny_bind (wpAny_standAt (wpAny_bind ?_))
  show wpAny _ X.A (do let _ ← comprehension (.ListComp elt [⟨tg, iter, ifs, 0⟩] scope pos) scope X.env _ (newList []) false (eval iter X.env) (some (assign (.Name y py) X.env))) _ _ s
  refine wpAny_bind (thn (wpAny_comprehension_free (use := some (assign (.Name y py) X.env)) (Q := fun _ s' => SP X pins D .next s') rfl hs hcells S.kind S.names (thn (hi pins s σ H _ I h) fun v s1 h1 => thn h1 fun itv s2 h2 => ?_)) fun _ s' q => wpAny_pure (wpAny_pure q))
  obtain ⟨it, fp, tn, J, H2, e, I2, T, st2, f2, hq⟩ := h2
  subst e
  refine comp_block (Q := fun x H1 => gName i x σ H1 D.nx) (RR := fun acc C => compPost (model X.prog X.w) X.A X.xe (some (assign (.Name y py) X.env)) (fun _ s' => SP X pins D .next s') acc C) hc hsc hNX S hg ht he I2 T st2 f2 hq ?_
  intro p C s' H' m hp hC hn hfree q I'
  refine wpAny_assign_Name (store_ok2 (v := .ref p) I' hN hy (.inl hl) rfl (fun s'' I'' ⟨a, hsb, ha⟩ => ?_) (.inr hl))
  have ne : C ≠ a := by
    rcases ha with rfl | ha
    · exact Nat.ne_of_gt (Nat.lt_of_lt_of_le I2.lt hC)
    · obtain ⟨v, o, ho, _⟩ := I2.cell y a ha
      exact Nat.ne_of_gt (Nat.lt_of_lt_of_le (Heap.lt_size ho) hC)
  exact ⟨m, hn.sameBut hsb ne, fun h'' hs'' => ⟨_, H', I''.gone I2 hC hfree hs'', q⟩⟩
end

/-! ### the forms one uses: W from a word over the turn, the new list, the heap -/
section
variable {g : CF TG} {tt : CF TT} {te : CF TE} {σ₀ : St} {p : Addr} {Q : VK} {H : Hp}
theorem comp_of {J : It} {n : Nat} {Y : Nat → Hp → V → Hp → Prop} (Pv : Nat → List V → Hp → Prop) (h0 : Pv 0 [] (upd H p (.lst []))) (hp : ∀ i acc H, i ≤ n → Pv i acc H → H p = some (.lst acc) ∧ acc.length ≤ i) (hz : n ≤ sizeLine)
    (hgo : ∀ i acc H, i < n → Pv i acc H → J.go i H) (hst : ∀ acc H, Pv n acc H → J.stop n H) (hy : ∀ i acc H x H1, i < n → Pv i acc H → J.yld i H x H1 → Y i H x H1)
    (hs : ∀ C s' H' fp, ∀ i x acc H H1, i < n → Pv i acc H → Y i H x H1 → g C s' H' fp x σ₀ H1 fun σ2 H2 => tt C s' H' fp σ2 H2 fun b H3 => if b = true then te C s' H' fp σ2 H3 fun y H4 => H4 p = some (.lst acc) ∧ Pv (i + 1) (acc ++ [y]) (upd H4 p (.lst (acc ++ [y]))) else Pv (i + 1) acc H3)
    (hd : ∀ acc H, Pv n acc H → Q (.ref p) H) :
    ∃ W : Nat → Nat → List V → Hp → Prop, (∃ m, W 0 m [] (upd H p (.lst []))) ∧ ∀ C s' H' fp, CompBody J (g C s' H' fp) (tt C s' H' fp) (te C s' H' fp) σ₀ p Q W := by
  refine ⟨fun i m acc H => m = n - i ∧ i ≤ n ∧ Pv i acc H, ⟨n, by simp, Nat.zero_le _, h0⟩, ?_⟩
  rintro C s' H' fp i m acc H ⟨rfl, hi, w⟩
  obtain ⟨h1, h2⟩ := hp i acc H hi w
  refine ⟨h1, ?_⟩
  by_cases hlt : i < n
  · exact .inr ⟨hgo i acc H hlt w, by omega, Pv (i + 1), fun acc' H' q => ⟨n - (i + 1), by omega, rfl, hlt, q⟩, fun x H1 y => hs C s' H' fp i x acc H H1 hlt w (hy i acc H x H1 hlt w y)⟩
  · have e : i = n := by omega
    subst e
    exact .inl ⟨hst acc H w, hd acc H w⟩
theorem comp_list {K : PySem.W.Frag} {a : Addr} {xs : List V} (Pv : Nat → List V → Hp → Prop) (h0 : Pv 0 [] (upd H p (.lst []))) (hp : ∀ i acc H, i ≤ xs.length → Pv i acc H → H p = some (.lst acc) ∧ acc.length ≤ i) (hl : ∀ i acc H, i ≤ xs.length → Pv i acc H → SqL K H a xs) (hz : xs.length ≤ sizeLine)
    (hs : ∀ C s' H' fp, ∀ i x acc H, xs[i]? = some x → Pv i acc H → g C s' H' fp x σ₀ H fun σ2 H2 => tt C s' H' fp σ2 H2 fun b H3 => if b = true then te C s' H' fp σ2 H3 fun y H4 => H4 p = some (.lst acc) ∧ Pv (i + 1) (acc ++ [y]) (upd H4 p (.lst (acc ++ [y]))) else Pv (i + 1) acc H3)
    (hd : ∀ acc H, Pv xs.length acc H → Q (.ref p) H) :
    ∃ W : Nat → Nat → List V → Hp → Prop, (∃ m, W 0 m [] (upd H p (.lst []))) ∧ ∀ C s' H' fp, CompBody (Itl K a) (g C s' H' fp) (tt C s' H' fp) (te C s' H' fp) σ₀ p Q W :=
  comp_of (Y := fun i H x H1 => H1 = H ∧ xs[i]? = some x) Pv h0 hp hz (fun i acc H hi w => ⟨xs, xs[i], hl i acc H (Nat.le_of_lt hi) w, by simp [hi]⟩) (fun acc H w => ⟨xs, hl _ acc H (Nat.le_refl _) w, Nat.le_refl _⟩)
    (fun i acc H x H1 hi w y => ⟨y.1, y.2 xs (hl i acc H (Nat.le_of_lt hi) w)⟩) (fun C s' H' fp i x acc H H1 hi w y => by
      obtain ⟨e, y⟩ := y
      subst e
      exact hs C s' H' fp i x acc _ y w) hd
theorem comp_range {lo : Int} {n : Nat} (Pv : Nat → List V → Hp → Prop) (h0 : Pv 0 [] (upd H p (.lst []))) (hp : ∀ i acc H, i ≤ n → Pv i acc H → H p = some (.lst acc) ∧ acc.length ≤ i) (hz : n ≤ sizeLine)
    (hs : ∀ C s' H' fp, ∀ i acc H, i < n → Pv i acc H → g C s' H' fp (.int (lo + i)) σ₀ H fun σ2 H2 => tt C s' H' fp σ2 H2 fun b H3 => if b = true then te C s' H' fp σ2 H3 fun y H4 => H4 p = some (.lst acc) ∧ Pv (i + 1) (acc ++ [y]) (upd H4 p (.lst (acc ++ [y]))) else Pv (i + 1) acc H3)
    (hd : ∀ acc H, Pv n acc H → Q (.ref p) H) :
    ∃ W : Nat → Nat → List V → Hp → Prop, (∃ m, W 0 m [] (upd H p (.lst []))) ∧ ∀ C s' H' fp, CompBody (Itr lo n) (g C s' H' fp) (tt C s' H' fp) (te C s' H' fp) σ₀ p Q W :=
  comp_of (Y := fun i H x H1 => H1 = H ∧ x = .int (lo + i)) Pv h0 hp hz (fun i acc H hi w => hi) (fun acc H w => Nat.le_refl _) (fun i acc H x H1 hi w y => y) (fun C s' H' fp i x acc H H1 hi w y => by
      obtain ⟨e, e2⟩ := y
      subst e e2
      exact hs C s' H' fp i acc _ hi w) hd
end
end L2

end

section
-- KcIter
set_option Elab.async false
set_option linter.all false
set_option maxRecDepth 100000
set_option maxHeartbeats 4000000
namespace L2
open PySem PySem.Spec PyProof.Rows

/-! ### drawing from a tuple's iterator inside enumerate and zip -/
section
variable {prog : Program} {w : World} {A : Around} {E : Value → Shared → Prop} {s : Shared}
end
theorem Inv.offBase {X : Cx} {pins : List (Addr × Obj)} {σ : St} {H : Hp} {s : Shared} {c : Addr} {o : Obj} (I : Inv X pins σ H s) (f : FpOk X pins H c) (e : X.base.get? c = some o) : False := by
  rcases f.2.2.2.1 with z | z
  · exact I.ok.noex c o e z
  · exact absurd (Nat.lt_of_lt_of_le (Heap.lt_size e) (Nat.le_trans I.ok.bsz z)) (Nat.lt_irrefl _)
/-! ### the sources: lists and tuples in one -/
structure Src where
  Sq : PySem.W.Frag → Hp → Addr → List V → Prop
  Is : Heap → Addr → Array Value → Prop
  It : Heap → Addr → Addr → Nat → Prop
  icls : String
  get : ∀ {X : Cx} {pins : List (Addr × Obj)} {σ : St} {H : Hp} {s : Shared} {a : Addr} {xs : List V}, Inv X pins σ H s → Sq X.K H a xs → ∃ its : List Value, Vals xs its ∧ Is s.heap a its.toArray ∧ xs.length ≤ sizeLine
  inj : ∀ {X : Cx} {pins : List (Addr × Obj)} {σ : St} {H : Hp} {s : Shared} {a : Addr} {xs ys : List V}, Inv X pins σ H s → Sq X.K H a xs → Sq X.K H a ys → xs = ys
  off : ∀ {X : Cx} {pins : List (Addr × Obj)} {σ : St} {H : Hp} {s : Shared} {a c : Addr} {xs : List V}, Inv X pins σ H s → Sq X.K H a xs → FpOk X pins H c → c ≠ a
  isSeq : ∀ {h : Heap} {a : Addr} {its : Array Value}, Is h a its → ∃ o n, h.get? a = some o ∧ o.data = .seq its n
  isIt : ∀ {h : Heap} {jt a : Addr} {i : Nat}, It h jt a i → ∃ o, h.get? jt = some o ∧ o.cls = .type icls ∧ o.data = .fields #[.ref a, .int i 0]
  mkI : ∀ {h : Heap} {jt a : Addr} {i : Nat} {o : Obj}, h.get? jt = some o → o.cls = .type icls → o.data = .fields #[.ref a, .int i 0] → It h jt a i
  itKeep : ∀ {h h' : Heap} {jt a : Addr} {i : Nat}, It h jt a i → (∀ o, h.get? jt = some o → h'.get? jt = some o) → It h' jt a i
  isKeep : ∀ {h h' : Heap} {a : Addr} {its : Array Value}, Is h a its → (∀ o, h.get? a = some o → h'.get? a = some o) → Is h' a its
  draws : ∀ {prog : Program} {w : World} {A : Around}, A.handled = none → ∀ (jt a : Addr), a ≠ jt → ∀ its : Array Value, Draws prog w A jt [jt, a] its.size (fun i v => its[i]? = some v) (fun i h => It h jt a i ∧ Is h a its)
  iter : ∀ {prog : Program} {w : World} {A : Around} {E : Value → Shared → Prop} {s : Shared} {a : Addr} {its : Array Value} {Q : Value → Shared → Prop}, Is s.heap a its →
    Q (.ref s.heap.objs.size) { s with heap := s.heap.push { cls := .type icls, data := .fields #[.ref a, .int 0 0] } } → wpAny (model prog w) A (pyIter (.ref a)) Q E s
noncomputable def srcL : Src where
  Sq := SqL
  Is := fun h a its => h.IsList a its
  It := fun h jt a i => h.IsListIter jt a i
  icls := "list_iterator"
  get := fun I h => let ⟨its, r, p, z⟩ := I.list h; ⟨its, r, p.isList, z⟩
  inj := fun I h h' => I.list_inj h h'
  off := fun {X pins σ H s a c xs} I h f e => by
    subst e
    rcases h with (h | ⟨o, h⟩) | ⟨o, its, n, hk, _⟩
    · rw [f.1] at h; cases h
    · rw [f.1] at h; cases h
    · exact I.offBase f (I.ok.mod.kin _ _ hk)
  isSeq := fun h => let ⟨o, ho, _, n, hd⟩ := h; ⟨o, n, ho, hd⟩
  isIt := fun h => h
  mkI := fun h1 h2 h3 => ⟨_, h1, h2, h3⟩
  itKeep := fun h k => h.at k
  isKeep := fun h k => h.at k
  draws := fun hh jt a hne its => Draws.list hh jt a hne its
  iter := fun h q => wpAny_pyIter_list h q
/-! ### untracked records turn, a new object is laid -/
theorem Inv.turns {X : Cx} {pins : List (Addr × Obj)} {σ : St} {H : Hp} {s : Shared} {h' : Heap} {t' : Nat} {ch : List Addr} {T : Addr} {o : HO} (I : Inv X pins σ H s) (hf : ∀ b ∈ ch, FpOk X pins H b)
    (k : ∀ b ob, b ∉ ch → s.heap.get? b = some ob → h'.get? b = some ob) (hT : s.heap.objs.size ≤ T) (new : ObjOk X.prog X.w (upd H T o) h' T o) : Inv X pins σ (upd H T o) { s with heap := h', toks := t' } := by
  have hn : H T = none := I.hok.fresh hT
  have nc : ∀ b u, H b = some u → b ∉ ch := fun b u e z => by
    have := (hf b z).1
    rw [e] at this
    cases this
  refine I.step (g' := s.gens) (d' := s.drawn) (ch := ch) (fun b hb => ⟨(hf b hb).2.2.2.1, (hf b hb).2.1, (hf b hb).2.2.2.2.1, (hf b hb).2.2.2.2.2⟩) (fun b ob _ _ hc e _ => k b ob hc e) (fun b ob _ _ hc e _ => ⟨ob.slots, k b ob hc e⟩)
    (fun b ob _ e n => ?_) (fun b ob hc e => ⟨ob, k b ob hc e⟩) (fun b xs e => ?_) (fun b ob xs e => ?_) (fun b ps e => ⟨#[], ?_⟩) (fun m hm => ?_) (fun b u e => ?_) I.bare
  · rw [upd_ne (ltNe (Heap.lt_size e) hT)]
    exact n
  · rw [upd_ne (ne_of_none e hn)]
    exact e
  · rw [upd_ne (ne_of_none e hn)]
    exact e
  · rw [upd_ne (ne_of_none e hn), e]
    simp
  · obtain ⟨ob, es, ep, ho, r⟩ := hm
    exact ⟨ob, es, ep, k _ ob (fun z => (hf _ z).2.1 rfl) ho, r⟩
  · by_cases hb : b = T
    · subst hb
      rw [upd_same] at e
      cases e
      exact new
    · rw [upd_ne hb] at e
      refine (I.hok b u e).stay (fun c v hc q => k c v ?_ q) (fun c q => by rw [upd_ne (ne_of_none q hn)]; exact q) fun c xs q => by rw [upd_ne (ne_of_none q hn)]; exact q
      rcases hc with z | z
      · rw [z]; exact nc b u e
      · exact nc c _ z
theorem Inv.turnsN {X : Cx} {pins : List (Addr × Obj)} {σ : St} {H : Hp} {s : Shared} {h' : Heap} {t' : Nat} {ch : List Addr} (I : Inv X pins σ H s) (hf : ∀ b ∈ ch, FpOk X pins H b)
    (k : ∀ b ob, b ∉ ch → s.heap.get? b = some ob → h'.get? b = some ob) : Inv X pins σ H { s with heap := h', toks := t' } := by
  have nc : ∀ b u, H b = some u → b ∉ ch := fun b u e z => by
    have := (hf b z).1
    rw [e] at this
    cases this
  refine I.step (g' := s.gens) (d' := s.drawn) (ch := ch) (fun b hb => ⟨(hf b hb).2.2.2.1, (hf b hb).2.1, (hf b hb).2.2.2.2.1, (hf b hb).2.2.2.2.2⟩) (fun b ob _ _ hc e _ => k b ob hc e) (fun b ob _ _ hc e _ => ⟨ob.slots, k b ob hc e⟩)
    (fun b ob _ e n => n) (fun b ob hc e => ⟨ob, k b ob hc e⟩) (fun b xs e => e) (fun b ob xs e => e) (fun b ps e => ⟨#[], by rw [e]; simp⟩) (fun m hm => ?_) (fun b u e => ?_) I.bare
  · obtain ⟨ob, es, ep, ho, r⟩ := hm
    exact ⟨ob, es, ep, k _ ob (fun z => (hf _ z).2.1 rfl) ho, r⟩
  · refine (I.hok b u e).stay (fun c v hc q => k c v ?_ q) (fun c q => q) fun c xs q => q
    rcases hc with z | z
    · rw [z]; exact nc b u e
    · exact nc c _ z

/-! ### enumerate, its tuples unpacked -/
noncomputable def Ite (S : Src) (K : PySem.W.Frag) (a : Addr) : It :=
  ⟨fun i H => ∃ xs x, S.Sq K H a xs ∧ xs[i]? = some x, fun i H x H' => ∃ T v, H T = none ∧ x = .ref T ∧ H' = upd H T (.tup [.int i, v]) ∧ ∀ xs, S.Sq K H a xs → xs[i]? = some v, fun i H => ∃ xs, S.Sq K H a xs ∧ xs.length = i⟩
theorem turn_enum {P : Program} {w : World} {K : PySem.W.Frag} {elts : List Expr} {k0 : Nat} {pos : Pos} (S : Src) (a e it : Addr) (hl : S.icls ≠ "enumerate") :
    Turn P w K (.Tuple elts k0 pos) (Ite S K a) [e, it] e (fun i h => (∃ old, IsEnum h e it i old) ∧ S.It h it a i) where
  mem := by simp
  obj := fun i h st b hb => by
    obtain ⟨⟨old, he⟩, hi⟩ := st
    rcases List.mem_cons.mp hb with rfl | hb
    · exact ⟨_, he, fun v z => nomatch z⟩
    · obtain rfl := List.mem_singleton.mp hb
      obtain ⟨o, ho, _, hd⟩ := S.isIt hi
      exact ⟨o, ho, fun v z => by rw [hd] at z; cases z⟩
  keep := fun i h h' st k => by
    obtain ⟨⟨old, he⟩, hi⟩ := st
    exact ⟨⟨old, k e (by simp) _ he⟩, S.itKeep hi fun o q => k it (by simp) o q⟩
  item := by
    intro X hP hw hK hc i pins s σ H E I hf st hg
    subst hP hw hK
    obtain ⟨xs, x, hq, hx⟩ := hg
    obtain ⟨its, rv, p, hz⟩ := S.get I hq
    obtain ⟨⟨old, he⟩, hi⟩ := st
    obtain ⟨u, hu, ru⟩ := rv.get hx
    obtain ⟨oa, na, hoa, hda⟩ := S.isSeq p
    obtain ⟨oi, hoi, hci, hdi⟩ := S.isIt hi
    have nei : e ≠ it := fun z => by
      have he' : s.heap.get? e = some _ := he
      rw [z, hoi] at he'
      cases he'
      exact hl (by simpa using hci.symm)
    have nae : e ≠ a := S.off I hq (hf e (by simp))
    have nai : a ≠ it := fun z => by
      rw [z, hoi] at hoa
      cases hoa
      rw [hdi] at hda
      cases hda
    have hlt : i < its.toArray.size := by
      have := (List.getElem?_eq_some_iff.mp hu).1
      simpa using this
    refine wpAny_pyNext_enum_itemD (S.draws (A := X.A.in1) (show X.A.in1.handled = none from I.ok.hd hc) it a nai its.toArray) he ⟨hi, p⟩ hlt nei (by simp [nei, nae]) fun y h1 tk hP ho hs1 hT hsz hk => ⟨_, rfl, ?_⟩
    have hy : y = u := by
      have : its.toArray[i]? = some u := by simpa using hu
      rw [this] at hP
      exact (Option.some.inj hP).symm
    subst hy
    refine wpAny_letOwnedTupleGo_enum ho fun h2 he2 hs2 => ?_
    have elt : e < s.heap.objs.size := Heap.lt_size he
    have hT2 : h2.get? s.heap.objs.size = some { cls := .type "tuple", data := .seq #[.int i tk, y] } := hs2.extBut _ _ (neLt (Nat.le_refl _) elt) hT
    have kept : ∀ b ob, b ∉ [e, it] → s.heap.get? b = some ob → h2.get? b = some ob := fun b ob hb q => by
      have h1' : b ≠ e := fun z => hb (by simp [z])
      exact hs2.extBut _ _ h1' (hk b ob h1' (fun z => hb (by simp [z])) q)
    refine ⟨.ref s.heap.objs.size, upd H s.heap.objs.size (.tup [.int i, x]), ?_, rfl, ⟨_, x, I.fresh, rfl, rfl, fun ys hy => by rw [S.inj I hy hq]; exact hx⟩, ⟨⟨_, he2⟩, S.itKeep hs1.1 fun o q => hs2.extBut _ _ (Ne.symm nei) q⟩, fun b hb => ?_⟩
    · refine I.turns (t' := tk + 1) hf kept (Nat.le_refl _) ⟨(by show 2 ≤ sizeLine; decide), [.int i tk, y], .cons ⟨tk, rfl⟩ (.cons ru .nil), _, hT2, rfl, ⟨0, rfl⟩, rfl⟩
    · have lt : b < s.heap.objs.size := by
        rcases List.mem_cons.mp hb with rfl | hb
        · exact elt
        · obtain rfl := List.mem_singleton.mp hb
          exact Heap.lt_size hoi
      rw [upd_ne (ltNe lt (Nat.le_refl _))]
      exact (hf b hb).1
  done := by
    intro X hP hw hK hc i pins s σ H E I hf st hg
    subst hP hw hK
    obtain ⟨xs, hq, hx⟩ := hg
    obtain ⟨its, rv, p, hz⟩ := S.get I hq
    obtain ⟨⟨old, he⟩, hi⟩ := st
    obtain ⟨oa, na, hoa, hda⟩ := S.isSeq p
    obtain ⟨oi, hoi, hci, hdi⟩ := S.isIt hi
    have nai : a ≠ it := fun z => by
      rw [z, hoi] at hoa
      cases hoa
      rw [hdi] at hda
      cases hda
    have hsz : i = its.toArray.size := by
      have := rv.length
      simp only [List.size_toArray]
      omega
    subst hsz
    exact wpAny_pyNext_enum_endD (S.draws (A := X.A.in1) (show X.A.in1.handled = none from I.ok.hd hc) it a nai its.toArray) he ⟨hi, p⟩ fun h' hx' => ⟨rfl, I.turnsN (t' := s.toks) hf fun b ob hb q => hx' b ob (fun z => hb (by simp [z])) q⟩
  self := fun _ _ _ _ _ st h => by
    obtain ⟨⟨old, he⟩, _⟩ := st
    exact wpAny_pyIter_enum he h
section
variable {X : Cx} {elts : List Expr} {k0 : Nat} {tpos : Pos}
theorem new_enum (S : Src) (l : Addr) (its : Array Value) :
    Meets (Builtin.«enumerate.__new__» ⟨[.type "enumerate", .ref l], []⟩) (fun _ R s => S.Is s.heap l its ∧
      R (.ok (.ret (.ref (s.heap.push { cls := .type S.icls, data := .fields #[.ref l, .int 0 0] }).objs.size)))
        { s with heap := (s.heap.push { cls := .type S.icls, data := .fields #[.ref l, .int 0 0] }).push { cls := .type "enumerate", data := .fields #[.none, .bool false, .ref s.heap.objs.size, rawInt 0, .none, .none] } }) :=
  .of_wp fun prog w A R s h => by
    obtain ⟨hp, g, d, tk, os⟩ := s
    obtain ⟨hl, h⟩ := h
    have hsub := sub_enumerate
    have hL : S.Is (Shared.heap ⟨hp, g, d, tk, os⟩) l its := hl
    wp_walk
    refine wpAny_stack_any fun st => wpAny_pure ?_
    split
    · rename_i c _ _ _ _ _
      cases (c == Value.type "enumerate")
      · wp_walk using S.iter hL
        exact ⟨_, rfl, h⟩
      · wp_walk using S.iter hL
        exact ⟨_, rfl, h⟩
    · wp_walk using S.iter hL
      exact ⟨_, rfl, h⟩
theorem call_enum (S : Src) {prog : Program} {w : World} {A : Around} {E : Value → Shared → Prop} {s : Shared} {l : Addr} {its : Array Value} {Q : Value → Shared → Prop} (hL : S.Is s.heap l its)
    (h : ∀ h', IsEnum h' (s.heap.objs.size + 1) s.heap.objs.size 0 .none → S.It h' s.heap.objs.size l 0 → (∀ b o, s.heap.get? b = some o → h'.get? b = some o) → Q (.ref (s.heap.objs.size + 1)) { s with heap := h' }) :
    wpAny (model prog w) A (call (.type "enumerate") [.ref l]) Q E s := by
  refine callType_new F.called_enumerate (by decide) (F.typeCall_enumerate_1 _) (F.newCall_enumerate_1 _) (fun obj => F.args_object_init_2 obj _) F.entry_enumerate_new (new_enum S l its) ⟨hL, ?_⟩
  have hz : (s.heap.push { cls := .type S.icls, data := .fields #[.ref l, .int 0 0] }).objs.size = s.heap.objs.size + 1 := Heap.size_push ..
  show _ ∧ _
  rw [hz]
  have he := Heap.get?_push_size (s.heap.push { cls := .type S.icls, data := .fields #[.ref l, .int 0 0] }) (o := { cls := .type "enumerate", data := .fields #[.none, .bool false, .ref s.heap.objs.size, rawInt 0, .none, .none] }) rfl
  rw [hz] at he
  exact ⟨⟨_, he, rfl⟩, h _ he (S.mkI (Heap.get?_push_of_some _ (Heap.get?_push_size _ rfl)) rfl rfl) fun b o q => Heap.get?_push_of_some _ (Heap.get?_push_of_some _ q)⟩
noncomputable def iEnum (S : Src) (K : PySem.W.Frag) (ta : TA) : TI := fun σ H R => ta σ H fun vs H1 => ∃ a xs, vs = [.ref a] ∧ S.Sq K H1 a xs ∧ R (Ite S K a) H1
theorem pi_enum (S : Src) {a : Expr} {ta : TA} {p pos : Pos} (hg : Gl X "enumerate") (hm : X.mg "enumerate" = none) (hS : S.icls ≠ "enumerate") (ha : PA X [a] ta) (hs : starEach [a] X.env = [(false, eval a X.env)] := by rfl) :
    PI X (.Tuple elts k0 tpos) (.Call (.Name "enumerate" p) [a] [] pos) (iEnum S X.K ta) := by
  intro pins s σ H R I h
  refine Call_ (ld_blt I hg hm boot_enumerate (PyProof.Rows.callWith_type1 (thn (ha pos pins s σ H _ I h) fun us s1 ⟨vs, H1, I1, r1, q1⟩ => ?_) hs rfl))
  obtain ⟨l, xs, e, hq, q⟩ := q1
  subst e
  obtain ⟨u, rfl, ru⟩ := r1.one
  cases ru
  obtain ⟨its, rv, p', hz⟩ := S.get I1 hq
  refine call_enum S p' fun h' he hi kp => wpAny_pyIter_enum he ?_
  have I2 : Inv X pins σ H1 { s1 with heap := h' } := I1.kept (t' := s1.toks) kp
  refine ⟨s1.heap.objs.size + 1, [s1.heap.objs.size + 1, s1.heap.objs.size], _, _, H1, rfl, I2, turn_enum S l _ _ hS, ⟨⟨_, he⟩, hi⟩, fun b hb => ?_, q⟩
  have hb' : s1.heap.objs.size ≤ b := by
    rcases List.mem_cons.mp hb with rfl | hb
    · exact Nat.le_succ _
    · obtain rfl := List.mem_singleton.mp hb
      exact Nat.le_refl _
  exact I1.fpOk hb' (I1.hok.fresh hb')
end
end L2

end

section
-- KcOps
set_option Elab.async false
set_option linter.all false
set_option maxRecDepth 100000
set_option maxHeartbeats 4000000
namespace L2
open PySem PySem.Spec PyProof.Rows

section
variable {X : Cx}
/-! ### isinstance(x, T) for a built-in T -/
theorem kit_int_int (K : PySem.W.Frag) : PySem.W.kitOne K (.type "int") (.type "int") = some true := by unfold PySem.W.kitOne; rw [if_pos (beq_self_eq_true _)]
theorem kit_int_bool (K : PySem.W.Frag) : PySem.W.kitOne K (.type "int") (.type "bool") = some false := by show (if (Value.type "int" == Value.type "bool") = true then some true else if PySem.W.kitMeta "bool" = true then (fastBuiltinMro "int").map (·.contains (.type "bool")) else none) = some false; decide +kernel
/-! ### all of a list of truths, sum of a list of ints -/
/-! ### == and != of two lists, two tuples, item by item: flat items, or one and the same object -/
noncomputable def EqE (x y : V) (b : Bool) : Prop := (flatV x = true ∧ flatV y = true ∧ b = eqV x y) ∨ (∃ a, x = .ref a ∧ y = .ref a ∧ b = true)
theorem EqE.at {A : Around} {s : Shared} {x y : V} {b : Bool} {u v : Value} (h : EqE x y b) (ru : RelV x u) (rv : RelV y v) : SeqAt.EqAt A s u v b := by
  rcases h with ⟨f1, f2, rfl⟩ | ⟨a, rfl, rfl, rfl⟩
  · exact eqAt_V ru rv f1 f2
  · cases ru
    cases rv
    exact SeqAt.EqAt.same _
end
end L2

end

section
-- KcBase
set_option Elab.async false
set_option linter.all false
set_option maxRecDepth 100000
set_option maxHeartbeats 4000000
namespace L2
open PySem PySem.Spec PyProof.Rows

/-! ### an own def that is called, all that is asked of it in one -/
noncomputable def FnB (P : Program) (w : World) (K : PySem.W.Frag) (mg : Str → Option Value) (base : Heap) (k : Nat) (x : Str) (ps : List Str) (sp : Sp) : Prop :=
  ∃ f fd, FnOk P w K mg base CX0 k f fd ps sp ∧ mg x = some (.ref f) ∧ PySem.W.keepIn K (.ref f) = true ∧ Binds K fd ps []
theorem pe_callF {X : Cx} {k : Nat} {x : Str} {ps : List Str} {sp : Sp} {p pos : Pos} {e : Expr} {es : List Expr} {t : TA} (F : FnB X.prog X.w X.K X.mg X.base k x ps sp) (hr : Room k X.A) (ha : PA X (e :: es) t) (hg : Gl X x := by rfl)
    (hdb : (x == ("__debug__" : Str)) = false := by decide) (he : starEach (e :: es) X.env = (false, eval e X.env) :: starEach es X.env := by rfl) (hpl : (backTo pos (starEach es X.env)).any (·.1) = false := by rfl) :
    PE X (.Call (.Name x p) (e :: es) [] pos) (tCall sp [] E0 t) := by
  obtain ⟨f, fd, ok, m, kp, b⟩ := F
  exact pe_call ok hr hg m kp b .nil pass0 ha hdb he hpl
theorem FnB.mono {P : Program} {w : World} {K : PySem.W.Frag} {mg : Str → Option Value} {base : Heap} {j k : Nat} {x : Str} {ps : List Str} {sp : Sp} (F : FnB P w K mg base j x ps sp) (h : j ≤ k) : FnB P w K mg base k x ps sp := by
  obtain ⟨f, fd, ok, r⟩ := F
  exact ⟨f, fd, ok.mono h, r⟩
structure Def (K : PySem.W.Frag) (mg : Str → Option Value) (x : Str) (st : Stmt) (ps : List Str) (f : Addr) (fd : FuncData) : Prop where
  fn : Fun K x x st f fd
  m : mg x = some (.ref f)
  b : Binds K fd ps []
theorem Def.ok {P : Program} {w : World} {K : PySem.W.Frag} {mg : Str → Option Value} {base : Heap} {x : Str} {st : Stmt} {N ps : List Str} {f : Addr} {fd : FuncData} {k : Nat} {sp : Sp} (D : Def K mg x st ps f fd) (S : FnScope N ps (defScope st)) (len : ∀ vs H Q E, sp vs H Q E → vs.length = ps.length)
    (hbody : ∀ (cdv : Value) (A : Around) (outer : List Env) (s : Shared) (H : Hp) (vs : List V) (Q : VK) (E : XK), Room k (A.deeper (envOfC x (defScope st) s.heap.objs.size f cdv)) → sp vs H Q E →
      ∃ t, PSs (cxOf CX0 P w K mg base N x (defScope st) f cdv A outer s H E).nox (defBody st) t ∧ t { nx := fun _ H' => Q .non H', rt := Q } (start N vs) H) : FnB P w K mg base (k + 1) x ps sp :=
  ⟨f, fd, D.fn.ok S len hbody, D.m, D.fn.kp, D.b⟩

/-! ### products of ints of many figures -/
theorem op_mulB {X : Cx} : OpR X (binaryOp .Mult) (rI IntMulOk fun i j => .int (i * j)) := opI fun _ _ _ _ _ _ _ hc q => mul_int q hc

/-! ### the law's head, with the bits of the script's ints -/
theorem bits_items : ∀ (ns : List Int), ∀ n ∈ ns, Builtin.Int.intBits n ≤ PySem.W.WData.weightAll (ns.map PySem.W.WData.int)
  | [], n, h => (nomatch h)
  | m :: r, n, h => by
    rw [List.map_cons, PySem.W.WData.weightAll]
    have e : PySem.W.WData.weight (.int m) = Builtin.Int.intBits m := by
      rw [PySem.W.WData.weight]
      rfl
    rw [e]
    rcases List.mem_cons.mp h with rfl | h
    · omega
    · have := bits_items r n h
      omega
theorem bits_of_lay {ns : List Int} (h : PySem.W.WData.layableAll [PySem.W.WData.list (ns.map PySem.W.WData.int)] = true) : ∀ n ∈ ns, Builtin.Int.intBits n ≤ 1048576 := by
  intro n hn
  have h1 : PySem.W.WData.layable (PySem.W.WData.list (ns.map PySem.W.WData.int)) = true := by
    unfold PySem.W.WData.layableAll at h
    rw [List.all_cons, Bool.and_eq_true] at h
    exact h.1
  unfold PySem.W.WData.layable at h1
  rw [Bool.and_eq_true] at h1
  have h2 : PySem.W.WData.weight (PySem.W.WData.list (ns.map PySem.W.WData.int)) ≤ 2 ^ 20 := of_decide_eq_true h1.2
  rw [PySem.W.WData.weight] at h2
  have h3 := bits_items ns n hn
  have e : (2 : Nat) ^ 20 = 1048576 := by decide
  omega
noncomputable def ScriptOk (K : PySem.W.Frag) (H : Hp) (a : Addr) (ns : List Int) : Prop := SqL K H a (ns.map V.int) ∧ ns.length ≤ 63 ∧ ∀ n ∈ ns, Builtin.Int.intBits n ≤ 1048576
noncomputable def spLaw (K : PySem.W.Frag) : Sp := fun vs H Q _ => ∃ (a : Addr) (ns : List Int), vs = [.ref a] ∧ ScriptOk K H a ns ∧ ∀ H', Q (.bl true) H'
theorem walk_ofB {l : PySem.W.OpenLaw} {k : Nat} {q : Program} {loose : List Str} {XP : (Str → Option Value) → Heap → Prop} {YP : World → Heap → Prop} {d : DefRec} {K : Params → PySem.W.Frag} {x : Str}
    (hn : l.most = some 63) (hdf : d.params.defaults = []) (hr : Room k callerA) (hY : ∀ (w : World) (h : Heap), YP w h → (K w.params).In h)
    (F : ∀ (w : World) (mg : Str → Option Value) (fa : Addr) (h : Heap), (K w.params).In h → h.Ns mainGlobals mg → mg d.name = some (.ref fa) →
      ∃ fd : FuncData, (∀ (s : Shared) (u : Value), BindsTo s fd ⟨[u], []⟩ [(x, u)]) ∧
        ∀ base : Heap, (K w.params).In base → base.Ns mainGlobals mg → FnOk l.prog w (K w.params) mg base CX0 k fa fd [x] (spLaw (K w.params))) :
    PySem.W.WalkO q loose XP YP l.row.toRowW d [] (fun f vs => PySem.call f vs) := by
  intro w s₀ s₁ mg mb G Y fa o pm cd doc dV kV ho hd hcd hD hmg hg args vals as hpre hlay hrd hwl hlo
  obtain rfl : dV = .none := PySem.W.Dflts.none hD hdf
  obtain rfl : kV = .none := PySem.W.Dflts.noKw hD
  obtain ⟨a, vs, ns, rfl, rfl, hobj, hints, hlen⟩ := Att.script_of hn hpre hwl
  have hbits := bits_of_lay hlay
  have KX := hY w _ Y
  obtain ⟨fd, hb, hF⟩ := F w mg fa _ KX G.T.g hmg
  have c := law_call KX G.T.g G.T.b G.T.builtins G.T.nolimit hg hobj hints (Nat.le_trans hlen (by decide)) hr hF hb (fun H hO hS => ⟨a, ns, rfl, ⟨hS, hlen, hbits⟩, fun _ => rfl⟩) fun H e s' z => z
  refine PySem.W.enter_call (codeAny_mono c fun r s' hq => ?_)
  obtain ⟨rfl, h2, h3, h4⟩ := hq
  exact ⟨.inl ⟨.bool true, .bool true, [], rfl, fun _ => rfl, .bool true, Att.post_true l _, fun _ => ⟨List.Pairwise.nil, fun _ hm => (nomatch hm)⟩⟩, h2, h3, h4⟩

/-! ### loops over any source -/
theorem for_of {J : It} {n : Nat} {g : TG} {tb : TS} {D : Ends} {σ : St} {H : Hp} {Y : Nat → Hp → V → Hp → Prop} (Pv : Nat → St → Hp → Prop) (h0 : Pv 0 σ H) (hgo : ∀ i σ H, i < n → Pv i σ H → J.go i H) (hst : ∀ σ H, Pv n σ H → J.stop n H)
    (hy : ∀ i σ H x H1, i < n → Pv i σ H → J.yld i H x H1 → Y i H x H1) (hs : ∀ i x σ H H1, i < n → Pv i σ H → Y i H x H1 → g x σ H1 fun σ2 H2 => tb { D with nx := Pv (i + 1), ct := Pv (i + 1), bk := D.nx } σ2 H2) (hd : ∀ σ H, Pv n σ H → D.nx σ H) :
    ∃ W : Nat → Nat → St → Hp → Prop, (∃ m, W 0 m σ H) ∧ ∀ i m σ H, W i m σ H →
      (J.stop i H ∧ D.nx σ H) ∨ (J.go i H ∧ ∃ N : St → Hp → Prop, (∀ σ' H', N σ' H' → ∃ m', m' < m ∧ W (i + 1) m' σ' H') ∧ ∀ x H', J.yld i H x H' → g x σ H' fun σ2 H2 => tb { D with nx := N, ct := N, bk := D.nx } σ2 H2) := by
  refine ⟨fun i m σ H => m = n - i ∧ i ≤ n ∧ Pv i σ H, ⟨n, by simp, Nat.zero_le _, h0⟩, ?_⟩
  rintro i m σ H ⟨rfl, hi, p⟩
  by_cases hlt : i < n
  · exact .inr ⟨hgo i σ H hlt p, Pv (i + 1), fun σ' H' p' => ⟨n - (i + 1), by omega, rfl, hlt, p'⟩, fun x H' y => hs i x σ H H' hlt p (hy i σ H x H' hlt p y)⟩
  · have e : i = n := by omega
    subst e
    exact .inl ⟨hst σ H p, hd σ H p⟩
theorem for_enum {S : Src} {K : PySem.W.Frag} {a : Addr} {xs : List V} {g : TG} {tb : TS} {D : Ends} {σ : St} {H : Hp} (Pv : Nat → St → Hp → Prop) (h0 : Pv 0 σ H) (hl : ∀ i σ H, i ≤ xs.length → Pv i σ H → S.Sq K H a xs)
    (hs : ∀ i x T σ H, xs[i]? = some x → Pv i σ H → H T = none → g (.ref T) σ (upd H T (.tup [.int i, x])) fun σ2 H2 => tb { D with nx := Pv (i + 1), ct := Pv (i + 1), bk := D.nx } σ2 H2) (hd : ∀ σ H, Pv xs.length σ H → D.nx σ H) :
    ∃ W : Nat → Nat → St → Hp → Prop, (∃ m, W 0 m σ H) ∧ ∀ i m σ H, W i m σ H →
      ((Ite S K a).stop i H ∧ D.nx σ H) ∨ ((Ite S K a).go i H ∧ ∃ N : St → Hp → Prop, (∀ σ' H', N σ' H' → ∃ m', m' < m ∧ W (i + 1) m' σ' H') ∧ ∀ x H', (Ite S K a).yld i H x H' → g x σ H' fun σ2 H2 => tb { D with nx := N, ct := N, bk := D.nx } σ2 H2) :=
  for_of (J := Ite S K a) (n := xs.length) (Y := fun i H x H1 => ∃ T v, H T = none ∧ x = .ref T ∧ H1 = upd H T (.tup [.int i, v]) ∧ xs[i]? = some v) Pv h0 (fun i σ H hi w => ⟨xs, xs[i], hl i σ H (Nat.le_of_lt hi) w, by simp [hi]⟩) (fun σ H w => ⟨xs, hl _ σ H (Nat.le_refl _) w, rfl⟩)
    (fun i σ H x H1 hi w y => by
      obtain ⟨T, v, e1, e2, e3, e4⟩ := y
      exact ⟨T, v, e1, e2, e3, e4 xs (hl i σ H (Nat.le_of_lt hi) w)⟩) (fun i x σ H H1 hi w y => by
      obtain ⟨T, v, e1, rfl, rfl, e4⟩ := y
      exact hs i v T σ H e4 w e1) hd
/-! ### two names at once -/
/-! ### heaps -/
theorem same_new {H : Hp} {p : Addr} (h : H p = none) (o : HO) : Same H (upd H p o) := fun b u q => by rw [upd_ne (ne_of_none q h)]; exact q
theorem Same.upd {H H' : Hp} {p : Addr} (s : Same H H') (h : H p = none) (o : HO) : Same H (upd H' p o) := fun b u q => by rw [upd_ne (ne_of_none q h)]; exact s b u q
theorem Same.tup {K : PySem.W.Frag} {H H' : Hp} {a : Addr} {xs : List V} (e : Same H H') (h : SqT K H a xs) : SqT K H' a xs := by
  rcases h with (h | ⟨o, h⟩) | h
  · exact .inl (.inl (e _ _ h))
  · exact .inl (.inr ⟨o, e _ _ h⟩)
  · exact .inr h
theorem small {n : Nat} (h : n ≤ 1000) : n ≤ sizeLine := Nat.le_of_lt (small1000 h)
theorem atI_ints {ns : List Int} {k : Int} (h0 : 0 ≤ k) (h1 : k < (ns.length : Int)) : atI (ns.map V.int) k = some (.int (ns.getD k.toNat 0)) := by
  have hk : k.toNat < ns.length := by omega
  have e : k = ((k.toNat : Nat) : Int) := by omega
  have q : atI (ns.map V.int) ((k.toNat : Nat) : Int) = some (.int (ns.getD k.toNat 0)) := atI_nat (by rw [List.getElem?_map, List.getElem?_eq_getElem hk, List.getD_eq_getElem?_getD, List.getElem?_eq_getElem hk] <;> rfl)
  rw [← e] at q
  exact q
theorem ite_of {c : Bool} {A B : Prop} (h1 : c = true → A) (h2 : c = false → B) : if c = true then A else B := by
  cases c with
  | true => rw [if_pos rfl]; exact h1 rfl
  | false => rw [if_neg Bool.false_ne_true]; exact h2 rfl

/-! ### the numbers out of a script: within it the cell, beyond it a draw -/
theorem ScriptOk.same {K : PySem.W.Frag} {H H' : Hp} {a : Addr} {ns : List Int} (h : ScriptOk K H a ns) (s : Same H H') : ScriptOk K H' a ns := ⟨s.seq h.1, h.2⟩
structure Blt (mg : Str → Option Value) : Prop where
  len : mg "len" = none
  range : mg "range" = none
  tuple : mg "tuple" = none
  list : mg "list" = none
  int : mg "int" = none
  bool : mg "bool" = none
  str : mg "str" = none
  dict : mg "dict" = none
  sum : mg "sum" = none
  all : mg "all" = none
  min : mg "min" = none
  max : mg "max" = none
  sorted : mg "sorted" = none
  enumerate : mg "enumerate" = none
  zip : mg "zip" = none
  isinstance : mg "isinstance" = none
end L2

end

section
-- KcZip
set_option Elab.async false
set_option linter.all false
set_option maxRecDepth 100000
set_option maxHeartbeats 4000000
namespace L2
open PySem PySem.Spec PyProof.Rows

/-! ### zip of two sources, its tuples unpacked -/
structure ZApart (z TI TO j1 j2 : Addr) (fp1 fp2 : List Addr) : Prop where
  a1 : TI ≠ z
  a2 : TO ≠ z
  a3 : j1 ≠ z
  a4 : j2 ≠ z
  a5 : TI ≠ TO
  a6 : TI ≠ j1
  a7 : TI ≠ j2
  a8 : TO ≠ j1
  a9 : TO ≠ j2
  b0 : j1 ≠ j2
  b1 : z ∉ fp1
  b2 : TO ∉ fp1
  b3 : j2 ∉ fp1
  b4 : z ∉ fp2
  b5 : TO ∉ fp2
  b6 : j1 ∉ fp2
section
variable {prog : Program} {w : World} {A : Around} {E : Value → Shared → Prop} {s : Shared}
theorem _root_.PySem.Draws.but {it : Addr} {fp : List Addr} {n i : Nat} {P : Nat → Value → Prop} {St : Nat → Heap → Prop} {h h' : Heap} {c : Addr} (D : Draws prog w A it fp n P St) (hst : St i h) (hs : Heap.SameBut c h h') (hc : c ∉ fp) : St i h' :=
  D.frame i _ _ hst fun b hb o e => hs.extBut b o (fun z => hc (by rw [← z]; exact hb)) e
end
noncomputable def Itz (S1 S2 : Src) (K : PySem.W.Frag) (a b : Addr) : It :=
  ⟨fun i H => ∃ xs ys x y, S1.Sq K H a xs ∧ S2.Sq K H b ys ∧ xs[i]? = some x ∧ ys[i]? = some y,
   fun i H x H' => ∃ T u v, H T = none ∧ x = .ref T ∧ H' = upd H T (.tup [u, v]) ∧ ∀ xs ys, S1.Sq K H a xs → S2.Sq K H b ys → xs[i]? = some u ∧ ys[i]? = some v,
   fun i H => ∃ xs ys, S1.Sq K H a xs ∧ S2.Sq K H b ys ∧ min xs.length ys.length = i⟩
section
variable {X : Cx} {elts : List Expr} {k0 : Nat} {tpos : Pos}
noncomputable def iZip (S1 S2 : Src) (K : PySem.W.Frag) (ta : TA) : TI := fun σ H R => ta σ H fun vs H1 => ∃ a b xs ys, vs = [.ref a, .ref b] ∧ S1.Sq K H1 a xs ∧ S2.Sq K H1 b ys ∧ R (Itz S1 S2 K a b) H1
end
end L2

end

section
-- KcMore
set_option Elab.async false
set_option linter.all false
set_option maxRecDepth 100000
set_option maxHeartbeats 4000000
namespace L2
open PySem PySem.Spec PyProof.Rows

section
variable {X : Cx}
/-! ### t + u, whatever is empty -/
noncomputable def rCatG (K : PySem.W.Frag) : R2 := fun x y H Q => ∃ a b xs ys, x = .ref a ∧ y = .ref b ∧ SqT K H a xs ∧ SqT K H b ys ∧ xs.length + ys.length ≤ sizeLine ∧
  (xs = [] → Q (.ref b) H) ∧ (xs ≠ [] → ys = [] → Q (.ref a) H) ∧ (xs ≠ [] → ys ≠ [] → ∀ p, H p = none → Q (.ref p) (upd H p (.tup (xs ++ ys))))
theorem op_catG : OpR X (binaryOp .Add) (rCatG X.K) := by
  intro pins s σ H x y v u Q I rx ry h
  obtain ⟨a, b, xs, ys, rfl, rfl, ha, hb, hz, q0, q1, q2⟩ := h
  by_cases hx : xs = []
  · cases rx
    cases ry
    obtain ⟨its, r1, p1, _⟩ := I.tuple ha
    obtain ⟨its2, r2, p2, _⟩ := I.tuple hb
    obtain ⟨⟨cls, dd, data, sl⟩, ho, hc, n, hd⟩ := id p1
    obtain ⟨⟨cls2, dd2, data2, sl2⟩, ho2, hc2, n2, hd2⟩ := id p2
    simp only at hc hd hc2 hd2
    subst hc hd hc2 hd2
    have e : its = [] := r1.nil_iff.mpr hx
    exact concat_meets ⟨_, ho, rfl⟩ ⟨_, ho2, rfl⟩ noFill_tuple_add seq_tuple_add PySem.F.slot_tuple_add PySem.F.entry_tuple_add (PySem.F.args_tuple_add_2 _ _)
      (tuple_addW0 a b its.toArray its2.toArray n n2 dd dd2 sl sl2 (by simp [e])) ⟨ho, ho2, ⟨.ref b, H, I, rfl, q0 hx⟩⟩
  · exact op_catT pins s σ H _ _ v u Q I rx ry ⟨a, b, xs, ys, rfl, rfl, ha, hb, hx, hz, q1 hx, q2 hx⟩

/-! ### t.count(x): flat items -/
noncomputable def tBT (r : V → List V → Hp → VK → Prop) (to : TE) (t : TA) : TE := fun σ H Q => to σ H fun x H1 => (∃ a xs, x = .ref a ∧ H1 a = some (.tup xs)) ∧ t σ H1 fun xs H2 => r x xs H2 Q
/-! ### max of a list of ints, xs.index(m) -/
end
end L2

end

section
-- KcRd
set_option Elab.async false
set_option linter.all false
set_option maxRecDepth 100000
set_option maxHeartbeats 4000000
namespace L2
open PySem
/-! ### the reading of a term, one step a row -/
section
variable {σ : St} {H : Hp} {Q : VK} {D : Ends} {K : PySem.W.Frag}
theorem r_seq {t u : TS} (h : t { nx := u D, rt := D.rt, bk := D.bk, ct := D.ct } σ H) : tSeq t u D σ H := h
theorem r_seq_n {t u : TS} (h : ∀ NX : St → Hp → Prop, (∀ σ H, u D σ H → NX σ H) → t { nx := NX, rt := D.rt, bk := D.bk, ct := D.ct } σ H) : tSeq t u D σ H := h _ fun _ _ h => h
theorem r_next (h : D.nx σ H) : tNext D σ H := h
theorem r_asg {te : TE} {g : TG} (h : te σ H fun x H1 => g x σ H1 D.nx) : tAsg te g D σ H := h
theorem r_ret {te : TE} (h : te σ H D.rt) : tRet te D σ H := h
theorem r_retN (h : D.rt .non H) : tRetN D σ H := h
theorem r_drop {te : TE} (h : te σ H fun _ H1 => D.nx σ H1) : tDrop te D σ H := h
theorem r_ifS {c : TT} {t u : TS} (h : c σ H fun b H1 => if b = true then t D σ H1 else u D σ H1) : tIfS c t u D σ H := h
theorem r_ifS_e {c : TT} {t u : TS} (h : ∀ E : St → Hp → Prop, (∀ σ H, u D σ H → E σ H) → c σ H fun b H1 => if b = true then t D σ H1 else E σ H1) : tIfS c t u D σ H := h _ fun _ _ h => h
theorem r_break (h : D.bk σ H) : tBreak D σ H := h
theorem r_cont (h : D.ct σ H) : tCont D σ H := h
theorem r_name {i : Nat} {v : V} {R : St → Hp → Prop} (h : R (σ.set i (some v)) H) : gName i v σ H R := h
theorem r_gsub {to ti : TE} {t : TSet} {v : V} {R : St → Hp → Prop} (h : to σ H fun o H1 => ti σ H1 fun i H2 => t o i v H2 fun H3 => R σ H3) : gSub to ti t v σ H R := h
theorem r_var {i : Nat} {v : V} (e : σ[i]? = some (some v)) (h : Q v H) : tVar i σ H Q := ⟨v, e, h⟩
theorem r_c {v : V} (h : Q v H) : tC v σ H Q := h
theorem r_op {r : R2} {ta tb : TE} (h : ta σ H fun x H1 => tb σ H1 fun y H2 => r x y H2 Q) : tOp r ta tb σ H Q := h
theorem r_un {r : V → Hp → VK → Prop} {ta : TE} (h : ta σ H fun x H1 => r x H1 Q) : tUn r ta σ H Q := h
theorem r_I0 {g : Int → Int → V} {i j : Int} (h : Q (g i j) H) : rI0 g (.int i) (.int j) H Q := ⟨i, j, rfl, rfl, h⟩
theorem r_I {C : Int → Int → Prop} {g : Int → Int → V} {i j : Int} (c : C i j) (h : Q (g i j) H) : rI C g (.int i) (.int j) H Q := ⟨i, j, rfl, rfl, c, h⟩
theorem r_U {g : Int → V} {i : Int} (h : Q (g i) H) : rU g (.int i) H Q := ⟨i, rfl, h⟩
theorem r_eqI {i j : Int} (h : Q (.bl (decide (i = j))) H) : rEq (.int i) (.int j) H Q := ⟨rfl, by rw [show decide (V.int i = V.int j) = decide (i = j) from decide_eq_decide.mpr ⟨fun e => by injection e, fun e => by rw [e]⟩]; exact h⟩
theorem r_neI {i j : Int} (h : Q (.bl (!decide (i = j))) H) : rNe (.int i) (.int j) H Q := ⟨rfl, by rw [show decide (V.int i = V.int j) = decide (i = j) from decide_eq_decide.mpr ⟨fun e => by injection e, fun e => by rw [e]⟩]; exact h⟩
theorem r_eqB {i j : Bool} (h : Q (.bl (i == j)) H) : rEq (.bl i) (.bl j) H Q := ⟨rfl, by rw [show decide (V.bl i = V.bl j) = (i == j) by cases i <;> cases j <;> rfl]; exact h⟩
theorem r_neB {i j : Bool} (h : Q (.bl (!(i == j))) H) : rNe (.bl i) (.bl j) H Q := ⟨rfl, by rw [show decide (V.bl i = V.bl j) = (i == j) by cases i <;> cases j <;> rfl]; exact h⟩
theorem r_test {t : TE} {R : Bool → Hp → Prop} (h : t σ H fun x H' => ∃ k, x = .bl k ∧ R k H') : tTest t σ H R := h
theorem r_tb {t : TE} {R : Bool → Hp → Prop} (h : t σ H fun x H' => ∃ k, x = .bl k ∧ R k H') : tB t σ H R := h
theorem r_bl {b : Bool} {R : Bool → Prop} (h : R b) : ∃ k, V.bl b = .bl k ∧ R k := ⟨b, rfl, h⟩
theorem r_and {t u : TT} {R : Bool → Hp → Prop} (h : t σ H fun c H1 => if c = true then u σ H1 R else R false H1) : tAnd t u σ H R := h
theorem r_or {t u : TT} {R : Bool → Hp → Prop} (h : t σ H fun c H1 => if c = true then R true H1 else u σ H1 R) : tOr t u σ H R := h
theorem r_not {t : TT} {R : Bool → Hp → Prop} (h : t σ H fun c H1 => R (!c) H1) : tNot t σ H R := h
theorem r_andV {ta tb : TE} (h : ta σ H fun x H1 => ∃ c, x = .bl c ∧ if c = true then tb σ H1 Q else Q (.bl false) H1) : tAndV ta tb σ H Q := h
theorem r_orV {ta tb : TE} (h : ta σ H fun x H1 => ∃ c, x = .bl c ∧ if c = true then Q (.bl true) H1 else tb σ H1 Q) : tOrV ta tb σ H Q := h
theorem r_notV {ta : TE} (h : ta σ H fun x H1 => ∃ c, x = .bl c ∧ Q (.bl (!c)) H1) : tNotV ta σ H Q := h
theorem r_if {t : TT} {ta tb : TE} (h : t σ H fun c H1 => if c = true then ta σ H1 Q else tb σ H1 Q) : tIf t ta tb σ H Q := h
theorem r_chain {r r' : R2} {ta tb tc : TE} (h : ta σ H fun x H1 => tb σ H1 fun y H2 => r x y H2 fun z H3 => ∃ k, z = .bl k ∧ (if k = true then tc σ H3 fun w' H4 => r' y w' H4 Q else Q (.bl false) H3)) : tChain r r' ta tb tc σ H Q := h
theorem r_nil {R : List V → Hp → Prop} (h : R [] H) : tNil σ H R := h
theorem r_cons {ta : TE} {tr : TA} {R : List V → Hp → Prop} (h : ta σ H fun x H1 => tr σ H1 fun xs H2 => R (x :: xs) H2) : tCons ta tr σ H R := h
theorem r_call {sp : Sp} {E : XK} {t : TA} (h : t σ H fun vs H1 => sp vs H1 Q E) : tCall sp [] E t σ H Q := by
  show t σ H fun vs H1 => sp (vs ++ []) H1 Q E
  simpa only [List.append_nil] using h
theorem r_cb {r : List V → Hp → VK → Prop} {t : TA} (h : t σ H fun vs H1 => r vs H1 Q) : tCB r t σ H Q := h
theorem r_bm {T : String} {r : V → List V → Hp → VK → Prop} {to : TE} {t : TA} (h : to σ H fun x H1 => tyV K T x H1 ∧ t σ H1 fun xs H2 => r x xs H2 Q) : tBM K T r to t σ H Q := h
theorem r_bm0 {T : String} {r : V → List V → Hp → VK → Prop} {to : TE} (h : to σ H fun x H1 => tyV K T x H1 ∧ r x [] H1 Q) : tBM0 K T r to σ H Q := h
theorem r_bt {r : V → List V → Hp → VK → Prop} {to : TE} {t : TA} (h : to σ H fun x H1 => (∃ a xs, x = .ref a ∧ H1 a = some (.tup xs)) ∧ t σ H1 fun xs H2 => r x xs H2 Q) : tBT r to t σ H Q := h
theorem r_sl {r : V → Option Int → Option Int → Hp → VK → Prop} {te : TE} {tl th : TO} (h : te σ H fun x H1 => tl σ H1 fun l H2 => th σ H2 fun u H3 => r x l u H3 Q) : tSl r te tl th σ H Q := h
theorem r_nopart {R : Option Int → Hp → Prop} (h : R none H) : tNoPart σ H R := h
theorem r_part {t : TE} {R : Option Int → Hp → Prop} (h : t σ H fun x H1 => ∃ i, x = .int i ∧ R (some i) H1) : tPart t σ H R := h
theorem r_int {i : Int} {R : Int → Prop} (h : R i) : ∃ j, V.int i = .int j ∧ R j := ⟨i, rfl, h⟩
/-! loops: their sources -/
theorem r_for {wi : TI} {g : TG} {tb : TS} (h : wi σ H fun J H1 => ∃ W : Nat → Nat → St → Hp → Prop, (∃ m, W 0 m σ H1) ∧ ∀ i m σ H, W i m σ H →
    (J.stop i H ∧ D.nx σ H) ∨ (J.go i H ∧ ∃ N : St → Hp → Prop, (∀ σ' H', N σ' H' → ∃ m', m' < m ∧ W (i + 1) m' σ' H') ∧ ∀ x H', J.yld i H x H' → g x σ H' fun σ2 H2 => tb { D with nx := N, ct := N, bk := D.nx } σ2 H2)) : tFor wi g tb D σ H := h
theorem r_comp {wi : TI} {g : CF TG} {tt : CF TT} {te : CF TE} {ix : List (Option Nat)} (h : wi σ H fun J H1 => ∀ p, H1 p = none →
    ∃ W : Nat → Nat → List V → Hp → Prop, (∃ m, W 0 m [] (upd H1 p (.lst []))) ∧ ∀ C s' H' fp, CompBody J (g C s' H' fp) (tt C s' H' fp) (te C s' H' fp) (sub ix σ) p Q W) : tComp wi g tt te ix σ H Q := h
section
variable {R : It → Hp → Prop}
theorem r_iList {tl : TE} (h : tl σ H fun x H1 => ∃ a, x = .ref a ∧ (∃ xs, SqL K H1 a xs) ∧ R (Itl K a) H1) : iList K tl σ H R := h
theorem r_iTup {tl : TE} (h : tl σ H fun x H1 => ∃ a, x = .ref a ∧ (∃ xs, SqT K H1 a xs) ∧ R (Itt K a) H1) : iTup K tl σ H R := h
theorem r_iRng1 {ta : TA} (h : ta σ H fun vs H1 => ∃ j : Int, vs = [.int j] ∧ -(2 ^ 62) ≤ j ∧ j < 2 ^ 62 ∧ R (Itr 0 j.toNat) H1) : iRng1 ta σ H R := h
theorem r_iRng2 {ta : TA} (h : ta σ H fun vs H1 => ∃ i j : Int, vs = [.int i, .int j] ∧ (-(2 ^ 62) ≤ i ∧ i < 2 ^ 62 ∧ -(2 ^ 62) ≤ j ∧ j < 2 ^ 62) ∧ R (Itr i (j - i).toNat) H1) : iRng2 ta σ H R := h
theorem r_iEnum {S : Src} {ta : TA} (h : ta σ H fun vs H1 => ∃ a xs, vs = [.ref a] ∧ S.Sq K H1 a xs ∧ R (Ite S K a) H1) : iEnum S K ta σ H R := h
theorem r_iZip {S1 S2 : Src} {ta : TA} (h : ta σ H fun vs H1 => ∃ a b xs ys, vs = [.ref a, .ref b] ∧ S1.Sq K H1 a xs ∧ S2.Sq K H1 b ys ∧ R (Itz S1 S2 K a b) H1) : iZip S1 S2 K ta σ H R := h
end
/-! the heap -/
noncomputable def Off (l : Addr) (H H' : Hp) : Prop := ∀ b, b ≠ l → H' b = H b
theorem off_upd {l : Addr} {o : HO} : Off l H (upd H l o) := fun b hb => upd_ne hb
theorem Same.off {H0 H' : Hp} {l : Addr} (s : Same H0 H) (h : H0 l = none) (o : Off l H H') : Same H0 H' := fun b u q => by rw [o b (ne_of_none q h)]; exact s b u q
noncomputable def Keep (H H' : Hp) : Prop := ∀ b xs, H b = some (.tup xs) → H' b = some (.tup xs)
theorem Keep.refl (H : Hp) : Keep H H := fun _ _ h => h
theorem Same.keep {H' : Hp} (s : Same H H') : Keep H H' := fun b _ h => s b _ h
theorem Keep.trans {H1 H2 : Hp} (a : Keep H H1) (b : Keep H1 H2) : Keep H H2 := fun c o h => b c o (a c o h)
theorem Off.keep {H' : Hp} {l : Addr} {xs : List V} (o : Off l H H') (e : H l = some (.lst xs)) : Keep H H' := fun b ys q => by
  rw [o b (ne_of q e (by intro z; cases z))]
  exact q
theorem r_tup0 {t : TA} (h : t σ H fun xs H1 => xs.length ≤ sizeLine ∧ ∀ p, H1 p = none → Q (.ref p) (upd H1 p (.tup xs))) : tTup t σ H Q := h
theorem r_lst0 {t : TA} (h : t σ H fun xs H1 => xs.length ≤ sizeLine ∧ ∀ p, H1 p = none → Q (.ref p) (upd H1 p (.lst xs))) : tLst t σ H Q := h
theorem r_append {l : Addr} {xs : List V} {y : V} (e : H l = some (.lst xs)) (hz : xs.length < sizeLine) (h : ∀ H', Off l H H' → H' l = some (.lst (xs ++ [y])) → Q .non H') : rAppend (.ref l) [y] H Q := ⟨l, xs, y, rfl, rfl, e, hz, h _ off_upd upd_same⟩
theorem r_tyL {l : Addr} {xs : List V} (e : H l = some (.lst xs)) : tyV K "list" (.ref l) H := .inl ⟨rfl, xs, SqL.of e⟩
theorem r_ixL {l : Addr} {xs : List V} {i : Int} {v : V} (e : SqL K H l xs) (hv : atI xs i = some v) (h : Q v H) : rIxL K (.ref l) (.int i) H Q := ⟨l, xs, i, v, rfl, rfl, e, hv, h⟩
theorem r_ixT {l : Addr} {xs : List V} {i : Int} {v : V} (e : SqT K H l xs) (hv : atI xs i = some v) (h : Q v H) : rIxT K (.ref l) (.int i) H Q := ⟨l, xs, i, v, rfl, rfl, e, hv, h⟩
end
/-! ### tests -/
theorem ite_dec {p A B : Prop} [Decidable p] (h1 : p → A) (h2 : ¬ p → B) : if decide p = true then A else B := by
  by_cases h : p
  · rw [if_pos (decide_eq_true h)]; exact h1 h
  · rw [if_neg (by rw [decide_eq_false h]; exact Bool.false_ne_true)]; exact h2 h
theorem ite_ndec {p A B : Prop} [Decidable p] (h1 : ¬ p → A) (h2 : p → B) : if (!decide p) = true then A else B := by
  by_cases h : p
  · rw [if_neg (by rw [decide_eq_true h]; exact Bool.false_ne_true)]; exact h2 h
  · rw [if_pos (by rw [decide_eq_false h]; rfl)]; exact h1 h
theorem ite_yes {p A B : Prop} [Decidable p] (h : p) (h1 : A) : if decide p = true then A else B := ite_dec (fun _ => h1) (fun n => absurd h n)
theorem ite_no {p A B : Prop} [Decidable p] (h : ¬ p) (h1 : B) : if decide p = true then A else B := ite_dec (fun n => absurd n h) (fun _ => h1)
theorem ite_b {b : Bool} {A B : Prop} (h1 : b = true → A) (h2 : b = false → B) : if b = true then A else B := ite_of h1 h2
theorem ite_nb {b : Bool} {A B : Prop} (h1 : b = false → A) (h2 : b = true → B) : if (!b) = true then A else B := by cases b; exact iteT (h1 rfl); exact iteF (h2 rfl)
theorem iteNT {A B : Prop} (h : B) : if (!true) = true then A else B := by exact iteF h
theorem iteNF {A B : Prop} (h : A) : if (!false) = true then A else B := by exact iteT h
theorem r_always {σ : St} {H : Hp} {R : Bool → Hp → Prop} (h : R true H) : tAlways σ H R := h
theorem wh_go {B : (St → Hp → Prop) → Prop} {R : St → Hp → Prop} (h : B R) : ∃ N : St → Hp → Prop, (∀ σ' H', N σ' H' → R σ' H') ∧ B N := ⟨R, fun _ _ h => h, h⟩
theorem wh_in {c : TT} {tb : TS} {D : Ends} {σ : St} {H : Hp} (W : Nat → St → Hp → Prop) (m : Nat) (h0 : W m σ H) (h : ∀ m σ H, W m σ H → c σ H fun b H1 => if b = true then ∃ N : St → Hp → Prop, (∀ σ' H', N σ' H' → ∃ m', m' < m ∧ W m' σ' H') ∧ tb { D with nx := N, ct := N, bk := D.nx } σ H1 else D.nx σ H1) :
    tWhile c tb D σ H := ⟨W, ⟨m, h0⟩, h⟩
/-! ### the calls of built-ins, by their names -/
noncomputable def cLen (K : PySem.W.Frag) : List V → Hp → VK → Prop := fun xs H Q => ∃ p ys, xs = [.ref p] ∧ (SqL K H p ys ∨ SqT K H p ys) ∧ Q (.int ys.length) H
noncomputable def cMin2 : List V → Hp → VK → Prop := fun xs H Q => ∃ i j, xs = [.int i, .int j] ∧ Q (.int (if j < i then j else i)) H
noncomputable def cMax2 : List V → Hp → VK → Prop := fun xs H Q => ∃ i j, xs = [.int i, .int j] ∧ Q (.int (if j > i then j else i)) H
noncomputable def cInt : List V → Hp → VK → Prop := fun xs H Q => (∃ i, xs = [.int i] ∧ Q (.int i) H) ∨ ∃ k, xs = [.bl k] ∧ Q (.int (if k then 1 else 0)) H
section
variable {K : PySem.W.Frag} {H : Hp} {Q : VK}
theorem r_len {l : Addr} {ys : List V} (e : SqL K H l ys) (h : Q (.int ys.length) H) : cLen K [.ref l] H Q := ⟨l, ys, rfl, .inl e, h⟩
theorem r_lenTu {l : Addr} {ys : List V} (e : SqT K H l ys) (h : Q (.int ys.length) H) : cLen K [.ref l] H Q := ⟨l, ys, rfl, .inr e, h⟩
theorem r_min2 {i j : Int} (h : Q (.int (if j < i then j else i)) H) : cMin2 [.int i, .int j] H Q := ⟨i, j, rfl, h⟩
theorem r_max2 {i j : Int} (h : Q (.int (if j > i then j else i)) H) : cMax2 [.int i, .int j] H Q := ⟨i, j, rfl, h⟩
theorem r_intI {i : Int} (h : Q (.int i) H) : cInt [.int i] H Q := .inl ⟨i, rfl, h⟩
theorem r_intB {k : Bool} (h : Q (.int (if k then 1 else 0)) H) : cInt [.bl k] H Q := .inr ⟨k, rfl, h⟩
end
/-! ### new things: any heap that has one more -/
noncomputable def New (H : Hp) (o : HO) (Q : Addr → Hp → Prop) : Prop := ∀ p H', H p = none → Same H H' → H' p = some o → Q p H'
theorem New.upd {H : Hp} {o : HO} {Q : Addr → Hp → Prop} (h : New H o Q) : ∀ p, H p = none → Q p (upd H p o) := fun p hp => h p _ hp (same_new hp _) upd_same
noncomputable def mTup (t : TA) : TE := fun σ H Q => t σ H fun xs H1 => xs.length ≤ sizeLine ∧ New H1 (.tup xs) fun p H2 => Q (.ref p) H2
noncomputable def mLst (t : TA) : TE := fun σ H Q => t σ H fun xs H1 => xs.length ≤ sizeLine ∧ New H1 (.lst xs) fun p H2 => Q (.ref p) H2
noncomputable def mCatT (K : PySem.W.Frag) : R2 := fun x y H Q => ∃ a b xs ys, x = .ref a ∧ y = .ref b ∧ H a = some (.tup xs) ∧ H b = some (.tup ys) ∧ xs.length + ys.length ≤ sizeLine ∧ ∀ p H', Same H H' → H' p = some (.tup (xs ++ ys)) → Q (.ref p) H'
theorem mCatT_G {K : PySem.W.Frag} {x y : V} {H : Hp} {Q : VK} (h : mCatT K x y H Q) : rCatG K x y H Q := by
  obtain ⟨a, b, xs, ys, rfl, rfl, ha, hb, hz, q⟩ := h
  refine ⟨a, b, xs, ys, rfl, rfl, SqT.of ha, SqT.of hb, hz, fun e => ?_, fun _ e => ?_, fun _ _ p hp => q p _ (same_new hp _) upd_same⟩
  · exact q b H (Same.refl H) (by rw [hb, e]; rfl)
  · exact q a H (Same.refl H) (by rw [ha, e, List.append_nil])
section
variable {σ : St} {H : Hp} {Q : VK} {K : PySem.W.Frag}
theorem m_tup {t : TA} (h : t σ H fun xs H1 => xs.length ≤ sizeLine ∧ New H1 (.tup xs) fun p H2 => Q (.ref p) H2) : mTup t σ H Q := h
theorem m_lst {t : TA} (h : t σ H fun xs H1 => xs.length ≤ sizeLine ∧ New H1 (.lst xs) fun p H2 => Q (.ref p) H2) : mLst t σ H Q := h
theorem m_catT {a b : Addr} {xs ys : List V} (h1 : H a = some (.tup xs)) (h2 : H b = some (.tup ys)) (hz : xs.length + ys.length ≤ sizeLine) (h : ∀ p H', Same H H' → H' p = some (.tup (xs ++ ys)) → Q (.ref p) H') : mCatT K (.ref a) (.ref b) H Q := ⟨a, b, xs, ys, rfl, rfl, h1, h2, hz, h⟩
end
/-! ### loops, as the reading leaves them -/
section
variable {g : TG} {tb : TS} {NX : St → Hp → Prop} {RT : VK} {σ : St} {H : Hp} {K : PySem.W.Frag}
theorem lp_range {j : Int} (n : Nat) (hn : j.toNat = n) (hj : j ≤ 1000000000) (hj0 : -1000000000 ≤ j) (Pv : Nat → St → Hp → Prop) (h0 : Pv 0 σ H) (hs : ∀ i σ H, i < n → Pv i σ H → g (.int i) σ H fun σ2 H2 => tb { nx := Pv (i + 1), rt := RT, bk := NX, ct := Pv (i + 1) } σ2 H2) (hd : ∀ σ H, Pv n σ H → NX σ H) :
    ∃ j' : Int, [V.int j] = [.int j'] ∧ -(2 ^ 62) ≤ j' ∧ j' < 2 ^ 62 ∧ ∃ W : Nat → Nat → St → Hp → Prop, (∃ m, W 0 m σ H) ∧ ∀ i m σ H, W i m σ H →
      ((Itr 0 j'.toNat).stop i H ∧ NX σ H) ∨ ((Itr 0 j'.toNat).go i H ∧ ∃ N : St → Hp → Prop, (∀ σ' H', N σ' H' → ∃ m', m' < m ∧ W (i + 1) m' σ' H') ∧ ∀ x H', (Itr 0 j'.toNat).yld i H x H' → g x σ H' fun σ2 H2 => tb { nx := N, rt := RT, bk := NX, ct := N } σ2 H2) := by
  refine ⟨j, rfl, by omega, by omega, ?_⟩
  subst hn
  exact for_range (lo := 0) (D := { nx := NX, rt := RT }) Pv h0 (fun i σ H hi p => by rw [Int.zero_add]; exact hs i σ H hi p) hd
theorem lp_list {a : Addr} (xs : List V) (hx : SqL K H a xs) (Pv : Nat → St → Hp → Prop) (h0 : Pv 0 σ H) (hl : ∀ i σ H, i ≤ xs.length → Pv i σ H → SqL K H a xs) (hs : ∀ i x σ H, xs[i]? = some x → Pv i σ H → g x σ H fun σ2 H2 => tb { nx := Pv (i + 1), rt := RT, bk := NX, ct := Pv (i + 1) } σ2 H2) (hd : ∀ σ H, Pv xs.length σ H → NX σ H) :
    ∃ a', V.ref a = .ref a' ∧ (∃ xs, SqL K H a' xs) ∧ ∃ W : Nat → Nat → St → Hp → Prop, (∃ m, W 0 m σ H) ∧ ∀ i m σ H, W i m σ H →
      ((Itl K a').stop i H ∧ NX σ H) ∨ ((Itl K a').go i H ∧ ∃ N : St → Hp → Prop, (∀ σ' H', N σ' H' → ∃ m', m' < m ∧ W (i + 1) m' σ' H') ∧ ∀ x H', (Itl K a').yld i H x H' → g x σ H' fun σ2 H2 => tb { nx := N, rt := RT, bk := NX, ct := N } σ2 H2) :=
  ⟨a, rfl, ⟨xs, hx⟩, for_list (D := { nx := NX, rt := RT }) Pv h0 hl hs hd⟩
theorem lp_tup {a : Addr} (xs : List V) (hx : SqT K H a xs) (Pv : Nat → St → Hp → Prop) (h0 : Pv 0 σ H) (hl : ∀ i σ H, i ≤ xs.length → Pv i σ H → SqT K H a xs) (hs : ∀ i x σ H, xs[i]? = some x → Pv i σ H → g x σ H fun σ2 H2 => tb { nx := Pv (i + 1), rt := RT, bk := NX, ct := Pv (i + 1) } σ2 H2) (hd : ∀ σ H, Pv xs.length σ H → NX σ H) :
    ∃ a', V.ref a = .ref a' ∧ (∃ xs, SqT K H a' xs) ∧ ∃ W : Nat → Nat → St → Hp → Prop, (∃ m, W 0 m σ H) ∧ ∀ i m σ H, W i m σ H →
      ((Itt K a').stop i H ∧ NX σ H) ∨ ((Itt K a').go i H ∧ ∃ N : St → Hp → Prop, (∀ σ' H', N σ' H' → ∃ m', m' < m ∧ W (i + 1) m' σ' H') ∧ ∀ x H', (Itt K a').yld i H x H' → g x σ H' fun σ2 H2 => tb { nx := N, rt := RT, bk := NX, ct := N } σ2 H2) :=
  ⟨a, rfl, ⟨xs, hx⟩, for_tup (D := { nx := NX, rt := RT }) Pv h0 hl hs hd⟩
theorem lp_enum {S : Src} {a : Addr} (xs : List V) (hx : S.Sq K H a xs) (Pv : Nat → St → Hp → Prop) (h0 : Pv 0 σ H) (hl : ∀ i σ H, i ≤ xs.length → Pv i σ H → S.Sq K H a xs)
    (hs : ∀ i x T σ H H', xs[i]? = some x → Pv i σ H → H T = none → Same H H' → H' T = some (.tup [.int i, x]) → g (.ref T) σ H' fun σ2 H2 => tb { nx := Pv (i + 1), rt := RT, bk := NX, ct := Pv (i + 1) } σ2 H2) (hd : ∀ σ H, Pv xs.length σ H → NX σ H) :
    ∃ a' xs', [V.ref a] = [.ref a'] ∧ S.Sq K H a' xs' ∧ ∃ W : Nat → Nat → St → Hp → Prop, (∃ m, W 0 m σ H) ∧ ∀ i m σ H, W i m σ H →
      ((Ite S K a').stop i H ∧ NX σ H) ∨ ((Ite S K a').go i H ∧ ∃ N : St → Hp → Prop, (∀ σ' H', N σ' H' → ∃ m', m' < m ∧ W (i + 1) m' σ' H') ∧ ∀ x H', (Ite S K a').yld i H x H' → g x σ H' fun σ2 H2 => tb { nx := N, rt := RT, bk := NX, ct := N } σ2 H2) :=
  ⟨a, xs, rfl, hx, for_enum (D := { nx := NX, rt := RT }) Pv h0 hl (fun i x T σ H e p hT => hs i x T σ H _ e p hT (same_new hT _) upd_same) hd⟩
end
/-! two names at once -/
theorem g_pair {K : PySem.W.Frag} {i j : Nat} {a : Addr} {x y : V} {σ : St} {H : Hp} {R : St → Hp → Prop} (e : SqT K H a [x, y]) (h : R ((σ.set i (some x)).set j (some y)) H) : gTup K 2 (gCons (gName i) (gCons (gName j) gNil)) (.ref a) σ H R :=
  ⟨a, [x, y], rfl, e, rfl, x, [y], rfl, y, [], rfl, rfl, h⟩
/-! ### comprehensions, as the reading leaves them -/
noncomputable def CInv (H : Hp) (p : Addr) (R : Nat → List V → Hp → Prop) (i : Nat) (acc : List V) (H2 : Hp) : Prop := Same H H2 ∧ H2 p = some (.lst acc) ∧ acc.length ≤ i ∧ R i acc H2
theorem CInv.put {H H4 : Hp} {p : Addr} {R : Nat → List V → Hp → Prop} {i : Nat} {acc : List V} {y : V} (hp : H p = none) (st : ∀ i acc H H', R i acc H → Keep H H' → R i acc H') (s : Same H H4) (e : H4 p = some (.lst acc)) (l : acc.length ≤ i) (r : R (i + 1) (acc ++ [y]) H4) :
    H4 p = some (.lst acc) ∧ CInv H p R (i + 1) (acc ++ [y]) (upd H4 p (.lst (acc ++ [y]))) :=
  ⟨e, s.upd hp _, upd_same, by rw [List.length_append]; exact Nat.add_le_add_right l 1, st _ _ _ _ r (off_upd.keep e)⟩
theorem CInv.skip {H H4 : Hp} {p : Addr} {R : Nat → List V → Hp → Prop} {i : Nat} {acc : List V} (s : Same H H4) (e : H4 p = some (.lst acc)) (l : acc.length ≤ i) (r : R (i + 1) acc H4) : CInv H p R (i + 1) acc H4 := ⟨s, e, by omega, r⟩
section
variable {g : CF TG} {tt : CF TT} {te : CF TE} {σ₀ : St} {Q : VK} {H : Hp} {K : PySem.W.Frag}
theorem lc_range {j : Int} (n : Nat) (hn : j.toNat = n) (hj : j ≤ 1000000) (hj0 : -1000000 ≤ j) (R : Nat → List V → Hp → Prop) (h0 : ∀ H', Same H H' → R 0 [] H')
    (hs : ∀ p, H p = none → ∀ C s' H' fp, ∀ i acc H2, i < n → CInv H p R i acc H2 → g C s' H' fp (.int i) σ₀ H2 fun σ2 H3 => tt C s' H' fp σ2 H3 fun b H4 => if b = true then te C s' H' fp σ2 H4 fun y H5 => H5 p = some (.lst acc) ∧ CInv H p R (i + 1) (acc ++ [y]) (upd H5 p (.lst (acc ++ [y]))) else CInv H p R (i + 1) acc H4)
    (hd : ∀ p acc H2, H p = none → Same H H2 → H2 p = some (.lst acc) → R n acc H2 → Q (.ref p) H2) :
    ∃ j' : Int, [V.int j] = [.int j'] ∧ -(2 ^ 62) ≤ j' ∧ j' < 2 ^ 62 ∧ ∀ p, H p = none → ∃ W : Nat → Nat → List V → Hp → Prop, (∃ m, W 0 m [] (upd H p (.lst []))) ∧ ∀ C s' H' fp, CompBody (Itr 0 j'.toNat) (g C s' H' fp) (tt C s' H' fp) (te C s' H' fp) σ₀ p Q W := by
  refine ⟨j, rfl, by omega, by omega, fun p hp => ?_⟩
  subst hn
  exact comp_range (lo := 0) (CInv H p R) ⟨same_new hp _, upd_same, Nat.le_refl _, h0 _ (same_new hp _)⟩ (fun i acc H2 _ c => ⟨c.2.1, c.2.2.1⟩) (by rw [sizeLine_eq]; omega) (fun C s' H' fp i acc H2 hi c => by rw [Int.zero_add]; exact hs p hp C s' H' fp i acc H2 hi c) fun acc H2 c => hd p acc H2 hp c.1 c.2.1 c.2.2.2
theorem lc_list {a : Addr} (xs : List V) (hx : SqL K H a xs) (hz : xs.length ≤ 1000000) (R : Nat → List V → Hp → Prop) (h0 : ∀ H', Same H H' → R 0 [] H')
    (hs : ∀ p, H p = none → ∀ C s' H' fp, ∀ i x acc H2, xs[i]? = some x → CInv H p R i acc H2 → g C s' H' fp x σ₀ H2 fun σ2 H3 => tt C s' H' fp σ2 H3 fun b H4 => if b = true then te C s' H' fp σ2 H4 fun y H5 => H5 p = some (.lst acc) ∧ CInv H p R (i + 1) (acc ++ [y]) (upd H5 p (.lst (acc ++ [y]))) else CInv H p R (i + 1) acc H4)
    (hd : ∀ p acc H2, H p = none → Same H H2 → H2 p = some (.lst acc) → R xs.length acc H2 → Q (.ref p) H2) :
    ∃ a', V.ref a = .ref a' ∧ (∃ xs, SqL K H a' xs) ∧ ∀ p, H p = none → ∃ W : Nat → Nat → List V → Hp → Prop, (∃ m, W 0 m [] (upd H p (.lst []))) ∧ ∀ C s' H' fp, CompBody (Itl K a') (g C s' H' fp) (tt C s' H' fp) (te C s' H' fp) σ₀ p Q W :=
  ⟨a, rfl, ⟨xs, hx⟩, fun p hp => comp_list (CInv H p R) ⟨same_new hp _, upd_same, Nat.le_refl _, h0 _ (same_new hp _)⟩ (fun i acc H2 _ c => ⟨c.2.1, c.2.2.1⟩) (fun i acc H2 _ c => c.1.seq hx) (by rw [sizeLine_eq]; omega) (fun C s' H' fp i x acc H2 hi c => hs p hp C s' H' fp i x acc H2 hi c) fun acc H2 c => hd p acc H2 hp c.1 c.2.1 c.2.2.2⟩
end
/-! ### zip -/
section
variable {g : TG} {tb : TS} {NX : St → Hp → Prop} {RT : VK} {σ : St} {H : Hp} {K : PySem.W.Frag}
end
/-! ### lists of ints compared -/
section
variable {K : PySem.W.Frag} {H : Hp} {Q : VK} {a b : Addr} {ns ms : List Int}
end
/-! ### comprehensions over pairs; slices of tuples; texts -/
section
variable {g : CF TG} {tt : CF TT} {te : CF TE} {σ₀ : St} {Q : VK} {H : Hp} {K : PySem.W.Frag}
noncomputable def mSlT (K : PySem.W.Frag) : V → Option Int → Option Int → Hp → VK → Prop := fun x lo hi H Q => ∃ a xs, x = .ref a ∧ SqT K H a xs ∧ ¬ (HT.sIx xs.length 0 lo = 0 ∧ HT.sIx xs.length xs.length hi = xs.length) ∧ New H (.tup (cutV xs lo hi)) fun p H2 => Q (.ref p) H2
theorem m_slT {a : Addr} {xs : List V} {lo hi : Option Int} (e : SqT K H a xs) (hn : ¬ (HT.sIx xs.length 0 lo = 0 ∧ HT.sIx xs.length xs.length hi = xs.length)) (h : ∀ p H', H p = none → Same H H' → H' p = some (.tup (cutV xs lo hi)) → Q (.ref p) H') : mSlT K (.ref a) lo hi H Q := ⟨a, xs, rfl, e, hn, h⟩
theorem r_eqS {x y : Str} (h : Q (.bl (decide (x = y))) H) : rEq (.str x) (.str y) H Q := ⟨rfl, by rw [show decide (V.str x = V.str y) = decide (x = y) from decide_eq_decide.mpr ⟨fun e => by injection e, fun e => by rw [e]⟩]; exact h⟩
theorem r_neS {x y : Str} (h : Q (.bl (!decide (x = y))) H) : rNe (.str x) (.str y) H Q := ⟨rfl, by rw [show decide (V.str x = V.str y) = decide (x = y) from decide_eq_decide.mpr ⟨fun e => by injection e, fun e => by rw [e]⟩]; exact h⟩
end
/-! ### pop, extend; three names at once -/
section
variable {H : Hp} {Q : VK} {K : PySem.W.Frag}
theorem r_extend {l b : Addr} {xs zs : List V} (e : H l = some (.lst xs)) (eb : H b = some (.lst zs)) (hz : xs.length + zs.length ≤ sizeLine) (h : ∀ H', Off l H H' → H' l = some (.lst (xs ++ zs)) → Q .non H') : rExtend (.ref l) [.ref b] H Q := ⟨l, b, xs, zs, rfl, rfl, e, eb, hz, h _ off_upd upd_same⟩
theorem g_triple {i j k : Nat} {a : Addr} {x y z : V} {σ : St} {R : St → Hp → Prop} (e : SqT K H a [x, y, z]) (h : R (((σ.set i (some x)).set j (some y)).set k (some z)) H) : gTup K 3 (gCons (gName i) (gCons (gName j) (gCons (gName k) gNil))) (.ref a) σ H R :=
  ⟨a, [x, y, z], rfl, e, rfl, x, [y, z], rfl, y, [z], rfl, z, [], rfl, rfl, h⟩
end
theorem at_mod (xs : List V) (z : Int) {m : Nat} (hl : xs.length = m) (hm : 0 < m) : ∃ x, atI xs (z % (m : Int)) = some x ∧ x ∈ xs := by
  have m1 := Int.emod_nonneg z (b := (m : Int)) (by omega)
  have m2 := Int.emod_lt_of_pos z (b := (m : Int)) (by omega)
  have hk : (z % (m : Int)).toNat < xs.length := by omega
  refine ⟨xs[(z % (m : Int)).toNat], ?_, List.getElem_mem hk⟩
  have e : z % (m : Int) = (((z % (m : Int)).toNat : Nat) : Int) := by omega
  have q : atI xs (((z % (m : Int)).toNat : Nat) : Int) = some xs[(z % (m : Int)).toNat] := atI_nat (List.getElem?_eq_getElem hk)
  rw [← e] at q
  exact q
/-! ### is not, of truths; != of one thing and itself -/
noncomputable def rIsnB : R2 := fun x y H Q => ∃ a b, x = .bl a ∧ y = .bl b ∧ Q (.bl (!(a == b))) H
theorem r_isnB {a b : Bool} {H : Hp} {Q : VK} (h : Q (.bl (!(a == b))) H) : rIsnB (.bl a) (.bl b) H Q := ⟨a, b, rfl, rfl, h⟩
end L2

end
local macro_rules | `(tactic| walk_at "rb1") => `(tactic| first
  | ((with_reducible refine' L2.r_var (v := ?v) ?e ?h); (case e => exact rfl))
  | (with_reducible first | refine L2.r_next ?_ | refine L2.r_asg ?_ | refine L2.r_ret ?_ | refine L2.r_retN ?_ | refine L2.r_drop ?_ | refine L2.r_break ?_ | refine L2.r_cont ?_ | refine L2.r_name ?_ | refine L2.r_gsub ?_ | refine L2.r_c ?_ | refine L2.r_op ?_ | refine L2.r_un ?_ | refine L2.r_I0 ?_ | refine L2.r_U ?_ | refine L2.r_eqI ?_ | refine L2.r_neI ?_ | refine L2.r_eqS ?_ | refine L2.r_neS ?_ | refine L2.r_eqB ?_ | refine L2.r_neB ?_ | refine L2.r_isnB ?_ | refine L2.r_test ?_ | refine L2.r_tb ?_ | refine L2.r_bl ?_ | refine L2.r_int ?_ | refine L2.r_and ?_ | refine L2.r_or ?_ | refine L2.r_not ?_ | refine L2.r_andV ?_ | refine L2.r_orV ?_ | refine L2.r_notV ?_ | refine L2.r_if ?_ | refine L2.r_chain ?_ | refine L2.r_nil ?_ | refine L2.r_cons ?_ | refine L2.r_call ?_ | refine L2.r_cb ?_ | refine L2.r_bm ?_ | refine L2.r_bm0 ?_ | refine L2.r_bt ?_ | refine L2.r_sl ?_ | refine L2.r_nopart ?_ | refine L2.r_part ?_ | refine L2.r_for ?_ | refine L2.r_comp ?_ | refine L2.r_iList ?_ | refine L2.r_iTup ?_ | refine L2.r_iRng1 ?_ | refine L2.r_iRng2 ?_ | refine L2.r_iEnum ?_ | refine L2.r_iZip ?_ | refine L2.r_tup0 ?_ | refine L2.r_lst0 ?_ | refine L2.m_tup ?_ | refine L2.m_lst ?_ | refine L2.r_min2 ?_ | refine L2.r_max2 ?_ | refine L2.r_intI ?_ | refine L2.r_intB ?_ | refine L2.iteT ?_ | refine L2.iteF ?_ | refine L2.iteNT ?_ | refine L2.iteNF ?_ | refine L2.r_always ?_)
  | ((with_reducible refine L2.r_I ?_ ?_); (first | (show (0 : Int) < _; omega) | (show (0 : Int) < _; decide) | exact ⟨by decide, by decide, by decide⟩ | exact And.intro (by omega) (by omega) | exact (PySem.IntMulOk.of_right (PySem.intBits_le_64 (by omega) (by omega))) | exact (PySem.IntMulOk.of_left (PySem.intBits_le_64 (by omega) (by omega)))))
  | ((with_reducible refine' L2.r_len (ys := ?y) ?e ?h); (case e => first | assumption | exact L2.SqL.of (by assumption)))
  | ((with_reducible refine' L2.r_lenTu (ys := ?y) ?e ?h); (case e => first | assumption | exact L2.SqT.of (by assumption)))
  | dsimp only [List.set_cons_zero, List.set_cons_succ, L2.sub, List.map_cons, List.map_nil, List.getElem?_cons_zero, List.getElem?_cons_succ])
local macro_rules | `(tactic| walk_at "rd") => `(tactic| repeat (first | (with_reducible first | refine L2.r_seq ?_ | refine L2.r_ifS ?_) | walk_at "rb1"))
local macro_rules | `(tactic| walk_at "rs") => `(tactic| repeat (first | (with_reducible refine L2.r_ifS ?_) | walk_at "rb1"))
local macro_rules | `(tactic| walk_at "ra") => `(tactic| repeat (walk_at "rb1"))

section
-- KcMath
set_option linter.all false
namespace KM
end KM

end

section
-- KcDeal
set_option linter.all false
namespace KM
/-! ### deals, built card by card -/
noncomputable def nexts (room : List Nat) (w : List Nat) : List Nat := (List.range room.length).filter fun j => decide (w.count j < room.getD j 0)
noncomputable def grow (room : List Nat) (ws : List (List Nat)) : List (List Nat) := ws.flatMap fun w => (nexts room w).map fun j => w ++ [j]
noncomputable def level (room : List Nat) : Nat → List (List Nat)
  | 0 => [[]]
  | i + 1 => grow room (level room i)
noncomputable def words : Nat → List Nat → Nat
  | 0, _ => 1
  | n + 1, r => (((List.range r.length).filter fun j => decide (0 < r.getD j 0)).map fun j => words n (r.set j (r.getD j 0 - 1))).sum
noncomputable def left (room w : List Nat) : List Nat := (List.range room.length).map fun j => room.getD j 0 - w.count j
/-! the words are counted by the factorials -/
/-! ### what holds of each beginning -/
structure Begun (room : List Nat) (i : Nat) (w : List Nat) : Prop where
  len : w.length = i
  all : ∀ j ∈ w, j < room.length
  cnt : ∀ j, j < room.length → w.count j ≤ room.getD j 0
/-! ### their order -/
end KM

end

section
-- KcNum
set_option linter.all false
namespace KM
end KM

end

section
-- KcPack
set_option Elab.async false
set_option linter.all false
set_option maxRecDepth 100000
set_option maxHeartbeats 4000000
namespace L2
open PySem PyProof.Rows
/-! ### things of whatever kind -/
noncomputable def wholeV : V → Bool
  | .int _ => true
  | _ => false
noncomputable def Plain (K : PySem.W.Frag) (H : Hp) (x : V) : Prop := ∃ t b1 b2, TyOf K H x t ∧ PySem.W.kitOne K t (.type "int") = some b1 ∧ PySem.W.kitOne K t (.type "bool") = some b2 ∧ (b1 && !b2) = wholeV x
theorem Plain.int {K : PySem.W.Frag} {H : Hp} (i : Int) : Plain K H (.int i) := ⟨_, _, _, .int i, kit_int_int K, kit_int_bool K, rfl⟩
theorem tyOf_same {K : PySem.W.Frag} {H H' : Hp} {x : V} {t : Value} (h : TyOf K H x t) (s : Same H H') : TyOf K H' x t := by
  cases h with
  | non => exact .non
  | bl b => exact .bl b
  | int i => exact .int i
  | str x => exact .str x
  | flt x => exact .flt x
  | lst e => exact .lst (s _ _ e)
  | frz e => exact .frz (s _ _ e)
  | tup e => exact .tup (s _ _ e)
  | dK e => exact .dK (s _ _ e)
  | dT e => exact .dT (s _ _ e)
  | ins e cl ha hn htk hm => exact .ins (s _ _ e) cl ha hn htk hm
theorem Plain.same {K : PySem.W.Frag} {H H' : Hp} {x : V} (h : Plain K H x) (s : Same H H') : Plain K H' x := by
  obtain ⟨t, b1, b2, ty, r⟩ := h
  exact ⟨t, b1, b2, tyOf_same ty s, r⟩
/-! ### what is a pack -/
/-! ### how many -/
structure Pack (c : Nat) (ss : List Nat) : Prop where
  c12 : c ≤ 12
  l1 : 1 ≤ ss.length
  l5 : ss.length ≤ 5
  sum : ss.sum ≤ c
noncomputable def natV (ss : List Nat) : List V := ss.map fun (s : Nat) => V.int ((s : Nat) : Int)
theorem natV_ints (ss : List Nat) : natV ss = (ss.map fun (s : Nat) => ((s : Nat) : Int)).map V.int := by unfold natV; rw [List.map_map]; rfl
theorem natV_len (ss : List Nat) : (natV ss).length = ss.length := List.length_map _
/-! ### deals, one more card -/
theorem paired_app {α β : Type} {F : α → β → Prop} : ∀ {l : List α} {m : List β} {l' : List α} {m' : List β}, Paired F l m → Paired F l' m' → Paired F (l ++ l') (m ++ m')
  | _, _, _, _, .nil, h => h
  | _, _, _, _, .cons r t, h => .cons r (paired_app t h)
/-! ### the deals -/
theorem natV_snoc (ss : List Nat) (c : Nat) : natV ss ++ [.int (c : Int)] = natV (ss ++ [c]) := by unfold natV; rw [List.map_append]; rfl
/-! ### the cards of a holder -/
theorem int_at {xs : List Int} {i : Nat} {x : V} (h : (xs.map V.int)[i]? = some x) : ∃ z, xs[i]? = some z ∧ x = .int z := by
  rw [List.getElem?_map] at h
  cases e : xs[i]? with
  | none => rw [e] at h; cases h
  | some z => rw [e] at h; exact ⟨z, rfl, (Option.some.inj h).symm⟩
end L2

end

section
-- KcLawC
set_option Elab.async false
set_option linter.all false
set_option maxRecDepth 100000
set_option maxHeartbeats 4000000
namespace L2
open PySem PyProof.Rows

/-! ### the numbers out of a script -/
/-! ### products -/
/-! ### the count of deals by factorials -/
/-! ### the pack -/
end L2

end

section
-- KcIsR
set_option Elab.async false
set_option linter.all false
set_option maxRecDepth 100000
set_option maxHeartbeats 4000000
namespace L2
open PySem PyProof.Rows
/-! ### is None, is not None -/
noncomputable def isN : V → Bool
  | .non => true
  | _ => false
noncomputable def rIsNone : R2 := fun x y H Q => y = .non ∧ Q (.bl (isN x)) H
noncomputable def rIsnNone : R2 := fun x y H Q => y = .non ∧ Q (.bl (!isN x)) H
theorem r_isNone {x : V} {H : Hp} {Q : VK} (h : Q (.bl (isN x)) H) : rIsNone x .non H Q := ⟨rfl, h⟩
theorem r_isnNone {x : V} {H : Hp} {Q : VK} (h : Q (.bl (!isN x)) H) : rIsnNone x .non H Q := ⟨rfl, h⟩
/-! ### (x,) * n -/
noncomputable def mRepT : R2 := fun x y H Q => ∃ (a : Addr) (v : V) (k : Nat), x = .ref a ∧ y = .int (k : Int) ∧ H a = some (.tup [v]) ∧ k ≤ 1000 ∧ ∀ p H', Same H H' → H' p = some (.tup (List.replicate k v)) → Q (.ref p) H'
theorem m_repT {a : Addr} {v : V} {k : Nat} {H : Hp} {Q : VK} (e : H a = some (.tup [v])) (hk : k ≤ 1000) (h : ∀ p H', Same H H' → H' p = some (.tup (List.replicate k v)) → Q (.ref p) H') : mRepT (.ref a) (.int (k : Int)) H Q := ⟨a, v, k, rfl, rfl, e, hk, h⟩
/-! ### len(set(xs)), min(xs), min(xs, default=None), of whole numbers -/
noncomputable def cSetL (K : PySem.W.Frag) : List V → Hp → VK → Prop := fun xs H Q => ∃ (p : Addr) (ns : List Int), xs = [.ref p] ∧ SqL K H p (ns.map V.int) ∧ ns.length ≤ 1000 ∧ ∀ (q : Addr) (H' : Hp) (S : Int → Bool) (n : Nat), H q = none → Same H H' → H' q = some (.set S n) → n ≤ ns.length → (∃ L : List Int, L.Nodup ∧ (∀ x, x ∈ L ↔ x ∈ ns) ∧ n = L.length) → Q (.ref q) H'
noncomputable def cLenS : List V → Hp → VK → Prop := fun xs H Q => ∃ (p : Addr) (S : Int → Bool) (n : Nat), xs = [.ref p] ∧ H p = some (.set S n) ∧ n ≤ 1000000 ∧ Q (.int (n : Int)) H
noncomputable def mLenSet (K : PySem.W.Frag) (ta : TA) : TE := tCB cLenS (tCons (tCB (cSetL K) ta) tNil)
theorem dist_two {ns L : List Int} (nd : L.Nodup) (hm : ∀ x, x ∈ L ↔ x ∈ ns) : L.length < 2 ↔ ∀ a ∈ ns, ∀ b ∈ ns, a = b := by
  constructor
  · intro h a ha b hb
    have m1 := (hm a).mpr ha
    have m2 := (hm b).mpr hb
    match L, h, m1, m2 with
    | [x], _, m1, m2 => rw [List.mem_singleton.mp m1, List.mem_singleton.mp m2]
    | x :: y :: r, h, _, _ => exact absurd h (by simp)
  · intro h
    match L, nd, hm with
    | [], _, _ => exact Nat.zero_lt_succ _
    | [x], _, _ => exact Nat.lt_succ_self _
    | x :: y :: r, nd, hm =>
      have e := h x ((hm x).mp (by simp)) y ((hm y).mp (by simp))
      rw [e] at nd
      simp at nd
theorem r_lenSet {K : PySem.W.Frag} {σ : St} {H : Hp} {Q : VK} {p : Addr} {ns : List Int} (e : SqL K H p (ns.map V.int)) (hl : ns.length ≤ 1000) (h : ∀ (n : Nat) (H' : Hp), Same H H' → (n < 2 ↔ ∀ a ∈ ns, ∀ b ∈ ns, a = b) → Q (.int (n : Int)) H') :
    cSetL K [.ref p] H fun x H1 => tNil σ H1 fun xs H2 => cLenS (x :: xs) H2 Q :=
  ⟨p, ns, rfl, e, hl, fun q H' S n _ s e2 hn ⟨L, nd, hm, hi⟩ => ⟨q, S, n, rfl, e2, by omega, h n H' s (by rw [hi]; exact dist_two nd hm)⟩⟩
noncomputable def mMinD (K : PySem.W.Frag) (ta : TA) : TE := fun σ H Q => ta σ H fun vs H1 => ∃ (p : Addr) (ns : List Int), vs = [.ref p] ∧ SqL K H1 p (ns.map V.int) ∧ (ns = [] → Q .non H1) ∧ ∀ M, M ∈ ns → (∀ a ∈ ns, M ≤ a) → Q (.int M) H1
theorem m_minD {K : PySem.W.Frag} {ta : TA} {σ : St} {H : Hp} {Q : VK} (h : ta σ H fun vs H1 => ∃ (p : Addr) (ns : List Int), vs = [.ref p] ∧ SqL K H1 p (ns.map V.int) ∧ (ns = [] → Q .non H1) ∧ ∀ M, M ∈ ns → (∀ a ∈ ns, M ≤ a) → Q (.int M) H1) : mMinD K ta σ H Q := h
/-! ### range(a, -1, -1) -/
noncomputable def Itd (lo : Int) (n : Nat) : It := ⟨fun i _ => i < n, fun i H x H' => H' = H ∧ x = .int (lo - i), fun i _ => n ≤ i⟩
end L2

end

section
-- KcSameD
set_option Elab.async false
set_option linter.all false
set_option maxRecDepth 100000
set_option maxHeartbeats 4000000
namespace L2
open PySem PyProof.Rows
/-! ### one and the same data, lists and tuples to any depth -/
noncomputable def flatD : V → Bool
  | .non => true
  | .bl _ => true
  | .int _ => true
  | _ => false
inductive SameD (K : PySem.W.Frag) (H : Hp) : Nat → V → V → Prop where
  | flat {n : Nat} {x : V} (h : flatD x = true) : SameD K H n x x
  | lst {n : Nat} {a b : Addr} {xs ys : List V} (e1 : SqL K H a xs) (e2 : SqL K H b ys) (hl : xs.length = ys.length) (h : ∀ (i : Nat) (x y : V), xs[i]? = some x → ys[i]? = some y → SameD K H n x y) : SameD K H (n + 1) (.ref a) (.ref b)
  | tup {n : Nat} {a b : Addr} {xs ys : List V} (e1 : SqT K H a xs) (e2 : SqT K H b ys) (hl : xs.length = ys.length) (h : ∀ (i : Nat) (x y : V), xs[i]? = some x → ys[i]? = some y → SameD K H n x y) : SameD K H (n + 1) (.ref a) (.ref b)
section
variable {K : PySem.W.Frag} {H : Hp} {Q : VK}
theorem SameD.up {n m : Nat} {x y : V} (h : SameD K H n x y) (hm : n ≤ m) : SameD K H m x y := by
  induction h generalizing m with
  | flat h => exact .flat h
  | lst e1 e2 hl _ ih =>
    obtain ⟨k, rfl⟩ : ∃ k, m = k + 1 := ⟨m - 1, by omega⟩
    exact .lst e1 e2 hl fun i x y hx hy => ih i x y hx hy (by omega)
  | tup e1 e2 hl _ ih =>
    obtain ⟨k, rfl⟩ : ∃ k, m = k + 1 := ⟨m - 1, by omega⟩
    exact .tup e1 e2 hl fun i x y hx hy => ih i x y hx hy (by omega)
end
/-! ### a comprehension over enumerate -/
section
variable {g : CF TG} {tt : CF TT} {te : CF TE} {σ₀ : St} {Q : VK} {H : Hp} {K : PySem.W.Frag}
end
end L2

end

section
-- KcRows
set_option Elab.async false
set_option linter.all false
set_option maxRecDepth 100000
set_option maxHeartbeats 4000000
namespace L2
open PySem PyProof.Rows
/-! ### a list of lists -/
theorem rows_snoc {α : Type} {ks : List α} {i : Nat} {k : α} (hk : ks[i]? = some k) : ks.take (i + 1) = ks.take i ++ [k] := by
  rw [List.take_add_one, hk]; rfl
theorem pr_snoc {α β : Type} {R : α → β → Prop} {x : α} {y : β} : ∀ {xs : List α} {ys : List β}, Paired R xs ys → R x y → Paired R (xs ++ [x]) (ys ++ [y])
  | _, _, .nil, q => .cons q .nil
  | _, _, .cons r t, q => .cons r (pr_snoc t q)
theorem pr_at {α β : Type} {R : α → β → Prop} : ∀ {xs : List α} {ys : List β}, Paired R xs ys → ∀ {i : Nat} {x : α}, xs[i]? = some x → ∃ y, ys[i]? = some y ∧ R x y
  | _, _, .nil, i, x, e => by cases e
  | _, _, .cons r t, 0, x, e => by cases e; exact ⟨_, rfl, r⟩
  | _, _, .cons r t, i + 1, x, e => pr_at t e
theorem pr_at2 {α β : Type} {R : α → β → Prop} : ∀ {xs : List α} {ys : List β}, Paired R xs ys → ∀ {i : Nat} {y : β}, ys[i]? = some y → ∃ x, xs[i]? = some x ∧ R x y
  | _, _, .nil, i, x, e => by cases e
  | _, _, .cons r t, 0, x, e => by cases e; exact ⟨_, rfl, r⟩
  | _, _, .cons r t, i + 1, x, e => pr_at2 t e
theorem refs_at {rs : List Addr} {i : Nat} {x : V} (hx : (rs.map V.ref)[i]? = some x) : ∃ a, rs[i]? = some a ∧ x = .ref a := by
  rw [List.getElem?_map] at hx
  cases h : rs[i]? with
  | none => rw [h] at hx; cases hx
  | some a => rw [h] at hx; cases hx; exact ⟨a, rfl, rfl⟩
theorem refs_get {rs : List Addr} {i : Nat} {a : Addr} (h : rs[i]? = some a) : atI (rs.map V.ref) (i : Int) = some (.ref a) := atI_nat (by rw [List.getElem?_map, h]; rfl)
theorem bls_get {bs : List Bool} {j : Nat} {z : Bool} (h : bs[j]? = some z) : atI (bs.map V.bl) (j : Int) = some (.bl z) := atI_nat (by rw [List.getElem?_map, h]; rfl)
section
variable {α : Type} {f : α → List V} {H H' H2 H5 : Hp} {p r : Addr} {rs : List Addr} {fs : List α} {v : α}
noncomputable def LsP (f : α → List V) (H : Hp) (rs : List Addr) (fs : List α) : Prop := Paired (fun (a : Addr) (v : α) => H a = some (.lst (f v))) rs fs
noncomputable def LsAt (f : α → List V) (H : Hp) (p : Addr) (fs : List α) : Prop := ∃ rs : List Addr, H p = some (.lst (rs.map V.ref)) ∧ LsP f H rs fs
theorem LsP.same (h : LsP f H rs fs) (s : Same H H') : LsP f H' rs fs := Paired.mapP h fun _ _ q => s _ _ q
theorem LsAt.same (h : LsAt f H p fs) (s : Same H H') : LsAt f H' p fs := let ⟨rs, e, q⟩ := h; ⟨rs, s _ _ e, q.same s⟩
noncomputable def LsOff (f : α → List V) (p : Addr) (H : Hp) (rs : List Addr) (fs : List α) : Prop := Paired (fun (a : Addr) (v : α) => a ≠ p ∧ H a = some (.lst (f v))) rs fs
theorem LsOff.ls (h : LsOff f p H rs fs) : LsP f H rs fs := Paired.mapP h fun _ _ q => q.2
theorem LsOff.same (h : LsOff f p H rs fs) (s : Same H H') : LsOff f p H' rs fs := Paired.mapP h fun _ _ q => ⟨q.1, s _ _ q.2⟩
theorem LsOff.off (h : LsOff f p H rs fs) (o : Off p H H') : LsOff f p H' rs fs := Paired.mapP h fun _ _ q => ⟨q.1, by rw [o _ q.1]; exact q.2⟩
theorem LsP.len (h : LsP f H rs fs) : rs.length = fs.length := Paired.length h
theorem LsOff.len (h : LsOff f p H rs fs) : rs.length = fs.length := Paired.length h
theorem LsP.get (h : LsP f H rs fs) {i : Nat} {a : Addr} (e : rs[i]? = some a) : ∃ v, fs[i]? = some v ∧ H a = some (.lst (f v)) := pr_at h e
theorem LsP.of (h : LsP f H rs fs) {i : Nat} {v : α} (e : fs[i]? = some v) : ∃ a, rs[i]? = some a ∧ H a = some (.lst (f v)) := pr_at2 h e
noncomputable def NewL (f : α → List V) (H : Hp) (p : Addr) (fs : List α) (i : Nat) (acc : List V) (H2 : Hp) : Prop :=
  Same H H2 ∧ H2 p = some (.lst acc) ∧ acc.length ≤ i ∧ ∃ rs : List Addr, acc = rs.map V.ref ∧ LsOff f p H2 rs (fs.take i)
theorem NewL.put {i : Nat} {acc : List V} (hp : H p = none) (h : NewL f H p fs i acc H2) (hv : fs[i]? = some v) (hr : H2 r = none) (s : Same H2 H5) (e : H5 r = some (.lst (f v))) :
    H5 p = some (.lst acc) ∧ NewL f H p fs (i + 1) (acc ++ [.ref r]) (upd H5 p (.lst (acc ++ [.ref r]))) := by
  obtain ⟨s2, e2, l2, rs, rfl, h2⟩ := h
  have nr : r ≠ p := (ne_of_none e2 hr).symm
  refine ⟨s _ _ e2, (s2.trans s).upd hp _, upd_same, by simp at l2 ⊢; omega, rs ++ [r], by simp, ?_⟩
  rw [rows_snoc hv]
  exact pr_snoc ((h2.same s).off off_upd) ⟨nr, by rw [upd_ne nr]; exact e⟩
end
section
variable {α : Type} {f : α → List V} {g : CF TG} {tt : CF TT} {te : CF TE} {σ₀ : St} {Q : VK} {H : Hp} {K : PySem.W.Frag}
end
end L2

end

section
-- KcKit
set_option Elab.async false
set_option linter.all false
set_option maxRecDepth 100000
set_option maxHeartbeats 4000000
namespace L2
open PySem
end L2

end

section
-- KcCase
set_option Elab.async false
set_option linter.all false
set_option maxRecDepth 100000
set_option maxHeartbeats 4000000
namespace L2
open PySem PyProof.Rows

/-! ### asks, goals and deals out of a script -/
noncomputable abbrev blL (bs : List Bool) : List V := bs.map V.bl
noncomputable def cellZ (ns : List Int) (k : Int) : Int := if k < (ns.length : Int) then ns.getD k.toNat 0 else 0
noncomputable def sp__law_cell_at (K : PySem.W.Frag) : Sp := fun vs H Q _ => ∃ (a : Addr) (ns : List Int) (k : Int), vs = [.ref a, .int k] ∧ ScriptOk K H a ns ∧ 0 ≤ k ∧ Q (.int (cellZ ns k)) H
noncomputable def t__law_cell_at (K : PySem.W.Frag) : TS := (tSeq (tIfS (tTest (tOp (rI0 fun i j => .bl (decide (i < j))) (tVar 1) (tCB (cLen K) (tCons (tVar 0) tNil)))) (tRet (tOp (rIxL K) (tVar 0) (tVar 1))) tNext)
  (tRet (tC (.int 0))))
theorem len__law_cell_at {K : PySem.W.Frag} {vs : List V} {H : Hp} {Q : VK} {E : XK} (h : sp__law_cell_at K vs H Q E) : vs.length = 2 := by
  obtain ⟨a, ns, k, rfl, ⟨hS, h63, hbits⟩, h0, q⟩ := h
  rfl
theorem rd__law_cell_at {K : PySem.W.Frag} {vs : List V} {H : Hp} {Q : VK} {E : XK} (h : sp__law_cell_at K vs H Q E) : t__law_cell_at K { nx := fun _ H' => Q .non H', rt := Q } (start ["_law_script", "_law_k"] vs) H := by
  obtain ⟨a, ns, k, rfl, ⟨hS, h63, hbits⟩, h0, q⟩ := h
  show t__law_cell_at K _ [some _, some _] _
  unfold t__law_cell_at
  have hl : (ns.map V.int).length = ns.length := List.length_map _
  walk_at "rd"
  rw [hl]
  refine ite_dec (fun c => ?_) (fun c => ?_)
  · walk_at "rd"
    refine r_ixL hS (atI_ints h0 c) ?_
    have e : cellZ ns k = ns.getD k.toNat 0 := by unfold cellZ; rw [if_pos c]
    rw [e] at q
    exact q
  · walk_at "rd"
    have e : cellZ ns k = 0 := by unfold cellZ; rw [if_neg c]
    rw [e] at q
    exact q
noncomputable def sp__law_stream (_ : PySem.W.Frag) : Sp := fun vs H Q _ => ∃ (c : Int) (s m : Nat), vs = [.int c, .int (s : Int), .int (m : Int)] ∧ s ≤ 1000 ∧ m ≤ 1000 ∧
  ∀ p (zs : List Int) H', H p = none → Same H H' → H' p = some (.lst (zs.map V.int)) → zs.length = m → (∀ z ∈ zs, 0 ≤ z ∧ z ≤ 1000000000) → Q (.ref p) H'
noncomputable def t__law_stream (K : PySem.W.Frag) : TS := (tSeq (tAsg (tOp (rI (fun _ j => 0 < j) fun i j => .int (i % j)) (tOp (rI0 fun i j => .int (i + j)) (tOp (rI0 fun i j => .int (i + j)) (tOp (rI (fun _ j => 0 < j) fun i j => .int (i % j)) (tVar 0) (tC (.int 2147483629))) (tOp (rI IntMulOk fun i j => .int (i * j)) (tC (.int 7919)) (tVar 1))) (tC (.int 17))) (tC (.int 2147483647))) (gName 3))
  (tSeq (tAsg (mLst tNil) (gName 4))
  (tSeq (tFor (iRng1 (tCons (tVar 2) tNil)) (gName 5) (tSeq (tAsg (tOp (rI (fun _ j => 0 < j) fun i j => .int (i % j)) (tOp (rI0 fun i j => .int (i + j)) (tOp (rI0 fun i j => .int (i + j)) (tOp (rI0 fun i j => .int (i + j)) (tOp (rI IntMulOk fun i j => .int (i * j)) (tVar 3) (tVar 3)) (tOp (rI IntMulOk fun i j => .int (i * j)) (tC (.int 48271)) (tVar 3))) (tOp (rI IntMulOk fun i j => .int (i * j)) (tC (.int 29)) (tVar 5))) (tVar 1)) (tC (.int 2147483647))) (gName 3))
  (tDrop (tBM K "list" rAppend (tVar 4) (tCons (tOp (rI CDiv fun i j => .int (i / j)) (tVar 3) (tC (.int 3))) tNil)))))
  (tRet (tVar 4)))))
theorem len__law_stream {K : PySem.W.Frag} {vs : List V} {H : Hp} {Q : VK} {E : XK} (h : sp__law_stream K vs H Q E) : vs.length = 3 := by
  obtain ⟨c, s, m, rfl, hs, hm, q⟩ := h
  rfl
theorem rd__law_stream {K : PySem.W.Frag} {vs : List V} {H : Hp} {Q : VK} {E : XK} (h : sp__law_stream K vs H Q E) : t__law_stream K { nx := fun _ H' => Q .non H', rt := Q } (start ["_law_cell", "_law_salt", "_law_many", "_law_number", "_law_found", "_law_k"] vs) H := by
  obtain ⟨c, s, m, rfl, hs, hm, q⟩ := h
  show t__law_stream K _ [some _, some _, some _, none, none, none] _
  unfold t__law_stream
  walk_at "rd"
  have b0 : 0 ≤ (c % 2147483629 + 7919 * (s : Int) + 17) % 2147483647 := Int.emod_nonneg _ (by decide)
  have b1 : (c % 2147483629 + 7919 * (s : Int) + 17) % 2147483647 < 2147483647 := Int.emod_lt_of_pos _ (by decide)
  generalize (c % 2147483629 + 7919 * (s : Int) + 17) % 2147483647 = n0 at *
  refine ⟨by simp [sizeLine_eq], fun p H1 hp s1 e1 => ?_⟩
  walk_at "rd"
  refine lp_range m (by omega) (by omega) (by omega) (fun i σ H2 => ∃ (n : Int) (u : Option V) (zs : List Int), σ = [some (.int c), some (.int s), some (.int m), some (.int n), some (.ref p), u] ∧ 0 ≤ n ∧ n < 2147483647 ∧ Same H H2 ∧ H2 p = some (.lst (zs.map V.int)) ∧ zs.length = i ∧ ∀ z ∈ zs, 0 ≤ z ∧ z ≤ 1000000000) ⟨n0, _, [], rfl, b0, b1, s1, e1, rfl, fun z h => by cases h⟩ ?_ ?_
  · rintro i σ H2 hi ⟨n, u, zs, rfl, n0', n1, s2, e2, l2, z2⟩
    walk_at "rd"
    have c0 : 0 ≤ (n * n + 48271 * n + 29 * (i : Int) + (s : Int)) % 2147483647 := Int.emod_nonneg _ (by decide)
    have c1 : (n * n + 48271 * n + 29 * (i : Int) + (s : Int)) % 2147483647 < 2147483647 := Int.emod_lt_of_pos _ (by decide)
    generalize (n * n + 48271 * n + 29 * (i : Int) + (s : Int)) % 2147483647 = n2 at *
    refine ⟨r_tyL e2, ?_⟩
    walk_at "rd"
    refine r_append e2 (by rw [List.length_map, sizeLine_eq]; omega) fun H3 o3 e3 => ?_
    walk_at "rd"
    refine ⟨n2, _, zs ++ [n2 / 3], rfl, c0, c1, s2.off hp o3, by rw [List.map_append]; exact e3, by rw [List.length_append, l2]; rfl, fun z hz => ?_⟩
    rcases List.mem_append.mp hz with h | h
    · exact z2 z h
    · rw [List.mem_singleton.mp h]
      omega
  · rintro σ H2 ⟨n, u, zs, rfl, n0', n1, s2, e2, l2, z2⟩
    walk_at "rd"
    exact q _ _ _ hp s2 e2 l2 z2
theorem ints_get {zs : List Int} {k : Nat} (h : k < zs.length) : ∃ z, zs[k]? = some z ∧ z ∈ zs ∧ atI (zs.map V.int) (k : Int) = some (.int z) :=
  ⟨zs[k], List.getElem?_eq_getElem h, List.getElem_mem h, atI_nat (by rw [List.getElem?_map, List.getElem?_eq_getElem h]; rfl)⟩
noncomputable def sp__law_ask (K : PySem.W.Frag) : Sp := fun vs H Q _ => ∃ (a b : Addr) (ns : List Int) (k m : Nat) (rs : List Addr) (rows : List (List Bool)), vs = [.ref a, .int (k : Int), .int (m : Int), .ref b] ∧ ScriptOk K H a ns ∧ k ≤ 100 ∧ 0 < m ∧ m ≤ 100 ∧
  H b = some (.lst (rs.map V.ref)) ∧ LsP blL H rs rows ∧ (∀ r ∈ rows, r.length = m) ∧
  ∀ p bs H', H p = none → Same H H' → H' p = some (.lst (blL bs)) → bs.length = m → Q (.ref p) H'
noncomputable def t__law_ask (K : PySem.W.Frag) : TS := (tSeq (tAsg (tCall (sp__law_stream K) [] E0 (tCons (tCall (sp__law_cell_at K) [] E0 (tCons (tVar 0) (tCons (tOp (rI0 fun i j => .int (i + j)) (tC (.int 3)) (tVar 1)) tNil))) (tCons (tVar 1) (tCons (tOp (rI0 fun i j => .int (i + j)) (tVar 2) (tC (.int 1))) tNil)))) (gName 4))
  (tSeq (tAsg (tOp (rI (fun _ j => 0 < j) fun i j => .int (i % j)) (tOp (rIxL K) (tVar 4) (tC (.int 0))) (tC (.int 6))) (gName 5))
  (tSeq (tAsg (mLst tNil) (gName 6))
  (tSeq (tFor (iRng1 (tCons (tVar 2) tNil)) (gName 7) (tSeq (tAsg (tOp (rIxL K) (mLst (tCons (tC (.int 1)) (tCons (tC (.int 2)) (tCons (tC (.int 4)) (tCons (tC (.int 8)) (tCons (tC (.int 16)) (tCons (tC (.int 32)) tNil))))))) (tOp (rI (fun _ j => 0 < j) fun i j => .int (i % j)) (tOp (rI CDiv fun i j => .int (i / j)) (tOp (rIxL K) (tVar 4) (tC (.int 0))) (tC (.int 6))) (tC (.int 6)))) (gName 8))
  (tSeq (tAsg (mLst (tCons (tOp rEq (tOp (rI (fun _ j => 0 < j) fun i j => .int (i % j)) (tOp (rIxL K) (tVar 4) (tOp (rI0 fun i j => .int (i + j)) (tC (.int 1)) (tVar 7))) (tC (.int 2))) (tC (.int 1))) (tCons (tOp rEq (tOp (rI (fun _ j => 0 < j) fun i j => .int (i % j)) (tOp (rI CDiv fun i j => .int (i / j)) (tVar 7) (tVar 8)) (tC (.int 2))) (tC (.int 1))) (tCons (tOp rEq (tOp (rI (fun _ j => 0 < j) fun i j => .int (i % j)) (tOp (rIxL K) (tVar 4) (tOp (rI0 fun i j => .int (i + j)) (tC (.int 1)) (tVar 7))) (tC (.int 5))) (tC (.int 1))) (tCons (tOp rEq (tOp (rI (fun _ j => 0 < j) fun i j => .int (i % j)) (tOp (rI CDiv fun i j => .int (i / j)) (tOp (rIxL K) (tVar 4) (tC (.int 0))) (tC (.int 36))) (tC (.int 2))) (tC (.int 1))) (tCons (tOp (rI0 fun i j => .bl (decide (i < j))) (tVar 7) (tOp (rI (fun _ j => 0 < j) fun i j => .int (i % j)) (tOp (rI CDiv fun i j => .int (i / j)) (tOp (rIxL K) (tVar 4) (tC (.int 0))) (tC (.int 36))) (tVar 2))) tNil)))))) (gName 9))
  (tIfS (tAnd (tTest (tOp rEq (tVar 5) (tC (.int 5)))) (tTest (tOp (rI0 fun i j => .bl (decide (j < i))) (tCB (cLen K) (tCons (tVar 3) tNil)) (tC (.int 0))))) (tDrop (tBM K "list" rAppend (tVar 6) (tCons (tOp rEq (tOp (rIxL K) (tOp (rIxL K) (tVar 3) (tOp (rI (fun _ j => 0 < j) fun i j => .int (i % j)) (tOp (rI CDiv fun i j => .int (i / j)) (tOp (rIxL K) (tVar 4) (tC (.int 0))) (tC (.int 36))) (tCB (cLen K) (tCons (tVar 3) tNil)))) (tVar 7)) (tOp (rI0 fun i j => .bl (decide (j < i))) (tOp (rI (fun _ j => 0 < j) fun i j => .int (i % j)) (tOp (rIxL K) (tVar 4) (tOp (rI0 fun i j => .int (i + j)) (tC (.int 1)) (tVar 7))) (tC (.int 7))) (tC (.int 0)))) tNil))) (tDrop (tBM K "list" rAppend (tVar 6) (tCons (tOp (rIxL K) (tVar 9) (tOp (rI (fun _ j => 0 < j) fun i j => .int (i % j)) (tVar 5) (tC (.int 5)))) tNil)))))))
  (tRet (tVar 6))))))
theorem len__law_ask {K : PySem.W.Frag} {vs : List V} {H : Hp} {Q : VK} {E : XK} (h : sp__law_ask K vs H Q E) : vs.length = 4 := by
  obtain ⟨a, b, ns, k, m, rs, rows, rfl, hSc, hk, hm0, hm, eb, er, hrow, q⟩ := h
  rfl
theorem rd__law_ask {K : PySem.W.Frag} {vs : List V} {H : Hp} {Q : VK} {E : XK} (h : sp__law_ask K vs H Q E) : t__law_ask K { nx := fun _ H' => Q .non H', rt := Q } (start ["_law_script", "_law_k", "_law_many", "_law_asks", "_law_xs", "_law_way", "_law_found", "_law_d", "_law_bit", "_law_some"] vs) H := by
  obtain ⟨a, b, ns, k, m, rs, rows, rfl, hSc, hk, hm0, hm, eb, er, hrow, q⟩ := h
  show t__law_ask K _ [some _, some _, some _, some _, none, none, none, none, none, none] _
  unfold t__law_ask
  walk_at "rd"
  refine ⟨a, ns, 3 + (k : Int), rfl, hSc, by omega, ?_⟩
  walk_at "rd"
  refine ⟨cellZ ns (3 + (k : Int)), k, m + 1, rfl, by omega, by omega, fun x zs H1 hx s1 e1 l1 z1 => ?_⟩
  obtain ⟨x0, _, x0m, hx0⟩ := ints_get (zs := zs) (k := 0) (by omega)
  obtain ⟨x00, x01⟩ := z1 _ x0m
  walk_at "rd"
  refine r_ixL (SqL.of e1) hx0 ?_
  walk_at "rd"
  refine ⟨by simp [sizeLine_eq], fun p H2 hp s2 e2 => ?_⟩
  have hp0 : H p = none := s1.free hp
  have hrl := er.len
  walk_at "rd"
  refine lp_range m (by omega) (by omega) (by omega) (fun i σ H3 => ∃ (u1 u2 u3 : Option V) (bs : List Bool), σ = [some (.ref a), some (.int k), some (.int m), some (.ref b), some (.ref x), some (.int (x0 % 6)), some (.ref p), u1, u2, u3] ∧ Same H1 H3 ∧ H3 p = some (.lst (blL bs)) ∧ bs.length = i) ⟨_, _, _, [], rfl, s2, e2, rfl⟩ ?_ ?_
  · rintro i σ H3 hi ⟨u1, u2, u3, bs, rfl, s3, e3, l3⟩
    have s03 := s1.trans s3
    obtain ⟨y, _, ym, hy⟩ := ints_get (zs := zs) (k := 1 + i) (by omega)
    obtain ⟨y0, y1⟩ := z1 _ ym
    rw [show (((1 + i : Nat) : Int)) = 1 + (i : Int) by omega] at hy
    walk_at "rd"
    refine ⟨by simp [sizeLine_eq], fun l4 H4 hl4 s4 e4 => ?_⟩
    walk_at "rd"
    refine r_ixL (SqL.of (s4 _ _ (s3 _ _ e1))) hx0 ?_
    walk_at "rd"
    obtain ⟨v, hv, hvm⟩ := at_mod [V.int 1, V.int 2, V.int 4, V.int 8, V.int 16, V.int 32] (x0 / 6) (m := 6) rfl (by decide)
    obtain ⟨bit, rfl, bt0, bt1⟩ : ∃ o : Int, v = .int o ∧ 0 < o ∧ o ≤ 32 := by
      simp only [List.mem_cons, List.not_mem_nil, or_false] at hvm
      rcases hvm with rfl | rfl | rfl | rfl | rfl | rfl <;> exact ⟨_, rfl, by decide, by decide⟩
    refine r_ixL (SqL.of e4) hv ?_
    walk_at "rd"
    have s34 := s3.trans s4
    have e14 := s34 _ _ e1
    refine r_ixL (SqL.of e14) hy ?_
    walk_at "rd"
    refine r_ixL (SqL.of e14) hy ?_
    walk_at "rd"
    refine r_ixL (SqL.of e14) hx0 ?_
    walk_at "rd"
    refine r_ixL (SqL.of e14) hx0 ?_
    walk_at "rd"
    generalize hf : [V.bl (decide (y % 2 = 1)), _, _, _, _] = five
    refine ⟨by rw [← hf]; simp [sizeLine_eq], fun l5 H5 hl5 s5 e5 => ?_⟩
    have s35 := s34.trans s5
    have s05 := s1.trans s35
    have e15 := s35 _ _ e1
    have ep5 := s5 _ _ (s4 _ _ e3)
    have hfin : ∀ (H6 : Hp) (z : Bool) (w1 w2 w3 : Option V), Off p H5 H6 → H6 p = some (.lst (blL bs ++ [.bl z])) → ∃ (u1 u2 u3 : Option V) (bs : List Bool), [some (.ref a), some (.int k), some (.int m), some (.ref b), some (.ref x), some (.int (x0 % 6)), some (.ref p), w1, w2, w3] = [some (.ref a), some (.int k), some (.int m), some (.ref b), some (.ref x), some (V.int (x0 % 6)), some (.ref p), u1, u2, u3] ∧ Same H1 H6 ∧ H6 p = some (.lst (blL bs)) ∧ bs.length = i + 1 :=
      fun H6 z w1 w2 w3 o6 e6 => ⟨_, _, _, bs ++ [z], rfl, s35.off hp o6, by rw [e6]; unfold blL; rw [List.map_append]; rfl, by rw [List.length_append, l3]; rfl⟩
    have go2 : ∀ Q' : V → Hp → Prop, (∀ z, Q' (.bl z) H5) → rIxL K (.ref l5) (.int (x0 % 6 % 5)) H5 Q' := by
      intro Q' hQ
      obtain ⟨v2, hv2, hvm2⟩ := at_mod five (x0 % 6) (m := 5) (by rw [← hf]; rfl) (by decide)
      obtain ⟨z, rfl⟩ : ∃ z : Bool, v2 = .bl z := by
        rw [← hf] at hvm2
        simp only [List.mem_cons, List.not_mem_nil, or_false] at hvm2
        rcases hvm2 with rfl | rfl | rfl | rfl | rfl <;> exact ⟨_, rfl⟩
      exact r_ixL (SqL.of e5) hv2 (hQ z)
    walk_at "ra"
    refine r_ifS_e fun EE hEE => ?_
    have other : EE [some (.ref a), some (.int k), some (.int m), some (.ref b), some (.ref x), some (.int (x0 % 6)), some (.ref p), some (.int (i : Int)), some (.int bit), some (.ref l5)] H5 := by
      refine hEE _ _ ?_
      walk_at "rd"
      refine ⟨r_tyL ep5, ?_⟩
      walk_at "rd"
      refine go2 _ fun z => ?_
      walk_at "rd"
      refine r_append ep5 (by rw [List.length_map, sizeLine_eq]; omega) fun H6 o6 e6 => ?_
      walk_at "rd"
      exact hfin _ z _ _ _ o6 e6
    walk_at "rd"
    refine ite_dec (fun c => ?_) (fun c => other)
    walk_at "rd"
    refine r_len (SqL.of (s05 _ _ eb)) ?_
    rw [List.length_map, hrl]
    walk_at "rd"
    refine ite_dec (fun c2 => ?_) (fun c2 => other)
    walk_at "rd"
    refine ⟨r_tyL ep5, ?_⟩
    walk_at "rd"
    refine r_ixL (SqL.of e15) hx0 ?_
    walk_at "rd"
    refine r_len (SqL.of (s05 _ _ eb)) ?_
    rw [List.length_map, hrl]
    walk_at "rd"
    have m1 := Int.emod_nonneg (x0 / 36) (b := (rows.length : Int)) (by omega)
    have m2 := Int.emod_lt_of_pos (x0 / 36) (b := (rows.length : Int)) (by omega)
    obtain ⟨j, hj⟩ : ∃ j : Nat, x0 / 36 % (rows.length : Int) = (j : Int) := ⟨(x0 / 36 % (rows.length : Int)).toNat, by omega⟩
    rw [hj]
    obtain ⟨r, hr⟩ : ∃ r, rs[j]? = some r := ⟨rs[j]'(by omega), List.getElem?_eq_getElem (by omega)⟩
    obtain ⟨row, hrw, erw⟩ := er.get hr
    have hlen := hrow _ (List.mem_of_getElem? hrw)
    refine r_ixL (SqL.of (s05 _ _ eb)) (refs_get hr) ?_
    walk_at "rd"
    refine r_ixL (SqL.of (s05 _ _ erw)) (bls_get (List.getElem?_eq_getElem (show i < row.length by omega))) ?_
    walk_at "rd"
    refine r_ixL (SqL.of e15) hy ?_
    walk_at "rd"
    refine r_append ep5 (by rw [List.length_map, sizeLine_eq]; omega) fun H6 o6 e6 => ?_
    walk_at "rd"
    exact hfin _ _ _ _ _ o6 e6
  · rintro σ H3 ⟨u1, u2, u3, bs, rfl, s3, e3, l3⟩
    walk_at "rd"
    exact q _ _ _ hp0 (s1.trans s3) e3 l3
structure Case (H : Hp) (p b c : Addr) (rows : List (List Bool)) (gs : List Int) (ds : List Nat) (m : Nat) : Prop where
  asks : LsAt blL H p rows
  goal : H b = some (.lst (gs.map V.int))
  some_ : H c = some (.lst (natV ds))
  six : rows.length ≤ 6
  four : 13 ≤ m → rows.length ≤ 4
  row : ∀ r ∈ rows, r.length = m
  gl : gs.length = m
  m0 : 0 < m
  m60 : m ≤ 60
  dl : ds.length ≤ 60
  d0 : ds ≠ []
  dm : ∀ d ∈ ds, d < m
theorem Case.same {H H' : Hp} {p b c : Addr} {rows : List (List Bool)} {gs : List Int} {ds : List Nat} {m : Nat} (h : Case H p b c rows gs ds m) (s : Same H H') : Case H' p b c rows gs ds m :=
  ⟨h.asks.same s, s _ _ h.goal, s _ _ h.some_, h.six, h.four, h.row, h.gl, h.m0, h.m60, h.dl, h.d0, h.dm⟩
noncomputable def sp__law_case (K : PySem.W.Frag) : Sp := fun vs H Q _ => ∃ (a : Addr) (ns : List Int), vs = [.ref a] ∧ ScriptOk K H a ns ∧
  ∀ (t p b c : Addr) (rows : List (List Bool)) (gs : List Int) (ds : List Nat) (m : Nat) (H' : Hp), Same H H' → H' t = some (.tup [.ref p, .ref b, .ref c]) → Case H' p b c rows gs ds m → Q (.ref t) H'
noncomputable def t__law_case (K : PySem.W.Frag) : TS := (tSeq (tAsg (tCall (sp__law_cell_at K) [] E0 (tCons (tVar 0) (tCons (tC (.int 0)) tNil))) (gName 1))
  (tSeq (tAsg (tOp (rIxL K) (mLst (tCons (tC (.int 2)) (tCons (tC (.int 3)) (tCons (tC (.int 4)) (tCons (tC (.int 1)) (tCons (tC (.int 0)) (tCons (tC (.int 5)) (tCons (tC (.int 3)) (tCons (tC (.int 6)) tNil))))))))) (tOp (rI (fun _ j => 0 < j) fun i j => .int (i % j)) (tVar 1) (tC (.int 8)))) (gName 2))
  (tSeq (tAsg (tOp (rI0 fun i j => .int (i + j)) (tC (.int 1)) (tOp (rI (fun _ j => 0 < j) fun i j => .int (i % j)) (tOp (rI CDiv fun i j => .int (i / j)) (tVar 1) (tC (.int 8))) (tC (.int 12)))) (gName 3))
  (tSeq (tIfS (tAnd (tTest (tOp rEq (tOp (rI (fun _ j => 0 < j) fun i j => .int (i % j)) (tOp (rI CDiv fun i j => .int (i / j)) (tVar 1) (tC (.int 96))) (tC (.int 8))) (tC (.int 5)))) (tTest (tOp (rI0 fun i j => .bl (decide (i < j))) (tVar 2) (tC (.int 5))))) (tAsg (tOp (rI0 fun i j => .int (i + j)) (tC (.int 13)) (tOp (rI (fun _ j => 0 < j) fun i j => .int (i % j)) (tOp (rI CDiv fun i j => .int (i / j)) (tVar 1) (tC (.int 768))) (tC (.int 48)))) (gName 3)) tNext)
  (tSeq (tAsg (mLst tNil) (gName 4))
  (tSeq (tFor (iRng1 (tCons (tVar 2) tNil)) (gName 5) (tDrop (tBM K "list" rAppend (tVar 4) (tCons (tCall (sp__law_ask K) [] E0 (tCons (tVar 0) (tCons (tVar 5) (tCons (tVar 3) (tCons (tVar 4) tNil))))) tNil))))
  (tSeq (tAsg (tCall (sp__law_stream K) [] E0 (tCons (tCall (sp__law_cell_at K) [] E0 (tCons (tVar 0) (tCons (tC (.int 1)) tNil))) (tCons (tC (.int 50)) (tCons (tOp (rI0 fun i j => .int (i + j)) (tVar 3) (tC (.int 1))) tNil)))) (gName 6))
  (tSeq (tAsg (mLst tNil) (gName 7))
  (tSeq (tFor (iRng1 (tCons (tVar 3) tNil)) (gName 8) (tSeq (tAsg (mLst (tCons (tOp (rI (fun _ j => 0 < j) fun i j => .int (i % j)) (tOp (rIxL K) (tVar 6) (tOp (rI0 fun i j => .int (i + j)) (tC (.int 1)) (tVar 8))) (tC (.int 2))) (tCons (tVar 8) (tCons (tOp (rI0 fun i j => .int (i - j)) (tOp (rI (fun _ j => 0 < j) fun i j => .int (i % j)) (tOp (rIxL K) (tVar 6) (tOp (rI0 fun i j => .int (i + j)) (tC (.int 1)) (tVar 8))) (tC (.int 5))) (tC (.int 2))) (tCons (tOp (rI IntMulOk fun i j => .int (i * j)) (tOp (rI CDiv fun i j => .int (i / j)) (tVar 8) (tC (.int 2))) (tOp (rI0 fun i j => .int (i - j)) (tOp (rI CPow fun i j => .int (i ^ j.toNat)) (tC (.int 10)) (tC (.int 50))) (tC (.int 7)))) (tCons (tC (.int 4)) (tCons (tOp (rI (fun _ j => 0 < j) fun i j => .int (i % j)) (tVar 8) (tC (.int 4))) (tCons (tOp (rI (fun _ j => 0 < j) fun i j => .int (i % j)) (tOp (rIxL K) (tVar 6) (tOp (rI0 fun i j => .int (i + j)) (tC (.int 1)) (tVar 8))) (tC (.int 3))) tNil)))))))) (gName 9))
  (tDrop (tBM K "list" rAppend (tVar 7) (tCons (tOp (rIxL K) (tVar 9) (tOp (rI (fun _ j => 0 < j) fun i j => .int (i % j)) (tOp (rIxL K) (tVar 6) (tC (.int 0))) (tC (.int 7)))) tNil)))))
  (tSeq (tAsg (tCall (sp__law_stream K) [] E0 (tCons (tCall (sp__law_cell_at K) [] E0 (tCons (tVar 0) (tCons (tC (.int 2)) tNil))) (tCons (tC (.int 60)) (tCons (tOp (rI0 fun i j => .int (i + j)) (tVar 3) (tC (.int 1))) tNil)))) (gName 10))
  (tSeq (tAsg (tComp (iRng1 (tCons (tVar 3) tNil)) (fun _ _ _ _ => (gName 0)) (fun _ _ _ _ => (tOr (tTest (tOp (rI0 fun i j => .bl (decide (i < j))) (tOp (rI (fun _ j => 0 < j) fun i j => .int (i % j)) (tOp (rIxL K) (tVar 1) (tC (.int 0))) (tC (.int 3))) (tC (.int 2)))) (tTest (tOp (rI0 fun i j => .bl (decide (j < i))) (tOp (rI (fun _ j => 0 < j) fun i j => .int (i % j)) (tOp (rIxL K) (tVar 1) (tOp (rI0 fun i j => .int (i + j)) (tC (.int 1)) (tVar 0))) (tC (.int 3))) (tC (.int 0)))))) (fun _ _ _ _ => (tVar 0)) [none, some 10]) (gName 11))
  (tSeq (tIfS (tTest (tOp rEq (tCB (cLen K) (tCons (tVar 11) tNil)) (tC (.int 0)))) (tAsg (mLst (tCons (tOp (rI (fun _ j => 0 < j) fun i j => .int (i % j)) (tOp (rIxL K) (tVar 10) (tC (.int 0))) (tVar 3)) tNil)) (gName 11)) tNext)
  (tRet (mTup (tCons (tVar 4) (tCons (tVar 7) (tCons (tVar 11) tNil)))))))))))))))))
noncomputable abbrev N__law_case : List Str := ["_law_script", "_law_first", "_law_count", "_law_many", "_law_asks", "_law_k", "_law_xs", "_law_goal", "_law_d", "_law_some", "_law_ys", "_law_chosen_ones"]
theorem len__law_case {K : PySem.W.Frag} {vs : List V} {H : Hp} {Q : VK} {E : XK} (h : sp__law_case K vs H Q E) : vs.length = 1 := by
  obtain ⟨a, ns, rfl, hSc, q⟩ := h
  rfl
theorem rd__law_case {K : PySem.W.Frag} {vs : List V} {H : Hp} {Q : VK} {E : XK} (h : sp__law_case K vs H Q E) : t__law_case K { nx := fun _ H' => Q .non H', rt := Q } (start ["_law_script", "_law_first", "_law_count", "_law_many", "_law_asks", "_law_k", "_law_xs", "_law_goal", "_law_d", "_law_some", "_law_ys", "_law_chosen_ones"] vs) H := by
  obtain ⟨a, ns, rfl, hSc, q⟩ := h
  show t__law_case K _ [some _, none, none, none, none, none, none, none, none, none, none, none] _
  unfold t__law_case
  walk_at "rd"
  refine ⟨a, ns, 0, rfl, hSc, by decide, ?_⟩
  walk_at "rd"
  refine ⟨by simp [sizeLine_eq], fun l1 H1 hl1 s1 e1 => ?_⟩
  walk_at "rd"
  obtain ⟨v, hv, hvm⟩ := at_mod [V.int 2, V.int 3, V.int 4, V.int 1, V.int 0, V.int 5, V.int 3, V.int 6] (cellZ ns 0) (m := 8) rfl (by decide)
  obtain ⟨cnt, rfl, cn6⟩ : ∃ o : Nat, v = .int (o : Int) ∧ o ≤ 6 := by
    simp only [List.mem_cons, List.not_mem_nil, or_false] at hvm
    rcases hvm with rfl | rfl | rfl | rfl | rfl | rfl | rfl | rfl
    · exact ⟨2, rfl, by decide⟩
    · exact ⟨3, rfl, by decide⟩
    · exact ⟨4, rfl, by decide⟩
    · exact ⟨1, rfl, by decide⟩
    · exact ⟨0, rfl, by decide⟩
    · exact ⟨5, rfl, by decide⟩
    · exact ⟨3, rfl, by decide⟩
    · exact ⟨6, rfl, by decide⟩
  refine r_ixL (SqL.of e1) hv ?_
  walk_at "rs"
  refine r_seq ?_
  walk_at "rs"
  refine r_seq_n fun NX hNX => ?_
  have key : ∀ m : Nat, 0 < m → m ≤ 60 → (13 ≤ m → cnt ≤ 4) → NX (start N__law_case [.ref a, .int (cellZ ns 0), .int cnt, .int m]) H1 := by
    intro m m0 m60 h4
    refine hNX _ _ ?_
    show tSeq _ _ _ [some _, some _, some _, some _, none, none, none, none, none, none, none, none] _
    walk_at "rd"
    refine ⟨by simp [sizeLine_eq], fun p H2 hp s2 e2 => ?_⟩
    have hSc2 := hSc.same (s1.trans s2)
    have hp0 : H p = none := s1.free hp
    walk_at "rd"
    refine lp_range cnt (by omega) (by omega) (by omega) (fun i σ H3 => ∃ (u : Option V) (rs : List Addr) (rows : List (List Bool)), σ = [some (.ref a), some (.int (cellZ ns 0)), some (.int cnt), some (.int m), some (.ref p), u, none, none, none, none, none, none] ∧ Same H H3 ∧ H3 p = some (.lst (rs.map V.ref)) ∧ LsOff blL p H3 rs rows ∧ rows.length = i ∧ ∀ r ∈ rows, r.length = m) ⟨_, [], [], rfl, s1.trans s2, e2, .nil, rfl, fun r h => by cases h⟩ ?_ ?_
    · rintro i σ H3 hi ⟨u, rs, rows, rfl, s3, e3, r3, l3, w3⟩
      walk_at "rd"
      refine ⟨r_tyL e3, ?_⟩
      walk_at "rd"
      refine ⟨a, p, ns, i, m, rs, rows, rfl, hSc.same s3, by omega, m0, by omega, e3, r3.ls, w3, fun r bs H4 hr s4 e4 l4 => ?_⟩
      walk_at "rd"
      have hl := r3.len
      refine r_append (s4 _ _ e3) (by rw [List.length_map, sizeLine_eq]; omega) fun H5 o5 e5 => ?_
      walk_at "rd"
      have nr : r ≠ p := (ne_of_none e3 hr).symm
      refine ⟨_, rs ++ [r], rows ++ [bs], rfl, (s3.trans s4).off hp0 o5, by rw [List.map_append]; exact e5, pr_snoc ((r3.same s4).off o5) ⟨nr, by rw [o5 r nr]; exact e4⟩, by rw [List.length_append, l3]; rfl, fun z hz => ?_⟩
      rcases List.mem_append.mp hz with h | h
      · exact w3 z h
      · rw [List.mem_singleton.mp h]; exact l4
    · rintro σ H3 ⟨u, rs, rows, rfl, s3, e3, r3, l3, w3⟩
      have hSc3 := hSc.same s3
      have A3 : LsAt blL H3 p rows := ⟨rs, e3, r3.ls⟩
      walk_at "rd"
      refine ⟨a, ns, 1, rfl, hSc3, by decide, ?_⟩
      walk_at "rd"
      refine ⟨cellZ ns 1, 50, m + 1, rfl, by omega, by omega, fun x zs H4 hx s4 e4 l4 z4 => ?_⟩
      walk_at "rd"
      refine ⟨by simp [sizeLine_eq], fun g H5 hg s5 e5 => ?_⟩
      have s35 := s4.trans s5
      have hg3 : H3 g = none := s4.free hg
      obtain ⟨x0, _, x0m, hx0⟩ := ints_get (zs := zs) (k := 0) (by omega)
      obtain ⟨x00, x01⟩ := z4 _ x0m
      walk_at "rd"
      refine lp_range m (by omega) (by omega) (by omega) (fun i σ H6 => ∃ (u1 u2 : Option V) (gs : List Int), σ = [some (.ref a), some (.int (cellZ ns 0)), some (.int cnt), some (.int m), some (.ref p), u, some (.ref x), some (.ref g), u1, u2, none, none] ∧ Same H4 H6 ∧ H6 g = some (.lst (gs.map V.int)) ∧ gs.length = i) ⟨_, _, [], rfl, s5, e5, rfl⟩ ?_ ?_
      · rintro i σ H6 hi ⟨u1, u2, gs, rfl, s6, e6, l6⟩
        obtain ⟨y, _, ym, hy⟩ := ints_get (zs := zs) (k := 1 + i) (by omega)
        obtain ⟨y0, y1⟩ := z4 _ ym
        rw [show (((1 + i : Nat) : Int)) = 1 + (i : Int) by omega] at hy
        have e46 := s6 _ _ e4
        walk_at "rd"
        refine r_ixL (SqL.of e46) hy ?_
        walk_at "rd"
        refine r_ixL (SqL.of e46) hy ?_
        walk_at "rd"
        refine r_ixL (SqL.of e46) hy ?_
        walk_at "rd"
        generalize hf : [V.int (y % 2), _, _, _, _, _, _] = seven
        refine ⟨by rw [← hf]; simp [sizeLine_eq], fun l7 H7 hl7 s7 e7 => ?_⟩
        have s67 := s6.trans s7
        walk_at "rd"
        refine ⟨r_tyL (s7 _ _ e6), ?_⟩
        walk_at "rd"
        refine r_ixL (SqL.of (s67 _ _ e4)) hx0 ?_
        walk_at "rd"
        obtain ⟨v2, hv2, hvm2⟩ := at_mod seven x0 (m := 7) (by rw [← hf]; rfl) (by decide)
        obtain ⟨z, rfl⟩ : ∃ z : Int, v2 = .int z := by
          rw [← hf] at hvm2
          simp only [List.mem_cons, List.not_mem_nil, or_false] at hvm2
          rcases hvm2 with rfl | rfl | rfl | rfl | rfl | rfl | rfl <;> exact ⟨_, rfl⟩
        refine r_ixL (SqL.of e7) hv2 ?_
        walk_at "rd"
        refine r_append (s7 _ _ e6) (by rw [List.length_map, sizeLine_eq]; omega) fun H8 o8 e8 => ?_
        walk_at "rd"
        refine ⟨_, _, gs ++ [z], rfl, s67.off hg o8, by rw [List.map_append]; exact e8, by rw [List.length_append, l6]; rfl⟩
      · rintro σ H6 ⟨u1, u2, gs, rfl, s6, e6, l6⟩
        have s36 := s4.trans s6
        have hSc6 := hSc3.same s36
        walk_at "rd"
        refine ⟨a, ns, 2, rfl, hSc6, by decide, ?_⟩
        walk_at "rd"
        refine ⟨cellZ ns 2, 60, m + 1, rfl, by omega, by omega, fun y ys H7 hy s7 e7 l7 z7 => ?_⟩
        obtain ⟨y0, _, y0m, hy0⟩ := ints_get (zs := ys) (k := 0) (by omega)
        obtain ⟨y00, y01⟩ := z7 _ y0m
        walk_at "rd"
        refine lc_range m (by omega) (by omega) (by omega) (fun i acc _ => ∃ ds : List Nat, acc = natV ds ∧ ds.length ≤ i ∧ ∀ d ∈ ds, d < i) (fun _ _ => ⟨[], rfl, Nat.le_refl _, fun d h => by cases h⟩) ?_ ?_
        · rintro w hw C s' H' fp i acc H8 hi ⟨s8, e8, l8, ds, rfl, ld, hd⟩
          obtain ⟨z, _, zm, hz⟩ := ints_get (zs := ys) (k := 1 + i) (by omega)
          obtain ⟨z0, z1⟩ := z7 _ zm
          rw [show (((1 + i : Nat) : Int)) = 1 + (i : Int) by omega] at hz
          have put : ∀ H9, H9 = H8 → H9 w = some (.lst (natV ds)) ∧ CInv H7 w (fun i acc _ => ∃ ds : List Nat, acc = natV ds ∧ ds.length ≤ i ∧ ∀ d ∈ ds, d < i) (i + 1) (natV ds ++ [V.int (i : Int)]) (upd H9 w (.lst (natV ds ++ [V.int (i : Int)]))) := by
            rintro H9 rfl
            refine CInv.put hw (fun _ _ _ _ r _ => r) s8 e8 l8 ⟨ds ++ [i], by unfold natV; rw [List.map_append]; rfl, by rw [List.length_append]; exact Nat.add_le_add_right ld 1, fun d h => ?_⟩
            rcases List.mem_append.mp h with h | h
            · have := hd d h; omega
            · rw [List.mem_singleton.mp h]; omega
          walk_at "rd"
          refine r_ixL (SqL.of (s8 _ _ e7)) hy0 ?_
          walk_at "rd"
          refine ite_dec (fun c => ?_) (fun c => ?_)
          · walk_at "rd"
            exact put _ rfl
          · walk_at "rd"
            refine r_ixL (SqL.of (s8 _ _ e7)) hz ?_
            walk_at "rd"
            refine ite_dec (fun c => ?_) (fun c => ?_)
            · walk_at "rd"
              exact put _ rfl
            · exact CInv.skip s8 e8 l8 ⟨ds, rfl, by omega, fun d h => Nat.lt_succ_of_lt (hd d h)⟩
        · rintro w acc H8 hw s8 e8 ⟨ds, rfl, ld, hd⟩
          have s68 := s7.trans s8
          have s38 := s36.trans s68
          have fin : ∀ (c : Addr) (ds : List Nat) (H9 : Hp), Same H8 H9 → H9 c = some (.lst (natV ds)) → ds.length ≤ 60 → ds ≠ [] → (∀ d ∈ ds, d < m) → Case H9 p g c rows gs ds m := fun c ds H9 s9 e9 l9 n9 d9 =>
            ⟨A3.same (s38.trans s9), s9 _ _ (s68 _ _ e6), e9, by omega, fun h => by have := h4 h; omega, w3, l6, m0, m60, l9, n9, d9⟩
          walk_at "rd"
          rw [natV_len]
          refine ite_dec (fun c => ?_) (fun c => ?_)
          · walk_at "rd"
            refine r_ixL (SqL.of (s8 _ _ e7)) hy0 ?_
            walk_at "rd"
            obtain ⟨d, hdd, hdm⟩ : ∃ j : Nat, y0 % (m : Int) = (j : Int) ∧ j < m := by
              have m1 := Int.emod_nonneg y0 (b := (m : Int)) (by omega)
              have m2 := Int.emod_lt_of_pos y0 (b := (m : Int)) (by omega)
              exact ⟨(y0 % (m : Int)).toNat, by omega, by omega⟩
            rw [hdd]
            refine ⟨by simp [sizeLine_eq], fun c2 H9 hc2 s9 e9 => ?_⟩
            walk_at "rd"
            refine ⟨by simp [sizeLine_eq], fun t H10 ht s10 e10 => ?_⟩
            exact q t p g c2 rows gs [d] m H10 ((s3.trans s38).trans (s9.trans s10)) e10 (fin c2 [d] H10 (s9.trans s10) (s10 _ _ e9) (by simp) (by simp) (fun z hz => by rw [List.mem_singleton.mp hz]; exact hdm))
          · walk_at "rd"
            refine ⟨by simp [sizeLine_eq], fun t H10 ht s10 e10 => ?_⟩
            refine q t p g w rows gs ds m H10 ((s3.trans s38).trans s10) e10 (fin w ds H10 s10 (s10 _ _ e8) (by omega) (fun z => ?_) hd)
            rw [z] at c
            exact c rfl
  walk_at "rs"
  refine ite_dec (fun c => ?_) (fun c => ?_)
  · walk_at "rs"
    refine ite_dec (fun c => ?_) (fun c => ?_)
    · walk_at "rs"
      have := key (13 + cellZ ns 0 / 768 % 48).toNat (by omega) (by omega) (by omega)
      rw [show (((13 + cellZ ns 0 / 768 % 48).toNat : Nat) : Int) = 13 + cellZ ns 0 / 768 % 48 by omega] at this
      exact this
    · walk_at "rs"
      have := key (1 + cellZ ns 0 / 8 % 12).toNat (by omega) (by omega) (by omega)
      rw [show (((1 + cellZ ns 0 / 8 % 12).toNat : Nat) : Int) = 1 + cellZ ns 0 / 8 % 12 by omega] at this
      exact this
  · walk_at "rs"
    have := key (1 + cellZ ns 0 / 8 % 12).toNat (by omega) (by omega) (by omega)
    rw [show (((1 + cellZ ns 0 / 8 % 12).toNat : Nat) : Int) = 1 + cellZ ns 0 / 8 % 12 by omega] at this
    exact this

end L2

end

section
-- KcNeed
set_option Elab.async false
set_option linter.all false
set_option maxRecDepth 100000
set_option maxHeartbeats 4000000
namespace L2
/-! ### the fewest asks, as mathematics -/
noncomputable def okA (d : Nat) (p : List Bool × Option Bool) : Bool := match p.2 with
  | none => true
  | some a => p.1.getD d false == a
noncomputable def okS (rows : List (List Bool)) (st : List (Option Bool)) (d : Nat) : Bool := (rows.zip st).all (okA d)
noncomputable def bitR (rows : List (List Bool)) (i k : Nat) : Bool := (rows.getD i []).getD k false
theorem okS_set : ∀ (rows : List (List Bool)) (st : List (Option Bool)) (k d : Nat) (a : Bool), st.length = rows.length → st[k]? = some none → okS rows (st.set k (some a)) d = (okS rows st d && (bitR rows k d == a))
  | [], [], k, d, a, _, h => by cases h
  | r :: rows, s :: st, 0, d, a, hl, h => by
    cases h
    unfold okS
    rw [List.set_cons_zero, List.zip_cons_cons, List.zip_cons_cons, List.all_cons, List.all_cons]
    show ((r.getD d false == a) && _) = ((true && _) && (r.getD d false == a))
    rw [Bool.true_and, Bool.and_comm]
  | r :: rows, s :: st, k + 1, d, a, hl, h => by
    have ih := okS_set rows st k d a (by simpa using hl) h
    unfold okS at ih ⊢
    rw [List.set_cons_succ, List.zip_cons_cons, List.zip_cons_cons, List.all_cons, List.all_cons, ih]
    show _ = (_ && (bitR rows k d == a))
    rw [Bool.and_assoc]
  | [], s :: st, k, d, a, hl, h => by cases hl
  | r :: rows, [], k, d, a, hl, h => by cases h
noncomputable def cntN (st : List (Option Bool)) : Nat := st.count none
theorem cntN_set : ∀ {st : List (Option Bool)} {k : Nat} {a : Bool}, st[k]? = some none → cntN st = cntN (st.set k (some a)) + 1
  | s :: st, 0, a, h => by
    cases h
    unfold cntN
    rw [List.set_cons_zero, List.count_cons_self, List.count_cons_of_ne (by simp)]
  | s :: st, k + 1, a, h => by
    have ih := cntN_set (st := st) (k := k) (a := a) h
    unfold cntN at ih ⊢
    rw [List.set_cons_succ, List.count_cons, List.count_cons, ih]
    omega
  | [], k, a, h => by cases h
noncomputable def oneG (gs : List Int) (ds : List Nat) : Prop := ∀ a ∈ ds, ∀ b ∈ ds, gs.getD a 0 = gs.getD b 0
open Classical in
noncomputable def fwN (rows : List (List Bool)) (gs : List Int) (ds : List Nat) : Nat → List (Option Bool) → Option Nat
  | 0, st => if oneG gs (ds.filter (okS rows st)) then some 0 else none
  | u + 1, st => if oneG gs (ds.filter (okS rows st)) then some 0 else
    ((List.range st.length).filterMap fun k => if st[k]? = some none then (match fwN rows gs ds u (st.set k (some true)), fwN rows gs ds u (st.set k (some false)) with
      | some a, some b => some (1 + max a b)
      | _, _ => none) else none).min?
noncomputable def need (rows : List (List Bool)) (gs : List Int) (ds : List Nat) (st : List (Option Bool)) : Option Nat := fwN rows gs ds (cntN st) st
noncomputable def cost (rows : List (List Bool)) (gs : List Int) (ds : List Nat) (st : List (Option Bool)) (k : Nat) : Option Nat :=
  if st[k]? = some none then (match need rows gs ds (st.set k (some true)), need rows gs ds (st.set k (some false)) with
      | some a, some b => some (1 + max a b)
      | _, _ => none) else none
theorem need_one {rows : List (List Bool)} {gs : List Int} {ds : List Nat} {st : List (Option Bool)} (h : oneG gs (ds.filter (okS rows st))) : need rows gs ds st = some 0 := by
  unfold need
  cases cntN st with
  | zero => exact if_pos h
  | succ u => exact if_pos h
theorem need_more {rows : List (List Bool)} {gs : List Int} {ds : List Nat} {st : List (Option Bool)} (h : ¬ oneG gs (ds.filter (okS rows st))) : need rows gs ds st = ((List.range st.length).filterMap (cost rows gs ds st)).min? := by
  unfold need
  cases e : cntN st with
  | zero =>
    have hz : (List.range st.length).filterMap (cost rows gs ds st) = [] := by
      rw [List.filterMap_eq_nil_iff]
      intro k _
      unfold cost
      refine if_neg fun z => ?_
      have := cntN_set (a := true) z
      omega
    rw [hz]
    exact if_neg h
  | succ u =>
    have hz : fwN rows gs ds (u + 1) st = ((List.range st.length).filterMap fun k => if st[k]? = some none then (match fwN rows gs ds u (st.set k (some true)), fwN rows gs ds u (st.set k (some false)) with
      | some a, some b => some (1 + max a b)
      | _, _ => none) else none).min? := if_neg h
    rw [hz]
    refine congrArg (fun f => (List.filterMap f (List.range st.length)).min?) (funext fun k => ?_)
    unfold cost
    by_cases z : st[k]? = some none
    · rw [if_pos z, if_pos z]
      have h1 := cntN_set (a := true) z
      have h2 := cntN_set (a := false) z
      unfold need
      rw [show cntN (st.set k (some true)) = u by omega, show cntN (st.set k (some false)) = u by omega]
    · rw [if_neg z, if_neg z]
theorem min_of {l : List Nat} {M : Nat} (h1 : M ∈ l) (h2 : ∀ a ∈ l, M ≤ a) : l.min? = some M := List.min?_eq_some_iff.mpr ⟨h1, h2⟩
noncomputable def room3 : Nat → Nat
  | 0 => 1
  | u + 1 => 1 + 12 * room3 u
end L2

end

section
-- KcAsk
set_option Elab.async false
set_option linter.all false
set_option maxRecDepth 100000
set_option maxHeartbeats 4000000
namespace L2
open PySem PyProof.Rows

/-! ### what a state leaves -/
noncomputable def stV : Option Bool → V
  | none => .non
  | some b => .bl b
theorem isN_st (s : Option Bool) : isN (stV s) = s.isNone := by cases s <;> rfl
theorem st_get {st : List (Option Bool)} {i : Nat} {s : Option Bool} (h : st[i]? = some s) : (st.map stV)[i]? = some (stV s) := by rw [List.getElem?_map, h]; rfl
theorem st_of {st : List (Option Bool)} {i : Nat} {x : V} (h : (st.map stV)[i]? = some x) : ∃ s, st[i]? = some s ∧ x = stV s := by
  rw [List.getElem?_map] at h
  cases e : st[i]? with
  | none => rw [e] at h; cases h
  | some s => rw [e] at h; cases h; exact ⟨s, rfl, rfl⟩
theorem nat_of {ds : List Nat} {i : Nat} {x : V} (h : (natV ds)[i]? = some x) : ∃ d : Nat, ds[i]? = some d ∧ x = .int (d : Int) := by
  unfold natV at h
  rw [List.getElem?_map] at h
  cases e : ds[i]? with
  | none => rw [e] at h; cases h
  | some s => rw [e] at h; cases h; exact ⟨s, rfl, rfl⟩
theorem row_bit {row : List Bool} {d : Nat} (h : d < row.length) : row[d]? = some (row.getD d false) := by
  rw [List.getD_eq_getElem?_getD, List.getElem?_eq_getElem h]; rfl
theorem filt_snoc {f : Nat → Bool} {ds : List Nat} {i d : Nat} (h : ds[i]? = some d) : (ds.take (i + 1)).filter f = (ds.take i).filter f ++ if f d = true then [d] else [] := by
  rw [rows_snoc h, List.filter_append]
  by_cases c : f d = true
  · rw [if_pos c]; simp [c]
  · rw [if_neg c]; simp [c]
noncomputable def sp__law_left (_ : PySem.W.Frag) : Sp := fun vs H Q _ => ∃ (p c t : Addr) (rows : List (List Bool)) (st : List (Option Bool)) (ds : List Nat), vs = [.ref p, .ref c, .ref t] ∧ LsAt blL H p rows ∧ H c = some (.lst (natV ds)) ∧ H t = some (.tup (st.map stV)) ∧ (∀ d ∈ ds, ∀ r ∈ rows, d < r.length) ∧ rows.length ≤ 1000 ∧ ds.length ≤ 1000 ∧ st.length = rows.length ∧
  ∀ f H', H f = none → Same H H' → H' f = some (.lst (natV (ds.filter (okS rows st)))) → Q (.ref f) H'
noncomputable def t__law_left (K : PySem.W.Frag) : TS := (tSeq (tAsg (mLst tNil) (gName 3))
  (tSeq (tFor (iList K (tVar 1)) (gName 4) (tSeq (tAsg (tC (.bl true)) (gName 5))
  (tSeq (tFor (iRng1 (tCons (tCB (cLen K) (tCons (tVar 0) tNil)) tNil)) (gName 6) (tIfS (tAnd (tTest (tOp rIsnNone (tOp (rIxT K) (tVar 2) (tVar 6)) (tC .non))) (tTest (tOp rNe (tOp (rIxL K) (tOp (rIxL K) (tVar 0) (tVar 6)) (tVar 4)) (tOp (rIxT K) (tVar 2) (tVar 6))))) (tAsg (tC (.bl false)) (gName 5)) tNext))
  (tIfS (tB (tVar 5)) (tDrop (tBM K "list" rAppend (tVar 3) (tCons (tVar 4) tNil))) tNext))))
  (tRet (tVar 3))))
theorem len__law_left {K : PySem.W.Frag} {vs : List V} {H : Hp} {Q : VK} {E : XK} (h : sp__law_left K vs H Q E) : vs.length = 3 := by
  obtain ⟨p, c, t, rows, st, ds, rfl, ⟨rs, ep, er⟩, ec, et, hd, hl, hdl, hst, q⟩ := h
  rfl
theorem rd__law_left {K : PySem.W.Frag} {vs : List V} {H : Hp} {Q : VK} {E : XK} (h : sp__law_left K vs H Q E) : t__law_left K { nx := fun _ H' => Q .non H', rt := Q } (start ["_law_asks", "_law_some", "_law_state_here", "_law_found", "_law_deal", "_law_good", "_law_k"] vs) H := by
  obtain ⟨p, c, t, rows, st, ds, rfl, ⟨rs, ep, er⟩, ec, et, hd, hl, hdl, hst, q⟩ := h
  show t__law_left K _ [some _, some _, some _, none, none, none, none] _
  unfold t__law_left
  have hrl := er.len
  walk_at "rd"
  refine ⟨by simp [sizeLine_eq], fun f H1 hf s1 e1 => ?_⟩
  walk_at "rd"
  refine lp_list (natV ds) (SqL.of (s1 _ _ ec)) (fun i σ H2 => ∃ (u1 u2 u3 : Option V), σ = [some (.ref p), some (.ref c), some (.ref t), some (.ref f), u1, u2, u3] ∧ Same H H2 ∧ H2 f = some (.lst (natV ((ds.take i).filter (okS rows st))))) ⟨_, _, _, rfl, s1, e1⟩ ?_ ?_ ?_
  · rintro i σ H2 hi ⟨u1, u2, u3, rfl, s2, e2⟩
    exact SqL.of (s2 _ _ ec)
  · rintro i x σ H2 hx ⟨u1, u2, u3, rfl, s2, e2⟩
    obtain ⟨d, hdi, rfl⟩ := nat_of hx
    have hlt : ((ds.take i).filter (okS rows st)).length ≤ ds.length := Nat.le_trans (List.length_filter_le _ _) (by rw [List.length_take]; exact Nat.min_le_right _ _)
    have ep2 := s2 _ _ ep
    walk_at "rd"
    rw [List.length_map, hrl]
    refine lp_range rows.length (by omega) (by omega) (by omega) (fun k σ H3 => ∃ (u3 : Option V), σ = [some (.ref p), some (.ref c), some (.ref t), some (.ref f), some (.int (d : Int)), some (.bl (((rows.zip st).take k).all (okA d))), u3] ∧ H3 = H2) ⟨_, rfl, rfl⟩ ?_ ?_
    · rintro k σ H3 hk ⟨u3, rfl, rfl⟩
      obtain ⟨r, hr⟩ : ∃ r, rs[k]? = some r := ⟨rs[k]'(by omega), List.getElem?_eq_getElem (by omega)⟩
      obtain ⟨row, hrw, erw⟩ := er.get hr
      obtain ⟨s, hs⟩ : ∃ s, st[k]? = some s := ⟨st[k]'(by omega), List.getElem?_eq_getElem (by omega)⟩
      have hz : (rows.zip st)[k]? = some (row, s) := by rw [List.getElem?_zip_eq_some]; exact ⟨hrw, hs⟩
      have ha : ((rows.zip st).take (k + 1)).all (okA d) = (((rows.zip st).take k).all (okA d) && okA d (row, s)) := by rw [rows_snoc hz, List.all_append]; simp
      walk_at "rd"
      refine r_ixT (SqT.of (s2 _ _ et)) (atI_nat (st_get hs)) ?_
      walk_at "rd"
      refine r_isnNone ?_
      rw [isN_st]
      walk_at "rd"
      cases s with
      | none =>
        refine iteF ?_
        walk_at "rd"
        refine ⟨some (.int (k : Int)), ?_, rfl⟩
        rw [ha, show okA d (row, none) = true from rfl, Bool.and_true]
      | some b =>
        refine iteT ?_
        walk_at "rd"
        refine r_ixL (SqL.of (s2 _ _ ep)) (refs_get hr) ?_
        walk_at "rd"
        refine r_ixL (SqL.of (s2 _ _ erw)) (bls_get (row_bit (hd _ (List.mem_of_getElem? hdi) _ (List.mem_of_getElem? hrw)))) ?_
        walk_at "rd"
        refine r_ixT (SqT.of (s2 _ _ et)) (atI_nat (st_get hs)) ?_
        refine r_neB ?_
        walk_at "rd"
        have ho : okA d (row, some b) = (row.getD d false == b) := rfl
        refine ite_nb (fun h => ?_) (fun h => ?_)
        · walk_at "rd"
          refine ⟨some (.int (k : Int)), ?_, rfl⟩
          rw [ha, ho, h, Bool.and_false]
        · walk_at "rd"
          refine ⟨some (.int (k : Int)), ?_, rfl⟩
          rw [ha, ho, h, Bool.and_true]
    · rintro σ H3 ⟨u3, rfl, rfl⟩
      have hz : (rows.zip st).take rows.length = rows.zip st := List.take_of_length_le (by rw [List.length_zip]; omega)
      rw [hz]
      walk_at "rd"
      refine ite_b (fun h => ?_) (fun h => ?_)
      · walk_at "rd"
        refine ⟨r_tyL e2, ?_⟩
        walk_at "rd"
        refine r_append e2 (by rw [natV_len, sizeLine_eq]; omega) fun H4 o4 e4 => ?_
        walk_at "rd"
        refine ⟨_, _, _, rfl, s2.off hf o4, ?_⟩
        rw [filt_snoc hdi, if_pos (show okS rows st d = true from h), ← natV_snoc]
        exact e4
      · walk_at "rd"
        refine ⟨_, _, _, rfl, s2, ?_⟩
        rw [filt_snoc hdi, if_neg (by show ¬ okS rows st d = true; unfold okS; rw [h]; exact Bool.false_ne_true), List.append_nil]
        exact e2
  · rintro σ H2 ⟨u1, u2, u3, rfl, s2, e2⟩
    rw [natV_len, List.take_length] at e2
    walk_at "rd"
    exact q _ _ hf s2 e2

end L2

end

section
-- KcMapK
set_option Elab.async false
set_option linter.all false
set_option maxRecDepth 100000
set_option maxHeartbeats 4000000
namespace L2
open PySem PyProof.Rows
/-! ### keys: None, truths and whole numbers; tuples of these; tuples that have such tuples in them -/
noncomputable abbrev IA := Option Int
noncomputable abbrev IK := Sum IA (List IA)
noncomputable abbrev MK := Sum IA (List IK)
noncomputable def iaV : V → Option IA
  | .non => some none
  | .bl b => some (some (if b then 1 else 0))
  | .int i => some (some i)
  | _ => none
noncomputable def ItemV (H : Hp) (x : V) : IK → Prop
  | .inl a => iaV x = some a
  | .inr as => ∃ c ys, x = .ref c ∧ H c = some (.tup ys) ∧ ys.map iaV = as.map some
noncomputable def KeyV (H : Hp) (x : V) : MK → Prop
  | .inl a => iaV x = some a
  | .inr is => ∃ c xs, x = .ref c ∧ H c = some (.tup xs) ∧ Paired (ItemV H) xs is
noncomputable def kSort : MK → Bool
  | .inl _ => false
  | .inr _ => true
theorem ItemV.keep {H H' : Hp} {x : V} {k : IK} (h : ItemV H x k) (kp : Keep H H') : ItemV H' x k := by
  cases k with
  | inl a => exact h
  | inr as => obtain ⟨c, ys, e, q, r⟩ := h; exact ⟨c, ys, e, kp _ _ q, r⟩
theorem KeyV.keep {H H' : Hp} {x : V} {k : MK} (h : KeyV H x k) (kp : Keep H H') : KeyV H' x k := by
  cases k with
  | inl a => exact h
  | inr as => obtain ⟨c, xs, e, q, r⟩ := h; exact ⟨c, xs, e, kp _ _ q, Paired.mapP r fun _ _ z => ItemV.keep z kp⟩
theorem Off.keepD {H H' : Hp} {l : Addr} (o : Off l H H') (h : ∀ xs, H l ≠ some (.tup xs)) : Keep H H' := fun b ys q => by
  rw [o b (fun z => by subst z; exact h _ q)]
  exact q
end L2

end

section
-- KcDict
set_option Elab.async false
set_option linter.all false
set_option maxRecDepth 100000
set_option maxHeartbeats 4000000
namespace L2
open PySem PySem.Spec PyProof.Rows

/-! ### lists of pairs as tables -/
section
variable {κ : Type} [DecidableEq κ]
noncomputable def valV (kvs : List (κ × V)) (k : κ) : Option V := (kvs.find? fun kv => decide (kv.1 = k)).map (·.2)
noncomputable def putK (kvs : List (κ × V)) (k : κ) (v : V) : List (κ × V) :=
  if (kvs.any fun kv => decide (kv.1 = k)) = true then kvs.map (fun kv => if kv.1 = k then (kv.1, v) else kv) else kvs ++ [(k, v)]
noncomputable def dropK (kvs : List (κ × V)) (k : κ) : List (κ × V) := kvs.filter fun kv => decide (kv.1 ≠ k)

theorem valV_pos {p : κ × V} {r : List (κ × V)} {k : κ} (e : p.1 = k) : valV (p :: r) k = some p.2 := by simp [valV, List.find?_cons, e]
theorem valV_neg {p : κ × V} {r : List (κ × V)} {k : κ} (e : ¬ p.1 = k) : valV (p :: r) k = valV r k := by simp [valV, List.find?_cons, e]
theorem valV_any (k : κ) : ∀ kvs : List (κ × V), (kvs.any fun kv => decide (kv.1 = k)) = (valV kvs k).isSome
  | [] => rfl
  | p :: r => by
    rw [List.any_cons]
    by_cases e : p.1 = k
    · simp only [valV_pos e, decide_eq_true e, Bool.true_or, Option.isSome_some]
    · rw [valV_neg e, decide_eq_false e, Bool.false_or]; exact valV_any k r
theorem valV_map (k j : κ) (y : V) : ∀ kvs : List (κ × V), valV (kvs.map fun kv => if kv.1 = k then (kv.1, y) else kv) j = (valV kvs j).map fun x => if j = k then y else x
  | [] => rfl
  | p :: r => by
    have ih := valV_map k j y r
    rw [List.map_cons]
    by_cases h : p.1 = k
    · rw [if_pos h]
      by_cases e : p.1 = j
      · rw [valV_pos (p := (p.1, y)) e, valV_pos e, Option.map_some, if_pos (e.symm.trans h)]
      · rw [valV_neg (p := (p.1, y)) e, valV_neg e, ih]
    · rw [if_neg h]
      by_cases e : p.1 = j
      · rw [valV_pos (p := p) e, valV_pos e, Option.map_some, if_neg (fun z => h (e.trans z))]
      · rw [valV_neg (p := p) e, valV_neg e, ih]
theorem valV_snoc (k j : κ) (y : V) : ∀ kvs : List (κ × V), valV kvs k = none → valV (kvs ++ [(k, y)]) j = if j = k then some y else valV kvs j
  | [], _ => by
    by_cases e : k = j
    · rw [if_pos e.symm]; exact valV_pos (p := (k, y)) e
    · rw [if_neg (fun z => e z.symm)]; exact valV_neg (p := (k, y)) e
  | p :: r, hn => by
    rw [List.cons_append]
    have hk : ¬ p.1 = k := fun z => by rw [valV_pos z] at hn; cases hn
    rw [valV_neg hk] at hn
    have ih := valV_snoc k j y r hn
    by_cases e : p.1 = j
    · rw [valV_pos e, valV_pos e, if_neg (fun z => hk (e.trans z))]
    · rw [valV_neg e, valV_neg e, ih]
theorem valV_put (kvs : List (κ × V)) (k j : κ) (y : V) : valV (putK kvs k y) j = if j = k then some y else valV kvs j := by
  unfold putK
  by_cases a : (kvs.any fun kv => decide (kv.1 = k)) = true
  · rw [if_pos a, valV_map]
    rw [valV_any] at a
    by_cases e : j = k
    · obtain ⟨x, hx⟩ := Option.isSome_iff_exists.mp a
      rw [if_pos e, e, hx, Option.map_some, if_pos rfl]
    · rw [if_neg e]
      cases valV kvs j with
      | none => rfl
      | some x => rw [Option.map_some, if_neg e]
  · rw [if_neg a]
    refine valV_snoc k j y kvs ?_
    rw [valV_any] at a
    cases q : valV kvs k with
    | none => rfl
    | some x => rw [q] at a; exact (a rfl).elim
theorem length_putK (kvs : List (κ × V)) (k : κ) (v : V) : (putK kvs k v).length ≤ kvs.length + 1 := by
  unfold putK
  split
  · rw [List.length_map]; omega
  · rw [List.length_append, List.length_cons, List.length_nil]; omega
theorem RelO.isSome_eq {o : Option V} {u : Option Value} (r : RelO o u) : o.isSome = u.isSome := by
  cases o with
  | none => cases u with
    | none => rfl
    | some _ => exact (show False from r).elim
  | some _ => cases u with
    | none => exact (show False from r).elim
    | some _ => rfl
theorem RelO.getD {o : Option V} {u : Option Value} {d : V} {d' : Value} (r : RelO o u) (rd : RelV d d') : RelV (o.getD d) (u.getD d') := by
  cases o with
  | none => cases u with
    | none => exact rd
    | some _ => exact (show False from r).elim
  | some _ => cases u with
    | none => exact (show False from r).elim
    | some _ => exact r

theorem KV.val {kvs : List (κ × V)} {vs : List (κ × Value)} (r : KV kvs vs) (k : κ) : RelO (valV kvs k) (valueAt vs k) := by
  unfold KV at r
  induction r with
  | nil => exact True.intro
  | @cons p q ps qs h t ih =>
    obtain ⟨h1, h2⟩ := h
    by_cases e : p.1 = k
    · have e' : q.1 = k := h1.symm.trans e
      have b : valueAt (q :: qs) k = some q.2 := by simp [valueAt, List.find?_cons, e']
      rw [valV_pos e, b]; exact h2
    · have e' : ¬ q.1 = k := fun z => e (h1.trans z)
      have b : valueAt (q :: qs) k = valueAt qs k := by simp [valueAt, List.find?_cons, e']
      rw [valV_neg e, b]; exact ih
theorem KV.any {kvs : List (κ × V)} {vs : List (κ × Value)} (r : KV kvs vs) (k : κ) : (kvs.any fun kv => decide (kv.1 = k)) = vs.any fun kv => decide (kv.1 = k) := by
  unfold KV at r
  induction r with
  | nil => rfl
  | cons h t ih => rw [List.any_cons, List.any_cons, ih, h.1]
theorem KV.repl {kvs : List (κ × V)} {vs : List (κ × Value)} (r : KV kvs vs) (k : κ) {y : V} {u : Value} (ry : RelV y u) :
    KV (kvs.map fun kv => if kv.1 = k then (kv.1, y) else kv) (vs.map fun kv => if kv.1 = k then (kv.1, u) else kv) := by
  unfold KV at r ⊢
  induction r with
  | nil => exact .nil
  | @cons p q ps qs h t ih =>
    rw [List.map_cons, List.map_cons]
    refine .cons ?_ ih
    obtain ⟨h1, h2⟩ := h
    by_cases e : p.1 = k
    · rw [if_pos e, if_pos (h1.symm.trans e)]; exact ⟨h1, ry⟩
    · rw [if_neg e, if_neg (fun z => e (h1.trans z))]; exact ⟨h1, h2⟩
theorem KV.put {kvs : List (κ × V)} {vs : List (κ × Value)} (r : KV kvs vs) (k : κ) {y : V} {u : Value} (ry : RelV y u) : KV (putK kvs k y) (stored vs k u) := by
  unfold putK stored
  rw [r.any k]
  by_cases e : (vs.any fun kv => decide (kv.1 = k)) = true
  · rw [if_pos e, if_pos e]; exact r.repl k ry
  · rw [if_neg e, if_neg e]; exact Paired.snoc r ⟨rfl, ry⟩
theorem KV.drop {kvs : List (κ × V)} {vs : List (κ × Value)} (r : KV kvs vs) (k : κ) : KV (dropK kvs k) (without vs k) := by
  unfold KV at r ⊢
  unfold dropK without
  induction r with
  | nil => exact .nil
  | @cons p q ps qs h t ih =>
    obtain ⟨h1, h2⟩ := h
    rw [List.filter_cons, List.filter_cons]
    by_cases e : p.1 = k
    · have a : ¬ decide (p.1 ≠ k) = true := by simp [e]
      have b : ¬ decide (q.1 ≠ k) = true := by simp [h1.symm.trans e]
      rw [if_neg a, if_neg b]; exact ih
    · have e' : ¬ q.1 = k := fun z => e (h1.trans z)
      have a : decide (p.1 ≠ k) = true := by simp [e]
      have b : decide (q.1 ≠ k) = true := by simp [e']
      rw [if_pos a, if_pos b]; exact .cons ⟨h1, h2⟩ ih
theorem KV.keys {kvs : List (κ × V)} {vs : List (κ × Value)} (r : KV kvs vs) : kvs.map (·.1) = vs.map (·.1) := by
  unfold KV at r
  induction r with
  | nil => rfl
  | cons h t ih => rw [List.map_cons, List.map_cons, ih, h.1]
theorem KV.length {kvs : List (κ × V)} {vs : List (κ × Value)} (r : KV kvs vs) : kvs.length = vs.length := Paired.length r
end


/-! ### a tracked dict, its keys ints and texts or tuples of these -/
noncomputable abbrev KT (H : Hp) : List (List Key × V) → List (List Key × Addr × Value) → Prop := Paired fun p q => p.1 = q.1 ∧ H q.2.1 = some (.tup (p.1.map kV)) ∧ RelV p.2 q.2.2
theorem KT.val {H : Hp} {kvs : List (List Key × V)} {xs : List (List Key × Addr × Value)} (r : KT H kvs xs) (k : List Key) : RelO (valV kvs k) ((atKey xs k).map (·.2)) := by
  induction r with
  | nil => exact True.intro
  | @cons p q ps qs h t ih =>
    obtain ⟨h1, _, h2⟩ := h
    by_cases e : p.1 = k
    · have e' : q.1 = k := h1.symm.trans e
      have b : atKey (q :: qs) k = some q.2 := by simp [atKey, List.find?_cons, e']
      rw [valV_pos e, b]; exact h2
    · have e' : ¬ q.1 = k := fun z => e (h1.trans z)
      have b : atKey (q :: qs) k = atKey qs k := by simp [atKey, List.find?_cons, e']
      rw [valV_neg e, b]; exact ih
theorem KT.repl {H : Hp} {kvs : List (List Key × V)} {xs : List (List Key × Addr × Value)} (r : KT H kvs xs) (k : List Key) {y : V} {u : Value} (ry : RelV y u) :
    KT H (kvs.map fun kv => if kv.1 = k then (kv.1, y) else kv) (xs.map (putAt k u)) := by
  induction r with
  | nil => exact .nil
  | @cons p q ps qs h t ih =>
    rw [List.map_cons, List.map_cons]
    refine .cons ?_ ih
    obtain ⟨h1, h2, h3⟩ := h
    unfold putAt
    by_cases e : p.1 = k
    · rw [if_pos e, if_pos (h1.symm.trans e)]; exact ⟨h1, h2, ry⟩
    · rw [if_neg e, if_neg (fun z => e (h1.trans z))]; exact ⟨h1, h2, h3⟩
theorem KT.put {H : Hp} {kvs : List (List Key × V)} {xs : List (List Key × Addr × Value)} (r : KT H kvs xs) (k : List Key) {b : Addr} {y : V} {u : Value} (hb : H b = some (.tup (k.map kV))) (ry : RelV y u) :
    KT H (putK kvs k y) (storedH xs k b u) := by
  have e : (kvs.any fun kv => decide (kv.1 = k)) = (atKey xs k).isSome := by
    rw [valV_any, (r.val k).isSome_eq, Option.isSome_map]
  unfold putK storedH
  rw [e]
  by_cases q : (atKey xs k).isSome = true
  · rw [if_pos q, if_pos q]; exact r.repl k ry
  · rw [if_neg q, if_neg q]; exact Paired.snoc r ⟨rfl, hb, ry⟩
theorem KT.keeps {H H' : Hp} {kvs : List (List Key × V)} {xs : List (List Key × Addr × Value)} (r : KT H kvs xs) (ht : ∀ b ys, H b = some (.tup ys) → H' b = some (.tup ys)) : KT H' kvs xs :=
  Paired.mapP r fun _ _ z => ⟨z.1, ht _ _ z.2.1, z.2.2⟩

section
variable {P : Program} {w : World} {H : Hp} {h : Heap} {a : Addr}
end

noncomputable def DGet (H : Hp) (a : Addr) (y : V) (r : Option V) : Prop :=
  (∃ kvs k, Rd H a (.dK kvs) ∧ y = kV k ∧ r = valV kvs k) ∨ ∃ kvs k b, Rd H a (.dT kvs) ∧ y = .ref b ∧ H b = some (.tup (k.map kV)) ∧ r = valV kvs k
noncomputable def DPut (H : Hp) (a : Addr) (y v : V) (H' : Hp) : Prop :=
  (∃ kvs k, H a = some (.dK kvs) ∧ y = kV k ∧ kvs.length < sizeLine ∧ H' = upd H a (.dK (putK kvs k v))) ∨
  ∃ kvs k b, H a = some (.dT kvs) ∧ y = .ref b ∧ H b = some (.tup (k.map kV)) ∧ kvs.length < sizeLine ∧ H' = upd H a (.dT (putK kvs k v))
theorem DGet.k {H : Hp} {a : Addr} {kvs : List (Key × V)} {k : Key} (e : H a = some (.dK kvs)) : DGet H a (kV k) (valV kvs k) := .inl ⟨kvs, k, .inl e, rfl, rfl⟩
theorem DGet.t {H : Hp} {a b : Addr} {kvs : List (List Key × V)} {k : List Key} (e : H a = some (.dT kvs)) (eb : H b = some (.tup (k.map kV))) : DGet H a (.ref b) (valV kvs k) := .inr ⟨kvs, k, b, .inl e, rfl, eb, rfl⟩
theorem DPut.k {H : Hp} {a : Addr} {kvs : List (Key × V)} {k : Key} {v : V} (e : H a = some (.dK kvs)) (hl : kvs.length < sizeLine) : DPut H a (kV k) v (upd H a (.dK (putK kvs k v))) := .inl ⟨kvs, k, e, rfl, hl, rfl⟩
theorem DPut.t {H : Hp} {a b : Addr} {kvs : List (List Key × V)} {k : List Key} {v : V} (e : H a = some (.dT kvs)) (eb : H b = some (.tup (k.map kV))) (hl : kvs.length < sizeLine) :
    DPut H a (.ref b) v (upd H a (.dT (putK kvs k v))) := .inr ⟨kvs, k, b, e, rfl, eb, hl, rfl⟩


section
variable {X : Cx} {pins : List (Addr × Obj)} {σ : St} {H : Hp} {s : Shared} {a : Addr} {y v : V} {u r : Value} {o : Option V} {A : Around} {E : Value → Shared → Prop}

theorem Inv.big (I : Inv X pins σ H s) : sysModules < s.heap.objs.size := by
  have h : mainGlobals < s.heap.objs.size := (I.mod.glob.keeps I.bk).lt
  exact Nat.lt_trans (by decide) h

theorem d_write {h' : Heap} {t' : Nat} {ob : HO} (I : Inv X pins σ H s) (mu : Mut (H a)) (hs : Heap.SameBut a s.heap h') (he : ∃ q, h'.get? a = some q) (new : ObjOk X.prog X.w (upd H a ob) h' a ob) :
    Inv X pins σ (upd H a ob) { s with heap := h', toks := t' } :=
  I.write (x := a) (e := a) mu (.inl rfl) (fun b q hb z => (hs.2 b hb).trans z) he new
end

section
variable {X : Cx} {pins : List (Addr × Obj)} {σ : St} {H : Hp} {s : Shared} {a : Addr} {kvs : List (Key × V)} {k : Key} {u : Value} {A : Around} {E : Value → Shared → Prop}
end


/-! ### readings and rules -/
noncomputable def NoSl (i : Expr) : Prop := ∀ ov iv, subscripted i false ov iv = operate [ov, iv] (getItem ov iv)
theorem subD_of {prog : Program} {w : World} {A : Around} {E : Value → Shared → Prop} {s : Shared} {env : Env} {value slice : Expr} {pos : Pos} {T id : String} {Q : Value → Shared → Prop}
    (hl : typeLookup (.type T) "__getitem__" = pure (some (.builtin id))) (hs : NoSl slice)
    (h : wpAny (model prog w) A (eval value env) (fun o s₁ => wpAny (model prog w) A (eval slice env) (fun i s₂ => s₂.TypeIs o T ∧ wpAny (model prog w) A (getItem o i) Q E s₂) E s₁) E s) :
    wpAny (model prog w) A (eval (.Subscript value slice pos) env) Q E s := by
  refine Subscript_ (wpAny_mono h (fun o s₁ h₁ => wpAny_mono h₁ (fun i s₂ h₂ => ?_) fun _ _ x => x) fun _ _ x => x)
  obtain ⟨hT, h₂⟩ := h₂
  unfold subscriptTail
  refine wpAny_bind ?_
  rw [getitemInPython_of_ne hT.not_modules]
  refine wpAny_bind (wpAny_specialOf hT hl ?_)
  have fin : wpAny (model prog w) A (subscripted slice false o i) (fun r s₃ => wpAny (model prog w) A (letTemporaryGo value o r >>= fun _ => pure r) Q E s₃) E s₂ := by
    rw [hs o i]
    exact wpAny_operating (wpAny_mono h₂ (fun r s₃ h₃ => wpAny_bind (wpAny_letTemporaryGo (wpAny_pure h₃))) fun _ _ x => x)
  first
    | exact wpAny_pure (wpAny_bind fin)
    | exact wpAny_bind (wpAny_pure (wpAny_bind fin))
    | exact wpAny_bind fin

section
variable {X : Cx} {o i e value : Expr} {pos pos' tpos : Pos} {td ty tv : TE}
end


/-! ### displays -/
section
variable {X : Cx} {pos : Pos}
end

/-! ### methods -/
structure M1 (X : Cx) (o : Expr) (m : Str) (apos : Pos) (e : Expr) (cpos : Pos) : Prop where
  base : attributeBase o m X.env (eval o X.env) = eval o X.env
  few : ((backTo cpos (starEach [e] X.env)).all (fun x => !x.1) && (backToKw cpos (keywordEach [] X.env)).all (fun x => x.1.isSome)
    && decide (([e] : List Expr).length + ([] : List Keyword).length + (if ([] : List Keyword).isEmpty then 0 else 1) < 30)) = true
  line : (apos.endLine == cpos.line) = true
  trees : backTo cpos (starEach [e] X.env) = [(false, eval e X.env)]
structure M2 (X : Cx) (o : Expr) (m : Str) (apos : Pos) (e f : Expr) (cpos : Pos) : Prop where
  base : attributeBase o m X.env (eval o X.env) = eval o X.env
  few : ((backTo cpos (starEach [e, f] X.env)).all (fun x => !x.1) && (backToKw cpos (keywordEach [] X.env)).all (fun x => x.1.isSome)
    && decide (([e, f] : List Expr).length + ([] : List Keyword).length + (if ([] : List Keyword).isEmpty then 0 else 1) < 30)) = true
  line : (apos.endLine == cpos.line) = true
  trees : backTo cpos (starEach [e, f] X.env) = [(false, eval e X.env), (false, eval f X.env)]

section
variable {X : Cx} {pins : List (Addr × Obj)} {σ : St} {H : Hp} {s : Shared} {a : Addr} {y d : V} {u r : Value} {o : Option V} {A : Around} {E : Value → Shared → Prop}
end

section
variable {X : Cx} {o e f : Expr} {apos cpos : Pos} {td ty tx : TE}
end

/-! ### dict(d): a copy -/
section
variable {X : Cx} {pins : List (Addr × Obj)} {σ : St} {H : Hp} {s : Shared} {a : Addr} {kvs : List (Key × V)} {A : Around} {E : Value → Shared → Prop}
end


section
variable {X : Cx} {pins : List (Addr × Obj)} {σ : St} {H : Hp} {s : Shared} {a : Addr} {y : V} {u : Value} {A : Around} {E : Value → Shared → Prop}
end
end L2

end

section
-- KcMapD
set_option Elab.async false
set_option linter.all false
set_option maxRecDepth 100000
set_option maxHeartbeats 4000000
namespace L2
open PySem PySem.Spec PyProof.Rows
section
variable {prog : Program} {w : World} {A : Around} {E : Value → Shared → Prop} {s : Shared}
theorem wpAny_pyHash_bool {b : Bool} {Q : Int → Shared → Prop} (h : Q (hashInt (if b then 1 else 0)) { s with toks := s.toks + 1 }) : wpAny (model prog w) A (pyHash (.bool b)) Q E s := by
  have hr := rawHash_range (if b then 1 else 0)
  unfold pyHash
  have hv : [Value.bool b].any Value.onHeap = false := rfl
  refine wpAny_bind ?_
  rw [cRoomFor, if_neg (by rw [hv]; exact Bool.false_ne_true)]; refine wpAny_pure ?_
  have hT : s.TypeIs (.bool b) "bool" := rfl
  refine wpAny_bind (wpAny_specialOf hT PySem.F.slot_bool_hash.lookup ?_)
  show wpAny _ _ (if (some (Value.builtin "int.__hash__") == some Value.none) = true then _ else _) Q E s
  rw [if_neg (by rw [beq_builtin_none]; exact Bool.false_ne_true)]
  refine wpAny_bind (wpAny_specialOf hT PySem.F.slot_bool_hash.lookup ?_)
  show wpAny _ _ (callSpecialIfBoundUnlessNone? (.bool b) "__hash__" _ >>= _) Q E s
  refine wpAny_bind (wpAny_callSpecialIfBoundUnlessNone?_slot hT PySem.F.slot_bool_hash (wpAny_call_entry PySem.F.slot_bool_hash hT entry_int_hash ?_ (args_int_hash _)))
  cases b with
  | true =>
    refine (show wpAny _ _ (do ret (← mkInt (rawHash 1))) _ _ s from wpAny_ret_mkInt ?_)
    show wpAny _ _ (if (decide (-(2 : Int) ^ 63 ≤ rawHash 1) && decide (rawHash 1 < 2 ^ 63)) = true then _ else _) Q E _
    rw [if_pos (by decide)]
    exact wpAny_pure h
  | false =>
    refine (show wpAny _ _ (do ret (← mkInt (rawHash 0))) _ _ s from wpAny_ret_mkInt ?_)
    show wpAny _ _ (if (decide (-(2 : Int) ^ 63 ≤ rawHash 0) && decide (rawHash 0 < 2 ^ 63)) = true then _ else _) Q E _
    rw [if_pos (by decide)]
    exact wpAny_pure h
theorem wpAny_pyHash_none {Q : Int → Shared → Prop} (h : Q 4238894112 { s with toks := s.toks + 1 }) : wpAny (model prog w) A (pyHash .none) Q E s := by
  unfold pyHash
  have hv : [Value.none].any Value.onHeap = false := rfl
  refine wpAny_bind ?_
  rw [cRoomFor, if_neg (by rw [hv]; exact Bool.false_ne_true)]; refine wpAny_pure ?_
  have hT : s.TypeIs .none "NoneType" := rfl
  refine wpAny_bind (wpAny_specialOf hT PySem.F.slot_NoneType_hash.lookup ?_)
  show wpAny _ _ (if (some (Value.builtin "NoneType.__hash__") == some Value.none) = true then _ else _) Q E s
  rw [if_neg (by rw [beq_builtin_none]; exact Bool.false_ne_true)]
  refine wpAny_bind (wpAny_specialOf hT PySem.F.slot_NoneType_hash.lookup ?_)
  show wpAny _ _ (callSpecialIfBoundUnlessNone? .none "__hash__" _ >>= _) Q E s
  refine wpAny_bind (wpAny_callSpecialIfBoundUnlessNone?_slot hT PySem.F.slot_NoneType_hash (wpAny_call_entry PySem.F.slot_NoneType_hash hT PySem.F.entry_NoneType_hash ?_ (PySem.F.args_NoneType_hash_1 _)))
  refine (show wpAny _ _ (do ret (← mkInt 4238894112)) _ _ s from wpAny_ret_mkInt ?_)
  show wpAny _ _ (if (decide (-(2 : Int) ^ 63 ≤ 4238894112) && decide ((4238894112 : Int) < 2 ^ 63)) = true then _ else _) Q E _
  rw [if_pos (by decide)]
  exact wpAny_pure h
end
/-! ### keys that are None, truths, whole numbers -/
noncomputable def hashIA : IA → Int
  | none => 4238894112
  | some i => hashInt i
noncomputable def iaIs : IA → Value → Bool
  | none, .none => true
  | some i, .int j _ => i == j
  | some i, .bool b => i == (if b then 1 else 0)
  | _, _ => false
theorem ia_shape {k : IA} {v : Value} (h : iaIs k v = true) : (k = none ∧ v = .none) ∨ (∃ i t, k = some i ∧ v = .int i t) ∨ ∃ b, k = some (if b then 1 else 0) ∧ v = .bool b := by
  rcases k with _ | i <;> cases v <;> (delta iaIs at h; simp at h)
  · exact .inl ⟨rfl, rfl⟩
  · subst h; exact .inr (.inr ⟨_, rfl, rfl⟩)
  · subst h; exact .inr (.inl ⟨_, _, rfl, rfl⟩)
noncomputable def iaKind (prog : Program) (w : World) : PySem.KeyKind prog w IA where
  is := iaIs
  hash := hashIA
  inj := fun v a b ha hb => by
    rcases ia_shape ha with ⟨rfl, rfl⟩ | ⟨i, t, rfl, rfl⟩ | ⟨c, rfl, rfl⟩ <;> rcases ia_shape hb with ⟨rfl, e⟩ | ⟨j, u, rfl, e⟩ | ⟨d, rfl, e⟩ <;> first | rfl | (cases e; rfl) | cases e
  byValue := fun k v h => by
    rcases ia_shape h with ⟨rfl, rfl⟩ | ⟨i, t, rfl, rfl⟩ | ⟨c, rfl, rfl⟩ <;> rfl
  pyHash := fun hv h => by
    rcases ia_shape hv with ⟨rfl, rfl⟩ | ⟨i, t, rfl, rfl⟩ | ⟨c, rfl, rfl⟩
    · exact wpAny_pyHash_none h
    · exact wpAny_pyHash_int h
    · exact wpAny_pyHash_bool h
  eqBool := fun {A E s a b u v Q} hu hv h => by
    rcases ia_shape hu with ⟨rfl, rfl⟩ | ⟨i, t, rfl, rfl⟩ | ⟨c, rfl, rfl⟩ <;> rcases ia_shape hv with ⟨rfl, rfl⟩ | ⟨j, u, rfl, rfl⟩ | ⟨d, rfl, rfl⟩
    · exact SeqAt.EqAt.same _ _ _ _ _ (by simpa using h)
    · exact SeqAt.EqAt.none_int _ _ _ _ _ _ (by simpa using h)
    · exact SeqAt.EqAt.none_bool _ _ _ _ _ (by simpa using h)
    · exact SeqAt.EqAt.int_none _ _ _ _ _ _ (by simpa using h)
    · exact SeqAt.EqAt.int_int _ _ _ _ _ _ _ _ (by simpa [Bool.beq_eq_decide_eq] using h)
    · exact SeqAt.EqAt.int_bool _ _ _ _ _ _ _ (by simpa [Bool.beq_eq_decide_eq] using h)
    · exact SeqAt.EqAt.bool_none _ _ _ _ _ (by simpa using h)
    · exact SeqAt.EqAt.bool_int _ _ _ _ _ _ _ (by simpa [Bool.beq_eq_decide_eq] using h)
    · refine SeqAt.EqAt.bool_bool _ _ _ _ _ _ ?_
      cases c <;> cases d <;> simpa using h
  «strs» := fun k x t v h => by
    rcases ia_shape h with ⟨rfl, e⟩ | ⟨i, u, rfl, e⟩ | ⟨c, rfl, e⟩ <;> cases e
/-! ### tuples of these, and of tuples of these -/
noncomputable def hashIK : IK → Int
  | .inl a => hashIA a
  | .inr as => reduceHash (Builtin.Tuple.tupleHashOf (as.map hashIA))
noncomputable def hashT (is : List IK) : Int := reduceHash (Builtin.Tuple.tupleHashOf (is.map hashIK))
noncomputable def drawsK : IK → Nat
  | .inl _ => 1
  | .inr as => as.length + 1
section
variable (prog : Program) (w : World)
noncomputable def ItemIs (h : Heap) : IK → Value → Prop
  | .inl a, v => iaIs a v = true
  | .inr as, v => ∃ b, v = .ref b ∧ IsTupleKey (iaKind prog w) h as b
noncomputable def IsTk (h : Heap) (is : List IK) (a : Addr) : Prop := ∃ o items n, h.get? a = some o ∧ o.cls = .type "tuple" ∧ o.data = .seq items n ∧ Paired (ItemIs prog w h) is items.toList
end
section
variable {prog : Program} {w : World}
theorem ItemIs.inj {h : Heap} {x y : IK} {v : Value} (hx : ItemIs prog w h x v) (hy : ItemIs prog w h y v) : x = y := by
  cases x with
  | inl a => cases y with
    | inl b => rw [(iaKind prog w).inj v a b hx hy]
    | inr bs =>
      obtain ⟨c, rfl, _⟩ := hy
      rcases ia_shape hx with ⟨_, e⟩ | ⟨_, _, _, e⟩ | ⟨_, _, e⟩ <;> cases e
  | inr as => cases y with
    | inl b =>
      obtain ⟨c, rfl, _⟩ := hx
      rcases ia_shape hy with ⟨_, e⟩ | ⟨_, _, _, e⟩ | ⟨_, _, e⟩ <;> cases e
    | inr bs =>
      obtain ⟨c, rfl, h1⟩ := hx
      obtain ⟨d, e, h2⟩ := hy
      cases e
      rw [h1.inj h2]
theorem items_inj {h : Heap} {xs ys : List IK} {vs : List Value} (p : Paired (ItemIs prog w h) xs vs) : Paired (ItemIs prog w h) ys vs → xs = ys := by
  induction p generalizing ys with
  | nil => intro q; cases q; rfl
  | cons a t ih => intro q; cases q with
    | cons b u => rw [a.inj b, ih u]
theorem IsTk.inj {h : Heap} {a : Addr} {x y : List IK} (hx : IsTk prog w h x a) (hy : IsTk prog w h y a) : x = y := by
  obtain ⟨o, items, n, ho, _, hd, hi⟩ := hx
  obtain ⟨o', items', n', ho', _, hd', hi'⟩ := hy
  obtain rfl : o = o' := Option.some.inj (ho.symm.trans ho')
  rw [hd] at hd'
  injection hd' with h1 _
  subst h1
  exact items_inj hi hi'
theorem ItemIs.keeps {h h' : Heap} {k : IK} {v : Value} {d : Addr} {o : Obj} {es ep} (x : ItemIs prog w h k v) (ho : h.get? d = some o) (hd : o.data = .dict es ep) (hs : Heap.SameBut d h h') : ItemIs prog w h' k v := by
  cases k with
  | inl a => exact x
  | inr as => obtain ⟨b, e, q⟩ := x; exact ⟨b, e, q.keeps ho hd hs⟩
theorem IsTk.keeps {h h' : Heap} {ks : List IK} {a d : Addr} {o : Obj} {es ep} (x : IsTk prog w h ks a) (ho : h.get? d = some o) (hd : o.data = .dict es ep) (hs : Heap.SameBut d h h') : IsTk prog w h' ks a := by
  obtain ⟨o', items, n, ho', hc, hd', hi⟩ := x
  have hne : a ≠ d := by
    rintro rfl
    obtain rfl : o' = o := Option.some.inj (ho'.symm.trans ho)
    rw [hd] at hd'; exact nomatch hd'
  exact ⟨o', items, n, (hs.2 a hne).trans ho', hc, hd', Paired.mapP hi fun _ _ z => z.keeps ho hd hs⟩
theorem IsTk.typeIs {s : Shared} {ks : List IK} {a : Addr} (x : IsTk prog w s.heap ks a) : s.TypeIs (.ref a) "tuple" := let ⟨o, _, _, ho, hc, _⟩ := x; ⟨o, ho, hc⟩
theorem tk_isTuple {h : Heap} {ks : List IA} {a : Addr} (x : IsTupleKey (iaKind prog w) h ks a) : ∃ items, h.IsTuple a items := let ⟨o, items, n, h1, h2, h3, _⟩ := x; ⟨items, o, h1, h2, n, h3⟩
variable {A : Around} {E : Value → Shared → Prop} {s : Shared}
theorem item_hash {k : IK} {v : Value} {Q : Int → Shared → Prop} (hu : A.units < cLine) (hk : ItemIs prog w s.heap k v) (h : Q (hashIK k) { s with toks := s.toks + drawsK k }) : wpAny (model prog w) A (pyHash v) Q E s := by
  cases k with
  | inl a => exact (iaKind prog w).pyHash (k := a) hk h
  | inr as =>
    obtain ⟨b, rfl, q⟩ := hk
    exact wpAny_pyHash_tuple (knd := iaKind prog w) hu q h
theorem ia_tuple {a : IA} {v : Value} {b : Addr} {items : Array Value} {Q : Bool → Shared → Prop} (hu : A.units < cLine) (hk : iaIs a v = true) (ht : s.heap.IsTuple b items) (h : Q false s) : wpAny (model prog w) A (PySem.eqBool v (.ref b)) Q E s := by
  rcases ia_shape hk with ⟨rfl, rfl⟩ | ⟨i, t, rfl, rfl⟩ | ⟨c, rfl, rfl⟩
  · exact SeqAt.EqAt.none_tuple ht hu _ _ _ _ h
  · exact SeqAt.EqAt.int_tuple _ _ ht hu _ _ _ _ h
  · exact SeqAt.EqAt.bool_tuple _ ht hu _ _ _ _ h
theorem tuple_ia {a : IA} {v : Value} {b : Addr} {items : Array Value} {Q : Bool → Shared → Prop} (hu : A.units < cLine) (hk : iaIs a v = true) (ht : s.heap.IsTuple b items) (h : Q false s) : wpAny (model prog w) A (PySem.eqBool (.ref b) v) Q E s := by
  rcases ia_shape hk with ⟨rfl, rfl⟩ | ⟨i, t, rfl, rfl⟩ | ⟨c, rfl, rfl⟩
  · exact SeqAt.EqAt.tuple_none ht hu _ _ _ _ h
  · exact SeqAt.EqAt.tuple_int _ _ ht hu _ _ _ _ h
  · exact SeqAt.EqAt.tuple_bool _ ht hu _ _ _ _ h
theorem item_eq {x y : IK} {u v : Value} {Q : Bool → Shared → Prop} (hu : A.units < cLine) (hx : ItemIs prog w s.heap x u) (hy : ItemIs prog w s.heap y v) (h : Q (decide (x = y)) s) : wpAny (model prog w) A (PySem.eqBool u v) Q E s := by
  cases x with
  | inl a => cases y with
    | inl b =>
      refine (iaKind prog w).eqBool (a := a) (b := b) hx hy ?_
      rw [show decide (a = b) = decide ((Sum.inl a : IK) = Sum.inl b) from decide_eq_decide.mpr ⟨fun e => by rw [e], fun e => Sum.inl.inj e⟩]
      exact h
    | inr bs =>
      obtain ⟨c, rfl, q⟩ := hy
      obtain ⟨items, ht⟩ := tk_isTuple q
      refine ia_tuple hu hx ht ?_
      rw [decide_eq_false (fun e => nomatch e)] at h
      exact h
  | inr as => cases y with
    | inl b =>
      obtain ⟨c, rfl, q⟩ := hx
      obtain ⟨items, ht⟩ := tk_isTuple q
      refine tuple_ia hu hy ht ?_
      rw [decide_eq_false (fun e => nomatch e)] at h
      exact h
    | inr bs =>
      obtain ⟨c, rfl, q⟩ := hx
      obtain ⟨d, rfl, q'⟩ := hy
      refine wpAny_eqBool_tuple (knd := iaKind prog w) hu q q' ?_
      rw [show decide (as = bs) = decide ((Sum.inr as : IK) = Sum.inr bs) from decide_eq_decide.mpr ⟨fun e => by rw [e], fun e => Sum.inr.inj e⟩]
      exact h
noncomputable def drawsT (ks : List IK) : Nat := (ks.map drawsK).sum + 1
theorem tk_pyHash {ks : List IK} {a : Addr} {Q : Int → Shared → Prop} (hu : A.units + 1 < cLine) (hk : IsTk prog w s.heap ks a) (h : Q (hashT ks) { s with toks := s.toks + drawsT ks }) :
    wpAny (model prog w) A (pyHash (.ref a)) Q E s := by
  have hT := hk.typeIs
  obtain ⟨o, items, n, ho, _, hd, hi⟩ := hk
  have hu0 : A.units < cLine := by omega
  unfold pyHash
  first | unfold pyHashByItsType | skip
  first | refine wpAny_bind (wpAny_cRoomFor_or (.inr hu0) ?_) | skip
  refine wpAny_bind (wpAny_specialOf hT F.slot_tuple_hash.lookup ?_)
  show wpAny _ _ (if (some (Value.builtin "tuple.__hash__") == some Value.none) = true then _ else _) Q E s
  rw [if_neg (by rw [beq_builtin_none]; exact Bool.false_ne_true)]
  refine wpAny_bind (wpAny_specialOf hT F.slot_tuple_hash.lookup ?_)
  show wpAny _ _ (callSpecialIfBoundUnlessNone? (.ref a) "__hash__" _ >>= _) Q E s
  refine wpAny_bind (wpAny_callSpecialIfBoundUnlessNone?_slot hT F.slot_tuple_hash (wpAny_call_entry F.slot_tuple_hash hT F.entry_tuple_hash ?_ (F.args_tuple_hash_1 _)))
  show wpAny _ _ (Builtin.Tuple.tupleItemsOf (.ref a) >>= _) _ _ s
  refine wpAny_bind (wpAny_tupleItemsOf ho hd ?_)
  refine wpAny_bind ?_
  rw [← Array.forIn_toList]
  refine wpAny_forIn_list _
    (fun rest (b : Array Int) s' => ∃ done left, ks = done ++ left ∧ Paired (ItemIs prog w s.heap) left rest ∧ b.toList = done.map hashIK ∧ s' = { s with toks := s.toks + (done.map drawsK).sum })
    _ ?_ ?_ _ _ ⟨[], ks, rfl, hi, rfl, rfl⟩
  · rintro x rest b s' ⟨done, left, rfl, hl, hb, rfl⟩
    cases hl with
    | @cons k _ ks' _ h1 hl' =>
      refine wpAny_bind (item_hash (k := k) hu h1 ?_)
      have e : (done.map drawsK).sum + drawsK k = ((done ++ [k]).map drawsK).sum := by simp
      first
        | exact wpAny_pure ⟨done ++ [k], ks', by simp, hl', by simp [hb], by rw [← e]; simp [Nat.add_assoc]⟩
        | exact wpAny_bind (wpAny_pure (wpAny_pure ⟨done ++ [k], ks', by simp, hl', by simp [hb], by rw [← e]; simp [Nat.add_assoc]⟩))
  · rintro b s' ⟨done, left, rfl, hl, hb, rfl⟩
    cases hl
    rw [List.append_nil] at h
    show wpAny _ _ (retInt (Builtin.Tuple.tupleHashOf b.toList)) _ _ _
    rw [hb]
    refine wpAny_ret_mkInt ?_
    show wpAny _ _ (if (decide (-(2 : Int) ^ 63 ≤ Builtin.Tuple.tupleHashOf (done.map hashIK)) && decide (Builtin.Tuple.tupleHashOf (done.map hashIK) < 2 ^ 63)) = true then _ else _) Q E _
    unfold hashT reduceHash drawsT at h
    by_cases hr : (decide (-(2 : Int) ^ 63 ≤ Builtin.Tuple.tupleHashOf (done.map hashIK)) && decide (Builtin.Tuple.tupleHashOf (done.map hashIK) < 2 ^ 63)) = true
    · rw [if_pos hr]
      rw [if_pos hr] at h
      exact wpAny_pure (by simpa [Nat.add_assoc] using h)
    · rw [if_neg hr]
      rw [if_neg hr] at h
      exact wpAny_bind (wpAny_rule (wpAny_pure (by simpa [Nat.add_assoc] using h)))
theorem tk_eq_tree {x y : List IK} {a b : Addr} {P : Fin → Shared → Prop} (hu : A.units < cLine) (hx : IsTk prog w s.heap x a) (hy : IsTk prog w s.heap y b) (h : P (.done (.ret (.bool (decide (x = y))))) s) :
    wpAny (model prog w) A (Builtin.«tuple.__eq__» ⟨[.ref a, .ref b], []⟩) P E s := by
  have hTb := hy.typeIs
  obtain ⟨oa, xs, na, hoa, _, hda, hia⟩ := hx
  obtain ⟨ob, ys, nb, hob, _, hdb, hib⟩ := hy
  show wpAny _ _ (isInstance (.ref b) (.type "tuple") >>= _) _ _ s
  refine wpAny_bind (wpAny_isInstance hTb isSubtype_tuple_tuple ?_)
  simp only [Bool.not_true, Bool.false_eq_true, if_false]
  refine wpAny_bind (wpAny_tupleItemsOf hoa hda ?_)
  refine wpAny_bind (wpAny_tupleItemsOf hob hdb ?_)
  refine wpAny_bind ?_
  refine wpAny_forIn_list _
    (fun rest r s' => r.1 = none ∧ s' = s ∧ ∃ x' y' xs' ys', rest = List.zip xs' ys' ∧ Paired (ItemIs prog w s.heap) x' xs' ∧ Paired (ItemIs prog w s.heap) y' ys' ∧ decide (x' = y') = decide (x = y) ∧ (xs'.length == ys'.length) = (xs.size == ys.size))
    _ ?_ ?_ _ _ ⟨rfl, rfl, x, y, xs.toList, ys.toList, rfl, hia, hib, rfl, by simp⟩
  · rintro ⟨u, v⟩ rest r s' ⟨hr, rfl, x', y', xs', ys', hz, hx', hy', hdec, hlen⟩
    cases hx' with
    | nil => simp at hz
    | @cons k1 u' x'' xs'' h1 hx'' =>
      cases hy' with
      | nil => simp at hz
      | @cons k2 v' y'' ys'' h2 hy'' =>
        simp only [List.zip_cons_cons, List.cons.injEq, Prod.mk.injEq] at hz
        obtain ⟨⟨rfl, rfl⟩, rfl⟩ := hz
        refine wpAny_bind (item_eq (x := k1) (y := k2) hu h1 h2 ?_)
        by_cases hk : k1 = k2
        · subst hk
          rw [decide_eq_true rfl]
          simp only [Bool.not_true, Bool.false_eq_true, if_false]
          refine wpAny_pure ⟨rfl, rfl, x'', y'', xs'', ys'', rfl, hx'', hy'', ?_, by simpa using hlen⟩
          rw [← hdec]
          by_cases hxy : x'' = y''
          · simp [hxy]
          · simp [hxy]
        · rw [decide_eq_false hk]
          simp only [Bool.not_false, if_true]
          have hf : decide (x = y) = false := by rw [← hdec]; simp [hk]
          rw [hf] at h
          exact wpAny_bind (wpAny_pure (wpAny_pure (wpAny_pure h)))
  · rintro ⟨r1, r2⟩ s' ⟨hr, rfl, x', y', xs', ys', hz, hx', hy', hdec, hlen⟩
    simp only at hr
    subst hr
    refine wpAny_pure ?_
    have hfin : (xs.size == ys.size) = decide (x = y) := by
      rw [← hdec, ← hlen]
      cases hx' with
      | nil =>
        cases hy' with
        | nil => simp
        | cons _ _ => simp
      | cons _ _ =>
        cases hy' with
        | nil => simp
        | cons _ _ => simp at hz
    show P (.done (.ret (.bool (xs.size == ys.size)))) s'
    rw [hfin]; exact h
theorem tk_eqBool {x y : List IK} {a b : Addr} {Q : Bool → Shared → Prop} (hu : A.units + 1 < cLine) (hx : IsTk prog w s.heap x a) (hy : IsTk prog w s.heap y b) (h : Q (decide (x = y)) s) :
    wpAny (model prog w) A (eqBool (.ref a) (.ref b)) Q E s := by
  unfold eqBool
  try with_reducible refine wpAny_holding ?_
  show wpAny _ _ (if (Value.ref a == Value.ref b) = true then _ else _) Q E s
  by_cases hab : (Value.ref a == Value.ref b) = true
  · rw [if_pos hab]
    have e : a = b := by have := eq_of_beq hab; injection this
    subst e
    obtain rfl := hx.inj hy
    exact wpAny_bind (wpAny_rule (wpAny_pure (by simpa using h)))
  · rw [if_neg hab]
    exact wpAny_bind (wpAny_richCompare_same_room (op := .Eq) hx.typeIs hy.typeIs F.slot_tuple_eq
      (wpAny_call_entry F.slot_tuple_eq hx.typeIs F.entry_tuple_eq (tk_eq_tree hu hx hy ⟨_, rfl, (fun e => nomatch e), wpAny_truthy_bool h⟩) (F.args_tuple_eq_2 _ _)) (by omega))
theorem quiet_tuple {n : Nat} {ks : List IA} {a : Addr} {Q : Bool → Shared → Prop} (hk : IsTupleKey (iaKind prog w) s.heap ks a) (h : Q true s) : wpAny (model prog w) A (eqIsQuiet (n + 1) (.ref a)) Q E s := by
  have hT := hk.typeIs
  obtain ⟨o, items, _, ho, _, hd, hi⟩ := hk
  unfold eqIsQuiet
  refine wpAny_bind (wpAny_specialOf hT F.slot_tuple_eq.lookup ?_)
  show wpAny _ _ (isInstance (.ref a) (.type "tuple") >>= _) _ _ s
  refine wpAny_bind (wpAny_isInstance hT isSubtype_tuple_tuple ?_)
  simp only [Bool.not_true, Bool.false_eq_true, if_false]
  refine wpAny_bind (wpAny_seqItems ho hd ?_)
  refine wpAny_bind ?_
  show wpAny _ _ (forIn items _ _) _ _ s
  rw [← Array.forIn_toList]
  refine wpAny_forIn_list _ (fun rest r s' => r.1 = none ∧ s' = s ∧ ∀ v ∈ rest, carriedByValue v = true) _ ?_ ?_ _ _ ⟨rfl, rfl, hi.byValue⟩
  · rintro v rest r s' ⟨hr, rfl, hall⟩
    rw [eqIsQuiet_byValue _ (hall v List.mem_cons_self)]
    refine wpAny_bind (wpAny_pure ?_)
    simp only [Bool.not_true, Bool.false_eq_true, if_false]
    exact wpAny_pure ⟨rfl, rfl, fun u hu' => hall u (List.mem_cons_of_mem _ hu')⟩
  · rintro ⟨r1, r2⟩ s' ⟨hr, rfl, _⟩
    simp only at hr
    subst hr
    exact wpAny_pure h
theorem tk_quiet {ks : List IK} {a : Addr} {Q : Bool → Shared → Prop} (hk : IsTk prog w s.heap ks a) (h : Q true s) : wpAny (model prog w) A (eqIsQuiet 8 (.ref a)) Q E s := by
  have hT := hk.typeIs
  obtain ⟨o, items, n, ho, _, hd, hi⟩ := hk
  unfold eqIsQuiet
  refine wpAny_bind (wpAny_specialOf hT F.slot_tuple_eq.lookup ?_)
  show wpAny _ _ (isInstance (.ref a) (.type "tuple") >>= _) _ _ s
  refine wpAny_bind (wpAny_isInstance hT isSubtype_tuple_tuple ?_)
  simp only [Bool.not_true, Bool.false_eq_true, if_false]
  refine wpAny_bind (wpAny_seqItems ho hd ?_)
  refine wpAny_bind ?_
  show wpAny _ _ (forIn items _ _) _ _ s
  rw [← Array.forIn_toList]
  refine wpAny_forIn_list _ (fun rest r s' => r.1 = none ∧ s' = s ∧ ∃ ks, Paired (ItemIs prog w s.heap) ks rest) _ ?_ ?_ _ _ ⟨rfl, rfl, ks, hi⟩
  · rintro v rest r s' ⟨hr, rfl, ks, hall⟩
    cases hall with
    | @cons k _ ks' _ h1 hl =>
      refine wpAny_bind ?_
      have fin : wpAny (model prog w) A (eqIsQuiet 7 v) (fun b s2 => b = true ∧ s2 = s') E s' := by
        cases k with
        | inl a' => rw [eqIsQuiet_byValue _ ((iaKind prog w).byValue _ _ h1)]; exact wpAny_pure ⟨rfl, rfl⟩
        | inr as => obtain ⟨b, rfl, q⟩ := h1; exact quiet_tuple (n := 6) q ⟨rfl, rfl⟩
      refine wpAny_mono fin (fun b s2 ⟨e1, e2⟩ => ?_) fun _ _ x => x
      subst e1 e2
      simp only [Bool.not_true, Bool.false_eq_true, if_false]
      exact wpAny_pure ⟨rfl, rfl, ks', hl⟩
  · rintro ⟨r1, r2⟩ s' ⟨hr, rfl, _⟩
    simp only at hr
    subst hr
    exact wpAny_pure h
end
noncomputable def tkKind (prog : Program) (w : World) : HeapKind prog w (List IK) where
  is := IsTk prog w
  hash := hashT
  draws := drawsT
  room := fun A => A.units + 1 < cLine
  inj := fun hx hy => hx.inj hy
  keeps := fun x ho hd hs => x.keeps ho hd hs
  pyHash := fun hu hk h => tk_pyHash hu hk h
  eqBool := fun hu hx hy h => tk_eqBool hu hx hy h
  quiet := fun hk h => tk_quiet hk h
/-! ### a dict with such keys -/
noncomputable def DA (a : Addr) (kvs : List (IA × V)) (h : Heap) : Prop := kvs.length ≤ sizeLine ∧ (a == sysModules) = false ∧ ∃ (P : Program) (w : World) (vs : List (IA × Value)), KV kvs vs ∧ h.DictOf (iaKind P w) a vs
noncomputable def ZX : List (List IK × Addr × V) → List (List IK × Addr × Value) → Prop := Paired fun z x => z.1 = x.1 ∧ z.2.1 = x.2.1 ∧ RelV z.2.2 x.2.2
noncomputable def DB (a : Addr) (zs : List (List IK × Addr × V)) (h : Heap) : Prop := zs.length ≤ sizeLine ∧ (a == sysModules) = false ∧ ∃ xs : List (List IK × Addr × Value), ZX zs xs ∧
  ∃ o es ep, h.get? a = some o ∧ o.ExactDict ∧ o.data = .dict es ep ∧ es.toList = xs.map (fun x => ⟨hashT x.1, .ref x.2.1, x.2.2⟩) ∧ (xs.map (·.1)).Nodup
noncomputable def dA (a : Addr) (kvs : List (IA × V)) : HO := .ext (DA a kvs)
noncomputable def dB (a : Addr) (zs : List (List IK × Addr × V)) : HO := .ext (DB a zs)
noncomputable def atZ (zs : List (List IK × Addr × V)) (k : List IK) : Option V := (zs.find? fun p => decide (p.1 = k)).map (·.2.2)
noncomputable def Dx (H : Hp) (a : Addr) (s : Bool) (f : MK → Option V) (n : Nat) : Prop :=
  (s = false ∧ ∃ kvs, H a = some (dA a kvs) ∧ (∀ k, valV kvs k = f (.inl k)) ∧ kvs.length ≤ n) ∨
  (s = true ∧ ∃ zs, H a = some (dB a zs) ∧ (∀ z ∈ zs, KeyV H (.ref z.2.1) (.inr z.1)) ∧ (∀ k, atZ zs k = f (.inr k)) ∧ zs.length ≤ n)
section
variable {H H' : Hp} {a b : Addr} {s : Bool} {f g : MK → Option V} {n m : Nat}
theorem Dx.ext (h : Dx H a s f n) : ∃ φ, H a = some (.ext φ) := by
  rcases h with ⟨_, kvs, e, _⟩ | ⟨_, zs, e, _⟩
  · exact ⟨_, e⟩
  · exact ⟨_, e⟩
theorem Dx.keep (h : Dx H a s f n) (e : H' a = H a) (kp : Keep H H') : Dx H' a s f n := by
  rcases h with ⟨hs, kvs, h1, h2⟩ | ⟨hs, zs, h1, h2, h3⟩
  · exact .inl ⟨hs, kvs, e.trans h1, h2⟩
  · exact .inr ⟨hs, zs, e.trans h1, fun z hz => (h2 z hz).keep kp, h3⟩
theorem Dx.same (h : Dx H a s f n) (q : Same H H') : Dx H' a s f n := by
  obtain ⟨φ, h1⟩ := h.ext
  exact h.keep ((q _ _ h1).trans h1.symm) q.keep
theorem Dx.ne_lst {xs : List V} (h : Dx H a s f n) (e : H b = some (.lst xs)) : b ≠ a := by
  obtain ⟨φ, h1⟩ := h.ext
  exact ne_of e h1 (fun z => nomatch z)
theorem Dx.ne_tup {xs : List V} (h : Dx H a s f n) (e : H b = some (.tup xs)) : b ≠ a := by
  obtain ⟨φ, h1⟩ := h.ext
  exact ne_of e h1 (fun z => nomatch z)
theorem Dx.ne_none (h : Dx H a s f n) (e : H b = none) : b ≠ a := by
  obtain ⟨φ, h1⟩ := h.ext
  exact (ne_of_none h1 e).symm
theorem Dx.congr (h : Dx H a s f n) (e : ∀ k, f k = g k) : Dx H a s g n := by
  rcases h with ⟨hs, kvs, h1, h2, h3⟩ | ⟨hs, zs, h1, h2, h3, h4⟩
  · exact .inl ⟨hs, kvs, h1, fun k => (h2 k).trans (e _), h3⟩
  · exact .inr ⟨hs, zs, h1, h2, fun k => (h3 k).trans (e _), h4⟩
end
end L2

end

section
-- KcMapR
set_option Elab.async false
set_option linter.all false
set_option maxRecDepth 100000
set_option maxHeartbeats 4000000
namespace L2
open PySem PyProof.Rows
theorem Dx.off {H H' : Hp} {a l : Addr} {s : Bool} {f : MK → Option V} {n : Nat} {xs : List V} (h : Dx H a s f n) (e : H l = some (.lst xs)) (o : Off l H H') : Dx H' a s f n :=
  h.keep (o a (h.ne_lst e).symm) (o.keep e)
noncomputable def mDnewX : TE := fun _ H Q => ∃ s, ∀ p H', H p = none → Same H H' → Dx H' p s (fun _ => none) 0 → Q (.ref p) H'
theorem m_dnewX {σ : St} {H : Hp} {Q : VK} (s : Bool) (h : ∀ p H', H p = none → Same H H' → Dx H' p s (fun _ => none) 0 → Q (.ref p) H') : mDnewX σ H Q := ⟨s, h⟩
noncomputable def rXIn (neg : Bool) : R2 := fun y x H Q => ∃ a s f n k, x = .ref a ∧ Dx H a s f n ∧ KeyV H y k ∧ kSort k = s ∧ Q (.bl (if neg then (f k).isNone else (f k).isSome)) H
noncomputable def rXGet : R2 := fun x y H Q => ∃ a s f n k v, x = .ref a ∧ Dx H a s f n ∧ KeyV H y k ∧ kSort k = s ∧ f k = some v ∧ Q v H
noncomputable def putF_ (f : MK → Option V) (k : MK) (v : V) : MK → Option V := fun j => if j = k then some v else f j
noncomputable def rXSet : TSet := fun o i v H R => ∃ a s f n k, o = .ref a ∧ Dx H a s f n ∧ KeyV H i k ∧ kSort k = s ∧ n < sizeLine ∧ ∀ H', Off a H H' → Dx H' a s (putF_ f k v) (n + 1) → R H'
section
variable {σ : St} {H : Hp} {Q : VK} {a : Addr} {s : Bool} {f : MK → Option V} {n : Nat} {k : MK} {y v : V}
theorem r_xnotin (d : Dx H a s f n) (hk : KeyV H y k) (hs : kSort k = s) (h : Q (.bl (f k).isNone) H) : rXIn true y (.ref a) H Q := ⟨a, s, f, n, k, rfl, d, hk, hs, h⟩
theorem r_xget (d : Dx H a s f n) (hk : KeyV H y k) (hs : kSort k = s) (e : f k = some v) (h : Q v H) : rXGet (.ref a) y H Q := ⟨a, s, f, n, k, v, rfl, d, hk, hs, e, h⟩
theorem r_xset {R : Hp → Prop} (d : Dx H a s f n) (hk : KeyV H y k) (hs : kSort k = s) (hn : n < sizeLine) (h : ∀ H', Off a H H' → Dx H' a s (putF_ f k v) (n + 1) → R H') : rXSet (.ref a) y v H R := ⟨a, s, f, n, k, rfl, d, hk, hs, hn, h⟩
end
/-! what the firsts are behind i of the keys -/
section
variable {α : Type} [DecidableEq α] {ks : List α} {i : Nat} {k : α}
noncomputable def firsts (ks : List α) (i : Nat) : α → Option V := fun k => if k ∈ ks.take i then some (.int (ks.idxOf k : Nat)) else none
end
end L2

end

section
-- KcNeedD
set_option Elab.async false
set_option linter.all false
set_option maxRecDepth 100000
set_option maxHeartbeats 4000000
namespace L2
/-! ### the fewest asks by what is left alone -/
noncomputable def Tells (rows : List (List Bool)) (gs : List Int) : Nat → List Nat → Prop
  | 0, ds => oneG gs ds
  | n + 1, ds => oneG gs ds ∨ ∃ k, k < rows.length ∧ Tells rows gs n (ds.filter fun d => bitR rows k d == true) ∧ Tells rows gs n (ds.filter fun d => bitR rows k d == false)
section
variable {rows rows' : List (List Bool)} {gs gs' : List Int}
theorem oneG.sub {ds ds' : List Nat} (h : oneG gs ds) (s : ∀ d ∈ ds', d ∈ ds) : oneG gs ds' := fun a ha b hb => h a (s a ha) b (s b hb)
theorem oneG.tells {ds : List Nat} (h : oneG gs ds) : ∀ n, Tells rows gs n ds
  | 0 => h
  | n + 1 => .inl h
theorem Tells.more {ds : List Nat} {n : Nat} (h : Tells rows gs n ds) : Tells rows gs (n + 1) ds := by
  induction n generalizing ds with
  | zero => exact .inl h
  | succ n ih =>
    rcases h with h | ⟨k, hk, h1, h2⟩
    · exact .inl h
    · exact .inr ⟨k, hk, ih h1, ih h2⟩
theorem Tells.to {D : List Nat} (hA : ∀ k, k < rows.length → (∃ c, ∀ d ∈ D, bitR rows k d = c) ∨ ∃ k', k' < rows'.length ∧ ∃ c, ∀ d ∈ D, bitR rows' k' d = xor (bitR rows k d) c) (hG : ∀ a ∈ D, ∀ b ∈ D, gs.getD a 0 = gs.getD b 0 → gs'.getD a 0 = gs'.getD b 0) :
    ∀ (n : Nat) (ds ds' : List Nat), (∀ d ∈ ds, d ∈ D) → (∀ d ∈ ds', d ∈ ds) → Tells rows gs n ds → Tells rows' gs' n ds' := by
  have one : ∀ (ds ds' : List Nat), (∀ d ∈ ds, d ∈ D) → (∀ d ∈ ds', d ∈ ds) → oneG gs ds → oneG gs' ds' := fun ds ds' h1 h2 h a ha b hb => hG a (h1 a (h2 a ha)) b (h1 b (h2 b hb)) (h a (h2 a ha) b (h2 b hb))
  intro n
  induction n with
  | zero => exact fun ds ds' h1 h2 h => one ds ds' h1 h2 h
  | succ n ih =>
    intro ds ds' h1 h2 h
    rcases h with h | ⟨k, hk, t1, t2⟩
    · exact .inl (one ds ds' h1 h2 h)
    · have sub : ∀ (b : Bool), ∀ d ∈ ds.filter (fun d => bitR rows k d == b), d ∈ D := fun b d hd => h1 d (List.mem_filter.mp hd).1
      rcases hA k hk with ⟨c, hc⟩ | ⟨k', hk', c, hc⟩
      · -- tells nothing
        have all : ∀ d ∈ ds', d ∈ ds.filter (fun d => bitR rows k d == c) := fun d hd => List.mem_filter.mpr ⟨h2 d hd, by rw [hc d (h1 d (h2 d hd))]; exact beq_self_eq_true c⟩
        cases c with
        | true => exact (ih _ ds' (sub true) all t1).more
        | false => exact (ih _ ds' (sub false) all t2).more
      · have go : ∀ b : Bool, ∀ d ∈ ds'.filter (fun d => bitR rows' k' d == b), d ∈ ds.filter (fun d => bitR rows k d == xor b c) := fun b d hd => by
          obtain ⟨q1, q2⟩ := List.mem_filter.mp hd
          refine List.mem_filter.mpr ⟨h2 d q1, ?_⟩
          have e := hc d (h1 d (h2 d q1))
          rw [beq_iff_eq] at q2 ⊢
          rw [e] at q2
          rw [← q2]
          cases bitR rows k d <;> cases c <;> rfl
        refine .inr ⟨k', hk', ?_, ?_⟩
        · cases c with
          | false => exact ih _ _ (sub true) (go true) t1
          | true => exact ih _ _ (sub false) (go true) t2
        · cases c with
          | false => exact ih _ _ (sub false) (go false) t2
          | true => exact ih _ _ (sub true) (go false) t1
theorem left_set {st : List (Option Bool)} {ds : List Nat} {k : Nat} {a : Bool} (hl : st.length = rows.length) (hk : st[k]? = some none) : ds.filter (okS rows (st.set k (some a))) = (ds.filter (okS rows st)).filter fun d => bitR rows k d == a := by
  rw [List.filter_filter]
  refine List.filter_congr fun x _ => ?_
  rw [okS_set rows st k x a hl hk, Bool.and_comm]
theorem cost_some {ds : List Nat} {st : List (Option Bool)} {k c : Nat} (h : cost rows gs ds st k = some c) : st[k]? = some none ∧ ∃ a b, need rows gs ds (st.set k (some true)) = some a ∧ need rows gs ds (st.set k (some false)) = some b ∧ c = 1 + max a b := by
  unfold cost at h
  by_cases e : st[k]? = some none
  · rw [if_pos e] at h
    cases h1 : need rows gs ds (st.set k (some true)) with
    | none => rw [h1] at h; cases h
    | some a => cases h2 : need rows gs ds (st.set k (some false)) with
      | none => rw [h1, h2] at h; cases h
      | some b => rw [h1, h2] at h; exact ⟨e, a, b, rfl, rfl, (Option.some.inj h).symm⟩
  · rw [if_neg e] at h; cases h
end
/-! with nothing asked -/
noncomputable def need0 (rows : List (List Bool)) (gs : List Int) (ds : List Nat) : Option Nat := need rows gs ds (List.replicate rows.length none)
section
variable {rows rows' : List (List Bool)} {gs gs' : List Int} {ds ds' : List Nat}
theorem okS_none (rows : List (List Bool)) (ds : List Nat) : ds.filter (okS rows (List.replicate rows.length none)) = ds := List.filter_eq_self.mpr fun d _ => by
  unfold okS
  rw [List.all_eq_true]
  intro q hq
  obtain ⟨q1, q2⟩ := q
  rw [List.eq_of_mem_replicate (List.of_mem_zip hq).2]
  rfl
noncomputable def NoMore (a b : Option Nat) : Prop := ∀ m, b = some m → ∃ m', a = some m' ∧ m' ≤ m
theorem NoMore.eq {a b : Option Nat} (h1 : NoMore a b) (h2 : NoMore b a) : a = b := by
  cases a with
  | none => cases b with
    | none => rfl
    | some m => obtain ⟨m', e, _⟩ := h1 m rfl; cases e
  | some n => obtain ⟨m, e, l⟩ := h2 n rfl
              obtain ⟨n', e2, l2⟩ := h1 m e
              cases e2
              rw [e, Nat.le_antisymm l2 l]
end
end L2

end

section
-- KcFew
set_option Elab.async false
set_option linter.all false
set_option maxRecDepth 100000
set_option maxHeartbeats 4000000
namespace L2
open PySem PyProof.Rows

/-! ### fewest -/
noncomputable def optV : Option Nat → V
  | none => .non
  | some n => .int (n : Int)
theorem isN_opt (o : Option Nat) : isN (optV o) = o.isNone := by cases o <;> rfl
noncomputable def iaO : Option Bool → IA
  | none => none
  | some b => some (if b then 1 else 0)
noncomputable def keyS (st : List (Option Bool)) : MK := .inr (st.map fun s => (Sum.inl (iaO s) : IK))
theorem iaO_inj {a b : Option Bool} (h : iaO a = iaO b) : a = b := by
  cases a with
  | none => cases b with
    | none => rfl
    | some b => cases h
  | some a => cases b with
    | none => cases h
    | some b => cases a <;> cases b <;> first | rfl | (simp [iaO] at h)
theorem keyS_inj {a b : List (Option Bool)} (h : keyS a = keyS b) : a = b := by
  unfold keyS at h
  injection h with h
  induction a generalizing b with
  | nil => cases b with
    | nil => rfl
    | cons y b => cases h
  | cons x a ih => cases b with
    | nil => cases h
    | cons y b =>
      rw [List.map_cons, List.map_cons] at h
      injection h with h1 h2
      injection h1 with h1
      rw [iaO_inj h1, ih h2]
theorem key_st {H : Hp} {t : Addr} {st : List (Option Bool)} (e : H t = some (.tup (st.map stV))) : KeyV H (.ref t) (keyS st) := by
  refine ⟨t, _, rfl, e, ?_⟩
  have go : ∀ l : List (Option Bool), Paired (ItemV H) (l.map stV) (l.map fun s => (Sum.inl (iaO s) : IK)) := by
    intro l
    induction l with
    | nil => exact .nil
    | cons s l ih =>
      refine .cons ?_ ih
      cases s <;> rfl
  exact go st
noncomputable def SameX (d : Addr) (H H' : Hp) : Prop := ∀ b u, b ≠ d → H b = some u → H' b = some u
theorem SameX.refl (d : Addr) (H : Hp) : SameX d H H := fun _ _ _ h => h
theorem SameX.trans {d : Addr} {H H1 H2 : Hp} (a : SameX d H H1) (b : SameX d H1 H2) : SameX d H H2 := fun x u n h => b x u n (a x u n h)
theorem Same.x {H H' : Hp} (s : Same H H') (d : Addr) : SameX d H H' := fun b u _ h => s b u h
theorem SameX.offL {d l : Addr} {H H' H2 : Hp} (a : SameX d H H') (hl : H l = none) (o : Off l H' H2) : SameX d H H2 := fun b u n h => by rw [o b (ne_of_none h hl)]; exact a b u n h
theorem SameX.offD {d : Addr} {H H' H2 : Hp} (a : SameX d H H') (o : Off d H' H2) : SameX d H H2 := fun b u n h => by rw [o b n]; exact a b u n h
section
variable {H H' : Hp} {d : Addr} {s : Bool} {f : MK → Option V} {n : Nat}
theorem SameX.lst (x : SameX d H H') (D : Dx H d s f n) {a : Addr} {xs : List V} (e : H a = some (.lst xs)) : H' a = some (.lst xs) := x a _ (D.ne_lst e) e
theorem SameX.tup (x : SameX d H H') (D : Dx H d s f n) {a : Addr} {xs : List V} (e : H a = some (.tup xs)) : H' a = some (.tup xs) := x a _ (D.ne_tup e) e
theorem SameX.lsP (x : SameX d H H') (D : Dx H d s f n) {α : Type} {g : α → List V} {rs : List Addr} {fs : List α} (h : LsP g H rs fs) : LsP g H' rs fs := Paired.mapP h fun _ _ q => x.lst D q
theorem SameX.lsAt (x : SameX d H H') (D : Dx H d s f n) {α : Type} {g : α → List V} {p : Addr} {fs : List α} (h : LsAt g H p fs) : LsAt g H' p fs := let ⟨rs, e, q⟩ := h; ⟨rs, x.lst D e, x.lsP D q⟩
theorem SameX.same (x : SameX d H H') (D : Dx H d s f n) {H0 : Hp} (s0 : Same H0 H) (h : H0 d = none) : Same H0 H' := fun b u q => x b u (ne_of_none q h) (s0 b u q)
end
noncomputable def Kids (st : List (Option Bool)) (f : MK → Option V) (i : Nat) : Prop := ∀ k a, k < i → st[k]? = some none → (f (keyS (st.set k (some a)))).isSome
noncomputable def GoodF (rows : List (List Bool)) (gs : List Int) (ds : List Nat) (f : MK → Option V) : Prop := (∀ (st : List (Option Bool)) (v : V), st.length = rows.length → f (keyS st) = some v → v = optV (need rows gs ds st)) ∧ ∀ st : List (Option Bool), st.length = rows.length → (f (keyS st)).isSome → ¬ oneG gs (ds.filter (okS rows st)) → Kids st f st.length
theorem GoodF.none (rows : List (List Bool)) (gs : List Int) (ds : List Nat) : GoodF rows gs ds (fun _ => .none) := ⟨fun _ _ _ h => (by cases h), fun _ _ h => (by cases h)⟩
noncomputable def Ext (f f' : MK → Option V) : Prop := ∀ k, (f k).isSome → (f' k).isSome
theorem Ext.refl (f : MK → Option V) : Ext f f := fun _ h => h
theorem Ext.trans {f g h : MK → Option V} (a : Ext f g) (b : Ext g h) : Ext f h := fun k z => b k (a k z)
theorem Ext.put (f : MK → Option V) (k : MK) (v : V) : Ext f (putF_ f k v) := fun k' z => by
  unfold putF_
  by_cases e : k' = k
  · rw [if_pos e]; rfl
  · rw [if_neg e]; exact z
theorem GoodF.put {rows : List (List Bool)} {gs : List Int} {ds : List Nat} {f : MK → Option V} (h : GoodF rows gs ds f) (st : List (Option Bool)) (hk : ¬ oneG gs (ds.filter (okS rows st)) → Kids st f st.length) : GoodF rows gs ds (putF_ f (keyS st) (optV (need rows gs ds st))) := ⟨fun st' v hl e => by
  unfold putF_ at e
  by_cases z : keyS st' = keyS st
  · rw [if_pos z] at e
    rw [keyS_inj z]
    exact (Option.some.inj e).symm
  · rw [if_neg z] at e
    exact h.1 st' v hl e, fun st' hl e one k a hki hs => by
  refine Ext.put _ _ _ _ ?_
  by_cases z : keyS st' = keyS st
  · have zz := keyS_inj z
    subst zz
    exact hk one k a hki hs
  · unfold putF_ at e
    rw [if_neg z] at e
    exact h.2 st' hl e one k a hki hs⟩
noncomputable def sp_are_same (_ : PySem.W.Frag) : Sp := fun vs H Q _ => ∃ (b c : Addr) (gs : List Int) (ds : List Nat), vs = [.ref b, .ref c] ∧ H b = some (.lst (gs.map V.int)) ∧ H c = some (.lst (natV ds)) ∧ (∀ d ∈ ds, d < gs.length) ∧ ds.length ≤ 1000 ∧
  ∀ (k : Bool) (H' : Hp), Same H H' → (k = true ↔ oneG gs ds) → Q (.bl k) H'
noncomputable def t_are_same (K : PySem.W.Frag) : TS := (tRet (tOp (rI0 fun i j => .bl (decide (i < j))) (mLenSet K (tCons (tComp (iList K (tVar 1)) (fun _ _ _ _ => (gName 0)) (fun _ _ _ _ => tAlways) (fun _ _ _ _ => (tOp (rIxL K) (tVar 1) (tVar 0))) [none, some 0]) tNil)) (tC (.int 2))))
theorem len_are_same {K : PySem.W.Frag} {vs : List V} {H : Hp} {Q : VK} {E : XK} (h : sp_are_same K vs H Q E) : vs.length = 2 := by
  obtain ⟨b, c, gs, ds, rfl, eb, ec, hd, hl, q⟩ := h
  rfl
theorem rd_are_same {K : PySem.W.Frag} {vs : List V} {H : Hp} {Q : VK} {E : XK} (h : sp_are_same K vs H Q E) : t_are_same K { nx := fun _ H' => Q .non H', rt := Q } (start ["goal", "left"] vs) H := by
  obtain ⟨b, c, gs, ds, rfl, eb, ec, hd, hl, q⟩ := h
  show t_are_same K _ [some _, some _] _
  unfold t_are_same
  walk_at "rd"
  unfold mLenSet
  walk_at "rd"
  refine lc_list (natV ds) (SqL.of ec) (by rw [natV_len]; omega) (fun i acc _ => acc = ((ds.take i).map fun d => gs.getD d 0).map V.int) (fun _ _ => rfl) ?_ ?_
  · rintro w hw C s' H' fp i x acc H2 hx ⟨s2, e2, l2, rfl⟩
    obtain ⟨d, hdi, rfl⟩ := nat_of hx
    have hlt := hd d (List.mem_of_getElem? hdi)
    walk_at "rd"
    refine r_ixL (v := .int (gs.getD d 0)) (SqL.of (s2 _ _ eb)) (atI_nat (by rw [List.getElem?_map, List.getD_eq_getElem?_getD, List.getElem?_eq_getElem hlt]; rfl)) ?_
    refine CInv.put hw (fun _ _ _ _ r _ => r) s2 e2 l2 ?_
    rw [rows_snoc hdi, List.map_append, List.map_append]
    rfl
  · rintro w acc H2 hw s2 e2 rfl
    rw [natV_len, List.take_length] at e2
    walk_at "rd"
    refine r_lenSet (SqL.of e2) (by rw [List.length_map]; omega) fun n H3 s3 hn => ?_
    walk_at "rd"
    refine q _ _ (s2.trans s3) ?_
    rw [decide_eq_true_iff]
    constructor
    · intro h a ha b hb
      exact hn.mp (by omega) _ (List.mem_map_of_mem ha) _ (List.mem_map_of_mem hb)
    · intro h
      have : n < 2 := hn.mpr fun x hx y hy => by
        obtain ⟨a, ha, rfl⟩ := List.mem_map.mp hx
        obtain ⟨b, hb, rfl⟩ := List.mem_map.mp hy
        exact h a ha b hb
      omega
noncomputable def sp_answering (_ : PySem.W.Frag) : Sp := fun vs H Q _ => ∃ (r c : Addr) (row : List Bool) (ds : List Nat) (a : Bool), vs = [.ref r, .ref c, .bl a] ∧ H r = some (.lst (blL row)) ∧ H c = some (.lst (natV ds)) ∧ (∀ d ∈ ds, d < row.length) ∧ ds.length ≤ 1000 ∧
  ∀ p H', H p = none → Same H H' → H' p = some (.lst (natV (ds.filter fun d => row.getD d false == a))) → Q (.ref p) H'
noncomputable def t_answering (K : PySem.W.Frag) : TS := (tRet (tComp (iList K (tVar 1)) (fun _ _ _ _ => (gName 0)) (fun _ _ _ _ => (tTest (tOp rEq (tOp (rIxL K) (tVar 2) (tVar 0)) (tVar 1)))) (fun _ _ _ _ => (tVar 0)) [none, some 2, some 0]))
theorem len_answering {K : PySem.W.Frag} {vs : List V} {H : Hp} {Q : VK} {E : XK} (h : sp_answering K vs H Q E) : vs.length = 3 := by
  obtain ⟨r, c, row, ds, a, rfl, er, ec, hd, hl, q⟩ := h
  rfl
theorem rd_answering {K : PySem.W.Frag} {vs : List V} {H : Hp} {Q : VK} {E : XK} (h : sp_answering K vs H Q E) : t_answering K { nx := fun _ H' => Q .non H', rt := Q } (start ["ask", "left", "answer"] vs) H := by
  obtain ⟨r, c, row, ds, a, rfl, er, ec, hd, hl, q⟩ := h
  show t_answering K _ [some _, some _, some _] _
  unfold t_answering
  walk_at "rd"
  refine lc_list (natV ds) (SqL.of ec) (by rw [natV_len]; omega) (fun i acc _ => acc = natV ((ds.take i).filter fun d => row.getD d false == a)) (fun _ _ => rfl) ?_ ?_
  · rintro w hw C s' H' fp i x acc H2 hx ⟨s2, e2, l2, rfl⟩
    obtain ⟨d, hdi, rfl⟩ := nat_of hx
    walk_at "rd"
    refine r_ixL (SqL.of (s2 _ _ er)) (bls_get (row_bit (hd d (List.mem_of_getElem? hdi)))) ?_
    walk_at "rd"
    refine ite_b (fun h => ?_) (fun h => ?_)
    · walk_at "rd"
      refine CInv.put hw (fun _ _ _ _ r _ => r) s2 e2 l2 ?_
      rw [filt_snoc hdi, if_pos h, ← natV_snoc]
    · refine CInv.skip s2 e2 l2 ?_
      rw [filt_snoc hdi, if_neg (by rw [h]; exact Bool.false_ne_true), List.append_nil]
  · rintro w acc H2 hw s2 e2 rfl
    rw [natV_len, List.take_length] at e2
    exact q _ _ hw s2 e2
theorem six_nat (n d k : Nat) : HT.sIx n d (some (k : Int)) = min k n := by
  show (if (k : Int) < 0 then ((k : Int) + (n : Int)).toNat else min ((k : Int).toNat) n) = min k n
  rw [if_neg (by omega), Int.toNat_natCast]
theorem cut_head (xs : List V) (k : Nat) (h : k ≤ xs.length) : cutV xs none (some (k : Int)) = xs.take k := by
  unfold cutV
  rw [six_nat, show HT.sIx xs.length 0 none = 0 from rfl, List.drop_zero, Nat.sub_zero, Nat.min_eq_left h]
theorem cut_from (xs : List V) (k : Nat) (h : k ≤ xs.length) : cutV xs (some (k : Int)) none = xs.drop k := by
  unfold cutV
  rw [six_nat, show HT.sIx xs.length xs.length none = xs.length from rfl, Nat.min_eq_left h, List.take_of_length_le (by rw [List.length_drop]; exact Nat.le_refl _)]
noncomputable def sp_with_answer (_ : PySem.W.Frag) : Sp := fun vs H Q _ => ∃ (t : Addr) (st : List (Option Bool)) (k : Nat) (a : Bool), vs = [.ref t, .int (k : Int), .bl a] ∧ H t = some (.tup (st.map stV)) ∧ k < st.length ∧ st.length ≤ 1000 ∧
  ∀ p H', Same H H' → H' p = some (.tup ((st.set k (some a)).map stV)) → Q (.ref p) H'
noncomputable def t_with_answer (K : PySem.W.Frag) : TS := (tRet (tOp (mCatT K) (tOp (mCatT K) (tSl (mSlT K) (tVar 0) tNoPart (tPart (tVar 1))) (mTup (tCons (tVar 2) tNil))) (tSl (mSlT K) (tVar 0) (tPart (tOp (rI0 fun i j => .int (i + j)) (tVar 1) (tC (.int 1)))) tNoPart)))
theorem len_with_answer {K : PySem.W.Frag} {vs : List V} {H : Hp} {Q : VK} {E : XK} (h : sp_with_answer K vs H Q E) : vs.length = 3 := by
  obtain ⟨t, st, k, a, rfl, et, hk, hl, q⟩ := h
  rfl
theorem rd_with_answer {K : PySem.W.Frag} {vs : List V} {H : Hp} {Q : VK} {E : XK} (h : sp_with_answer K vs H Q E) : t_with_answer K { nx := fun _ H' => Q .non H', rt := Q } (start ["state", "number", "answer"] vs) H := by
  obtain ⟨t, st, k, a, rfl, et, hk, hl, q⟩ := h
  show t_with_answer K _ [some _, some _, some _] _
  unfold t_with_answer
  have hl' : (st.map stV).length = st.length := List.length_map _
  walk_at "rd"
  refine m_slT (SqT.of et) (by rw [hl', six_nat]; omega) fun p1 H1 hp1 s1 e1 => ?_
  rw [cut_head _ _ (by omega)] at e1
  walk_at "rd"
  refine ⟨by simp [sizeLine_eq], fun p2 H2 hp2 s2 e2 => ?_⟩
  refine m_catT (s2 _ _ e1) e2 (by rw [List.length_take, sizeLine_eq]; simp; omega) fun p3 H3 s3 e3 => ?_
  walk_at "rd"
  have e : ((k : Int) + 1) = ((k + 1 : Nat) : Int) := by omega
  rw [e]
  have s13 := s1.trans (s2.trans s3)
  refine m_slT (SqT.of (s13 _ _ et)) (by rw [hl', six_nat]; omega) fun p4 H4 hp4 s4 e4 => ?_
  rw [cut_from _ _ (by omega)] at e4
  refine m_catT (s4 _ _ e3) e4 (by rw [List.length_append, List.length_take, List.length_drop, sizeLine_eq]; simp; omega) fun p5 H5 s5 e5 => ?_
  refine q p5 H5 ((s13.trans s4).trans s5) ?_
  rw [e5, List.set_eq_take_append_cons_drop, if_pos hk, List.map_append, List.map_cons, List.map_take, List.map_drop, List.append_assoc]
  rfl
structure FewAt (H : Hp) (p b c t d : Addr) (rows : List (List Bool)) (gs : List Int) (ds : List Nat) (st : List (Option Bool)) (f : MK → Option V) (m : Nat) : Prop where
  asks : LsAt blL H p rows
  goal : H b = some (.lst (gs.map V.int))
  left : H c = some (.lst (natV (ds.filter (okS rows st))))
  state : H t = some (.tup (st.map stV))
  dict : Dx H d true f m
  good : GoodF rows gs ds f
  sl : st.length = rows.length
  rl : rows.length ≤ 6
  dl : ds.length ≤ 500
  dr : ∀ x ∈ ds, ∀ r ∈ rows, x < r.length
  dg : ∀ x ∈ ds, x < gs.length
noncomputable def FewTo (d : Addr) (rows : List (List Bool)) (gs : List Int) (ds : List Nat) (H : Hp) (f : MK → Option V) (m : Nat) (Q : (MK → Option V) → Hp → Prop) : Prop := ∀ (f' : MK → Option V) (m' : Nat) (H' : Hp), SameX d H H' → Dx H' d true f' m' → GoodF rows gs ds f' → Ext f f' → m' ≤ m → Q f' H'
noncomputable def sp_fewest_from (_ : PySem.W.Frag) : Nat → Sp
  | 0 => fun _ _ _ _ => False
  | n + 1 => fun vs H Q _ => ∃ (p b c t d : Addr) (rows : List (List Bool)) (gs : List Int) (ds : List Nat) (st : List (Option Bool)) (f : MK → Option V) (m : Nat), vs = [.ref p, .ref b, .ref c, .ref t, .ref d] ∧ FewAt H p b c t d rows gs ds st f m ∧ cntN st ≤ n ∧ m + room3 n ≤ 4000000 ∧
    FewTo d rows gs ds H f (m + room3 n) fun f' H' => (f' (keyS st)).isSome → Q (optV (need rows gs ds st)) H'
theorem no_fewest_from {K : PySem.W.Frag} {vs : List V} {H : Hp} {Q : VK} {E : XK} (h : sp_fewest_from K 0 vs H Q E) : False := h
noncomputable def sp_fewest_of_more (_ : PySem.W.Frag) : Nat → Sp := fun n vs H Q _ => ∃ (p b c t d : Addr) (rows : List (List Bool)) (gs : List Int) (ds : List Nat) (st : List (Option Bool)) (f : MK → Option V) (m : Nat), vs = [.ref p, .ref b, .ref c, .ref t, .ref d] ∧ FewAt H p b c t d rows gs ds st f m ∧ cntN st ≤ n ∧ m + (room3 n - 1) ≤ 4000000 ∧ ¬ oneG gs (ds.filter (okS rows st)) ∧
    FewTo d rows gs ds H f (m + (room3 n - 1)) fun f' H' => Kids st f' st.length → Q (optV (need rows gs ds st)) H'
theorem FewAt.ofTo {H H' : Hp} {p b c t d : Addr} {rows : List (List Bool)} {gs : List Int} {ds : List Nat} {st : List (Option Bool)} {f f' : MK → Option V} {m m' : Nat} (h : FewAt H p b c t d rows gs ds st f m) (x : SameX d H H') (D : Dx H' d true f' m') (g : GoodF rows gs ds f') : FewAt H' p b c t d rows gs ds st f' m' :=
  ⟨x.lsAt h.dict h.asks, x.lst h.dict h.goal, x.lst h.dict h.left, x.tup h.dict h.state, D, g, h.sl, h.rl, h.dl, h.dr, h.dg⟩
theorem FewAt.same {H H' : Hp} {p b c t d : Addr} {rows : List (List Bool)} {gs : List Int} {ds : List Nat} {st : List (Option Bool)} {f : MK → Option V} {m : Nat} (h : FewAt H p b c t d rows gs ds st f m) (s : Same H H') : FewAt H' p b c t d rows gs ds st f m := h.ofTo (s.x d) (h.dict.same s) h.good
noncomputable def t_fewest_from (K : PySem.W.Frag) (n : Nat) : TS := (tSeq (tIfS (tTest (tOp (rXIn true) (tVar 3) (tVar 4))) (tAsg (tIf (tB (tCall (sp_are_same K) [] E0 (tCons (tVar 1) (tCons (tVar 2) tNil)))) (tC (.int 0)) (tCall (sp_fewest_of_more K n) [] E0 (tCons (tVar 0) (tCons (tVar 1) (tCons (tVar 2) (tCons (tVar 3) (tCons (tVar 4) tNil))))))) (gSub (tVar 4) (tVar 3) rXSet)) tNext)
  (tRet (tOp rXGet (tVar 4) (tVar 3))))
noncomputable abbrev N_fewest_from : List Str := ["asks", "goal", "left", "state", "found"]
theorem len_fewest_from {K : PySem.W.Frag} {n : Nat} {vs : List V} {H : Hp} {Q : VK} {E : XK} (h : sp_fewest_from K (n + 1) vs H Q E) : vs.length = 5 := by
  obtain ⟨p, b, c, t, d, rows, gs, ds, st, f, m, rfl, h⟩ := h
  rfl
theorem room3_pos (n : Nat) : 1 ≤ room3 n := by cases n <;> (unfold room3; omega)
theorem rd_fewest_from {K : PySem.W.Frag} {n : Nat} {vs : List V} {H : Hp} {Q : VK} {E : XK} (h : sp_fewest_from K (n + 1) vs H Q E) : t_fewest_from K n { nx := fun _ H' => Q .non H', rt := Q } (start N_fewest_from vs) H := by
  obtain ⟨p, b, c, t, d, rows, gs, ds, st, f, m, rfl, Z, hn, hm, q⟩ := h
  show t_fewest_from K n _ [some _, some _, some _, some _, some _] _
  unfold t_fewest_from
  have hr1 := room3_pos n
  have hk := key_st Z.state
  refine r_seq_n fun NX hNX => ?_
  have fin : ∀ (f' : MK → Option V) (m' : Nat) (H' : Hp), SameX d H H' → Dx H' d true f' m' → GoodF rows gs ds f' → Ext f f' → m' ≤ m + room3 n → f' (keyS st) = some (optV (need rows gs ds st)) → NX [some (.ref p), some (.ref b), some (.ref c), some (.ref t), some (.ref d)] H' := by
    intro f' m' H' x D g xf hm' e
    refine hNX _ _ ?_
    walk_at "rd"
    refine r_xget D (key_st (x.tup Z.dict Z.state)) rfl e ?_
    exact q f' m' H' x D g xf hm' (by rw [e]; rfl)
  walk_at "rs"
  refine r_xnotin Z.dict hk rfl ?_
  walk_at "rs"
  cases ef : f (keyS st) with
  | some v =>
    refine iteF ?_
    walk_at "rs"
    exact fin f m H (SameX.refl _ _) Z.dict Z.good (Ext.refl _) (by omega) (by rw [ef, Z.good.1 st v Z.sl ef])
  | none =>
    refine iteT ?_
    have hdl : (ds.filter (okS rows st)).length ≤ 500 := Nat.le_trans (List.length_filter_le _ _) Z.dl
    walk_at "rs"
    refine ⟨b, c, gs, ds.filter (okS rows st), rfl, Z.goal, Z.left, fun x hx => Z.dg x (List.mem_filter.mp hx).1, by omega, fun k H1 s1 h1 => ?_⟩
    have put : ∀ (f' : MK → Option V) (m' : Nat) (H' : Hp), SameX d H H' → Dx H' d true f' m' → GoodF rows gs ds f' → Ext f f' → (¬ oneG gs (ds.filter (okS rows st)) → Kids st f' st.length) → m' + 1 ≤ m + room3 n → rXSet (.ref d) (.ref t) (optV (need rows gs ds st)) H' fun H3 => NX [some (.ref p), some (.ref b), some (.ref c), some (.ref t), some (.ref d)] H3 := by
      intro f' m' H' x D g xf kd hm'
      refine r_xset D (key_st (x.tup Z.dict Z.state)) rfl (by rw [sizeLine_eq]; omega) fun H3 o3 D3 => ?_
      exact fin _ _ _ (x.offD o3) D3 (g.put st kd) (xf.trans (Ext.put _ _ _)) hm' (by unfold putF_; rw [if_pos rfl])
    walk_at "rs"
    cases k with
    | true =>
      refine iteT ?_
      walk_at "rs"
      rw [← show optV (need rows gs ds st) = .int 0 by rw [need_one (h1.mp rfl)]; rfl]
      exact put f m H1 (s1.x d) (Z.dict.same s1) Z.good (Ext.refl _) (fun no => absurd (h1.mp rfl) no) (by omega)
    | false =>
      refine iteF ?_
      walk_at "rs"
      refine ⟨p, b, c, t, d, rows, gs, ds, st, f, m, rfl, Z.same s1, hn, by omega, fun z => Bool.false_ne_true (h1.mpr z), fun f' m' H2 x2 D2 g2 xf2 hm2 kd2 => ?_⟩
      walk_at "rs"
      exact put f' m' H2 ((s1.x d).trans x2) D2 g2 xf2 (fun _ => kd2) (by omega)
noncomputable def t_fewest_of_more (K : PySem.W.Frag) (n : Nat) : TS := (tSeq (tAsg (mLst tNil) (gName 5))
  (tSeq (tFor (iEnum srcL K (tCons (tVar 0) tNil)) (gTup K 2 (gCons (gName 6) (gCons (gName 7) gNil))) (tIfS (tTest (tOp rIsNone (tOp (rIxT K) (tVar 3) (tVar 6)) (tC .non))) (tSeq (tAsg (tCall (sp_fewest_from K n) [] E0 (tCons (tVar 0) (tCons (tVar 1) (tCons (tCall (sp_answering K) [] E0 (tCons (tVar 7) (tCons (tVar 2) (tCons (tC (.bl true)) tNil)))) (tCons (tCall (sp_with_answer K) [] E0 (tCons (tVar 3) (tCons (tVar 6) (tCons (tC (.bl true)) tNil)))) (tCons (tVar 4) tNil)))))) (gName 8))
  (tSeq (tAsg (tCall (sp_fewest_from K n) [] E0 (tCons (tVar 0) (tCons (tVar 1) (tCons (tCall (sp_answering K) [] E0 (tCons (tVar 7) (tCons (tVar 2) (tCons (tC (.bl false)) tNil)))) (tCons (tCall (sp_with_answer K) [] E0 (tCons (tVar 3) (tCons (tVar 6) (tCons (tC (.bl false)) tNil)))) (tCons (tVar 4) tNil)))))) (gName 9))
  (tIfS (tAnd (tTest (tOp rIsnNone (tVar 8) (tC .non))) (tTest (tOp rIsnNone (tVar 9) (tC .non)))) (tDrop (tBM K "list" rAppend (tVar 5) (tCons (tOp (rI0 fun i j => .int (i + j)) (tC (.int 1)) (tCB cMax2 (tCons (tVar 8) (tCons (tVar 9) tNil)))) tNil))) tNext))) tNext))
  (tRet (mMinD K (tCons (tVar 5) tNil)))))
noncomputable abbrev N_fewest_of_more : List Str := ["asks", "goal", "left", "state", "found", "counts", "number", "ask", "yes", "no"]
theorem len_fewest_of_more {K : PySem.W.Frag} {n : Nat} {vs : List V} {H : Hp} {Q : VK} {E : XK} (h : sp_fewest_of_more K n vs H Q E) : vs.length = 5 := by
  obtain ⟨p, b, c, t, d, rows, gs, ds, st, f, m, rfl, h⟩ := h
  rfl
theorem fm_snoc {α β : Type} (g : α → Option β) (l : List α) (x : α) : (l ++ [x]).filterMap g = l.filterMap g ++ (g x).toList := by
  rw [List.filterMap_append]
  cases h : g x <;> simp [h]
theorem rd_fewest_of_more {K : PySem.W.Frag} {n : Nat} {vs : List V} {H : Hp} {Q : VK} {E : XK} (h : sp_fewest_of_more K n vs H Q E) : t_fewest_of_more K n { nx := fun _ H' => Q .non H', rt := Q } (start N_fewest_of_more vs) H := by
  obtain ⟨p, b, c, t, d, rows, gs, ds, st, f, m, rfl, Z, hn, hm, hg, q⟩ := h
  show t_fewest_of_more K n _ [some _, some _, some _, some _, some _, none, none, none, none, none] _
  unfold t_fewest_of_more
  have hrl := Z.rl
  have hsl := Z.sl
  walk_at "rd"
  refine ⟨by simp [sizeLine_eq], fun w H1 hw s1 e1 => ?_⟩
  have nwd : w ≠ d := Z.dict.ne_none hw
  obtain ⟨rs, ep, er⟩ := Z.asks
  have hrs := er.len
  -- how many keys a turn may add
  obtain ⟨R, hR⟩ : ∃ R, R = (match n with | 0 => 0 | u + 1 => room3 u) := ⟨_, rfl⟩
  have hR12 : 12 * R = room3 n - 1 := by
    cases n with
    | zero => rw [hR]; rfl
    | succ u => rw [hR]; show 12 * room3 u = (1 + 12 * room3 u) - 1; omega
  walk_at "rd"
  refine lp_enum (S := srcL) (rs.map V.ref) (SqL.of (s1 _ _ ep)) (fun i σ H2 => ∃ (u1 u2 u3 u4 : Option V) (f' : MK → Option V) (m' : Nat), σ = [some (.ref p), some (.ref b), some (.ref c), some (.ref t), some (.ref d), some (.ref w), u1, u2, u3, u4] ∧ SameX d H H2 ∧ Dx H2 d true f' m' ∧ GoodF rows gs ds f' ∧ (Ext f f' ∧ Kids st f' i) ∧ m' ≤ m + 2 * (i * R) ∧ H2 w = some (.lst (natV ((List.range i).filterMap (cost rows gs ds st)))) ∧ ((List.range i).filterMap (cost rows gs ds st)).length ≤ i) ⟨_, _, _, _, f, m, rfl, s1.x d, Z.dict.same s1, Z.good, ⟨Ext.refl _, fun k a h => by omega⟩, by omega, e1, Nat.le_refl _⟩ ?_ ?_ ?_
  · rintro i σ H2 hi ⟨u1, u2, u3, u4, f', m', rfl, x2, D2, g2, kd2, hm2, e2, l2⟩
    exact SqL.of (x2.lst Z.dict ep)
  · rintro i x T σ H2 H3 hx ⟨u1, u2, u3, u4, f', m', rfl, x2, D2, g2, kd2, hm2, e2, l2⟩ hT s3 e3
    obtain ⟨r, hr, rfl⟩ := refs_at hx
    obtain ⟨row, hrw, erw⟩ := er.get hr
    have hi : i < rows.length := (List.getElem?_eq_some_iff.mp hrw).1
    obtain ⟨s, hs⟩ : ∃ s, st[i]? = some s := ⟨st[i]'(by omega), List.getElem?_eq_getElem (by omega)⟩
    have x3 : SameX d H H3 := x2.trans (s3.x d)
    have D3 := D2.same s3
    have Z3 := Z.ofTo x3 D3 g2
    have hsuc : (List.range (i + 1)).filterMap (cost rows gs ds st) = (List.range i).filterMap (cost rows gs ds st) ++ (cost rows gs ds st i).toList := by rw [List.range_succ, fm_snoc]
    have hR2 : 2 * ((i + 1) * R) = 2 * (i * R) + 2 * R := by rw [Nat.add_one_mul i R]; omega
    have e3w := s3 _ _ e2
    have kids : ∀ f2 : MK → Option V, Ext f' f2 → (st[i]? = some none → ∀ a, (f2 (keyS (st.set i (some a)))).isSome) → Ext f f2 ∧ Kids st f2 (i + 1) := fun f2 xf k2 => ⟨kd2.1.trans xf, fun k a hk hz => by
      rcases Nat.lt_succ_iff_lt_or_eq.mp hk with h | h
      · exact xf _ (kd2.2 k a h hz)
      · subst h
        exact k2 hz a⟩
    -- the turn's end: nothing more told
    have stop : ∀ (u1 u2 u3 u4 : Option V) (f2 : MK → Option V) (m2 : Nat) (H4 : Hp), cost rows gs ds st i = none → SameX d H H4 → Dx H4 d true f2 m2 → GoodF rows gs ds f2 → Ext f' f2 → (st[i]? = some none → ∀ a, (f2 (keyS (st.set i (some a)))).isSome) → m2 ≤ m' + 2 * R → H4 w = some (.lst (natV ((List.range i).filterMap (cost rows gs ds st)))) →
        ∃ (v1 v2 v3 v4 : Option V) (f' : MK → Option V) (m' : Nat), [some (V.ref p), some (.ref b), some (.ref c), some (.ref t), some (.ref d), some (.ref w), u1, u2, u3, u4] = [some (.ref p), some (.ref b), some (.ref c), some (.ref t), some (.ref d), some (.ref w), v1, v2, v3, v4] ∧ SameX d H H4 ∧ Dx H4 d true f' m' ∧ GoodF rows gs ds f' ∧ (Ext f f' ∧ Kids st f' (i + 1)) ∧ m' ≤ m + 2 * ((i + 1) * R) ∧ H4 w = some (.lst (natV ((List.range (i + 1)).filterMap (cost rows gs ds st)))) ∧ ((List.range (i + 1)).filterMap (cost rows gs ds st)).length ≤ i + 1 := by
      intro u1 u2 u3 u4 f2 m2 H4 hc x4 D4 g4 xf4 k4 h4 e4
      refine ⟨_, _, _, _, f2, m2, rfl, x4, D4, g4, kids f2 xf4 k4, by omega, ?_, ?_⟩
      · rw [hsuc, hc]; simpa using e4
      · rw [hsuc, hc]; simp; omega
    walk_at "rd"
    refine g_pair (SqT.of e3) ?_
    walk_at "rd"
    refine r_ixT (SqT.of Z3.state) (atI_nat (st_get hs)) ?_
    walk_at "rd"
    refine r_isNone ?_
    rw [isN_st]
    walk_at "rd"
    cases s with
    | some a =>
      refine iteF ?_
      walk_at "rd"
      exact stop _ _ _ _ f' m' H3 (by unfold cost; rw [if_neg (by rw [hs]; intro z; cases z)]) x3 D3 g2 (Ext.refl _) (fun z => by rw [hs] at z; cases z) (by omega) e3w
    | none =>
      refine iteT ?_
      -- so n is above 0
      obtain ⟨u, rfl⟩ : ∃ u, n = u + 1 := by
        have := cntN_set (a := true) hs
        exact ⟨n - 1, by omega⟩
      have hRu : R = room3 u := hR
      have hrow : ∀ x ∈ ds.filter (okS rows st), x < row.length := fun x hx => Z.dr x (List.mem_filter.mp hx).1 row (List.mem_of_getElem? hrw)
      have hdl : (ds.filter (okS rows st)).length ≤ 500 := Nat.le_trans (List.length_filter_le _ _) Z.dl
      have hbit : ∀ x, bitR rows i x = row.getD x false := fun x => by unfold bitR; rw [List.getD_eq_getElem?_getD (l := rows), hrw]; rfl
      have hff : ∀ a : Bool, (ds.filter (okS rows st)).filter (fun x => row.getD x false == a) = ds.filter (okS rows (st.set i (some a))) := fun a => by
        rw [List.filter_filter]
        refine List.filter_congr fun x _ => ?_
        rw [okS_set rows st i x a hsl hs, hbit, Bool.and_comm]
      have hi6 : 2 * ((i + 1) * R) ≤ 12 * R := by
        have : (i + 1) * R ≤ 6 * R := Nat.mul_le_mul_right _ (by omega)
        omega
      -- one side
      have side : ∀ (a : Bool) (f2 : MK → Option V) (m2 : Nat) (H4 : Hp) (Q' : VK), SameX d H H4 → Dx H4 d true f2 m2 → GoodF rows gs ds f2 → m2 + R ≤ 4000000 → (FewTo d rows gs ds H4 f2 (m2 + R) fun f5 H5 => (f5 (keyS (st.set i (some a)))).isSome → Q' (optV (need rows gs ds (st.set i (some a)))) H5) →
          ∀ (c2 t2 : Addr) (H5 : Hp), Same H4 H5 → H5 c2 = some (.lst (natV ((ds.filter (okS rows st)).filter fun x => row.getD x false == a))) → H5 t2 = some (.tup ((st.set i (some a)).map stV)) → sp_fewest_from K (u + 1) [.ref p, .ref b, .ref c2, .ref t2, .ref d] H5 Q' E0 := by
        intro a f2 m2 H4 Q' x4 D4 g4 h4 q4 c2 t2 H5 s5 e5 e6
        have Z4 := Z.ofTo x4 D4 g4
        have Z5 := Z4.same s5
        rw [hff] at e5
        have hc := cntN_set (a := a) hs
        refine ⟨p, b, c2, t2, d, rows, gs, ds, st.set i (some a), f2, m2, rfl, ⟨Z5.asks, Z5.goal, e5, e6, Z5.dict, g4, by rw [List.length_set]; exact hsl, Z.rl, Z.dl, Z.dr, Z.dg⟩, by omega, by rw [← hRu]; exact h4, fun f' m' H' x' D' g' xf' h' i' => ?_⟩
        exact q4 f' m' H' ((s5.x d).trans x') D' g' xf' (by rw [hRu]; exact h') i'
      have hcost : cost rows gs ds st i = (match need rows gs ds (st.set i (some true)), need rows gs ds (st.set i (some false)) with
        | some a, some b => some (1 + max a b)
        | _, _ => none) := by unfold cost; exact if_pos hs
      walk_at "rd"
      refine ⟨r, c, row, ds.filter (okS rows st), true, rfl, x3.lst Z.dict erw, Z3.left, hrow, by omega, fun c2 H4 hc2 s4 e4 => ?_⟩
      walk_at "rd"
      refine ⟨t, st, i, true, rfl, s4 _ _ Z3.state, by omega, by omega, fun t2 H5 s5 e5 => ?_⟩
      walk_at "rd"
      refine side true f' m' H3 _ x3 D3 g2 (by omega) (fun f6 m6 H6 x6 D6 g6 xf6 h6 i6 => ?_) c2 t2 H5 (s4.trans s5) (s5 _ _ e4) e5
      have x06 := x3.trans x6
      have Z6 := Z.ofTo x06 D6 g6
      have e6w := x6.lst D3 e3w
      walk_at "rd"
      refine ⟨r, c, row, ds.filter (okS rows st), false, rfl, x06.lst Z.dict erw, Z6.left, hrow, by omega, fun c3 H7 hc3 s7 e7 => ?_⟩
      walk_at "rd"
      refine ⟨t, st, i, false, rfl, s7 _ _ Z6.state, by omega, by omega, fun t3 H8 s8 e8 => ?_⟩
      walk_at "rd"
      refine side false f6 m6 H6 _ x06 D6 g6 (by omega) (fun f9 m9 H9 x9 D9 g9 xf9 h9 i9 => ?_) c3 t3 H8 (s7.trans s8) (s8 _ _ e7) e8
      have x09 := x06.trans x9
      have xf09 : Ext f' f9 := xf6.trans xf9
      have k09 : st[i]? = some none → ∀ a, (f9 (keyS (st.set i (some a)))).isSome := fun _ a => by cases a with
        | true => exact xf9 _ i6
        | false => exact i9
      have e9w := x9.lst D6 e6w
      walk_at "rd"
      refine r_isnNone ?_
      rw [isN_opt]
      cases hy : need rows gs ds (st.set i (some true)) with
      | none =>
        walk_at "rd"
        refine iteF ?_
        walk_at "rd"
        exact stop _ _ _ _ f9 m9 H9 (by rw [hcost, hy]) x09 D9 g9 xf09 k09 (by omega) e9w
      | some a =>
        walk_at "rd"
        refine iteT ?_
        walk_at "rd"
        refine r_isnNone ?_
        rw [isN_opt]
        cases hz : need rows gs ds (st.set i (some false)) with
        | none =>
          walk_at "rd"
          refine iteF ?_
          walk_at "rd"
          exact stop _ _ _ _ f9 m9 H9 (by rw [hcost, hy, hz]) x09 D9 g9 xf09 k09 (by omega) e9w
        | some b' =>
          walk_at "rd"
          refine iteT ?_
          walk_at "rd"
          refine ⟨r_tyL e9w, ?_⟩
          walk_at "rd"
          refine r_max2 (i := (a : Int)) (j := (b' : Int)) ?_
          walk_at "rd"
          refine r_append e9w (by rw [natV_len, sizeLine_eq]; omega) fun H10 o10 e10 => ?_
          walk_at "rd"
          have hcs : cost rows gs ds st i = some (1 + max a b') := by rw [hcost, hy, hz]
          have D10 : Dx H10 d true f9 m9 := D9.off e9w o10
          refine ⟨_, _, _, _, f9, m9, rfl, x09.offL hw o10, D10, g9, kids f9 xf09 k09, by omega, ?_, ?_⟩
          · rw [e10, hsuc, hcs, Option.toList_some, ← natV_snoc, show ((1 + max a b' : Nat) : Int) = 1 + (if (b' : Int) > (a : Int) then (b' : Int) else (a : Int)) by split <;> omega]
          · rw [hsuc, hcs, Option.toList_some, List.length_append]
            exact Nat.add_le_add_right l2 1
  · rintro σ H2 ⟨u1, u2, u3, u4, f', m', rfl, x2, D2, g2, kd2, hm2, e2, l2⟩
    rw [List.length_map, hrs] at e2 hm2 kd2
    have kd3 : Kids st f' st.length := by rw [hsl]; exact kd2.2
    have hm3 : 2 * (rows.length * R) ≤ 12 * R := by
      have : rows.length * R ≤ 6 * R := Nat.mul_le_mul_right _ hrl
      omega
    have hq := need_more hg
    rw [hsl] at hq
    walk_at "rd"
    refine m_minD ?_
    walk_at "rd"
    refine ⟨w, _, rfl, by rw [← natV_ints]; exact SqL.of e2, fun h => ?_, fun M hM hle => ?_⟩
    · have hz : (List.range rows.length).filterMap (cost rows gs ds st) = [] := List.map_eq_nil_iff.mp h
      have := q f' m' H2 x2 D2 g2 kd2.1 (by omega) kd3
      rw [hq, hz] at this
      exact this
    · obtain ⟨a, ha, rfl⟩ := List.mem_map.mp hM
      have hmin := min_of ha fun y hy => by
        have := hle _ (List.mem_map_of_mem hy)
        omega
      have := q f' m' H2 x2 D2 g2 kd2.1 (by omega) kd3
      rw [hq, hmin] at this
      exact this
noncomputable def sp_fewest (_ : PySem.W.Frag) : Sp := fun vs H Q _ => ∃ (p b c : Addr) (rows : List (List Bool)) (gs : List Int) (ds : List Nat), vs = [.ref p, .ref b, .ref c] ∧ LsAt blL H p rows ∧ H b = some (.lst (gs.map V.int)) ∧ H c = some (.lst (natV ds)) ∧ rows.length ≤ 6 ∧ ds.length ≤ 500 ∧ (∀ x ∈ ds, ∀ r ∈ rows, x < r.length) ∧ (∀ x ∈ ds, x < gs.length) ∧
  ∀ H', Same H H' → Q (optV (need rows gs ds (List.replicate rows.length none))) H'
noncomputable def t_fewest (K : PySem.W.Frag) : TS := (tRet (tCall (sp_fewest_from K 7) [] E0 (tCons (tVar 0) (tCons (tVar 1) (tCons (tVar 2) (tCons (tOp mRepT (mTup (tCons (tC .non) tNil)) (tCB (cLen K) (tCons (tVar 0) tNil))) (tCons mDnewX tNil)))))))
theorem len_fewest {K : PySem.W.Frag} {vs : List V} {H : Hp} {Q : VK} {E : XK} (h : sp_fewest K vs H Q E) : vs.length = 3 := by
  obtain ⟨p, b, c, rows, gs, ds, rfl, A, eb, ec, hrl, hdl, hdr, hdg, q⟩ := h
  rfl
theorem rd_fewest {K : PySem.W.Frag} {vs : List V} {H : Hp} {Q : VK} {E : XK} (h : sp_fewest K vs H Q E) : t_fewest K { nx := fun _ H' => Q .non H', rt := Q } (start ["asks", "goal", "some"] vs) H := by
  obtain ⟨p, b, c, rows, gs, ds, rfl, A, eb, ec, hrl, hdl, hdr, hdg, q⟩ := h
  show t_fewest K _ [some _, some _, some _] _
  unfold t_fewest
  walk_at "rd"
  refine ⟨by simp [sizeLine_eq], fun l1 H1 hl1 s1 e1 => ?_⟩
  obtain ⟨rs, ep, er⟩ := A.same s1
  walk_at "rd"
  rw [List.length_map, er.len]
  refine m_repT e1 (by omega) fun t H2 s2 e2 => ?_
  walk_at "rd"
  refine m_dnewX true fun d H3 hd s3 D3 => ?_
  have s13 := s2.trans s3
  have s03 := s1.trans s13
  have e3 : H3 t = some (.tup ((List.replicate rows.length (none : Option Bool)).map stV)) := by rw [List.map_replicate]; exact s3 _ _ e2
  walk_at "rd"
  refine ⟨p, b, c, t, d, rows, gs, ds, List.replicate rows.length none, _, 0, rfl, ⟨A.same s03, s03 _ _ eb, by rw [okS_none]; exact s03 _ _ ec, e3, D3, GoodF.none _ _ _, List.length_replicate, hrl, hdl, hdr, hdg⟩, ?_, by decide, fun f' m' H4 x4 D4 g4 _ h4 _ => ?_⟩
  · unfold cntN
    rw [List.count_replicate_self]
    exact hrl
  · exact q _ (x4.same D3 s03 ((s1.trans s2).free hd))

end L2

end

section
-- KcDxR
set_option Elab.async false
set_option linter.all false
set_option maxRecDepth 100000
set_option maxHeartbeats 4000000
namespace L2
open PySem PyProof.Rows
/-! ### a dict whose keys are states, in the order in which they came -/
noncomputable def Bd (H : Hp) (a : Addr) (sts : List (List (Option Bool))) : Prop := ∃ zs, H a = some (dB a zs) ∧ Paired (fun (z : List IK × Addr × V) (st : List (Option Bool)) => H z.2.1 = some (.tup (st.map stV)) ∧ (Sum.inr z.1 : MK) = keyS st) zs sts
theorem Bd.same {H H' : Hp} {a : Addr} {sts : List (List (Option Bool))} (h : Bd H a sts) (s : Same H H') : Bd H' a sts := let ⟨zs, e, p⟩ := h; ⟨zs, s _ _ e, Paired.mapP p fun _ _ q => ⟨s _ _ q.1, q.2⟩⟩
theorem Bd.off {H H' : Hp} {a l : Addr} {xs : List V} {sts : List (List (Option Bool))} (h : Bd H a sts) (e : H l = some (.lst xs)) (o : Off l H H') : Bd H' a sts := by
  obtain ⟨zs, e1, p⟩ := h
  exact ⟨zs, by rw [o a (fun z => by rw [z, e] at e1; cases e1)]; exact e1, Paired.mapP p fun _ _ q => ⟨o.keep e _ _ q.1, q.2⟩⟩
theorem Bd.new {H : Hp} {a : Addr} (h : Dx H a true (fun _ => none) 0) : Bd H a [] := by
  rcases h with ⟨z, _⟩ | ⟨_, zs, e, _, _, l⟩
  · cases z
  · have : zs = [] := List.eq_nil_of_length_eq_zero (by omega)
    subst this
    exact ⟨[], e, .nil⟩
theorem Bd.ne_none {H : Hp} {a b : Addr} {sts : List (List (Option Bool))} (h : Bd H a sts) (e : H b = none) : b ≠ a := by
  obtain ⟨zs, e1, p⟩ := h
  exact fun z => by rw [z, e1] at e; cases e
theorem Bd.ne_lst {H : Hp} {a b : Addr} {xs : List V} {sts : List (List (Option Bool))} (h : Bd H a sts) (e : H b = some (.lst xs)) : b ≠ a := by
  obtain ⟨zs, e1, p⟩ := h
  exact fun z => by rw [z, e1] at e; cases e
theorem Bd.ne_tup {H : Hp} {a b : Addr} {xs : List V} {sts : List (List (Option Bool))} (h : Bd H a sts) (e : H b = some (.tup xs)) : b ≠ a := by
  obtain ⟨zs, e1, p⟩ := h
  exact fun z => by rw [z, e1] at e; cases e
noncomputable def insS (sts : List (List (Option Bool))) (st : List (Option Bool)) : List (List (Option Bool)) := if st ∈ sts then sts else sts ++ [st]
theorem insS_mem {sts : List (List (Option Bool))} {st x : List (Option Bool)} : x ∈ insS sts st ↔ x ∈ sts ∨ x = st := by
  unfold insS
  by_cases h : st ∈ sts
  · rw [if_pos h]; exact ⟨.inl, fun z => z.elim id fun e => e ▸ h⟩
  · rw [if_neg h, List.mem_append, List.mem_singleton]
theorem insS_nd {sts : List (List (Option Bool))} {st : List (Option Bool)} (h : sts.Nodup) : (insS sts st).Nodup := by
  unfold insS
  by_cases c : st ∈ sts
  · rw [if_pos c]; exact h
  · rw [if_neg c]
    refine List.nodup_append.mpr ⟨h, by simp, fun a ha b hb => ?_⟩
    rw [List.mem_singleton.mp hb]
    exact fun e => c (e ▸ ha)
theorem insS_len (sts : List (List (Option Bool))) (st : List (Option Bool)) : (insS sts st).length ≤ sts.length + 1 := by
  unfold insS
  split
  · omega
  · rw [List.length_append]; exact Nat.le_refl _
noncomputable def rBSet : TSet := fun o i v H R => ∃ (a t : Addr) (sts : List (List (Option Bool))) (st : List (Option Bool)), o = .ref a ∧ i = .ref t ∧ H t = some (.tup (st.map stV)) ∧ Bd H a sts ∧ sts.length < sizeLine ∧ ∀ H', Off a H H' → Bd H' a (insS sts st) → R H'
theorem r_bset {H : Hp} {a t : Addr} {v : V} {sts : List (List (Option Bool))} {st : List (Option Bool)} {R : Hp → Prop} (e : H t = some (.tup (st.map stV))) (b : Bd H a sts) (hn : sts.length < sizeLine) (h : ∀ H', Off a H H' → Bd H' a (insS sts st) → R H') : rBSet (.ref a) (.ref t) v H R := ⟨a, t, sts, st, rfl, rfl, e, b, hn, h⟩
noncomputable def StP (H : Hp) (t : Addr) (st : List (Option Bool)) : Prop := H t = some (.tup (st.map stV))
noncomputable def cLBd : List V → Hp → VK → Prop := fun xs H Q => ∃ (a : Addr) (sts : List (List (Option Bool))), xs = [.ref a] ∧ Bd H a sts ∧ ∀ (l : Addr) (H' : Hp) (ts : List Addr), H l = none → Same H H' → H' l = some (.lst (ts.map V.ref)) → Paired (StP H') ts sts → Q (.ref l) H'
theorem r_lbd {H : Hp} {Q : VK} {a : Addr} {sts : List (List (Option Bool))} (b : Bd H a sts) (h : ∀ (l : Addr) (H' : Hp) (ts : List Addr), H l = none → Same H H' → H' l = some (.lst (ts.map V.ref)) → Paired (StP H') ts sts → Q (.ref l) H') : cLBd [.ref a] H Q := ⟨a, sts, rfl, b, h⟩
end L2

end

section
-- KcTree
set_option Elab.async false
set_option linter.all false
set_option maxRecDepth 100000
set_option maxHeartbeats 4000000
namespace L2
open PySem
/-! ### trees of asks, as mathematics -/
inductive Tr
  | goal (g : Int)
  | ask (k : Nat) (y n : Tr)
noncomputable def Tr.depth : Tr → Nat
  | .goal _ => 0
  | .ask _ y n => 1 + max y.depth n.depth
noncomputable def Tr.size : Tr → Nat
  | .goal _ => 1
  | .ask _ y n => 1 + y.size + n.size
noncomputable def Tr.within (c : Nat) : Tr → Prop
  | .goal _ => True
  | .ask k y n => k < c ∧ y.within c ∧ n.within c
noncomputable def Tr.come (rows : List (List Bool)) (d : Nat) : Tr → Int
  | .goal g => g
  | .ask k y n => if bitR rows k d then y.come rows d else n.come rows d
theorem Tr.size_le : ∀ t : Tr, t.size + 1 ≤ 2 ^ (t.depth + 1)
  | .goal _ => (show 1 + 1 ≤ 2 ^ 1 by decide)
  | .ask k y n => by
    have h1 := y.size_le
    have h2 := n.size_le
    have m1 : 2 ^ (y.depth + 1) ≤ 2 ^ (max y.depth n.depth + 1) := Nat.pow_le_pow_right (by decide) (by omega)
    have m2 : 2 ^ (n.depth + 1) ≤ 2 ^ (max y.depth n.depth + 1) := Nat.pow_le_pow_right (by decide) (by omega)
    show (1 + y.size + n.size) + 1 ≤ 2 ^ (1 + max y.depth n.depth + 1)
    rw [show 1 + max y.depth n.depth + 1 = (max y.depth n.depth + 1) + 1 by omega, Nat.pow_succ]
    omega
theorem Tr.small {t : Tr} {n : Nat} (h : t.depth ≤ n) (hn : n ≤ 6) : t.size ≤ 127 := by
  have := t.size_le
  have m : 2 ^ (t.depth + 1) ≤ 2 ^ 7 := Nat.pow_le_pow_right (by decide) (by omega)
  omega
section
variable {rows : List (List Bool)} {gs : List Int} {ds : List Nat} {st : List (Option Bool)}
theorem need_zero (h : need rows gs ds st = some 0) : oneG gs (ds.filter (okS rows st)) := by
  apply Classical.byContradiction
  intro one
  rw [need_more one] at h
  obtain ⟨hm, _⟩ := List.min?_eq_some_iff.mp h
  obtain ⟨k, _, hk⟩ := List.mem_filterMap.mp hm
  obtain ⟨_, a, b, _, _, hc⟩ := cost_some hk
  omega
theorem need_le : ∀ (u : Nat) {st : List (Option Bool)} {m : Nat}, cntN st = u → need rows gs ds st = some m → m ≤ u := by
  intro u
  induction u with
  | zero =>
    intro st m hu h
    by_cases one : oneG gs (ds.filter (okS rows st))
    · rw [need_one one] at h; cases h; exact Nat.le_refl _
    · rw [need_more one] at h
      obtain ⟨hm, _⟩ := List.min?_eq_some_iff.mp h
      obtain ⟨k, _, hk⟩ := List.mem_filterMap.mp hm
      have := cntN_set (a := true) (cost_some hk).1
      omega
  | succ u ih =>
    intro st m hu h
    by_cases one : oneG gs (ds.filter (okS rows st))
    · rw [need_one one] at h; cases h; omega
    · rw [need_more one] at h
      obtain ⟨hm, _⟩ := List.min?_eq_some_iff.mp h
      obtain ⟨k, hkr, hk⟩ := List.mem_filterMap.mp hm
      obtain ⟨e, a, b, h1, h2, rfl⟩ := cost_some hk
      have c1 := cntN_set (a := true) e
      have c2 := cntN_set (a := false) e
      have := ih (by omega) h1
      have := ih (by omega) h2
      omega
noncomputable def hardB : Option Nat → Int → Bool
  | none, _ => true
  | some n, l => decide (l < (n : Int))
noncomputable def goodB (rows : List (List Bool)) (gs : List Int) (ds : List Nat) (st : List (Option Bool)) (m : Nat) (k : Nat) : Bool :=
  match st[k]? with
  | some none => !hardB (need rows gs ds (st.set k (some true))) ((m : Int) - 1) && !hardB (need rows gs ds (st.set k (some false))) ((m : Int) - 1)
  | _ => false
theorem hard_no {o : Option Nat} {l : Int} (h : hardB o l = false) : ∃ n : Nat, o = some n ∧ (n : Int) ≤ l := by
  cases o with
  | none => cases h
  | some n =>
    unfold hardB at h
    rw [decide_eq_false_iff_not] at h
    exact ⟨n, rfl, by omega⟩
theorem good_of {m k : Nat} (h : goodB rows gs ds st (m + 1) k = true) (one : ¬ oneG gs (ds.filter (okS rows st))) (hm : need rows gs ds st = some (m + 1)) : st[k]? = some none ∧ ∃ a b, need rows gs ds (st.set k (some true)) = some a ∧ need rows gs ds (st.set k (some false)) = some b ∧ m = max a b := by
  unfold goodB at h
  cases e : st[k]? with
  | none => rw [e] at h; cases h
  | some s => cases s with
    | some b => rw [e] at h; cases h
    | none =>
      rw [e] at h
      have h' : (!hardB (need rows gs ds (st.set k (some true))) (((m + 1 : Nat) : Int) - 1) && !hardB (need rows gs ds (st.set k (some false))) (((m + 1 : Nat) : Int) - 1)) = true := h
      rw [Bool.and_eq_true, Bool.not_eq_true', Bool.not_eq_true'] at h'
      obtain ⟨a, ha, la⟩ := hard_no h'.1
      obtain ⟨b, hb, lb⟩ := hard_no h'.2
      refine ⟨rfl, a, b, ha, hb, ?_⟩
      have hk : k < st.length := (List.getElem?_eq_some_iff.mp e).1
      have hc : cost rows gs ds st k = some (1 + max a b) := by unfold cost; rw [if_pos e, ha, hb]
      rw [need_more one] at hm
      have := (List.min?_eq_some_iff.mp hm).2 _ (List.mem_filterMap.mpr ⟨k, List.mem_range.mpr hk, hc⟩)
      omega
theorem good_is {m : Nat} (one : ¬ oneG gs (ds.filter (okS rows st))) (hm : need rows gs ds st = some m) : ∃ k, k < st.length ∧ goodB rows gs ds st m k = true := by
  rw [need_more one] at hm
  obtain ⟨h1, _⟩ := List.min?_eq_some_iff.mp hm
  obtain ⟨k, hkr, hk⟩ := List.mem_filterMap.mp h1
  obtain ⟨e, a, b, ha, hb, rfl⟩ := cost_some hk
  refine ⟨k, List.mem_range.mp hkr, ?_⟩
  unfold goodB
  rw [e, ha, hb]
  show (!decide _ && !decide _) = true
  rw [decide_eq_false (by omega), decide_eq_false (by omega)]
  rfl
structure TrOk (rows : List (List Bool)) (gs : List Int) (ds : List Nat) (st : List (Option Bool)) (m : Nat) (t : Tr) : Prop where
  deep : t.depth = m
  low : t.within rows.length
  tell : ∀ d ∈ ds.filter (okS rows st), t.come rows d = gs.getD d 0
theorem TrOk.mk_ask {k m a b : Nat} {y n : Tr} (hl : st.length = rows.length) (hk : st[k]? = some none) (h1 : TrOk rows gs ds (st.set k (some true)) a y) (h2 : TrOk rows gs ds (st.set k (some false)) b n) (hm : m = max a b) : TrOk rows gs ds st (m + 1) (.ask k y n) := by
  have hk' : k < st.length := (List.getElem?_eq_some_iff.mp hk).1
  refine ⟨by show 1 + max y.depth n.depth = m + 1; rw [h1.deep, h2.deep]; omega, ⟨by omega, h1.low, h2.low⟩, fun d hd => ?_⟩
  have t1 := h1.tell d
  have t2 := h2.tell d
  rw [left_set hl hk, List.mem_filter] at t1 t2
  show (if bitR rows k d then _ else _) = _
  cases hb : bitR rows k d with
  | true => rw [if_pos rfl]; exact t1 ⟨hd, by rw [hb]; rfl⟩
  | false => rw [if_neg Bool.false_ne_true]; exact t2 ⟨hd, by rw [hb]; rfl⟩
end
/-! as things -/
noncomputable def IsTr (H : Hp) : Tr → V → Prop
  | .goal g, v => ∃ a, v = .ref a ∧ H a = some (.tup [.str "goal", .int g])
  | .ask k y n, v => ∃ a vy vn, v = .ref a ∧ H a = some (.tup [.str "ask", .int (k : Int), vy, vn]) ∧ IsTr H y vy ∧ IsTr H n vn
theorem IsTr.keep {H H' : Hp} (s : ∀ b xs, H b = some (.tup xs) → H' b = some (.tup xs)) : ∀ {t : Tr} {v : V}, IsTr H t v → IsTr H' t v
  | .goal g, v, ⟨a, e, h⟩ => ⟨a, e, s _ _ h⟩
  | .ask k y n, v, ⟨a, vy, vn, e, h, h1, h2⟩ => ⟨a, vy, vn, e, s _ _ h, h1.keep s, h2.keep s⟩
theorem IsTr.same {H H' : Hp} (s : Same H H') {t : Tr} {v : V} (h : IsTr H t v) : IsTr H' t v := h.keep fun b _ q => s b _ q
noncomputable def trWord : Tr → Str
  | .goal _ => "goal"
  | .ask _ _ _ => "ask"
noncomputable def trNum : Tr → Int
  | .goal g => g
  | .ask k _ _ => (k : Int)
noncomputable def trLen : Tr → Nat
  | .goal _ => 2
  | .ask _ _ _ => 4
theorem IsTr.any {H : Hp} {t : Tr} {v : V} (h : IsTr H t v) : ∃ a rest, v = .ref a ∧ H a = some (.tup (.str (trWord t) :: .int (trNum t) :: rest)) ∧ rest.length + 2 = trLen t := by
  cases t with
  | goal g => obtain ⟨a, rfl, e⟩ := h; exact ⟨a, [], rfl, e, rfl⟩
  | ask k y n => obtain ⟨a, vy, vn, rfl, e, _, _⟩ := h; exact ⟨a, [vy, vn], rfl, e, rfl⟩
end L2

end

section
-- KcMinR
set_option Elab.async false
set_option linter.all false
set_option maxRecDepth 100000
set_option maxHeartbeats 4000000
namespace L2
open PySem
/-! ### min and max with a number as default -/
noncomputable def mMinDI (c : Int) (K : PySem.W.Frag) (ta : TA) : TE := fun σ H Q => ta σ H fun vs H1 => ∃ (p : Addr) (ns : List Int), vs = [.ref p] ∧ SqL K H1 p (ns.map V.int) ∧ (ns = [] → Q (.int c) H1) ∧ ∀ M, M ∈ ns → (∀ a ∈ ns, M ≤ a) → Q (.int M) H1
theorem m_minDI {c : Int} {K : PySem.W.Frag} {ta : TA} {σ : St} {H : Hp} {Q : VK} (h : ta σ H fun vs H1 => ∃ (p : Addr) (ns : List Int), vs = [.ref p] ∧ SqL K H1 p (ns.map V.int) ∧ (ns = [] → Q (.int c) H1) ∧ ∀ M, M ∈ ns → (∀ a ∈ ns, M ≤ a) → Q (.int M) H1) : mMinDI c K ta σ H Q := h
end L2

end

section
-- KcTreeR
set_option Elab.async false
set_option linter.all false
set_option maxRecDepth 100000
set_option maxHeartbeats 4000000
namespace L2
open PySem PyProof.Rows

/-! ### trees told -/
theorem GoodF.at {rows : List (List Bool)} {gs : List Int} {ds : List Nat} {f : MK → Option V} (h : GoodF rows gs ds f) {st : List (Option Bool)} (hl : st.length = rows.length) (hs : (f (keyS st)).isSome) : f (keyS st) = some (optV (need rows gs ds st)) := by
  cases e : f (keyS st) with
  | none => rw [e] at hs; cases hs
  | some v => rw [h.1 st v hl e]
noncomputable def sp_is_hard (_ : PySem.W.Frag) : Sp := fun vs H Q _ => ∃ (t d : Addr) (rows : List (List Bool)) (gs : List Int) (ds : List Nat) (st : List (Option Bool)) (k : Nat) (a : Bool) (l : Int) (f : MK → Option V) (m : Nat), vs = [.ref t, .int (k : Int), .bl a, .int l, .ref d] ∧ H t = some (.tup (st.map stV)) ∧ Dx H d true f m ∧ GoodF rows gs ds f ∧ st.length = rows.length ∧ rows.length ≤ 6 ∧ k < st.length ∧ (f (keyS (st.set k (some a)))).isSome ∧
  ∀ H', Same H H' → Q (.bl (hardB (need rows gs ds (st.set k (some a))) l)) H'
noncomputable def t_is_hard (K : PySem.W.Frag) : TS := (tSeq (tAsg (tOp rXGet (tVar 4) (tCall (sp_with_answer K) [] E0 (tCons (tVar 0) (tCons (tVar 1) (tCons (tVar 2) tNil))))) (gName 5))
  (tRet (tOrV (tOp rIsNone (tVar 5) (tC .non)) (tOp (rI0 fun i j => .bl (decide (j < i))) (tVar 5) (tVar 3)))))
theorem len_is_hard {K : PySem.W.Frag} {vs : List V} {H : Hp} {Q : VK} {E : XK} (h : sp_is_hard K vs H Q E) : vs.length = 5 := by
  obtain ⟨t, d, rows, gs, ds, st, k, a, l, f, m, rfl, et, D, g, hl, hr, hk, hs, q⟩ := h
  rfl
theorem rd_is_hard {K : PySem.W.Frag} {vs : List V} {H : Hp} {Q : VK} {E : XK} (h : sp_is_hard K vs H Q E) : t_is_hard K { nx := fun _ H' => Q .non H', rt := Q } (start ["state", "number", "answer", "left", "found", "more"] vs) H := by
  obtain ⟨t, d, rows, gs, ds, st, k, a, l, f, m, rfl, et, D, g, hl, hr, hk, hs, q⟩ := h
  show t_is_hard K _ [some _, some _, some _, some _, some _, none] _
  unfold t_is_hard
  walk_at "rd"
  refine ⟨t, st, k, a, rfl, et, hk, by omega, fun p H1 s1 e1 => ?_⟩
  walk_at "rd"
  refine r_xget (D.same s1) (key_st e1) rfl (g.at (by rw [List.length_set]; exact hl) hs) ?_
  have q1 := q _ s1
  walk_at "rd"
  refine r_isNone ?_
  rw [isN_opt]
  cases hn : need rows gs ds (st.set k (some a)) with
  | none =>
    rw [hn] at q1
    walk_at "rd"
    refine iteT ?_
    exact q1
  | some n =>
    rw [hn] at q1
    walk_at "rd"
    refine iteF ?_
    walk_at "rd"
    exact r_I0 (i := (n : Int)) (j := l) q1
noncomputable def sp_is_good (_ : PySem.W.Frag) : Sp := fun vs H Q _ => ∃ (t d : Addr) (rows : List (List Bool)) (gs : List Int) (ds : List Nat) (st : List (Option Bool)) (k : Nat) (f : MK → Option V) (m mm : Nat), vs = [.ref t, .int (k : Int), .ref d] ∧ H t = some (.tup (st.map stV)) ∧ Dx H d true f m ∧ GoodF rows gs ds f ∧ st.length = rows.length ∧ rows.length ≤ 6 ∧ k < st.length ∧ (f (keyS st)).isSome ∧ need rows gs ds st = some mm ∧ Kids st f st.length ∧
  ∀ H', Same H H' → Q (.bl (goodB rows gs ds st mm k)) H'
noncomputable def t_is_good (K : PySem.W.Frag) : TS := (tSeq (tIfS (tTest (tOp rIsnNone (tOp (rIxT K) (tVar 0) (tVar 1)) (tC .non))) (tRet (tC (.bl false))) tNext)
  (tSeq (tAsg (tOp (rI0 fun i j => .int (i - j)) (tOp rXGet (tVar 2) (tVar 0)) (tC (.int 1))) (gName 3))
  (tRet (tAndV (tNotV (tCall (sp_is_hard K) [] E0 (tCons (tVar 0) (tCons (tVar 1) (tCons (tC (.bl true)) (tCons (tVar 3) (tCons (tVar 2) tNil))))))) (tNotV (tCall (sp_is_hard K) [] E0 (tCons (tVar 0) (tCons (tVar 1) (tCons (tC (.bl false)) (tCons (tVar 3) (tCons (tVar 2) tNil)))))))))))
theorem len_is_good {K : PySem.W.Frag} {vs : List V} {H : Hp} {Q : VK} {E : XK} (h : sp_is_good K vs H Q E) : vs.length = 3 := by
  obtain ⟨t, d, rows, gs, ds, st, k, f, m, mm, rfl, et, D, g, hl, hr, hk, hs, hm, kd, q⟩ := h
  rfl
theorem rd_is_good {K : PySem.W.Frag} {vs : List V} {H : Hp} {Q : VK} {E : XK} (h : sp_is_good K vs H Q E) : t_is_good K { nx := fun _ H' => Q .non H', rt := Q } (start ["state", "number", "found", "left"] vs) H := by
  obtain ⟨t, d, rows, gs, ds, st, k, f, m, mm, rfl, et, D, g, hl, hr, hk, hs, hm, kd, q⟩ := h
  show t_is_good K _ [some _, some _, some _, none] _
  unfold t_is_good
  obtain ⟨s, hsk⟩ : ∃ s, st[k]? = some s := ⟨st[k], List.getElem?_eq_getElem hk⟩
  walk_at "rd"
  refine r_ixT (SqT.of et) (atI_nat (st_get hsk)) ?_
  walk_at "rd"
  refine r_isnNone ?_
  rw [isN_st]
  walk_at "rd"
  have q1 := fun H' s => q H' s
  unfold goodB at q1
  rw [hsk] at q1
  cases s with
  | some b =>
    refine iteT ?_
    walk_at "rd"
    exact q1 _ (Same.refl _)
  | none =>
    refine iteF ?_
    walk_at "rd"
    refine r_xget D (key_st et) rfl (g.at hl hs) ?_
    rw [hm]
    show _
    walk_at "rd"
    refine r_I0 (i := (mm : Int)) ?_
    walk_at "rd"
    refine ⟨t, d, rows, gs, ds, st, k, true, (mm : Int) - 1, f, m, rfl, et, D, g, hl, hr, hk, kd k true hk hsk, fun H1 s1 => ?_⟩
    walk_at "rd"
    refine ite_nb (fun c => ?_) (fun c => ?_)
    · walk_at "rd"
      refine ⟨t, d, rows, gs, ds, st, k, false, (mm : Int) - 1, f, m, rfl, s1 _ _ et, D.same s1, g, hl, hr, hk, kd k false hk hsk, fun H2 s2 => ?_⟩
      walk_at "rd"
      have := q1 _ (s1.trans s2)
      dsimp only at this
      rw [c] at this
      exact this
    · have := q1 _ s1
      dsimp only at this
      rw [c] at this
      exact this
noncomputable def sp_best_ask (_ : PySem.W.Frag) : Sp := fun vs H Q _ => ∃ (t d : Addr) (rows : List (List Bool)) (gs : List Int) (ds : List Nat) (st : List (Option Bool)) (f : MK → Option V) (m mm : Nat), vs = [.ref t, .ref d] ∧ H t = some (.tup (st.map stV)) ∧ Dx H d true f m ∧ GoodF rows gs ds f ∧ st.length = rows.length ∧ rows.length ≤ 6 ∧ (f (keyS st)).isSome ∧ need rows gs ds st = some mm ∧ ¬ oneG gs (ds.filter (okS rows st)) ∧
  ∀ (k : Nat) H', Same H H' → k < st.length → goodB rows gs ds st mm k = true → Q (.int (k : Int)) H'
noncomputable def t_best_ask (K : PySem.W.Frag) : TS := (tRet (tOp (rIxL K) (tComp (iRng1 (tCons (tCB (cLen K) (tCons (tVar 0) tNil)) tNil)) (fun _ _ _ _ => (gName 0)) (fun _ _ _ _ => (tB (tCall (sp_is_good K) [] E0 (tCons (tVar 1) (tCons (tVar 0) (tCons (tVar 2) tNil)))))) (fun _ _ _ _ => (tVar 0)) [none, some 0, some 1]) (tC (.int 0))))
theorem len_best_ask {K : PySem.W.Frag} {vs : List V} {H : Hp} {Q : VK} {E : XK} (h : sp_best_ask K vs H Q E) : vs.length = 2 := by
  obtain ⟨t, d, rows, gs, ds, st, f, m, mm, rfl, et, D, g, hl, hr, hs, hm, one, q⟩ := h
  rfl
theorem rd_best_ask {K : PySem.W.Frag} {vs : List V} {H : Hp} {Q : VK} {E : XK} (h : sp_best_ask K vs H Q E) : t_best_ask K { nx := fun _ H' => Q .non H', rt := Q } (start ["state", "found"] vs) H := by
  obtain ⟨t, d, rows, gs, ds, st, f, m, mm, rfl, et, D, g, hl, hr, hs, hm, one, q⟩ := h
  show t_best_ask K _ [some _, some _] _
  unfold t_best_ask
  walk_at "rd"
  rw [List.length_map]
  refine lc_range st.length (by omega) (by omega) (by omega) (fun i acc _ => acc = natV ((List.range i).filter (goodB rows gs ds st mm))) (fun _ _ => rfl) ?_ ?_
  · rintro w hw C s' H' fp i acc H2 hi ⟨s2, e2, l2, rfl⟩
    walk_at "rd"
    refine ⟨t, d, rows, gs, ds, st, i, f, m, mm, rfl, s2 _ _ et, D.same s2, g, hl, hr, hi, hs, hm, g.2 st hl hs one, fun H3 s3 => ?_⟩
    walk_at "rd"
    refine ite_b (fun h => ?_) (fun h => ?_)
    · walk_at "rd"
      refine CInv.put hw (fun _ _ _ _ r _ => r) (s2.trans s3) (s3 _ _ e2) l2 ?_
      rw [List.range_succ, List.filter_append, show List.filter (goodB rows gs ds st mm) [i] = [i] by simp [h], ← natV_snoc]
    · refine CInv.skip (s2.trans s3) (s3 _ _ e2) l2 ?_
      rw [List.range_succ, List.filter_append]
      simp [h]
  · rintro w acc H2 hw s2 e2 rfl
    obtain ⟨k0, hk0, hg0⟩ := good_is one hm
    have hmem : k0 ∈ (List.range st.length).filter (goodB rows gs ds st mm) := List.mem_filter.mpr ⟨List.mem_range.mpr hk0, hg0⟩
    cases hf : (List.range st.length).filter (goodB rows gs ds st mm) with
    | nil => rw [hf] at hmem; cases hmem
    | cons k rest =>
      rw [hf] at e2
      have hk : k ∈ (List.range st.length).filter (goodB rows gs ds st mm) := by rw [hf]; exact List.mem_cons_self
      obtain ⟨k1, k2⟩ := List.mem_filter.mp hk
      walk_at "rd"
      refine r_ixL (SqL.of e2) (v := .int (k : Int)) (show atI _ ((0 : Nat) : Int) = _ from atI_nat rfl) ?_
      exact q k _ s2 (List.mem_range.mp k1) k2
noncomputable def sp_tree_from (_ : PySem.W.Frag) : Nat → Sp
  | 0 => fun _ _ _ _ => False
  | n + 1 => fun vs H Q _ => ∃ (p b c t d : Addr) (rows : List (List Bool)) (gs : List Int) (ds : List Nat) (st : List (Option Bool)) (f : MK → Option V) (m mm : Nat), vs = [.ref p, .ref b, .ref c, .ref t, .ref d] ∧ FewAt H p b c t d rows gs ds st f m ∧ need rows gs ds st = some mm ∧ mm ≤ n ∧ (f (keyS st)).isSome ∧
    ∀ (v : V) (tr : Tr) H', Same H H' → IsTr H' tr v → TrOk rows gs ds st mm tr → Q v H'
theorem no_tree_from {K : PySem.W.Frag} {vs : List V} {H : Hp} {Q : VK} {E : XK} (h : sp_tree_from K 0 vs H Q E) : False := h
theorem len_tree_from {K : PySem.W.Frag} {n : Nat} {vs : List V} {H : Hp} {Q : VK} {E : XK} (h : sp_tree_from K (n + 1) vs H Q E) : vs.length = 5 := by
  obtain ⟨p, b, c, t, d, rows, gs, ds, st, f, m, mm, rfl, h⟩ := h
  rfl
noncomputable def t_tree_from (K : PySem.W.Frag) (n : Nat) : TS := (tSeq (tIfS (tTest (tOp rEq (tOp rXGet (tVar 4) (tVar 3)) (tC (.int 0)))) (tRet (mTup (tCons (tC (.str "goal")) (tCons (mMinDI 0 K (tCons (tComp (iList K (tVar 2)) (fun _ _ _ _ => (gName 0)) (fun _ _ _ _ => tAlways) (fun _ _ _ _ => (tOp (rIxL K) (tVar 1) (tVar 0))) [none, some 1]) tNil)) tNil)))) tNext)
  (tSeq (tAsg (tCall (sp_best_ask K) [] E0 (tCons (tVar 3) (tCons (tVar 4) tNil))) (gName 5))
  (tSeq (tAsg (tCall (sp_tree_from K n) [] E0 (tCons (tVar 0) (tCons (tVar 1) (tCons (tCall (sp_answering K) [] E0 (tCons (tOp (rIxL K) (tVar 0) (tVar 5)) (tCons (tVar 2) (tCons (tC (.bl true)) tNil)))) (tCons (tCall (sp_with_answer K) [] E0 (tCons (tVar 3) (tCons (tVar 5) (tCons (tC (.bl true)) tNil)))) (tCons (tVar 4) tNil)))))) (gName 6))
  (tSeq (tAsg (tCall (sp_tree_from K n) [] E0 (tCons (tVar 0) (tCons (tVar 1) (tCons (tCall (sp_answering K) [] E0 (tCons (tOp (rIxL K) (tVar 0) (tVar 5)) (tCons (tVar 2) (tCons (tC (.bl false)) tNil)))) (tCons (tCall (sp_with_answer K) [] E0 (tCons (tVar 3) (tCons (tVar 5) (tCons (tC (.bl false)) tNil)))) (tCons (tVar 4) tNil)))))) (gName 7))
  (tRet (mTup (tCons (tC (.str "ask")) (tCons (tVar 5) (tCons (tVar 6) (tCons (tVar 7) tNil))))))))))
noncomputable abbrev N_tree_from : List Str := ["asks", "goal", "left", "state", "found", "number", "yes", "no"]
theorem rd_tree_from {K : PySem.W.Frag} {n : Nat} {vs : List V} {H : Hp} {Q : VK} {E : XK} (h : sp_tree_from K (n + 1) vs H Q E) : t_tree_from K n { nx := fun _ H' => Q .non H', rt := Q } (start N_tree_from vs) H := by
  obtain ⟨p, b, c, t, d, rows, gs, ds, st, f, m, mm, rfl, Z, hm, hn, hs, q⟩ := h
  show t_tree_from K n _ [some _, some _, some _, some _, some _, none, none, none] _
  unfold t_tree_from
  have hdl : (ds.filter (okS rows st)).length ≤ 500 := Nat.le_trans (List.length_filter_le _ _) Z.dl
  have hrl := Z.rl
  have hsl := Z.sl
  walk_at "rd"
  refine r_xget Z.dict (key_st Z.state) rfl (Z.good.at Z.sl hs) ?_
  rw [hm]
  walk_at "rd"
  refine r_eqI (i := (mm : Int)) ?_
  walk_at "rd"
  cases mm with
  | zero =>
    refine iteT ?_
    have one := need_zero hm
    walk_at "rd"
    refine m_minDI ?_
    walk_at "rd"
    refine lc_list (natV (ds.filter (okS rows st))) (SqL.of Z.left) (by rw [natV_len]; omega) (fun i acc _ => acc = (((ds.filter (okS rows st)).take i).map fun d => gs.getD d 0).map V.int) (fun _ _ => rfl) ?_ ?_
    · rintro w hw C s' H' fp i x acc H2 hx ⟨s2, e2, l2, rfl⟩
      obtain ⟨d', hdi, rfl⟩ := nat_of hx
      have hlt := Z.dg d' (List.mem_filter.mp (List.mem_of_getElem? hdi)).1
      walk_at "rd"
      refine r_ixL (v := .int (gs.getD d' 0)) (SqL.of (s2 _ _ Z.goal)) (atI_nat (by rw [List.getElem?_map, List.getD_eq_getElem?_getD, List.getElem?_eq_getElem hlt]; rfl)) ?_
      refine CInv.put hw (fun _ _ _ _ r _ => r) s2 e2 l2 ?_
      rw [rows_snoc hdi, List.map_append, List.map_append]
      rfl
    · rintro w acc H2 hw s2 e2 rfl
      rw [natV_len, List.take_length] at e2
      have fin : ∀ M : Int, (∀ d' ∈ ds.filter (okS rows st), M = gs.getD d' 0) → ∀ (tp : Addr) (H3 : Hp), Same H H3 → H3 tp = some (.tup [.str "goal", .int M]) → Q (.ref tp) H3 := fun M hM tp H3 s3 e3 =>
        q _ (.goal M) _ s3 ⟨tp, rfl, e3⟩ ⟨rfl, trivial, fun d' hd' => hM d' hd'⟩
      walk_at "rd"
      refine ⟨w, _, rfl, SqL.of e2, fun hz => ?_, fun M hM hle => ?_⟩
      · walk_at "rd"
        refine ⟨by simp [sizeLine_eq], fun tp H3 htp s3 e3 => ?_⟩
        refine fin 0 (fun d' hd' => ?_) tp H3 (s2.trans s3) e3
        rw [List.map_eq_nil_iff.mp hz] at hd'
        cases hd'
      · walk_at "rd"
        refine ⟨by simp [sizeLine_eq], fun tp H3 htp s3 e3 => ?_⟩
        refine fin M (fun d' hd' => ?_) tp H3 (s2.trans s3) e3
        obtain ⟨d2, hd2, rfl⟩ := List.mem_map.mp hM
        exact one d2 hd2 d' hd'
  | succ mm =>
    refine iteF ?_
    obtain ⟨u, rfl⟩ : ∃ u, n = u + 1 := ⟨n - 1, by omega⟩
    have one : ¬ oneG gs (ds.filter (okS rows st)) := fun z => by rw [need_one z] at hm; cases hm
    walk_at "rd"
    refine ⟨t, d, rows, gs, ds, st, f, m, mm + 1, rfl, Z.state, Z.dict, Z.good, Z.sl, Z.rl, hs, hm, one, fun k H1 s1 hk hg => ?_⟩
    obtain ⟨hkn, na, nb, hna, hnb, hmax⟩ := good_of hg one hm
    have kd := Z.good.2 st Z.sl hs one
    -- one side
    have side : ∀ (a : Bool) (na : Nat) (H2 : Hp) (Q' : VK), need rows gs ds (st.set k (some a)) = some na → na ≤ mm → Same H H2 → (∀ (v : V) (tr : Tr) H', Same H2 H' → IsTr H' tr v → TrOk rows gs ds (st.set k (some a)) na tr → Q' v H') →
        ∀ (c2 t2 : Addr) (H3 : Hp), Same H2 H3 → H3 c2 = some (.lst (natV ((ds.filter (okS rows st)).filter fun x => bitR rows k x == a))) → H3 t2 = some (.tup ((st.set k (some a)).map stV)) → sp_tree_from K (u + 1) [.ref p, .ref b, .ref c2, .ref t2, .ref d] H3 Q' E0 := by
      intro a na H2 Q' hna hle s2 q2 c2 t2 H3 s3 e3 e4
      have Z3 := Z.same (s2.trans s3)
      rw [← left_set Z.sl hkn] at e3
      exact ⟨p, b, c2, t2, d, rows, gs, ds, st.set k (some a), f, m, na, rfl, ⟨Z3.asks, Z3.goal, e3, e4, Z3.dict, Z.good, by rw [List.length_set]; exact Z.sl, Z.rl, Z.dl, Z.dr, Z.dg⟩, hna, by omega, kd k a hk hkn, fun v tr H4 s4 i4 o4 => q2 v tr H4 (s3.trans s4) i4 o4⟩
    obtain ⟨rs, ep, er⟩ := Z.asks
    obtain ⟨r, hr⟩ : ∃ r, rs[k]? = some r := ⟨rs[k]'(by rw [er.len]; omega), List.getElem?_eq_getElem _⟩
    obtain ⟨row, hrw, erw⟩ := er.get hr
    have hrow : ∀ x ∈ ds.filter (okS rows st), x < row.length := fun x hx => Z.dr x (List.mem_filter.mp hx).1 row (List.mem_of_getElem? hrw)
    have hbit : ∀ a : Bool, (fun x => bitR rows k x == a) = fun x => row.getD x false == a := fun a => funext fun x => by unfold bitR; rw [List.getD_eq_getElem?_getD (l := rows), hrw]; rfl
    walk_at "rd"
    refine r_ixL (SqL.of (s1 _ _ ep)) (refs_get hr) ?_
    walk_at "rd"
    refine ⟨r, c, row, ds.filter (okS rows st), true, rfl, s1 _ _ erw, s1 _ _ Z.left, hrow, by omega, fun c2 H2 hc2 s2 e2 => ?_⟩
    walk_at "rd"
    refine ⟨t, st, k, true, rfl, s2 _ _ (s1 _ _ Z.state), by omega, by omega, fun t2 H3 s3 e3 => ?_⟩
    walk_at "rd"
    refine side true na H1 _ hna (by omega) s1 (fun vy ty H4 s4 i4 o4 => ?_) c2 t2 H3 (s2.trans s3) (by rw [hbit]; exact s3 _ _ e2) e3
    have s04 := s1.trans s4
    walk_at "rd"
    refine r_ixL (SqL.of (s04 _ _ ep)) (refs_get hr) ?_
    walk_at "rd"
    refine ⟨r, c, row, ds.filter (okS rows st), false, rfl, s04 _ _ erw, s04 _ _ Z.left, hrow, by omega, fun c3 H5 hc3 s5 e5 => ?_⟩
    walk_at "rd"
    refine ⟨t, st, k, false, rfl, s5 _ _ (s04 _ _ Z.state), by omega, by omega, fun t3 H6 s6 e6 => ?_⟩
    walk_at "rd"
    refine side false nb H4 _ hnb (by omega) s04 (fun vn tn H7 s7 i7 o7 => ?_) c3 t3 H6 (s5.trans s6) (by rw [hbit]; exact s6 _ _ e5) e6
    walk_at "rd"
    refine ⟨by simp [sizeLine_eq], fun tp H8 htp s8 e8 => ?_⟩
    exact q _ (.ask k ty tn) _ (s04.trans (s7.trans s8)) ⟨tp, vy, vn, rfl, e8, i4.same (s7.trans s8), i7.same s8⟩ (TrOk.mk_ask Z.sl hkn o4 o7 hmax)
noncomputable def sp_tree_of (_ : PySem.W.Frag) : Sp := fun vs H Q _ => ∃ (p b c : Addr) (rows : List (List Bool)) (gs : List Int) (ds : List Nat), vs = [.ref p, .ref b, .ref c] ∧ LsAt blL H p rows ∧ H b = some (.lst (gs.map V.int)) ∧ H c = some (.lst (natV ds)) ∧ rows.length ≤ 6 ∧ ds.length ≤ 500 ∧ (∀ x ∈ ds, ∀ r ∈ rows, x < r.length) ∧ (∀ x ∈ ds, x < gs.length) ∧
  (need0 rows gs ds = none → ∀ H', Same H H' → Q .non H') ∧ ∀ mm, need0 rows gs ds = some mm → ∀ (v : V) (tr : Tr) H', Same H H' → IsTr H' tr v → TrOk rows gs ds (List.replicate rows.length none) mm tr → Q v H'
noncomputable def t_tree_of (K : PySem.W.Frag) : TS := (tSeq (tAsg mDnewX (gName 3))
  (tSeq (tAsg (tOp mRepT (mTup (tCons (tC .non) tNil)) (tCB (cLen K) (tCons (tVar 0) tNil))) (gName 4))
  (tSeq (tIfS (tTest (tOp rIsNone (tCall (sp_fewest_from K 7) [] E0 (tCons (tVar 0) (tCons (tVar 1) (tCons (tVar 2) (tCons (tVar 4) (tCons (tVar 3) tNil)))))) (tC .non))) (tRet (tC .non)) tNext)
  (tRet (tCall (sp_tree_from K 7) [] E0 (tCons (tVar 0) (tCons (tVar 1) (tCons (tVar 2) (tCons (tVar 4) (tCons (tVar 3) tNil))))))))))
theorem len_tree_of {K : PySem.W.Frag} {vs : List V} {H : Hp} {Q : VK} {E : XK} (h : sp_tree_of K vs H Q E) : vs.length = 3 := by
  obtain ⟨p, b, c, rows, gs, ds, rfl, A, eb, ec, hrl, hdl, hdr, hdg, q0, q1⟩ := h
  rfl
theorem rd_tree_of {K : PySem.W.Frag} {vs : List V} {H : Hp} {Q : VK} {E : XK} (h : sp_tree_of K vs H Q E) : t_tree_of K { nx := fun _ H' => Q .non H', rt := Q } (start ["asks", "goal", "some", "found", "state"] vs) H := by
  obtain ⟨p, b, c, rows, gs, ds, rfl, A, eb, ec, hrl, hdl, hdr, hdg, q0, q1⟩ := h
  show t_tree_of K _ [some _, some _, some _, none, none] _
  unfold t_tree_of
  walk_at "rd"
  refine m_dnewX true fun d H3 hd s3 D3 => ?_
  walk_at "rd"
  refine ⟨by simp [sizeLine_eq], fun l1 H1 hl1 s1 e1 => ?_⟩
  have s01 := s3.trans s1
  obtain ⟨rs, ep, er⟩ := A.same s01
  walk_at "rd"
  rw [List.length_map, er.len]
  refine m_repT e1 (by omega) fun t H2 s2 e2 => ?_
  have s02 := s01.trans s2
  have D2 := D3.same (s1.trans s2)
  have e3 : H2 t = some (.tup ((List.replicate rows.length (none : Option Bool)).map stV)) := by rw [List.map_replicate]; exact e2
  walk_at "rd"
  have Z2 : FewAt H2 p b c t d rows gs ds (List.replicate rows.length none) _ 0 := ⟨A.same s02, s02 _ _ eb, by rw [okS_none]; exact s02 _ _ ec, e3, D2, GoodF.none _ _ _, List.length_replicate, hrl, hdl, hdr, hdg⟩
  have hcn : cntN (List.replicate rows.length none) ≤ 6 := by
    unfold cntN
    rw [List.count_replicate_self]
    exact hrl
  refine ⟨p, b, c, t, d, rows, gs, ds, List.replicate rows.length none, _, 0, rfl, Z2, hcn, by decide, fun f' m' H4 x4 D4 g4 _ h4 i4 => ?_⟩
  have Z4 := Z2.ofTo x4 D4 g4
  have s04 : Same H H4 := x4.same D2 s02 hd
  walk_at "rd"
  refine r_isNone ?_
  rw [isN_opt]
  walk_at "rd"
  cases hn : need rows gs ds (List.replicate rows.length none) with
  | none =>
    refine iteT ?_
    walk_at "rd"
    exact q0 hn _ s04
  | some mm =>
    refine iteF ?_
    walk_at "rd"
    refine ⟨p, b, c, t, d, rows, gs, ds, List.replicate rows.length none, f', m', mm, rfl, Z4, hn, ?_, i4, fun v tr H5 s5 i5 o5 => ?_⟩
    · exact Nat.le_trans (need_le _ rfl hn) hcn
    · exact q1 mm hn v tr H5 (s04.trans s5) i5 o5

end L2

end

section
-- KcPap
set_option Elab.async false
set_option linter.all false
set_option maxRecDepth 100000
set_option maxHeartbeats 4000000
namespace L2
open PySem
/-! ### papers that fewer asks are too few, as mathematics -/
noncomputable abbrev St6 := List (Option Bool)
structure PR where
  st : St6
  l : Nat
  ans : List (Option Bool)
noncomputable def HardAt (rows : List (List Bool)) (gs : List Int) (ds : List Nat) (st : St6) (l : Nat) : Prop := hardB (need rows gs ds st) (l : Int) = true
noncomputable def hardA (rows : List (List Bool)) (gs : List Int) (ds : List Nat) (st : St6) (l : Nat) : List (Option Bool) :=
  if l = 0 then [] else (List.range st.length).map fun j => if st[j]? = some none then some (hardB (need rows gs ds (st.set j (some true))) ((l : Int) - 1)) else none
section
variable {rows : List (List Bool)} {gs : List Int} {ds : List Nat} {st : St6} {l : Nat}
theorem HardAt.not_one (h : HardAt rows gs ds st l) : ¬ oneG gs (ds.filter (okS rows st)) := fun z => by
  unfold HardAt at h
  rw [need_one z] at h
  have : decide ((l : Int) < ((0 : Nat) : Int)) = true := h
  rw [decide_eq_true_iff] at this
  omega
theorem hardA_len : (hardA rows gs ds st l).length = if l = 0 then 0 else st.length := by
  unfold hardA
  by_cases h : l = 0
  · rw [if_pos h, if_pos h]; rfl
  · rw [if_neg h, if_neg h, List.length_map, List.length_range]
theorem hardA_at {j : Nat} (hl : l ≠ 0) (hj : j < st.length) : (hardA rows gs ds st l)[j]? = some (if st[j]? = some none then some (hardB (need rows gs ds (st.set j (some true))) ((l : Int) - 1)) else none) := by
  unfold hardA
  rw [if_neg hl, List.getElem?_map, List.getElem?_range hj]
  rfl
theorem hard_next {j : Nat} {b : Bool} (h : HardAt rows gs ds st (l + 1)) (hj : j < st.length) (ha : (hardA rows gs ds st (l + 1))[j]? = some (some b)) : st[j]? = some none ∧ HardAt rows gs ds (st.set j (some b)) l := by
  rw [hardA_at (by omega) hj] at ha
  by_cases e : st[j]? = some none
  · rw [if_pos e] at ha
    have hb : hardB (need rows gs ds (st.set j (some true))) (((l + 1 : Nat) : Int) - 1) = b := by injection ha with ha; injection ha
    rw [show ((l + 1 : Nat) : Int) - 1 = (l : Int) by omega] at hb
    refine ⟨e, ?_⟩
    cases b with
    | true => exact hb
    | false =>
      -- the other side must be hard
      unfold HardAt
      cases hn : hardB (need rows gs ds (st.set j (some false))) (l : Int) with
      | true => rfl
      | false =>
        obtain ⟨a, ea, la⟩ := hard_no hb
        obtain ⟨c, ec, lc⟩ := hard_no hn
        have hc : cost rows gs ds st j = some (1 + max a c) := by unfold cost; rw [if_pos e, ea, ec]
        have one := h.not_one
        unfold HardAt at h
        rw [need_more one] at h
        have hmem : 1 + max a c ∈ (List.range st.length).filterMap (cost rows gs ds st) := List.mem_filterMap.mpr ⟨j, List.mem_range.mpr hj, hc⟩
        cases hmin : ((List.range st.length).filterMap (cost rows gs ds st)).min? with
        | none => rw [List.min?_eq_none_iff] at hmin; rw [hmin] at hmem; cases hmem
        | some m =>
          rw [hmin] at h
          have h1 := (List.min?_eq_some_iff.mp hmin).2 _ hmem
          have h2 : decide (((l + 1 : Nat) : Int) < (m : Int)) = true := h
          rw [decide_eq_true_iff] at h2
          omega
  · rw [if_neg e] at ha
    cases ha
end
noncomputable def kidsR (r : PR) (i : Nat) : List St6 := (List.range i).filterMap fun j => match r.ans[j]? with
  | some (some b) => some (r.st.set j (some b))
  | _ => none
theorem kidsR_mem {r : PR} {i : Nat} {x : St6} : x ∈ kidsR r i ↔ ∃ j b, j < i ∧ r.ans[j]? = some (some b) ∧ x = r.st.set j (some b) := by
  unfold kidsR
  rw [List.mem_filterMap]
  constructor
  · rintro ⟨j, hj, e⟩
    cases h : r.ans[j]? with
    | none => rw [h] at e; cases e
    | some o => cases o with
      | none => rw [h] at e; cases e
      | some b => rw [h] at e; exact ⟨j, b, List.mem_range.mp hj, h, (Option.some.inj e).symm⟩
  · rintro ⟨j, b, hj, h, rfl⟩
    exact ⟨j, List.mem_range.mpr hj, by rw [h]⟩
theorem kidsR_succ (r : PR) (i : Nat) : kidsR r (i + 1) = kidsR r i ++ (match r.ans[i]? with | some (some b) => [r.st.set i (some b)] | _ => []) := by
  unfold kidsR
  rw [List.range_succ, List.filterMap_append]
  congr 1
  rw [List.filterMap_cons, List.filterMap_nil]
  cases r.ans[i]? with
  | none => rfl
  | some o => cases o <;> rfl
structure PapOk (rows : List (List Bool)) (gs : List Int) (ds : List Nat) (root : St6) (k : Nat) (P : List PR) : Prop where
  nd : (P.map fun r => (r.st, r.l)).Nodup
  root : ∃ r ∈ P, r.st = root ∧ r.l = k
  len : P.length ≤ 300000
  sl : ∀ r ∈ P, r.st.length = rows.length
  lk : ∀ r ∈ P, r.l ≤ k
  one : ∀ r ∈ P, ¬ oneG gs (ds.filter (okS rows r.st))
  ans : ∀ r ∈ P, r.ans.length = if r.l = 0 then 0 else rows.length
  no : ∀ r ∈ P, ∀ j, j < r.ans.length → (r.ans[j]? = some none ↔ r.st[j]? ≠ some none)
  kid : ∀ r ∈ P, ∀ j b, r.ans[j]? = some (some b) → ∃ r' ∈ P, r'.st = r.st.set j (some b) ∧ r'.l + 1 = r.l
structure PapTo (rows : List (List Bool)) (gs : List Int) (ds : List Nat) (root : St6) (k : Nat) (n : Nat) (P : List PR) (sts : List St6) : Prop where
  nd : (P.map fun r => (r.st, r.l)).Nodup
  root : (n = 0 ∧ root ∈ sts) ∨ ∃ r ∈ P, r.st = root ∧ r.l = k
  up : ∀ r ∈ P, k < r.l + n ∧ r.l ≤ k
  len : P.length ≤ 6 ^ n
  sl : ∀ r ∈ P, r.st.length = rows.length
  one : ∀ r ∈ P, ¬ oneG gs (ds.filter (okS rows r.st))
  ans : ∀ r ∈ P, r.ans.length = if r.l = 0 then 0 else rows.length
  no : ∀ r ∈ P, ∀ j, j < r.ans.length → (r.ans[j]? = some none ↔ r.st[j]? ≠ some none)
  kid : ∀ r ∈ P, ∀ j b, r.ans[j]? = some (some b) → (∃ r' ∈ P, r'.st = r.st.set j (some b) ∧ r'.l + 1 = r.l) ∨ (r.st.set j (some b) ∈ sts ∧ r.l + n = k + 1)
  snd : sts.Nodup
  sln : sts.length ≤ 6 ^ n
  shard : ∀ st ∈ sts, st.length = rows.length ∧ ∃ l, l + n = k ∧ HardAt rows gs ds st l
noncomputable def rowOf (rows : List (List Bool)) (gs : List Int) (ds : List Nat) (l : Nat) (st : St6) : PR := ⟨st, l, hardA rows gs ds st l⟩
section
variable {rows : List (List Bool)} {gs : List Int} {ds : List Nat} {root : St6} {k n : Nat} {P : List PR} {sts : List St6}
theorem PapTo.first (hl : root.length = rows.length) (hk : HardAt rows gs ds root k) : PapTo rows gs ds root k 0 [] [root] :=
  ⟨List.nodup_nil, .inl ⟨rfl, by simp⟩, fun r h => (nomatch h), Nat.zero_le _, fun r h => (nomatch h), fun r h => (nomatch h), fun r h => (nomatch h), fun r h => (nomatch h), fun r h => (nomatch h), by simp, Nat.le_refl _, fun st h => by rw [List.mem_singleton.mp h]; exact ⟨hl, k, rfl, hk⟩⟩
theorem PapTo.last (h : PapTo rows gs ds root k n P []) (hn : n ≤ 7) : PapOk rows gs ds root k P where
  nd := h.nd
  root := by
    rcases h.root with ⟨_, z⟩ | z
    · cases z
    · exact z
  len := Nat.le_trans h.len (Nat.le_trans (Nat.pow_le_pow_right (by decide) hn) (by decide))
  sl := h.sl
  lk := fun r hr => (h.up r hr).2
  one := h.one
  ans := h.ans
  no := h.no
  kid := fun r hr j b e => (h.kid r hr j b e).elim id fun z => by cases z.1
theorem PapTo.next (h : PapTo rows gs ds root k n P sts) (hr6 : rows.length ≤ 6) {l : Nat} (hl : l + n = k) {sts' : List St6} (nd' : sts'.Nodup) (hm : ∀ x, x ∈ sts' ↔ ∃ st ∈ sts, ∃ j b, (hardA rows gs ds st l)[j]? = some (some b) ∧ x = st.set j (some b)) (hl6 : sts'.length ≤ 6 * sts.length) :
    PapTo rows gs ds root k (n + 1) (P ++ sts.map (rowOf rows gs ds l)) sts' := by
  have hsh : ∀ st ∈ sts, st.length = rows.length ∧ HardAt rows gs ds st l := fun st hst => by
    obtain ⟨h1, l', e, h2⟩ := h.shard st hst
    have : l' = l := by omega
    subst this
    exact ⟨h1, h2⟩
  have hj : ∀ {st : St6} {j : Nat} {b : Bool}, st ∈ sts → (hardA rows gs ds st l)[j]? = some (some b) → l ≠ 0 ∧ j < st.length := fun {st j b} hst e => by
    have hlt := (List.getElem?_eq_some_iff.mp e).1
    rw [hardA_len] at hlt
    by_cases z : l = 0
    · rw [if_pos z] at hlt; omega
    · rw [if_neg z] at hlt; exact ⟨z, hlt⟩
  have hp : 6 ^ (n + 1) = 6 * 6 ^ n := by rw [Nat.pow_succ, Nat.mul_comm]
  have both : ∀ {q : PR → Prop}, (∀ r ∈ P, q r) → (∀ st ∈ sts, q (rowOf rows gs ds l st)) → ∀ r ∈ P ++ sts.map (rowOf rows gs ds l), q r := fun h1 h2 r hr => by
    rcases List.mem_append.mp hr with hr | hr
    · exact h1 r hr
    · obtain ⟨st, hst, rfl⟩ := List.mem_map.mp hr; exact h2 st hst
  refine ⟨?_, ?_, ?_, ?_, ?_, ?_, ?_, ?_, ?_, nd', ?_, ?_⟩
  · rw [List.map_append, List.map_map]
    refine List.nodup_append.mpr ⟨h.nd, ?_, fun a ha b hb => ?_⟩
    · have : ∀ L : List St6, L.Nodup → (L.map ((fun r : PR => (r.st, r.l)) ∘ rowOf rows gs ds l)).Nodup := by
        intro L nd
        induction L with
        | nil => exact List.nodup_nil
        | cons a L ih =>
          rw [List.nodup_cons] at nd
          rw [List.map_cons, List.nodup_cons]
          refine ⟨fun z => ?_, ih nd.2⟩
          obtain ⟨b, hb, e⟩ := List.mem_map.mp z
          have e1 : b = a := (Prod.mk.inj e).1
          exact nd.1 (e1 ▸ hb)
      exact this sts h.snd
    · obtain ⟨r, hr, rfl⟩ := List.mem_map.mp ha
      obtain ⟨st, hst, rfl⟩ := List.mem_map.mp hb
      intro e
      have : r.l = l := (Prod.mk.inj e).2
      have := (h.up r hr).1
      omega
  · rcases h.root with ⟨z, hr⟩ | ⟨r, hr, e⟩
    · exact .inr ⟨rowOf rows gs ds l root, List.mem_append.mpr (.inr (List.mem_map_of_mem hr)), rfl, by show l = k; omega⟩
    · exact .inr ⟨r, List.mem_append.mpr (.inl hr), e⟩
  · refine both (fun r hr => ?_) (fun st hst => ?_)
    · have := h.up r hr; omega
    · show k < l + (n + 1) ∧ l ≤ k; omega
  · rw [List.length_append, List.length_map]
    have h1 := h.len
    have h2 := h.sln
    omega
  · exact both h.sl fun st hst => (hsh st hst).1
  · exact both h.one fun st hst => (hsh st hst).2.not_one
  · refine both h.ans fun st hst => ?_
    show (hardA rows gs ds st l).length = if l = 0 then 0 else rows.length
    rw [hardA_len, (hsh st hst).1]
  · refine both h.no fun st hst j hjl => ?_
    have hjl' : j < (hardA rows gs ds st l).length := hjl
    show (hardA rows gs ds st l)[j]? = some none ↔ st[j]? ≠ some none
    rw [hardA_len] at hjl'
    by_cases z : l = 0
    · rw [if_pos z] at hjl'; omega
    · rw [if_neg z] at hjl'
      rw [hardA_at z hjl']
      by_cases e : st[j]? = some none
      · rw [if_pos e]
        exact ⟨fun q => (by cases q), fun q => absurd e q⟩
      · rw [if_neg e]
        exact ⟨fun _ => e, fun _ => rfl⟩
  · refine both (fun r hr j b e => ?_) (fun st hst j b e => ?_)
    · rcases h.kid r hr j b e with ⟨r', hr', q⟩ | ⟨hs, q⟩
      · exact .inl ⟨r', List.mem_append.mpr (.inl hr'), q⟩
      · exact .inl ⟨rowOf rows gs ds l _, List.mem_append.mpr (.inr (List.mem_map_of_mem hs)), rfl, by show l + 1 = r.l; omega⟩
    · refine .inr ⟨(hm _).mpr ⟨st, hst, j, b, e, rfl⟩, by show l + (n + 1) = k + 1; omega⟩
  · have := h.sln; omega
  · intro x hx
    obtain ⟨st, hst, j, b, e, rfl⟩ := (hm x).mp hx
    obtain ⟨l0, hjl⟩ := hj hst e
    obtain ⟨l1, rfl⟩ : ∃ l1, l = l1 + 1 := ⟨l - 1, by omega⟩
    exact ⟨by rw [List.length_set]; exact (hsh st hst).1, l1, by omega, (hard_next (hsh st hst).2 hjl e).2⟩
end
end L2

end

section
-- KcRdW
set_option Elab.async false
set_option linter.all false
set_option maxRecDepth 100000
set_option maxHeartbeats 4000000
namespace L2
open PySem PyProof.Rows
theorem CInv.putW {H H4 : Hp} {p : Addr} {R : Nat → List V → Hp → Prop} {i : Nat} {acc : List V} {y : V} (hp : H p = none) (s : Same H H4) (e : H4 p = some (.lst acc)) (l : acc.length ≤ i) (r : ∀ H6, Off p H4 H6 → R (i + 1) (acc ++ [y]) H6) :
    H4 p = some (.lst acc) ∧ CInv H p R (i + 1) (acc ++ [y]) (upd H4 p (.lst (acc ++ [y]))) :=
  ⟨e, s.upd hp _, upd_same, by rw [List.length_append]; exact Nat.add_le_add_right l 1, r _ off_upd⟩
section
variable {g : CF TG} {tt : CF TT} {te : CF TE} {σ₀ : St} {Q : VK} {H : Hp} {K : PySem.W.Frag}
theorem lc_listW {a : Addr} (xs : List V) (hx : SqL K H a xs) (hz : xs.length ≤ 1000000) (R : Addr → Nat → List V → Hp → Prop) (h0 : ∀ p H', Same H H' → R p 0 [] H')
    (hs : ∀ p, H p = none → ∀ C s' H' fp, ∀ i x acc H2, xs[i]? = some x → CInv H p (R p) i acc H2 → g C s' H' fp x σ₀ H2 fun σ2 H3 => tt C s' H' fp σ2 H3 fun b H4 => if b = true then te C s' H' fp σ2 H4 fun y H5 => H5 p = some (.lst acc) ∧ CInv H p (R p) (i + 1) (acc ++ [y]) (upd H5 p (.lst (acc ++ [y]))) else CInv H p (R p) (i + 1) acc H4)
    (hd : ∀ p acc H2, H p = none → Same H H2 → H2 p = some (.lst acc) → R p xs.length acc H2 → Q (.ref p) H2) :
    ∃ a', V.ref a = .ref a' ∧ (∃ xs, SqL K H a' xs) ∧ ∀ p, H p = none → ∃ W : Nat → Nat → List V → Hp → Prop, (∃ m, W 0 m [] (upd H p (.lst []))) ∧ ∀ C s' H' fp, CompBody (Itl K a') (g C s' H' fp) (tt C s' H' fp) (te C s' H' fp) σ₀ p Q W :=
  ⟨a, rfl, ⟨xs, hx⟩, fun p hp => comp_list (CInv H p (R p)) ⟨same_new hp _, upd_same, Nat.le_refl _, h0 _ _ (same_new hp _)⟩ (fun i acc H2 _ c => ⟨c.2.1, c.2.2.1⟩) (fun i acc H2 _ c => c.1.seq hx) (by rw [sizeLine_eq]; omega) (fun C s' H' fp i x acc H2 hi c => hs p hp C s' H' fp i x acc H2 hi c) fun acc H2 c => hd p acc H2 hp c.1 c.2.1 c.2.2.2⟩
end
end L2

end

section
-- KcPapR
set_option Elab.async false
set_option linter.all false
set_option maxRecDepth 100000
set_option maxHeartbeats 4000000
namespace L2
open PySem PyProof.Rows

/-! ### papers told -/
noncomputable def sp_hard_answer (_ : PySem.W.Frag) : Sp := fun vs H Q _ => ∃ (t d : Addr) (rows : List (List Bool)) (gs : List Int) (ds : List Nat) (st : St6) (j : Nat) (l : Int) (f : MK → Option V) (m : Nat), vs = [.ref t, .int (j : Int), .int l, .ref d] ∧ H t = some (.tup (st.map stV)) ∧ Dx H d true f m ∧ GoodF rows gs ds f ∧ st.length = rows.length ∧ rows.length ≤ 6 ∧ j < st.length ∧ Kids st f st.length ∧
  ∀ H', Same H H' → Q (stV (if st[j]? = some none then some (hardB (need rows gs ds (st.set j (some true))) l) else none)) H'
noncomputable def t_hard_answer (K : PySem.W.Frag) : TS := (tSeq (tIfS (tTest (tOp rIsnNone (tOp (rIxT K) (tVar 0) (tVar 1)) (tC .non))) (tRet (tC .non)) tNext)
  (tRet (tCall (sp_is_hard K) [] E0 (tCons (tVar 0) (tCons (tVar 1) (tCons (tC (.bl true)) (tCons (tVar 2) (tCons (tVar 3) tNil))))))))
theorem len_hard_answer {K : PySem.W.Frag} {vs : List V} {H : Hp} {Q : VK} {E : XK} (h : sp_hard_answer K vs H Q E) : vs.length = 4 := by
  obtain ⟨t, d, rows, gs, ds, st, j, l, f, m, rfl, et, D, g, hl, hr, hj, kd, q⟩ := h
  rfl
theorem rd_hard_answer {K : PySem.W.Frag} {vs : List V} {H : Hp} {Q : VK} {E : XK} (h : sp_hard_answer K vs H Q E) : t_hard_answer K { nx := fun _ H' => Q .non H', rt := Q } (start ["state", "number", "left", "found"] vs) H := by
  obtain ⟨t, d, rows, gs, ds, st, j, l, f, m, rfl, et, D, g, hl, hr, hj, kd, q⟩ := h
  show t_hard_answer K _ [some _, some _, some _, some _] _
  unfold t_hard_answer
  obtain ⟨s, hs⟩ : ∃ s, st[j]? = some s := ⟨st[j], List.getElem?_eq_getElem hj⟩
  walk_at "rd"
  refine r_ixT (SqT.of et) (atI_nat (st_get hs)) ?_
  walk_at "rd"
  refine r_isnNone ?_
  rw [isN_st]
  walk_at "rd"
  cases s with
  | some b =>
    refine iteT ?_
    walk_at "rd"
    rw [if_neg (by rw [hs]; intro z; cases z)] at q
    exact q _ (Same.refl _)
  | none =>
    refine iteF ?_
    walk_at "rd"
    refine ⟨t, d, rows, gs, ds, st, j, true, l, f, m, rfl, et, D, g, hl, hr, hj, kd j true hj hs, fun H1 s1 => ?_⟩
    rw [if_pos hs] at q
    exact q _ s1
noncomputable def sp_hard_answers (_ : PySem.W.Frag) : Sp := fun vs H Q _ => ∃ (t d : Addr) (rows : List (List Bool)) (gs : List Int) (ds : List Nat) (st : St6) (l : Nat) (f : MK → Option V) (m : Nat), vs = [.ref t, .int (l : Int), .ref d] ∧ H t = some (.tup (st.map stV)) ∧ Dx H d true f m ∧ GoodF rows gs ds f ∧ st.length = rows.length ∧ rows.length ≤ 6 ∧ Kids st f st.length ∧
  ∀ a H', H a = none → Same H H' → H' a = some (.lst ((hardA rows gs ds st l).map stV)) → Q (.ref a) H'
noncomputable def t_hard_answers (K : PySem.W.Frag) : TS := (tSeq (tIfS (tTest (tOp rEq (tVar 1) (tC (.int 0)))) (tRet (mLst tNil)) tNext)
  (tRet (tComp (iRng1 (tCons (tCB (cLen K) (tCons (tVar 0) tNil)) tNil)) (fun _ _ _ _ => (gName 0)) (fun _ _ _ _ => tAlways) (fun _ _ _ _ => (tCall (sp_hard_answer K) [] E0 (tCons (tVar 1) (tCons (tVar 0) (tCons (tOp (rI0 fun i j => .int (i - j)) (tVar 3) (tC (.int 1))) (tCons (tVar 2) tNil)))))) [none, some 0, some 2, some 1])))
theorem len_hard_answers {K : PySem.W.Frag} {vs : List V} {H : Hp} {Q : VK} {E : XK} (h : sp_hard_answers K vs H Q E) : vs.length = 3 := by
  obtain ⟨t, d, rows, gs, ds, st, l, f, m, rfl, et, D, g, hl, hr, kd, q⟩ := h
  rfl
theorem rd_hard_answers {K : PySem.W.Frag} {vs : List V} {H : Hp} {Q : VK} {E : XK} (h : sp_hard_answers K vs H Q E) : t_hard_answers K { nx := fun _ H' => Q .non H', rt := Q } (start ["state", "left", "found"] vs) H := by
  obtain ⟨t, d, rows, gs, ds, st, l, f, m, rfl, et, D, g, hl, hr, kd, q⟩ := h
  show t_hard_answers K _ [some _, some _, some _] _
  unfold t_hard_answers
  walk_at "rd"
  refine ite_dec (fun c => ?_) (fun c => ?_)
  · walk_at "rd"
    refine ⟨by simp [sizeLine_eq], fun a H1 ha s1 e1 => ?_⟩
    refine q a H1 ha s1 ?_
    unfold hardA
    rw [if_pos (by omega)]
    exact e1
  · walk_at "rd"
    rw [List.length_map]
    refine lc_range st.length (by omega) (by omega) (by omega) (fun i acc _ => acc = ((List.range i).map fun j => if st[j]? = some none then some (hardB (need rows gs ds (st.set j (some true))) ((l : Int) - 1)) else none).map stV) (fun _ _ => rfl) ?_ ?_
    · rintro w hw C s' H' fp i acc H2 hi ⟨s2, e2, l2, rfl⟩
      walk_at "rd"
      refine ⟨t, d, rows, gs, ds, st, i, (l : Int) - 1, f, m, rfl, s2 _ _ et, D.same s2, g, hl, hr, hi, kd, fun H3 s3 => ?_⟩
      refine CInv.put hw (fun _ _ _ _ r _ => r) (s2.trans s3) (s3 _ _ e2) l2 ?_
      rw [List.range_succ, List.map_append, List.map_append]
      rfl
    · rintro w acc H2 hw s2 e2 rfl
      refine q w H2 hw s2 ?_
      unfold hardA
      rw [if_neg (by omega)]
      exact e2
noncomputable def PRAt (H : Hp) (p : Addr) (t : Addr) (r : PR) : Prop := ∃ s a, a ≠ p ∧ H t = some (.tup [.ref s, .int (r.l : Int), .ref a]) ∧ H s = some (.tup (r.st.map stV)) ∧ H a = some (.lst (r.ans.map stV))
theorem PRAt.same {H H' : Hp} {p t : Addr} {r : PR} (h : PRAt H p t r) (s : Same H H') : PRAt H' p t r := let ⟨u, a, n, e1, e2, e3⟩ := h; ⟨u, a, n, s _ _ e1, s _ _ e2, s _ _ e3⟩
theorem PRAt.off {H H' : Hp} {p t : Addr} {r : PR} {xs : List V} (h : PRAt H p t r) (e : H p = some (.lst xs)) (o : Off p H H') : PRAt H' p t r := let ⟨u, a, n, e1, e2, e3⟩ := h; ⟨u, a, n, o.keep e _ _ e1, o.keep e _ _ e2, by rw [o a n]; exact e3⟩
noncomputable def PapAt (H : Hp) (p : Addr) (P : List PR) : Prop := ∃ ts : List Addr, H p = some (.lst (ts.map V.ref)) ∧ Paired (PRAt H p) ts P
theorem PapAt.same {H H' : Hp} {p : Addr} {P : List PR} (h : PapAt H p P) (s : Same H H') : PapAt H' p P := let ⟨ts, e, q⟩ := h; ⟨ts, s _ _ e, Paired.mapP q fun _ _ x => x.same s⟩
theorem pr_lenP {α β : Type} {F : α → β → Prop} {l : List α} {m : List β} (h : Paired F l m) : l.length = m.length := by
  induction h with
  | nil => rfl
  | cons _ _ ih => rw [List.length_cons, List.length_cons, ih]
theorem pr_getP {α β : Type} {F : α → β → Prop} {l : List α} {m : List β} (h : Paired F l m) : ∀ {i : Nat} {x : α}, l[i]? = some x → ∃ y, m[i]? = some y ∧ F x y := by
  induction h with
  | nil => intro i x e; cases e
  | cons q _ ih =>
    intro i x e
    cases i with
    | zero => cases e; exact ⟨_, rfl, q⟩
    | succ i => exact ih e
/-! states behind -/
theorem foldS_mem : ∀ (l acc : List St6) (x : St6), x ∈ l.foldl insS acc ↔ x ∈ acc ∨ x ∈ l
  | [], acc, x => by simp
  | y :: l, acc, x => by
    rw [List.foldl_cons, foldS_mem l (insS acc y) x, insS_mem, List.mem_cons]
    constructor
    · rintro ((h | h) | h)
      · exact .inl h
      · exact .inr (.inl h)
      · exact .inr (.inr h)
    · rintro (h | h | h)
      · exact .inl (.inl h)
      · exact .inl (.inr h)
      · exact .inr h
theorem foldS_nd : ∀ (l acc : List St6), acc.Nodup → (l.foldl insS acc).Nodup
  | [], acc, h => h
  | y :: l, acc, h => foldS_nd l (insS acc y) (insS_nd h)
theorem foldS_len : ∀ (l acc : List St6), (l.foldl insS acc).length ≤ acc.length + l.length
  | [], acc => Nat.le_refl _
  | y :: l, acc => by
    have h1 := foldS_len l (insS acc y)
    have h2 := insS_len acc y
    rw [List.foldl_cons, List.length_cons]
    omega
noncomputable def behR (acc : List St6) (r : PR) : List St6 := (kidsR r r.ans.length).foldl insS acc
theorem behR_mem : ∀ (L : List PR) (acc : List St6) (x : St6), x ∈ L.foldl behR acc ↔ x ∈ acc ∨ ∃ r ∈ L, x ∈ kidsR r r.ans.length
  | [], acc, x => by simp
  | r :: L, acc, x => by
    rw [List.foldl_cons, behR_mem L (behR acc r) x]
    unfold behR
    rw [foldS_mem]
    constructor
    · rintro ((h | h) | ⟨r', hr', h⟩)
      · exact .inl h
      · exact .inr ⟨r, by simp, h⟩
      · exact .inr ⟨r', by simp [hr'], h⟩
    · rintro (h | ⟨r', hr', h⟩)
      · exact .inl (.inl h)
      · rcases List.mem_cons.mp hr' with rfl | hr'
        · exact .inl (.inr h)
        · exact .inr ⟨r', hr', h⟩
theorem behR_nd : ∀ (L : List PR) (acc : List St6), acc.Nodup → (L.foldl behR acc).Nodup
  | [], acc, h => h
  | r :: L, acc, h => behR_nd L (behR acc r) (foldS_nd _ _ h)
theorem kidsR_len (r : PR) (i : Nat) : (kidsR r i).length ≤ i := Nat.le_trans (List.length_filterMap_le _ _) (by rw [List.length_range]; exact Nat.le_refl _)
theorem behR_len : ∀ (L : List PR) (acc : List St6), (∀ r ∈ L, r.ans.length ≤ 6) → (L.foldl behR acc).length ≤ acc.length + 6 * L.length
  | [], acc, _ => Nat.le_refl _
  | r :: L, acc, h => by
    have h1 := behR_len L (behR acc r) fun r hr => h r (by simp [hr])
    have h2 := foldS_len (kidsR r r.ans.length) acc
    have h3 := kidsR_len r r.ans.length
    have h4 := h r (by simp)
    rw [List.foldl_cons, List.length_cons]
    unfold behR at h1 ⊢
    omega
noncomputable def sp_states_behind (_ : PySem.W.Frag) : Sp := fun vs H Q _ => ∃ (q : Addr) (L : List PR), vs = [.ref q] ∧ PapAt H q L ∧ L.length ≤ 300000 ∧ (∀ r ∈ L, r.ans.length ≤ 6 ∧ r.ans.length ≤ r.st.length ∧ r.st.length ≤ 6) ∧
  ∀ (l : Addr) (H' : Hp) (ts : List Addr), H l = none → Same H H' → H' l = some (.lst (ts.map V.ref)) → Paired (StP H') ts (L.foldl behR []) → Q (.ref l) H'
noncomputable def t_states_behind (K : PySem.W.Frag) : TS := (tSeq (tAsg mDnewX (gName 1))
  (tSeq (tFor (iList K (tVar 0)) (gTup K 3 (gCons (gName 2) (gCons (gName 3) (gCons (gName 4) gNil)))) (tFor (iEnum srcL K (tCons (tVar 4) tNil)) (gTup K 2 (gCons (gName 5) (gCons (gName 6) gNil))) (tIfS (tTest (tOp rIsnNone (tVar 6) (tC .non))) (tAsg (tC (.bl true)) (gSub (tVar 1) (tCall (sp_with_answer K) [] E0 (tCons (tVar 2) (tCons (tVar 5) (tCons (tVar 6) tNil)))) rBSet)) tNext)))
  (tRet (tCB cLBd (tCons (tVar 1) tNil)))))
theorem len_states_behind {K : PySem.W.Frag} {vs : List V} {H : Hp} {Q : VK} {E : XK} (h : sp_states_behind K vs H Q E) : vs.length = 1 := by
  obtain ⟨qa, L, rfl, A, hL, hr, q⟩ := h
  rfl
theorem rd_states_behind {K : PySem.W.Frag} {vs : List V} {H : Hp} {Q : VK} {E : XK} (h : sp_states_behind K vs H Q E) : t_states_behind K { nx := fun _ H' => Q .non H', rt := Q } (start ["rows", "behind", "state", "left", "answers", "number", "answer"] vs) H := by
  obtain ⟨qa, L, rfl, A, hL, hr, q⟩ := h
  show t_states_behind K _ [some _, none, none, none, none, none, none] _
  unfold t_states_behind
  obtain ⟨ts, eq, pr⟩ := id A
  have htl := pr_lenP pr
  walk_at "rd"
  refine m_dnewX true fun d H1 hd s1 D1 => ?_
  have B1 := Bd.new D1
  walk_at "rd"
  refine lp_list (ts.map V.ref) (SqL.of (s1 _ _ eq)) (fun i σ H2 => ∃ (u2 u3 u4 u5 u6 : Option V), σ = [some (.ref qa), some (.ref d), u2, u3, u4, u5, u6] ∧ Same H H2 ∧ Bd H2 d ((L.take i).foldl behR [])) ⟨_, _, _, _, _, rfl, s1, B1⟩ ?_ ?_ ?_
  · rintro i σ H2 hi ⟨u2, u3, u4, u5, u6, rfl, s2, B2⟩
    exact SqL.of (s2 _ _ eq)
  · rintro i x σ H2 hx ⟨u2, u3, u4, u5, u6, rfl, s2, B2⟩
    obtain ⟨t, ht, rfl⟩ := refs_at hx
    obtain ⟨r, hri, s, a, na, et, es, ea⟩ := pr_getP pr ht
    have hiL : i < L.length := (List.getElem?_eq_some_iff.mp hri).1
    obtain ⟨h6, hal, hst6⟩ := hr r (List.mem_of_getElem? hri)
    have hb : ((L.take i).foldl behR []).length ≤ 6 * 300000 := by
      have := behR_len (L.take i) [] fun r hr' => (hr r (List.mem_of_mem_take hr')).1
      rw [List.length_nil, List.length_take] at this
      omega
    have snoc : (L.take (i + 1)).foldl behR [] = (kidsR r r.ans.length).foldl insS ((L.take i).foldl behR []) := by
      rw [rows_snoc hri, List.foldl_append]; rfl
    generalize (L.take i).foldl behR [] = acc at *
    walk_at "rd"
    refine g_triple (SqT.of (s2 _ _ et)) ?_
    walk_at "rd"
    refine lp_enum (S := srcL) (r.ans.map stV) (SqL.of (s2 _ _ ea)) (fun j σ H3 => ∃ (u5 u6 : Option V), σ = [some (.ref qa), some (.ref d), some (.ref s), some (.int (r.l : Int)), some (.ref a), u5, u6] ∧ Same H H3 ∧ Bd H3 d ((kidsR r j).foldl insS acc)) ⟨_, _, rfl, s2, B2⟩ ?_ ?_ ?_
    · rintro j σ H3 hj ⟨u5, u6, rfl, s3, B3⟩
      exact SqL.of (s3 _ _ ea)
    · rintro j x T σ H3 H4 hx ⟨u5, u6, rfl, s3, B3⟩ hT s4 e4
      obtain ⟨o, ho, rfl⟩ := st_of hx
      have hjl : j < r.ans.length := (List.getElem?_eq_some_iff.mp ho).1
      have s34 := s3.trans s4
      have ksucc := kidsR_succ r j
      rw [ho] at ksucc
      walk_at "rd"
      refine g_pair (SqT.of e4) ?_
      walk_at "rd"
      refine r_isnNone ?_
      rw [isN_st]
      walk_at "rd"
      cases o with
      | none =>
        refine iteF ?_
        walk_at "rd"
        have ks : kidsR r (j + 1) = kidsR r j := by rw [ksucc]; exact List.append_nil _
        refine ⟨_, _, rfl, s34, ?_⟩
        rw [ks]
        exact B3.same s4
      | some b =>
        refine iteT ?_
        have ks : kidsR r (j + 1) = kidsR r j ++ [r.st.set j (some b)] := ksucc
        walk_at "rd"
        refine ⟨s, r.st, j, b, rfl, s34 _ _ es, by omega, by omega, fun t2 H5 s5 e5 => ?_⟩
        have hlen : ((kidsR r j).foldl insS acc).length < sizeLine := by
          have h1 := foldS_len (kidsR r j) acc
          have h2 := kidsR_len r j
          rw [sizeLine_eq]
          omega
        refine r_bset e5 (B3.same (s4.trans s5)) hlen fun H6 o6 B6 => ?_
        refine ⟨_, _, rfl, (s34.trans s5).off hd o6, ?_⟩
        rw [ks, List.foldl_append]
        exact B6
    · rintro σ H3 ⟨u5, u6, rfl, s3, B3⟩
      rw [List.length_map] at B3
      refine ⟨_, _, _, _, _, rfl, s3, ?_⟩
      rw [snoc]
      exact B3
  · rintro σ H2 ⟨u2, u3, u4, u5, u6, rfl, s2, B2⟩
    rw [List.length_map, htl, List.take_length] at B2
    walk_at "rd"
    refine r_lbd B2 fun l H3 ts' hl s3 e3 p3 => ?_
    exact q l H3 ts' (s2.free hl) (s2.trans s3) e3 p3
noncomputable def sp_paper_from (_ : PySem.W.Frag) : Sp := fun vs H Q _ => ∃ (t d : Addr) (rows : List (List Bool)) (gs : List Int) (ds : List Nat) (st : St6) (k : Nat) (f : MK → Option V) (m : Nat), vs = [.ref t, .int (k : Int), .ref d] ∧ H t = some (.tup (st.map stV)) ∧ Dx H d true f m ∧ GoodF rows gs ds f ∧ st.length = rows.length ∧ rows.length ≤ 6 ∧ k ≤ 6 ∧ (f (keyS st)).isSome ∧ HardAt rows gs ds st k ∧
  ∀ p (P : List PR) H', H p = none → Same H H' → PapAt H' p P → PapOk rows gs ds st k P → Q (.ref p) H'
noncomputable def t_paper_from (K : PySem.W.Frag) : TS := (tSeq (tAsg (mLst tNil) (gName 3))
  (tSeq (tAsg (mLst (tCons (tVar 0) tNil)) (gName 4))
  (tSeq (tAsg (tVar 1) (gName 5))
  (tSeq (tWhile (tTest (tOp (rI0 fun i j => .bl (decide (j < i))) (tCB (cLen K) (tCons (tVar 4) tNil)) (tC (.int 0)))) (tSeq (tAsg (tComp (iList K (tVar 4)) (fun _ _ _ _ => (gName 0)) (fun _ _ _ _ => tAlways) (fun _ _ _ _ => (mTup (tCons (tVar 0) (tCons (tVar 1) (tCons (tCall (sp_hard_answers K) [] E0 (tCons (tVar 0) (tCons (tVar 1) (tCons (tVar 2) tNil)))) tNil))))) [none, some 5, some 2]) (gName 6))
  (tSeq (tDrop (tBM K "list" rExtend (tVar 3) (tCons (tVar 6) tNil)))
  (tSeq (tAsg (tCall (sp_states_behind K) [] E0 (tCons (tVar 6) tNil)) (gName 4))
  (tAsg (tOp (rI0 fun i j => .int (i - j)) (tVar 5) (tC (.int 1))) (gName 5))))))
  (tRet (tVar 3))))))
theorem len_paper_from {K : PySem.W.Frag} {vs : List V} {H : Hp} {Q : VK} {E : XK} (h : sp_paper_from K vs H Q E) : vs.length = 3 := by
  obtain ⟨t, d, rows, gs, ds, st, k, f, m, rfl, et, D, g, hl, hr, hk, hs, hh, q⟩ := h
  rfl
theorem rd_paper_from {K : PySem.W.Frag} {vs : List V} {H : Hp} {Q : VK} {E : XK} (h : sp_paper_from K vs H Q E) : t_paper_from K { nx := fun _ H' => Q .non H', rt := Q } (start ["state", "k", "found", "paper", "level", "left", "rows"] vs) H := by
  obtain ⟨t, d, rows, gs, ds, st, k, f, m, rfl, et, D, g, hl, hr, hk, hs, hh, q⟩ := h
  show t_paper_from K _ [some _, some _, some _, none, none, none, none] _
  unfold t_paper_from
  walk_at "rd"
  refine ⟨by simp [sizeLine_eq], fun p H1 hp s1 e1 => ?_⟩
  walk_at "rd"
  refine ⟨by simp [sizeLine_eq], fun lv H2 hlv s2 e2 => ?_⟩
  walk_at "rs"
  refine r_seq ?_
  walk_at "rs"
  refine r_seq ?_
  have hp0 := hp
  refine wh_in (fun mm σ H3 => ∃ (lv : Addr) (u6 : Option V) (n : Nat) (P : List PR) (sts : List St6) (ts vs : List Addr), σ = [some (.ref t), some (.int (k : Int)), some (.ref d), some (.ref p), some (.ref lv), some (.int ((k : Int) - n)), u6] ∧ Same H H3 ∧ H3 p = some (.lst (ts.map V.ref)) ∧ Paired (PRAt H3 p) ts P ∧ lv ≠ p ∧ H3 lv = some (.lst (vs.map V.ref)) ∧ Paired (StP H3) vs sts ∧ PapTo rows gs ds st k n P sts ∧ n ≤ 7 ∧ (∀ x ∈ sts, (f (keyS x)).isSome) ∧ mm = 8 - n) 8
    ⟨lv, none, 0, [], [st], [], [t], ?_, s1.trans s2, s2 _ _ e1, .nil, (fun z => by rw [z, e1] at hlv; cases hlv), e2, .cons (show H2 t = _ from (s1.trans s2) _ _ et) .nil, PapTo.first hl hh, by decide, (fun x hx => by rw [List.mem_singleton.mp hx]; exact hs), rfl⟩ ?_
  · rw [show (k : Int) - ((0 : Nat) : Int) = (k : Int) by omega]
  rintro mm σ H3 ⟨lv, u6, n, P, sts, ts, vs, rfl, s3, ep, pr, nlv, elv, pv, pt, hn7, hf, rfl⟩
  have hvl := pr_lenP pv
  have htl := pr_lenP pr
  have hsl := pt.sln
  have hpl := pt.len
  have h67 : 6 ^ n ≤ 279936 := Nat.le_trans (Nat.pow_le_pow_right (by decide) hn7) (by decide)
  walk_at "rd"
  rw [List.length_map, hvl]
  refine ite_dec (fun c => ?_) (fun c => ?_)
  · -- a level
    obtain ⟨x0, hx0⟩ : ∃ x0, x0 ∈ sts := by
      cases sts with
      | nil => exact absurd c (by decide)
      | cons x r => exact ⟨x, by simp⟩
    obtain ⟨_, l, hln, _⟩ := pt.shard x0 hx0
    have hl' : (k : Int) - n = (l : Int) := by omega
    refine wh_go ?_
    rw [hl']
    walk_at "rd"
    refine lc_listW (vs.map V.ref) (SqL.of elv) (by rw [List.length_map]; omega) (fun w i acc H4 => ∃ us : List Addr, acc = us.map V.ref ∧ Paired (fun t r => PRAt H4 p t r ∧ PRAt H4 w t r) us ((sts.take i).map (rowOf rows gs ds l))) (fun _ _ _ => ⟨[], rfl, .nil⟩) ?_ ?_
    · rintro w hw C s' H' fp i x acc H4 hx ⟨s4, e4, l4, us, rfl, pu⟩
      obtain ⟨v, hv, rfl⟩ := refs_at hx
      obtain ⟨y, hy, ev⟩ := pr_getP pv hv
      have hym := List.mem_of_getElem? hy
      obtain ⟨hyl, l2, hl2, hyh⟩ := pt.shard y hym
      have : l2 = l := by omega
      subst this
      have ev4 : H4 v = some (.tup (y.map stV)) := s4 _ _ ev
      have kd := g.2 y hyl (hf y hym) hyh.not_one
      walk_at "rd"
      refine ⟨v, d, rows, gs, ds, y, l2, f, m, rfl, ev4, D.same (s3.trans s4), g, hyl, hr, kd, fun a H5 ha s5 e5 => ?_⟩
      walk_at "rd"
      refine ⟨by simp [sizeLine_eq], fun u H6 hu s6 e6 => ?_⟩
      have s46 := s5.trans s6
      have nap : a ≠ p := fun z => by rw [z, s4 _ _ ep] at ha; cases ha
      have naw : a ≠ w := fun z => by rw [z, e4] at ha; cases ha
      have nuw : u ≠ w := fun z => by rw [z, s5 _ _ e4] at hu; cases hu
      have e46 := s46 _ _ e4
      refine CInv.putW hw (s4.trans s46) e46 l4 fun H7 o7 => ?_
      refine ⟨us ++ [u], by rw [List.map_append]; rfl, ?_⟩
      rw [rows_snoc hy, List.map_append]
      have k7 := o7.keep e46
      have row : ∀ b : Addr, a ≠ b → PRAt H7 b u (rowOf rows gs ds l2 y) := fun b nb => ⟨v, a, nb, k7 _ _ e6, k7 _ _ (s46 _ _ ev4), by rw [o7 a naw]; exact s6 _ _ e5⟩
      refine pr_snoc (Paired.mapP pu fun t' r' ⟨h1, h2⟩ => ?_) ⟨row p nap, row w naw⟩
      have h1' := h1.same s46
      have h2' := h2.same s46
      obtain ⟨s1', a1', n1', q1, q2, q3⟩ := h2'
      obtain ⟨s2', a2', n2', p1, p2, p3⟩ := h1'
      rw [q1] at p1
      cases p1
      exact ⟨⟨s1', a1', n2', k7 _ _ q1, k7 _ _ q2, by rw [o7 a1' n1']; exact q3⟩, ⟨s1', a1', n1', k7 _ _ q1, k7 _ _ q2, by rw [o7 a1' n1']; exact q3⟩⟩
    rintro w acc H4 hw s4 e4 ⟨us, rfl, pu⟩
    rw [List.length_map, hvl, List.take_length] at pu
    have hul := pr_lenP pu
    rw [List.length_map] at hul
    have s34 := s3.trans s4
    have ep4 := s4 _ _ ep
    have nwp : w ≠ p := fun z => by rw [z, ep] at hw; cases hw
    walk_at "rd"
    refine ⟨r_tyL ep4, ?_⟩
    walk_at "rd"
    refine r_extend ep4 e4 (by rw [List.length_map, List.length_map, sizeLine_eq]; omega) fun H5 o5 e5 => ?_
    have k5 := o5.keep ep4
    have ew5 : H5 w = some (.lst (us.map V.ref)) := by rw [o5 w nwp]; exact e4
    have pu5 : Paired (fun t r => PRAt H5 p t r ∧ PRAt H5 w t r) us (sts.map (rowOf rows gs ds l)) := Paired.mapP pu fun t' r' ⟨h1, h2⟩ => by
      obtain ⟨s1', a1', n1', q1, q2, q3⟩ := h2
      obtain ⟨s2', a2', n2', p1, p2, p3⟩ := h1
      rw [q1] at p1
      cases p1
      exact ⟨⟨s1', a1', n2', k5 _ _ q1, k5 _ _ q2, by rw [o5 a1' n2']; exact q3⟩, ⟨s1', a1', n1', k5 _ _ q1, k5 _ _ q2, by rw [o5 a1' n2']; exact q3⟩⟩
    have s35 : Same H H5 := s34.off hp0 o5
    walk_at "rd"
    refine ⟨w, sts.map (rowOf rows gs ds l), rfl, ⟨us, ew5, Paired.mapP pu5 fun _ _ h => h.2⟩, by rw [List.length_map]; omega, fun r hr' => ?_, fun lv' H6 vs' hlv' s6 e6 p6 => ?_⟩
    · obtain ⟨y, hy, rfl⟩ := List.mem_map.mp hr'
      have hyl := (pt.shard y hy).1
      have ha : (rowOf rows gs ds l y).ans.length = if l = 0 then 0 else y.length := hardA_len
      have hst : (rowOf rows gs ds l y).st.length = y.length := rfl
      rw [ha, hst]
      split <;> omega
    · have hsuc : (k : Int) - n - 1 = (k : Int) - ((n + 1 : Nat) : Int) := by omega
      have hbm := behR_mem (sts.map (rowOf rows gs ds l)) []
      have hm : ∀ x, x ∈ (sts.map (rowOf rows gs ds l)).foldl behR [] ↔ ∃ y ∈ sts, ∃ j b, (hardA rows gs ds y l)[j]? = some (some b) ∧ x = y.set j (some b) := fun x => by
        rw [hbm x]
        constructor
        · rintro (h | ⟨r, hr', h⟩)
          · cases h
          · obtain ⟨y, hy, rfl⟩ := List.mem_map.mp hr'
            obtain ⟨j, b, _, h1, h2⟩ := kidsR_mem.mp h
            exact ⟨y, hy, j, b, h1, h2⟩
        · rintro ⟨y, hy, j, b, h1, h2⟩
          exact .inr ⟨_, List.mem_map_of_mem hy, kidsR_mem.mpr ⟨j, b, (List.getElem?_eq_some_iff.mp h1).1, h1, h2⟩⟩
      have hnl : n ≤ 6 := by omega
      walk_at "rd"
      rw [← hl', hsuc]
      refine ⟨_, ?_, lv', _, n + 1, P ++ sts.map (rowOf rows gs ds l), (sts.map (rowOf rows gs ds l)).foldl behR [], ts ++ us, vs', rfl, s35.trans s6, ?_, ?_, ?_, e6, p6, PapTo.next pt hr hln (behR_nd _ _ List.nodup_nil) hm ?_, by omega, ?_, rfl⟩
      · omega
      · rw [s6 _ _ e5, List.map_append]
      · exact paired_app (Paired.mapP pr fun _ _ h => (((h.same s4).off ep4 o5).same s6)) (Paired.mapP pu5 fun _ _ h => h.1.same s6)
      · exact fun z => by rw [z, e5] at hlv'; cases hlv'
      · have := behR_len (sts.map (rowOf rows gs ds l)) [] fun r hr' => by
          obtain ⟨y, hy, rfl⟩ := List.mem_map.mp hr'
          have hyl := (pt.shard y hy).1
          have ha : (rowOf rows gs ds l y).ans.length = if l = 0 then 0 else y.length := hardA_len
          rw [ha]
          split <;> omega
        rw [List.length_map, List.length_nil] at this
        omega
      · intro x hx
        obtain ⟨y, hy, j, b, h1, rfl⟩ := (hm x).mp hx
        obtain ⟨hyl, l2, hl2, hyh⟩ := pt.shard y hy
        have : l2 = l := by omega
        subst this
        have hj := (List.getElem?_eq_some_iff.mp h1).1
        rw [hardA_len] at hj
        have h0 : l2 ≠ 0 := fun z => by rw [if_pos z] at hj; omega
        rw [if_neg h0] at hj
        obtain ⟨l1, rfl⟩ : ∃ l1, l2 = l1 + 1 := ⟨l2 - 1, by omega⟩
        exact g.2 y hyl (hf y hy) hyh.not_one j b hj (hard_next hyh hj h1).1
  · have hst : sts = [] := List.eq_nil_of_length_eq_zero (by omega)
    subst hst
    walk_at "rd"
    exact q p P H3 hp0 s3 ⟨ts, ep, pr⟩ (pt.last hn7)
noncomputable def tooB : Option Nat → Int → Bool
  | none, k => decide (0 ≤ k) && decide (k ≤ 6)
  | some n, k => decide (0 ≤ k) && decide (k < (n : Int))
noncomputable def sp_is_too_few (_ : PySem.W.Frag) : Sp := fun vs H Q _ => ∃ (o : Option Nat) (k : Int), vs = [optV o, .int k] ∧ Q (.bl (tooB o k)) H
noncomputable def t_is_too_few (K : PySem.W.Frag) : TS := (tRet (tIf (tTest (tOp rIsNone (tVar 0) (tC .non))) (tChain (rI0 fun i j => .bl (decide (i ≤ j))) (rI0 fun i j => .bl (decide (i ≤ j))) (tC (.int 0)) (tVar 1) (tC (.int 6))) (tChain (rI0 fun i j => .bl (decide (i ≤ j))) (rI0 fun i j => .bl (decide (i < j))) (tC (.int 0)) (tVar 1) (tVar 0))))
theorem len_is_too_few {K : PySem.W.Frag} {vs : List V} {H : Hp} {Q : VK} {E : XK} (h : sp_is_too_few K vs H Q E) : vs.length = 2 := by
  obtain ⟨o, k, rfl, q⟩ := h
  rfl
theorem rd_is_too_few {K : PySem.W.Frag} {vs : List V} {H : Hp} {Q : VK} {E : XK} (h : sp_is_too_few K vs H Q E) : t_is_too_few K { nx := fun _ H' => Q .non H', rt := Q } (start ["least", "k"] vs) H := by
  obtain ⟨o, k, rfl, q⟩ := h
  show t_is_too_few K _ [some _, some _] _
  unfold t_is_too_few
  walk_at "rd"
  refine r_isNone ?_
  rw [isN_opt]
  cases o with
  | none =>
    walk_at "rd"
    refine iteT ?_
    walk_at "rd"
    refine ite_dec (fun c => ?_) (fun c => ?_)
    · walk_at "rd"
      have : tooB none k = decide (k ≤ 6) := by show (decide (0 ≤ k) && decide (k ≤ 6)) = _; rw [decide_eq_true c, Bool.true_and]
      rw [this] at q
      exact q
    · have : tooB none k = false := by show (decide (0 ≤ k) && decide (k ≤ 6)) = _; rw [decide_eq_false c, Bool.false_and]
      rw [this] at q
      exact q
  | some n =>
    walk_at "rd"
    refine iteF ?_
    walk_at "rd"
    refine ite_dec (fun c => ?_) (fun c => ?_)
    · walk_at "rd"
      have : tooB (some n) k = decide (k < (n : Int)) := by show (decide (0 ≤ k) && decide (k < (n : Int))) = _; rw [decide_eq_true c, Bool.true_and]
      rw [this] at q
      exact r_I0 (i := k) (j := (n : Int)) q
    · have : tooB (some n) k = false := by show (decide (0 ≤ k) && decide (k < (n : Int))) = _; rw [decide_eq_false c, Bool.false_and]
      rw [this] at q
      exact q
noncomputable def sp_too_few (_ : PySem.W.Frag) : Sp := fun vs H Q _ => ∃ (p b c : Addr) (rows : List (List Bool)) (gs : List Int) (ds : List Nat) (k : Int), vs = [.ref p, .ref b, .ref c, .int k] ∧ LsAt blL H p rows ∧ H b = some (.lst (gs.map V.int)) ∧ H c = some (.lst (natV ds)) ∧ rows.length ≤ 6 ∧ ds.length ≤ 500 ∧ (∀ x ∈ ds, ∀ r ∈ rows, x < r.length) ∧ (∀ x ∈ ds, x < gs.length) ∧
  (tooB (need0 rows gs ds) k = false → ∀ H', Same H H' → Q .non H') ∧ (tooB (need0 rows gs ds) k = true → ∀ (pa : Addr) (kn : Nat) (P : List PR) H', (kn : Int) = k → H pa = none → Same H H' → PapAt H' pa P → PapOk rows gs ds (List.replicate rows.length none) kn P → Q (.ref pa) H')
noncomputable def t_too_few (K : PySem.W.Frag) : TS := (tSeq (tAsg mDnewX (gName 4))
  (tSeq (tAsg (tOp mRepT (mTup (tCons (tC .non) tNil)) (tCB (cLen K) (tCons (tVar 0) tNil))) (gName 5))
  (tSeq (tAsg (tCall (sp_fewest_from K 7) [] E0 (tCons (tVar 0) (tCons (tVar 1) (tCons (tVar 2) (tCons (tVar 5) (tCons (tVar 4) tNil)))))) (gName 6))
  (tSeq (tIfS (tNot (tB (tCall (sp_is_too_few K) [] E0 (tCons (tVar 6) (tCons (tVar 3) tNil))))) (tRet (tC .non)) tNext)
  (tRet (tCall (sp_paper_from K) [] E0 (tCons (tVar 5) (tCons (tVar 3) (tCons (tVar 4) tNil)))))))))
theorem len_too_few {K : PySem.W.Frag} {vs : List V} {H : Hp} {Q : VK} {E : XK} (h : sp_too_few K vs H Q E) : vs.length = 4 := by
  obtain ⟨p, b, c, rows, gs, ds, k, rfl, A, eb, ec, hrl, hdl, hdr, hdg, q0, q1⟩ := h
  rfl
theorem rd_too_few {K : PySem.W.Frag} {vs : List V} {H : Hp} {Q : VK} {E : XK} (h : sp_too_few K vs H Q E) : t_too_few K { nx := fun _ H' => Q .non H', rt := Q } (start ["asks", "goal", "some", "k", "found", "state", "least"] vs) H := by
  obtain ⟨p, b, c, rows, gs, ds, k, rfl, A, eb, ec, hrl, hdl, hdr, hdg, q0, q1⟩ := h
  show t_too_few K _ [some _, some _, some _, some _, none, none, none] _
  unfold t_too_few
  walk_at "rd"
  refine m_dnewX true fun d H3 hd s3 D3 => ?_
  walk_at "rd"
  refine ⟨by simp [sizeLine_eq], fun l1 H1 hl1 s1 e1 => ?_⟩
  have s01 := s3.trans s1
  obtain ⟨rs, ep, er⟩ := A.same s01
  walk_at "rd"
  rw [List.length_map, er.len]
  refine m_repT e1 (by omega) fun t H2 s2 e2 => ?_
  have s02 := s01.trans s2
  have D2 := D3.same (s1.trans s2)
  have e3 : H2 t = some (.tup ((List.replicate rows.length (none : Option Bool)).map stV)) := by rw [List.map_replicate]; exact e2
  walk_at "rd"
  have Z2 : FewAt H2 p b c t d rows gs ds (List.replicate rows.length none) _ 0 := ⟨A.same s02, s02 _ _ eb, by rw [okS_none]; exact s02 _ _ ec, e3, D2, GoodF.none _ _ _, List.length_replicate, hrl, hdl, hdr, hdg⟩
  have hcn : cntN (List.replicate rows.length none) ≤ 6 := by
    unfold cntN
    rw [List.count_replicate_self]
    exact hrl
  refine ⟨p, b, c, t, d, rows, gs, ds, List.replicate rows.length none, _, 0, rfl, Z2, hcn, by decide, fun f' m' H4 x4 D4 g4 _ h4 i4 => ?_⟩
  have Z4 := Z2.ofTo x4 D4 g4
  have s04 : Same H H4 := x4.same D2 s02 hd
  walk_at "rd"
  refine ⟨_, k, rfl, ?_⟩
  walk_at "rd"
  have un : need rows gs ds (List.replicate rows.length none) = need0 rows gs ds := rfl
  rw [un]
  refine ite_nb (fun h => ?_) (fun h => ?_)
  · walk_at "rd"
    exact q0 h _ s04
  · have hk : 0 ≤ k ∧ k ≤ 6 ∧ ∀ n, need0 rows gs ds = some n → k < (n : Int) := by
      cases hn : need0 rows gs ds with
      | none =>
        rw [hn] at h
        have h' : (decide (0 ≤ k) && decide (k ≤ 6)) = true := h
        rw [Bool.and_eq_true, decide_eq_true_iff, decide_eq_true_iff] at h'
        exact ⟨h'.1, h'.2, fun n z => by cases z⟩
      | some n =>
        rw [hn] at h
        have h' : (decide (0 ≤ k) && decide (k < (n : Int))) = true := h
        rw [Bool.and_eq_true, decide_eq_true_iff, decide_eq_true_iff] at h'
        have := need_le _ rfl (un.trans hn)
        exact ⟨h'.1, by omega, fun n' z => by cases z; exact h'.2⟩
    obtain ⟨kn, hkn⟩ : ∃ kn : Nat, (kn : Int) = k := ⟨k.toNat, by omega⟩
    have hh : HardAt rows gs ds (List.replicate rows.length none) kn := by
      unfold HardAt
      rw [un]
      cases hn : need0 rows gs ds with
      | none => rfl
      | some n =>
        have := hk.2.2 n hn
        show decide _ = true
        rw [decide_eq_true_iff]
        omega
    walk_at "rd"
    rw [← hkn]
    refine ⟨t, d, rows, gs, ds, List.replicate rows.length none, kn, f', m', rfl, Z4.state, D4, g4, List.length_replicate, hrl, by omega, i4, hh, fun pa P H5 hpa s5 a5 ok5 => ?_⟩
    exact q1 h pa kn P H5 hkn (s04.free hpa) (s04.trans s5) a5 ok5

end L2

end

section
-- KcAskM
set_option Elab.async false
set_option linter.all false
set_option maxRecDepth 100000
set_option maxHeartbeats 4000000
namespace L2
open PySem PyProof.Rows
theorem goal_at {gs : List Int} {d : Nat} (h : d < gs.length) : atI (gs.map V.int) (d : Int) = some (.int (gs.getD d 0)) := atI_nat (by rw [List.getElem?_map, List.getD_eq_getElem?_getD, List.getElem?_eq_getElem h]; rfl)
/-! ### one ask more that tells nothing; answers turned -/
end L2

end

section
-- KcUnl
set_option Elab.async false
set_option linter.all false
set_option maxRecDepth 100000
set_option maxHeartbeats 4000000
namespace L2
open PySem PyProof.Rows

noncomputable def sp__law_unlike (_ : PySem.W.Frag) : Sp := fun vs H Q _ => ∃ (b c : Addr) (gs : List Int) (ds : List Nat), vs = [.ref b, .ref c] ∧ H b = some (.lst (gs.map V.int)) ∧ H c = some (.lst (natV ds)) ∧ (∀ d ∈ ds, d < gs.length) ∧ ds.length ≤ 1000 ∧
  ∀ (k : Bool) (H' : Hp), Same H H' → (k = true ↔ ¬ oneG gs ds) → Q (.bl k) H'
noncomputable def t__law_unlike (K : PySem.W.Frag) : TS := (tRet (tOp (rI0 fun i j => .bl (decide (j < i))) (tCB (cLen K) (tCons (tComp (iList K (tVar 1)) (fun _ _ _ _ => (gName 0)) (fun _ _ _ _ => (tTest (tOp rNe (tOp (rIxL K) (tVar 1) (tVar 0)) (tOp (rIxL K) (tVar 1) (tOp (rIxL K) (tVar 2) (tC (.int 0))))))) (fun _ _ _ _ => (tVar 0)) [none, some 0, some 1]) tNil)) (tC (.int 0))))
theorem len__law_unlike {K : PySem.W.Frag} {vs : List V} {H : Hp} {Q : VK} {E : XK} (h : sp__law_unlike K vs H Q E) : vs.length = 2 := by
  obtain ⟨b, c, gs, ds, rfl, eb, ec, hd, hl, q⟩ := h
  rfl
theorem rd__law_unlike {K : PySem.W.Frag} {vs : List V} {H : Hp} {Q : VK} {E : XK} (h : sp__law_unlike K vs H Q E) : t__law_unlike K { nx := fun _ H' => Q .non H', rt := Q } (start ["_law_goal", "_law_some"] vs) H := by
  obtain ⟨b, c, gs, ds, rfl, eb, ec, hd, hl, q⟩ := h
  show t__law_unlike K _ [some _, some _] _
  unfold t__law_unlike
  walk_at "rd"
  refine lc_list (natV ds) (SqL.of ec) (by rw [natV_len]; omega) (fun i acc _ => acc = natV ((ds.take i).filter fun d => !decide (gs.getD d 0 = gs.getD (ds.getD 0 0) 0))) (fun _ _ => rfl) ?_ ?_
  · rintro w hw C s' H' fp i x acc H2 hx ⟨s2, e2, l2, rfl⟩
    obtain ⟨d, hdi, rfl⟩ := nat_of hx
    have h0 : ds[0]? = some (ds.getD 0 0) := by
      have := (List.getElem?_eq_some_iff.mp hdi).1
      rw [List.getD_eq_getElem?_getD, List.getElem?_eq_getElem (by omega)]
      rfl
    walk_at "rd"
    refine r_ixL (SqL.of (s2 _ _ eb)) (goal_at (hd d (List.mem_of_getElem? hdi))) ?_
    walk_at "rd"
    refine r_ixL (SqL.of (s2 _ _ ec)) (i := 0) (atI_nat (j := 0) (by unfold natV; rw [List.getElem?_map, h0]; rfl)) ?_
    walk_at "rd"
    refine r_ixL (SqL.of (s2 _ _ eb)) (goal_at (hd _ (List.mem_of_getElem? h0))) ?_
    walk_at "rd"
    refine ite_ndec (fun h => ?_) (fun h => ?_)
    · walk_at "rd"
      refine CInv.put hw (fun _ _ _ _ r _ => r) s2 e2 l2 ?_
      rw [filt_snoc hdi, if_pos (by rw [decide_eq_false h]; rfl), ← natV_snoc]
    · refine CInv.skip s2 e2 l2 ?_
      rw [filt_snoc hdi, if_neg (by rw [decide_eq_true h]; exact Bool.false_ne_true), List.append_nil]
  · rintro w acc H2 hw s2 e2 rfl
    rw [natV_len, List.take_length] at e2
    walk_at "rd"
    rw [natV_len]
    refine q _ _ s2 ?_
    rw [decide_eq_true_iff]
    constructor
    · intro h one
      obtain ⟨d, hd2⟩ := List.exists_mem_of_length_pos (show 0 < (ds.filter fun d => !decide (gs.getD d 0 = gs.getD (ds.getD 0 0) 0)).length by omega)
      obtain ⟨m1, m2⟩ := List.mem_filter.mp hd2
      have m0 : ds.getD 0 0 ∈ ds := by
        have : 0 < ds.length := List.length_pos_of_mem m1
        rw [List.getD_eq_getElem?_getD, List.getElem?_eq_getElem this]
        exact List.getElem_mem this
      rw [decide_eq_true (one d m1 _ m0)] at m2
      cases m2
    · intro h
      apply Int.natCast_pos.mpr
      refine Nat.pos_of_ne_zero fun z => h fun x hx y hy => ?_
      have e : ∀ d ∈ ds, gs.getD d 0 = gs.getD (ds.getD 0 0) 0 := fun d hdd => by
        have := List.filter_eq_nil_iff.mp (List.eq_nil_of_length_eq_zero z) d hdd
        simpa using this
      rw [e x hx, e y hy]

end L2

end

section
-- KcDkR
set_option Elab.async false
set_option linter.all false
set_option maxRecDepth 100000
set_option maxHeartbeats 4000000
namespace L2
open PySem PyProof.Rows
/-! ### a dict whose keys are whole numbers -/
noncomputable def dkP (kvs : List (Key × V)) (i : Int) (v : V) : List (Key × V) :=
  if (kvs.any fun kv => decide (kv.1 = (Sum.inl i : Key))) = true then kvs.map (fun kv => if kv.1 = (Sum.inl i : Key) then (kv.1, v) else kv) else kvs ++ [((Sum.inl i : Key), v)]
noncomputable def DkI (kvs : List (Key × V)) : Prop := ∀ p ∈ kvs, ∃ i : Int, p.1 = Sum.inl i
theorem DkI.put {kvs : List (Key × V)} (h : DkI kvs) (i : Int) (v : V) : DkI (dkP kvs i v) := by
  unfold dkP
  split
  · intro p hp
    obtain ⟨q, hq, rfl⟩ := List.mem_map.mp hp
    by_cases e : q.1 = Sum.inl i
    · rw [if_pos e]; exact ⟨i, e⟩
    · rw [if_neg e]; exact h q hq
  · intro p hp
    rcases List.mem_append.mp hp with hp | hp
    · exact h p hp
    · rw [List.mem_singleton.mp hp]; exact ⟨i, rfl⟩
section
variable {σ : St} {H : Hp} {Q : VK} {a : Addr} {kvs : List (Key × V)} {i : Int} {v : V}
end
section
variable {g : CF TG} {tt : CF TT} {te : CF TE} {σ₀ : St} {Q : VK} {H : Hp}
end
end L2

end

section
-- KcLenR
set_option Elab.async false
set_option linter.all false
set_option maxRecDepth 100000
set_option maxHeartbeats 4000000
namespace L2
open PySem PyProof.Rows
/-! ### len of a dict with whole numbers as keys; list.clear; list.insert -/
end L2

end

section
-- KcRngR
set_option Elab.async false
set_option linter.all false
set_option maxRecDepth 100000
set_option maxHeartbeats 4000000
namespace L2
open PySem PyProof.Rows
/-! ### range(a, 0, -1); x is True -/
noncomputable def iRngZ (ta : TA) : TI := fun σ H R => ta σ H fun vs H1 => ∃ i : Int, vs = [.int i, .int 0, .int (-1)] ∧ 0 ≤ i ∧ i < 1000000 ∧ R (Itd i i.toNat) H1
theorem r_iRngZ {ta : TA} {σ : St} {H : Hp} {R : It → Hp → Prop} (h : ta σ H fun vs H1 => ∃ i : Int, vs = [.int i, .int 0, .int (-1)] ∧ 0 ≤ i ∧ i < 1000000 ∧ R (Itd i i.toNat) H1) : iRngZ ta σ H R := h
theorem lp_downZ {g : TG} {tb : TS} {NX : St → Hp → Prop} {RT : VK} {σ : St} {H : Hp} (n : Nat) (hn : n ≤ 1000) (Pv : Nat → St → Hp → Prop) (h0 : Pv 0 σ H) (hs : ∀ i σ H, i < n → Pv i σ H → g (.int ((n - i : Nat) : Int)) σ H fun σ2 H2 => tb { nx := Pv (i + 1), rt := RT, bk := NX, ct := Pv (i + 1) } σ2 H2) (hd : ∀ σ H, Pv n σ H → NX σ H) :
    ∃ j : Int, [V.int ((n : Int)), V.int 0, V.int (-1)] = [.int j, .int 0, .int (-1)] ∧ 0 ≤ j ∧ j < 1000000 ∧ ∃ W : Nat → Nat → St → Hp → Prop, (∃ m, W 0 m σ H) ∧ ∀ i m σ H, W i m σ H →
      ((Itd j j.toNat).stop i H ∧ NX σ H) ∨ ((Itd j j.toNat).go i H ∧ ∃ N : St → Hp → Prop, (∀ σ' H', N σ' H' → ∃ m', m' < m ∧ W (i + 1) m' σ' H') ∧ ∀ x H', (Itd j j.toNat).yld i H x H' → g x σ H' fun σ2 H2 => tb { nx := N, rt := RT, bk := NX, ct := N } σ2 H2) := by
  refine ⟨(n : Int), rfl, by omega, by omega, ?_⟩
  rw [show ((n : Int)).toNat = n by omega]
  refine for_of (J := Itd ((n : Int)) n) (n := n) (D := { nx := NX, rt := RT }) (Y := fun i H x H1 => H1 = H ∧ x = .int ((n : Int) - i)) Pv h0 (fun i σ H hi _ => hi) (fun σ H _ => Nat.le_refl n) (fun i σ H x H1 hi _ y => y) (fun i x σ H H1 hi w y => ?_) hd
  obtain ⟨rfl, rfl⟩ := y
  rw [show (n : Int) - (i : Int) = ((n - i : Nat) : Int) by omega]
  exact hs i σ _ hi w
noncomputable def isT : V → Bool
  | .bl true => true
  | _ => false
noncomputable def rIsTr : R2 := fun x y H Q => y = .bl true ∧ Q (.bl (isT x)) H
theorem r_isTr {x : V} {H : Hp} {Q : VK} (h : Q (.bl (isT x)) H) : rIsTr x (.bl true) H Q := ⟨rfl, h⟩
end L2

end

section
-- KcK50
set_option Elab.async false
set_option linter.all false
set_option maxRecDepth 100000
set_option maxHeartbeats 4000000
namespace L2
open PySem PyProof.Rows

theorem iaV_stb (o : Option Bool) : iaV (stV o) = some (iaO o) := by cases o <;> rfl
noncomputable def keyB (st : St6) (l : Nat) : MK := .inr [.inr (st.map iaO), .inl (some (l : Int))]
theorem keyB_inj {a b : St6} {l m : Nat} (h : keyB a l = keyB b m) : a = b ∧ l = m := by
  unfold keyB at h
  injection h with h
  injection h with h1 h2
  injection h1 with h1
  injection h2 with h2 _
  injection h2 with h2
  injection h2 with h2
  refine ⟨?_, by omega⟩
  clear h2
  induction a generalizing b with
  | nil => cases b with
    | nil => rfl
    | cons y b => cases h1
  | cons x a ih => cases b with
    | nil => cases h1
    | cons y b =>
      rw [List.map_cons, List.map_cons] at h1
      injection h1 with q1 q2
      rw [iaO_inj q1, ih q2]
theorem key_b {H : Hp} {t s : Addr} {st : St6} {l : Nat} (e : H t = some (.tup [.ref s, .int (l : Int)])) (es : H s = some (.tup (st.map stV))) : KeyV H (.ref t) (keyB st l) := by
  refine ⟨t, _, rfl, e, .cons ⟨s, _, rfl, es, ?_⟩ (.cons rfl .nil)⟩
  rw [List.map_map, List.map_map]
  exact List.map_congr_left fun o _ => iaV_stb o
noncomputable def Tr.path (rows : List (List Bool)) (d : Nat) : Tr → Nat
  | .goal _ => 0
  | .ask k y n => 1 + if bitR rows k d then y.path rows d else n.path rows d
theorem Tr.path_le (rows : List (List Bool)) (d : Nat) : ∀ t : Tr, t.path rows d ≤ t.depth
  | .goal _ => Nat.le_refl _
  | .ask k y n => by
    have h1 := y.path_le rows d
    have h2 := n.path_le rows d
    show 1 + (if bitR rows k d then y.path rows d else n.path rows d) ≤ 1 + max y.depth n.depth
    split <;> omega
noncomputable def sp__law_walked (_ : PySem.W.Frag) : Sp := fun vs H Q _ => ∃ (v : V) (tr : Tr) (p : Addr) (rows : List (List Bool)) (d : Nat), vs = [v, .ref p, .int (d : Int)] ∧ IsTr H tr v ∧ LsAt blL H p rows ∧ tr.within rows.length ∧ (∀ r ∈ rows, d < r.length) ∧ ∀ t H', H t = none → Same H H' → H' t = some (.tup [.int (tr.come rows d), .int (tr.path rows d : Int)]) → Q (.ref t) H'
noncomputable def t__law_walked (K : PySem.W.Frag) : TS := (tSeq (tAsg (tC (.int 0)) (gName 3))
  (tSeq (tWhile (tTest (tOp rEq (tOp (rIxT K) (tVar 0) (tC (.int 0))) (tC (.str "ask")))) (tSeq (tAsg (tOp (rIxT K) (tVar 0) (tOp (rI0 fun i j => .int (i + j)) (tC (.int 2)) (tCB cInt (tCons (tNotV (tOp (rIxL K) (tOp (rIxL K) (tVar 1) (tOp (rIxT K) (tVar 0) (tC (.int 1)))) (tVar 2))) tNil)))) (gName 0))
  (tAsg (tOp (rI0 fun i j => .int (i + j)) (tVar 3) (tC (.int 1))) (gName 3))))
  (tRet (mTup (tCons (tOp (rIxT K) (tVar 0) (tC (.int 1))) (tCons (tVar 3) tNil))))))
theorem len__law_walked {K : PySem.W.Frag} {vs : List V} {H : Hp} {Q : VK} {E : XK} (h : sp__law_walked K vs H Q E) : vs.length = 3 := by
  obtain ⟨v, tr, p, rows, d, rfl, it, A, hw, hd, q⟩ := h
  rfl
theorem rd__law_walked {K : PySem.W.Frag} {vs : List V} {H : Hp} {Q : VK} {E : XK} (h : sp__law_walked K vs H Q E) : t__law_walked K { nx := fun _ H' => Q .non H', rt := Q } (start ["_law_tree", "_law_asks", "_law_deal", "_law_many"] vs) H := by
  obtain ⟨v, tr, p, rows, d, rfl, it, A, hw, hd, q⟩ := h
  show t__law_walked K _ [some _, some _, some _, none] _
  unfold t__law_walked
  obtain ⟨rs, ep, er⟩ := A
  walk_at "rs"
  refine r_seq ?_
  walk_at "rs"
  refine r_seq ?_
  refine wh_in (fun m σ H4 => ∃ (t : Tr) (y : V) (c : Nat), σ = [some y, some (.ref p), some (.int (d : Int)), some (.int (c : Int))] ∧ H4 = H ∧ IsTr H t y ∧ t.within rows.length ∧ t.come rows d = tr.come rows d ∧ c + t.path rows d = tr.path rows d ∧ m = t.size) _ ⟨tr, v, 0, rfl, rfl, it, hw, rfl, by omega, rfl⟩ ?_
  rintro m σ H4 ⟨t, y, c, rfl, rfl, iy, wt, ht, hc, rfl⟩
  cases t with
  | goal g =>
    obtain ⟨a, rfl, ea⟩ := iy
    walk_at "rd"
    refine r_ixT (SqT.of ea) (v := .str "goal") (show atI _ ((0 : Nat) : Int) = _ from atI_nat rfl) ?_
    walk_at "rd"
    refine ite_no (by decide) ?_
    walk_at "rd"
    refine r_ixT (SqT.of ea) (v := .int g) (show atI _ ((1 : Nat) : Int) = _ from atI_nat rfl) ?_
    walk_at "rd"
    refine ⟨by simp [sizeLine_eq], fun t5 H5 ht5 s5 e5 => ?_⟩
    refine q t5 H5 ht5 s5 ?_
    have hc' : c + 0 = tr.path rows d := hc
    rw [e5, ← ht, ← hc']
    rfl
  | ask k yy nn =>
    obtain ⟨a, vy, vn, rfl, ea, iyy, inn⟩ := iy
    obtain ⟨wk, wy, wn⟩ := wt
    obtain ⟨r, hr⟩ : ∃ r, rs[k]? = some r := ⟨rs[k]'(by rw [er.len]; omega), List.getElem?_eq_getElem _⟩
    obtain ⟨row, hrw, erw⟩ := er.get hr
    have hbit : bitR rows k d = row.getD d false := by unfold bitR; rw [List.getD_eq_getElem?_getD (l := rows), hrw]; rfl
    walk_at "rd"
    refine r_ixT (SqT.of ea) (v := .str "ask") (show atI _ ((0 : Nat) : Int) = _ from atI_nat rfl) ?_
    walk_at "rd"
    refine ite_yes rfl ?_
    refine wh_go ?_
    walk_at "rd"
    refine r_ixT (SqT.of ea) (v := .int (k : Int)) (show atI _ ((1 : Nat) : Int) = _ from atI_nat rfl) ?_
    walk_at "rd"
    refine r_ixL (SqL.of ep) (refs_get hr) ?_
    walk_at "rd"
    refine r_ixL (SqL.of erw) (bls_get (row_bit (hd _ (List.mem_of_getElem? hrw)))) ?_
    walk_at "rd"
    have ht' : (if bitR rows k d then yy.come rows d else nn.come rows d) = tr.come rows d := ht
    have hc' : c + (1 + if bitR rows k d then yy.path rows d else nn.path rows d) = tr.path rows d := hc
    rw [hbit] at ht' hc'
    cases hb : row.getD d false with
    | true =>
      rw [hb, if_pos rfl] at ht' hc'
      walk_at "rd"
      refine r_ixT (SqT.of ea) (v := vy) (show atI _ ((2 : Nat) : Int) = _ from atI_nat rfl) ?_
      walk_at "rd"
      refine ⟨_, ?_, yy, vy, c + 1, rfl, rfl, iyy, wy, ht', by omega, rfl⟩
      show yy.size < 1 + yy.size + nn.size
      omega
    | false =>
      rw [hb, if_neg Bool.false_ne_true] at ht' hc'
      walk_at "rd"
      refine r_ixT (SqT.of ea) (v := vn) (show atI _ ((3 : Nat) : Int) = _ from atI_nat rfl) ?_
      walk_at "rd"
      refine ⟨_, ?_, nn, vn, c + 1, rfl, rfl, inn, wn, ht', by omega, rfl⟩
      show nn.size < 1 + yy.size + nn.size
      omega
theorem none_at : ∀ {st : St6}, 0 < cntN st → ∃ j, j < st.length ∧ st[j]? = some none
  | s :: st, h => by
    cases s with
    | none => exact ⟨0, by simp, rfl⟩
    | some b =>
      have h' : 0 < cntN st := by unfold cntN at h ⊢; rw [List.count_cons_of_ne (by simp)] at h; exact h
      obtain ⟨j, hj, e⟩ := none_at h'
      exact ⟨j + 1, by simp; omega, e⟩
noncomputable def sp__law_beaten (_ : PySem.W.Frag) : Sp := fun vs H Q _ => ∃ (pa p b c : Addr) (rows : List (List Bool)) (gs : List Int) (ds : List Nat) (k : Nat) (P : List PR) (z : Int), vs = [.ref pa, .ref p, .ref b, .ref c, .int (k : Int), .int z] ∧ 0 ≤ z ∧ z ≤ 10000000000 ∧ LsAt blL H p rows ∧ H b = some (.lst (gs.map V.int)) ∧ H c = some (.lst (natV ds)) ∧ rows.length ≤ 6 ∧ k ≤ rows.length ∧ ds.length ≤ 500 ∧ (∀ x ∈ ds, ∀ r ∈ rows, x < r.length) ∧ (∀ x ∈ ds, x < gs.length) ∧ PapAt H pa P ∧ PapOk rows gs ds (List.replicate rows.length none) k P ∧ ∀ H', Same H H' → Q (.bl true) H'
noncomputable def t__law_beaten (K : PySem.W.Frag) : TS := (tSeq (tAsg mDnewX (gName 6))
  (tSeq (tFor (iList K (tVar 0)) (gTup K 3 (gCons (gName 7) (gCons (gName 8) (gCons (gName 9) gNil)))) (tAsg (tVar 9) (gSub (tVar 6) (mTup (tCons (tVar 7) (tCons (tVar 8) tNil))) rXSet)))
  (tSeq (tAsg (tOp mRepT (mTup (tCons (tC .non) tNil)) (tCB (cLen K) (tCons (tVar 1) tNil))) (gName 7))
  (tSeq (tFor (iRngZ (tCons (tVar 4) (tCons (tC (.int 0)) (tCons (tUn (rU fun i => .int (-i)) (tC (.int 1))) tNil)))) (gName 8) (tSeq (tIfS (tTest (tOp (rXIn true) (mTup (tCons (tVar 7) (tCons (tVar 8) tNil))) (tVar 6))) (tRet (tC (.bl false))) tNext)
  (tSeq (tAsg (tComp (iRng1 (tCons (tCB (cLen K) (tCons (tVar 1) tNil)) tNil)) (fun _ _ _ _ => (gName 0)) (fun _ _ _ _ => (tTest (tOp rIsNone (tOp (rIxT K) (tVar 1) (tVar 0)) (tC .non)))) (fun _ _ _ _ => (tVar 0)) [none, some 7]) (gName 10))
  (tIfS (tTest (tOp (rI0 fun i j => .bl (decide (j < i))) (tCB (cLen K) (tCons (tVar 10) tNil)) (tC (.int 0)))) (tSeq (tAsg (tVar 5) (gName 11))
  (tSeq (tFor (iTup K (tVar 7)) (gName 12) (tAsg (tOp (rI (fun _ j => 0 < j) fun i j => .int (i % j)) (tOp (rI0 fun i j => .int (i + j)) (tOp (rI0 fun i j => .int (i + j)) (tOp (rI IntMulOk fun i j => .int (i * j)) (tVar 11) (tC (.int 3))) (tOp (rIxL K) (mLst (tCons (tC (.int 1)) (tCons (tC (.int 0)) tNil))) (tCB cInt (tCons (tOp rIsTr (tVar 12) (tC (.bl true))) tNil)))) (tCB cInt (tCons (tOp rIsNone (tVar 12) (tC .non)) tNil))) (tC (.int 1000003))) (gName 11)))
  (tSeq (tAsg (tOp (rIxL K) (tVar 10) (tOp (rI (fun _ j => 0 < j) fun i j => .int (i % j)) (tVar 11) (tCB (cLen K) (tCons (tVar 10) tNil)))) (gName 13))
  (tSeq (tAsg (tOp (mCatT K) (tOp (mCatT K) (tSl (mSlT K) (tVar 7) tNoPart (tPart (tVar 13))) (mTup (tCons (tOp (rIxL K) (tOp rXGet (tVar 6) (mTup (tCons (tVar 7) (tCons (tVar 8) tNil)))) (tVar 13)) tNil))) (tSl (mSlT K) (tVar 7) (tPart (tOp (rI0 fun i j => .int (i + j)) (tVar 13) (tC (.int 1)))) tNoPart)) (gName 7))
  (tIfS (tTest (tOp rIsNone (tOp (rIxT K) (tVar 7) (tVar 13)) (tC .non))) (tRet (tC (.bl false))) tNext))))) tNext))))
  (tRet (tCall (sp__law_unlike K) [] E0 (tCons (tVar 2) (tCons (tCall (sp__law_left K) [] E0 (tCons (tVar 1) (tCons (tVar 3) (tCons (tVar 7) tNil)))) tNil))))))))
theorem len__law_beaten {K : PySem.W.Frag} {vs : List V} {H : Hp} {Q : VK} {E : XK} (h : sp__law_beaten K vs H Q E) : vs.length = 6 := by
  obtain ⟨pa, p, b, c, rows, gs, ds, k, P, z, rfl, z0, z1, A, eb, ec, hrl, hk, hdl, hdr, hdg, PA, ok, q⟩ := h
  rfl
theorem rd__law_beaten {K : PySem.W.Frag} {vs : List V} {H : Hp} {Q : VK} {E : XK} (h : sp__law_beaten K vs H Q E) : t__law_beaten K { nx := fun _ H' => Q .non H', rt := Q } (start ["_law_paper", "_law_asks", "_law_goal", "_law_some", "_law_k", "_law_cell", "_law_answers_of", "_law_state", "_law_left_here", "_law_answers", "_law_open_ones", "_law_mixed", "_law_answer", "_law_j"] vs) H := by
  obtain ⟨pa, p, b, c, rows, gs, ds, k, P, z, rfl, z0, z1, A, eb, ec, hrl, hk, hdl, hdr, hdg, PA, ok, q⟩ := h
  show t__law_beaten K _ [some _, some _, some _, some _, some _, some _, none, none, none, none, none, none, none, none] _
  unfold t__law_beaten
  obtain ⟨ts, epa, pr⟩ := id PA
  obtain ⟨rs, ep, er⟩ := id A
  have hrs := er.len
  have htl := pr_lenP pr
  have hPl := ok.len
  walk_at "rd"
  refine m_dnewX true fun d H2 hd s2 D2 => ?_
  walk_at "rs"
  refine r_seq ?_
  walk_at "rs"
  refine lp_list (ts.map V.ref) (SqL.of (s2 _ _ epa)) (fun i σ H3 => ∃ (u7 u8 u9 : Option V) (f : MK → Option V), σ = [some (.ref pa), some (.ref p), some (.ref b), some (.ref c), some (.int (k : Int)), some (.int z), some (.ref d), u7, u8, u9, none, none, none, none] ∧ Same H H3 ∧ Dx H3 d true f i ∧ ∀ r ∈ P.take i, ∃ a, f (keyB r.st r.l) = some (.ref a) ∧ H a = some (.lst (r.ans.map stV))) ⟨_, _, _, fun _ => none, rfl, s2, D2, fun r hr => (by cases hr)⟩ ?_ ?_ ?_
  · rintro i σ H3 hi ⟨u7, u8, u9, f, rfl, s3, D3, hf⟩
    exact SqL.of (s3 _ _ epa)
  · rintro i x σ H3 hx ⟨u7, u8, u9, f, rfl, s3, D3, hf⟩
    obtain ⟨t, ht, rfl⟩ := refs_at hx
    obtain ⟨r, hr, s, a, na, et, es, ea⟩ := pr_getP pr ht
    have hiP : i < P.length := (List.getElem?_eq_some_iff.mp hr).1
    walk_at "rd"
    refine g_triple (SqT.of (s3 _ _ et)) ?_
    walk_at "rd"
    refine ⟨by simp [sizeLine_eq], fun t3 H5 ht3 s5 e5 => ?_⟩
    walk_at "rd"
    refine r_xset (D3.same s5) (key_b e5 (s5 _ _ (s3 _ _ es))) rfl (by rw [sizeLine_eq]; omega) fun H6 o6 D6 => ?_
    refine ⟨_, _, _, _, rfl, (s3.trans s5).off hd o6, D6, fun r' hr' => ?_⟩
    unfold putF_
    rw [rows_snoc hr] at hr'
    by_cases e : keyB r'.st r'.l = keyB r.st r.l
    · rw [if_pos e]
      obtain ⟨h1, h2⟩ := keyB_inj e
      -- the same row
      have same : r'.ans = r.ans := by
        rcases List.mem_append.mp hr' with hr' | hr'
        · obtain ⟨j, hj, ej⟩ := List.getElem_of_mem hr'
          rw [List.length_take] at hj
          have hjP : P[j]? = some r' := by rw [← ej, List.getElem_take]; exact List.getElem?_eq_getElem _
          have h1' : (P.map fun r => (r.st, r.l))[j]? = some (r.st, r.l) := by rw [List.getElem?_map, hjP, ← h1, ← h2]; rfl
          have h2' : (P.map fun r => (r.st, r.l))[i]? = some (r.st, r.l) := by rw [List.getElem?_map, hr]; rfl
          have := (List.getElem?_inj (by rw [List.length_map]; omega) ok.nd).mp (h1'.trans h2'.symm)
          omega
        · rw [List.mem_singleton.mp hr']
      exact ⟨a, rfl, by rw [same]; exact ea⟩
    · rw [if_neg e]
      rcases List.mem_append.mp hr' with hr' | hr'
      · exact hf r' hr'
      · exact absurd (by rw [List.mem_singleton.mp hr']) e
  · rintro σ H3 ⟨u7, u8, u9, f, rfl, s3, D3, hf⟩
    rw [List.length_map, htl, List.take_length] at hf
    have ep3 := s3 _ _ ep
    walk_at "rd"
    refine ⟨by simp [sizeLine_eq], fun t2 H4 ht2 s4 e4 => ?_⟩
    have ep4 := s4 _ _ ep3
    walk_at "rd"
    rw [List.length_map, hrs]
    refine m_repT e4 (by omega) fun t3 H5 s5 e5 => ?_
    have e5' : H5 t3 = some (.tup ((List.replicate rows.length (none : Option Bool)).map stV)) := by rw [List.map_replicate]; exact e5
    have s35 := s4.trans s5
    have s05 := s3.trans s35
    have D5 := D3.same s35
    walk_at "rd"
    refine r_iRngZ ?_
    walk_at "rd"
    refine lp_downZ k (by omega) (fun i σ H6 => ∃ (u8 u10 u11 u12 u13 : Option V) (s : Addr) (r : PR), σ = [some (.ref pa), some (.ref p), some (.ref b), some (.ref c), some (.int (k : Int)), some (.int z), some (.ref d), some (.ref s), u8, u9, u10, u11, u12, u13] ∧ Same H5 H6 ∧ H6 s = some (.tup (r.st.map stV)) ∧ r ∈ P ∧ r.l + i = k ∧ cntN r.st + i = rows.length) ?_ ?_ ?_
    · obtain ⟨r, hr, h1, h2⟩ := ok.root
      refine ⟨_, _, _, _, _, t3, r, rfl, Same.refl _, by rw [h1]; exact e5', hr, h2, ?_⟩
      rw [h1]
      unfold cntN
      rw [List.count_replicate_self]
      rfl
    · rintro i σ H6 hi ⟨u8, u10, u11, u12, u13, s, r, rfl, s6, es, hr, hrl', hcn⟩
      have hl : ((k - i : Nat) : Int) = (r.l : Int) := by omega
      rw [hl]
      obtain ⟨a, fa, ea⟩ := hf r hr
      have hsl := ok.sl r hr
      have hal := ok.ans r hr
      rw [if_neg (by omega)] at hal
      walk_at "rd"
      refine ⟨by simp [sizeLine_eq], fun t4 H7 ht4 s7 e7 => ?_⟩
      have es7 := s7 _ _ es
      have s57 := s6.trans s7
      walk_at "rd"
      refine r_xnotin (D5.same s57) (key_b e7 es7) rfl ?_
      rw [fa, show (some (V.ref a)).isNone = false from rfl]
      have ep7 := s57 _ _ (s35 _ _ ep3)
      walk_at "rd"
      rw [List.length_map, hrs]
      refine lc_range rows.length (by omega) (by omega) (by omega) (fun i acc _ => acc = natV ((List.range i).filter fun j => decide (r.st[j]? = some none))) (fun _ _ => rfl) ?_ ?_
      · rintro w hw C s' H' fp j acc H8 hj ⟨s8, e8, l8, rfl⟩
        obtain ⟨y, hy⟩ : ∃ y, r.st[j]? = some y := ⟨r.st[j]'(by omega), List.getElem?_eq_getElem (by omega)⟩
        walk_at "rd"
        refine r_ixT (SqT.of (s8 _ _ es7)) (atI_nat (st_get hy)) ?_
        walk_at "rd"
        refine r_isNone ?_
        rw [isN_st]
        walk_at "rd"
        cases y with
        | none =>
          refine iteT ?_
          walk_at "rd"
          refine CInv.put hw (fun _ _ _ _ r _ => r) s8 e8 l8 ?_
          rw [List.range_succ, List.filter_append, List.filter_cons_of_pos (by rw [hy]; rfl), List.filter_nil, ← natV_snoc]
        | some _ =>
          refine iteF ?_
          refine CInv.skip s8 e8 l8 ?_
          rw [List.range_succ, List.filter_append, List.filter_cons_of_neg (by rw [hy]; simp), List.filter_nil, List.append_nil]
      rintro w acc H8 hw s8 e8 rfl
      obtain ⟨j0, hj0, hj0n⟩ := none_at (st := r.st) (by omega)
      have hom : ∀ j ∈ (List.range rows.length).filter (fun j => decide (r.st[j]? = some none)), r.st[j]? = some none := fun j hj => of_decide_eq_true (List.mem_filter.mp hj).2
      have hopen : 0 < ((List.range rows.length).filter fun j => decide (r.st[j]? = some none)).length := List.length_pos_of_mem (List.mem_filter.mpr ⟨List.mem_range.mpr (by omega), decide_eq_true hj0n⟩)
      generalize (List.range rows.length).filter (fun j => decide (r.st[j]? = some none)) = ops at *
      have s58 := s57.trans s8
      have es8 := s8 _ _ es7
      walk_at "rd"
      rw [natV_len]
      refine ite_yes (by omega) ?_
      walk_at "rs"
      refine r_seq ?_
      walk_at "rs"
      refine r_seq ?_
      walk_at "rs"
      refine lp_tup (r.st.map stV) (SqT.of es8) (fun j σ H9 => ∃ (u12 : Option V) (mx : Int), σ = [some (.ref pa), some (.ref p), some (.ref b), some (.ref c), some (.int (k : Int)), some (.int z), some (.ref d), some (.ref s), some (.int (r.l : Int)), u9, some (.ref w), some (.int mx), u12, u13] ∧ Same H8 H9 ∧ 0 ≤ mx ∧ mx ≤ 10000000000) ⟨_, z, rfl, Same.refl _, z0, z1⟩ ?_ ?_ ?_
      · rintro j σ H9 hj ⟨u12, mx, rfl, s9, m0, m1⟩
        exact SqT.of (s9 _ _ es8)
      · rintro j x σ H9 hx ⟨u12, mx, rfl, s9, m0, m1⟩
        obtain ⟨y, hy, rfl⟩ := st_of hx
        walk_at "rd"
        refine ⟨by simp [sizeLine_eq], fun l1 H10 hl1 s10 e10 => ?_⟩
        walk_at "rd"
        refine r_isTr ?_
        walk_at "rd"
        refine r_ixL (SqL.of e10) (v := .int (if isT (stV y) = true then 0 else 1)) (by rcases y with _ | (_ | _) <;> rfl) ?_
        walk_at "rd"
        refine r_isNone ?_
        rw [isN_st]
        walk_at "rd"
        have f1 : (0 : Int) ≤ (if isT (stV y) = true then 0 else 1) ∧ (if isT (stV y) = true then (0 : Int) else 1) ≤ 1 := by split <;> omega
        have f2 : (0 : Int) ≤ (if y.isNone = true then 1 else 0) ∧ (if y.isNone = true then (1 : Int) else 0) ≤ 1 := by split <;> omega
        refine ⟨_, _, rfl, s9.trans s10, Int.emod_nonneg _ (by decide), ?_⟩
        exact Int.le_trans (Int.le_of_lt (Int.emod_lt_of_pos _ (by decide))) (by decide)
      · rintro σ H9 ⟨u12, mx, rfl, s9, m0, m1⟩
        have e9 := s9 _ _ e8
        walk_at "rd"
        rw [natV_len]
        obtain ⟨jj, hjj, hjlt⟩ : ∃ jj : Nat, mx % (ops.length : Int) = (jj : Int) ∧ jj < ops.length := by
          have a1 := Int.emod_nonneg mx (b := (ops.length : Int)) (by omega)
          have a2 := Int.emod_lt_of_pos mx (b := (ops.length : Int)) (by omega)
          exact ⟨(mx % (ops.length : Int)).toNat, by omega, by omega⟩
        walk_at "rd"
        rw [hjj]
        have hoj : ops[jj]? = some ops[jj] := List.getElem?_eq_getElem hjlt
        generalize ops[jj] = j at hoj
        have hjn := hom j (List.mem_of_getElem? hoj)
        have hjs : j < r.st.length := (List.getElem?_eq_some_iff.mp hjn).1
        obtain ⟨o, ho⟩ : ∃ o, r.ans[j]? = some o := ⟨r.ans[j]'(by omega), List.getElem?_eq_getElem (by omega)⟩
        obtain ⟨bb, rfl⟩ : ∃ bb, o = some bb := by
          cases o with
          | none => exact absurd hjn ((ok.no r hr j (by omega)).mp ho)
          | some bb => exact ⟨bb, rfl⟩
        obtain ⟨r', hr', q1, q2⟩ := ok.kid r hr j bb ho
        refine r_ixL (SqL.of e9) (v := .int (j : Int)) (atI_nat (by unfold natV; rw [List.getElem?_map, hoj]; rfl)) ?_
        have s59 := s58.trans s9
        have es9 := s9 _ _ es8
        have hl' : (r.st.map stV).length = r.st.length := List.length_map _
        walk_at "rd"
        refine m_slT (SqT.of es9) (by rw [hl', six_nat]; omega) fun p1 H11 hp1 s11 e11 => ?_
        rw [cut_head _ _ (by omega)] at e11
        walk_at "rd"
        refine ⟨by simp [sizeLine_eq], fun t5 H12 ht5 s12 e12 => ?_⟩
        have s912 := s11.trans s12
        refine r_xget (D5.same (s59.trans s912)) (key_b e12 (s912 _ _ es9)) rfl fa ?_
        walk_at "rd"
        refine r_ixL (SqL.of (s912 _ _ ((s05.trans s59) _ _ ea))) (atI_nat (st_get ho)) ?_
        walk_at "rd"
        refine ⟨by simp [sizeLine_eq], fun p2 H13 hp2 s13 e13 => ?_⟩
        refine m_catT (s13 _ _ (s12 _ _ e11)) e13 (by rw [List.length_take, sizeLine_eq]; simp; omega) fun p3 H14 s14 e14 => ?_
        walk_at "rd"
        have e : ((j : Int) + 1) = ((j + 1 : Nat) : Int) := by omega
        rw [e]
        have s914 := s912.trans (s13.trans s14)
        refine m_slT (SqT.of (s914 _ _ es9)) (by rw [hl', six_nat]; omega) fun p4 H15 hp4 s15 e15 => ?_
        rw [cut_from _ _ (by omega)] at e15
        refine m_catT (s15 _ _ e14) e15 (by rw [List.length_append, List.length_take, List.length_drop, sizeLine_eq]; simp; omega) fun p5 H16 s16 e16 => ?_
        have e16' : H16 p5 = some (.tup ((r.st.set j (some bb)).map stV)) := by
          rw [e16, List.set_eq_take_append_cons_drop, if_pos hjs, List.map_append, List.map_cons, List.map_take, List.map_drop, List.append_assoc]
          rfl
        have hset : (r.st.set j (some bb))[j]? = some (some bb) := List.getElem?_set_self hjs
        walk_at "rd"
        refine r_ixT (SqT.of e16') (atI_nat (st_get hset)) ?_
        walk_at "rd"
        refine r_isNone ?_
        walk_at "rd"
        refine iteF ?_
        walk_at "rd"
        have hcs := cntN_set (a := bb) hjn
        refine ⟨_, _, _, _, _, p5, r', rfl, s59.trans (s914.trans (s15.trans s16)), by rw [q1]; exact e16', hr', by omega, ?_⟩
        rw [q1]
        omega
    · rintro σ H6 ⟨u8, u10, u11, u12, u13, s, r, rfl, s6, es, hr, hrl', hcn⟩
      have s06 := s05.trans s6
      walk_at "rd"
      refine ⟨p, c, s, rows, r.st, ds, rfl, A.same s06, s06 _ _ ec, es, hdr, by omega, by omega, ok.sl r hr, fun fl H8 hfl s8 e8 => ?_⟩
      walk_at "rd"
      refine ⟨b, fl, gs, ds.filter (okS rows r.st), rfl, (s06.trans s8) _ _ eb, e8, fun x hx => hdg x (List.mem_filter.mp hx).1, Nat.le_trans (List.length_filter_le _ _) (by omega), fun kb H9 s9 hkb => ?_⟩
      have hkt : kb = true := hkb.mpr (ok.one r hr)
      subst hkt
      exact q _ (s06.trans (s8.trans s9))
noncomputable abbrev sp_law (K : PySem.W.Frag) : Sp := spLaw K
noncomputable def t_law (K : PySem.W.Frag) : TS := (tSeq (tAsg (tCall (sp__law_case K) [] E0 (tCons (tVar 0) tNil)) (gTup K 3 (gCons (gName 1) (gCons (gName 2) (gCons (gName 3) gNil)))))
  (tSeq (tAsg (tCall (sp_fewest K) [] E0 (tCons (tVar 1) (tCons (tVar 2) (tCons (tVar 3) tNil)))) (gName 4))
  (tSeq (tAsg (tOp (rI (fun _ j => 0 < j) fun i j => .int (i % j)) (tCall (sp__law_cell_at K) [] E0 (tCons (tVar 0) (tCons (tC (.int 16)) tNil))) (tOp (rI0 fun i j => .int (i + j)) (tCB (cLen K) (tCons (tVar 1) tNil)) (tC (.int 1)))) (gName 5))
  (tSeq (tIfS (tTest (tOp rIsnNone (tVar 4) (tC .non))) (tSeq (tAsg (tCall (sp_tree_of K) [] E0 (tCons (tVar 1) (tCons (tVar 2) (tCons (tVar 3) tNil)))) (gName 6))
  (tSeq (tFor (iList K (tVar 3)) (gName 7) (tSeq (tAsg (tCall (sp__law_walked K) [] E0 (tCons (tVar 6) (tCons (tVar 1) (tCons (tVar 7) tNil)))) (gTup K 2 (gCons (gName 8) (gCons (gName 9) gNil))))
  (tIfS (tOr (tTest (tOp rNe (tVar 8) (tOp (rIxL K) (tVar 2) (tVar 7)))) (tTest (tOp (rI0 fun i j => .bl (decide (j < i))) (tVar 9) (tVar 4)))) (tRet (tC (.bl false))) tNext)))
  (tAsg (tOp (rI0 fun i j => .int (i - j)) (tVar 4) (tC (.int 1))) (gName 5)))) tNext)
  (tSeq (tIfS (tTest (tOp (rI0 fun i j => .bl (decide (i < j))) (tVar 5) (tC (.int 0)))) (tRet (tOp rIsNone (tCall (sp_too_few K) [] E0 (tCons (tVar 1) (tCons (tVar 2) (tCons (tVar 3) (tCons (tC (.int 0)) tNil))))) (tC .non))) tNext)
  (tSeq (tAsg (tCall (sp_too_few K) [] E0 (tCons (tVar 1) (tCons (tVar 2) (tCons (tVar 3) (tCons (tVar 5) tNil))))) (gName 10))
  (tSeq (tFor (iList K (tCall (sp__law_stream K) [] E0 (tCons (tCall (sp__law_cell_at K) [] E0 (tCons (tVar 0) (tCons (tC (.int 17)) tNil))) (tCons (tC (.int 80)) (tCons (tC (.int 4)) tNil))))) (gName 11) (tIfS (tNot (tB (tCall (sp__law_beaten K) [] E0 (tCons (tVar 10) (tCons (tVar 1) (tCons (tVar 2) (tCons (tVar 3) (tCons (tVar 5) (tCons (tVar 11) tNil))))))))) (tRet (tC (.bl false))) tNext))
  (tRet (tC (.bl true))))))))))
theorem len_law {K : PySem.W.Frag} {vs : List V} {H : Hp} {Q : VK} {E : XK} (h : sp_law K vs H Q E) : vs.length = 1 := by
  obtain ⟨a, ns, rfl, hSc, g⟩ := h
  rfl
theorem rd_law {K : PySem.W.Frag} {vs : List V} {H : Hp} {Q : VK} {E : XK} (h : sp_law K vs H Q E) : t_law K { nx := fun _ H' => Q .non H', rt := Q } (start ["_law_script", "_law_asks", "_law_goal", "_law_some", "_law_least", "_law_k", "_law_tree", "_law_deal", "_law_told_goal", "_law_many", "_law_paper", "_law_cell"] vs) H := by
  obtain ⟨a, ns, rfl, hSc, g⟩ := h
  show t_law K _ [some _, none, none, none, none, none, none, none, none, none, none, none] _
  unfold t_law
  walk_at "rd"
  refine ⟨a, ns, rfl, hSc, fun t p b c rows gs ds m H1 s1 e1 Z => ?_⟩
  refine g_triple (SqT.of e1) ?_
  have h6 := Z.six
  have h60 := Z.dl
  have hdr : ∀ d ∈ ds, ∀ r ∈ rows, d < r.length := fun d hd r hr => by rw [Z.row r hr]; exact Z.dm d hd
  have hdg : ∀ d ∈ ds, d < gs.length := fun d hd => by rw [Z.gl]; exact Z.dm d hd
  have un : ∀ R : List (List Bool), ∀ G : List Int, ∀ D : List Nat, need R G D (List.replicate R.length none) = need0 R G D := fun _ _ _ => rfl
  walk_at "rd"
  refine ⟨p, b, c, rows, gs, ds, rfl, Z.asks, Z.goal, Z.some_, h6, (by omega), hdr, hdg, fun H2 s2 => ?_⟩
  rw [un]
  have Z2 := Z.same s2
  have hSc2 := hSc.same (s1.trans s2)
  have hnl : ∀ n, need0 rows gs ds = some n → n ≤ rows.length := fun n hn => by
    have := need_le _ rfl hn
    unfold cntN at this
    rw [List.count_replicate_self] at this
    exact this
  obtain ⟨rs, ep, er⟩ := id Z2.asks
  have hrs := er.len
  walk_at "rd"
  refine ⟨a, ns, 16, rfl, hSc2, by decide, ?_⟩
  walk_at "rs"
  rw [List.length_map, hrs]
  obtain ⟨k0, hk0, hk0l⟩ : ∃ k0 : Nat, cellZ ns 16 % ((rows.length : Int) + 1) = (k0 : Int) ∧ k0 ≤ rows.length := by
    have a1 := Int.emod_nonneg (cellZ ns 16) (b := (rows.length : Int) + 1) (by omega)
    have a2 := Int.emod_lt_of_pos (cellZ ns 16) (b := (rows.length : Int) + 1) (by omega)
    exact ⟨(cellZ ns 16 % ((rows.length : Int) + 1)).toNat, by omega, by omega⟩
  rw [hk0]
  refine r_seq_n fun NX hNX => ?_
  have key : ∀ (k : Int) (u6 u7 u8 u9 : Option V) (H3 : Hp), Same H2 H3 → -1 ≤ k → k ≤ rows.length → (k = -1 → need0 rows gs ds = some 0) → (0 ≤ k → tooB (need0 rows gs ds) k = true) → NX [some (.ref a), some (.ref p), some (.ref b), some (.ref c), some (optV (need0 rows gs ds)), some (.int k), u6, u7, u8, u9, none, none] H3 := by
    intro k u6 u7 u8 u9 H3 s3 hk1 hk2 hkm hkt
    have Z3 := Z2.same s3
    refine hNX _ _ ?_
    walk_at "rd"
    refine ite_dec (fun h => ?_) (fun h => ?_)
    · have hn := hkm (by omega)
      have ht : tooB (need0 rows gs ds) 0 = false := by rw [hn]; rfl
      walk_at "rd"
      refine ⟨p, b, c, rows, gs, ds, 0, rfl, Z3.asks, Z3.goal, Z3.some_, h6, (by omega), hdr, hdg, fun _ H4 s4 => ?_, fun hh => by rw [ht] at hh; cases hh⟩
      walk_at "rd"
      refine r_isNone ?_
      exact g _
    · have ht := hkt (by omega)
      walk_at "rd"
      refine ⟨p, b, c, rows, gs, ds, k, rfl, Z3.asks, Z3.goal, Z3.some_, h6, (by omega), hdr, hdg, (fun hh => by rw [ht] at hh; cases hh), fun _ pa kn P H4 hkn hpa s4 a4 ok4 => ?_⟩
      subst hkn
      have Z4 := Z3.same s4
      walk_at "rd"
      refine ⟨a, ns, 17, rfl, hSc2.same (s3.trans s4), by decide, ?_⟩
      walk_at "rd"
      refine ⟨cellZ ns 17, 80, 4, rfl, by omega, by omega, fun sl xs H5 hsl s5 e5 l5 z5 => ?_⟩
      walk_at "rd"
      refine lp_list (xs.map V.int) (SqL.of e5) (fun i σ H6 => ∃ (u11 : Option V), σ = [some (.ref a), some (.ref p), some (.ref b), some (.ref c), some (optV (need0 rows gs ds)), some (.int (kn : Int)), u6, u7, u8, u9, some (.ref pa), u11] ∧ Same H5 H6) ⟨_, rfl, Same.refl _⟩ ?_ ?_ ?_
      · rintro i σ H6 hi ⟨u11, rfl, s6⟩
        exact SqL.of (s6 _ _ e5)
      · rintro i x σ H6 hx ⟨u11, rfl, s6⟩
        obtain ⟨y, hy, rfl⟩ := int_at hx
        obtain ⟨y0, y1⟩ := z5 _ (List.mem_of_getElem? hy)
        have s46 := s5.trans s6
        have Z6 := Z4.same s46
        walk_at "rd"
        refine ⟨pa, p, b, c, rows, gs, ds, kn, P, y, rfl, y0, by omega, Z6.asks, Z6.goal, Z6.some_, h6, by omega, (by omega), hdr, hdg, a4.same s46, ok4, fun H7 s7 => ?_⟩
        walk_at "rd"
        exact ⟨_, rfl, s6.trans s7⟩
      · rintro σ H6 ⟨u11, rfl, s6⟩
        walk_at "rd"
        exact g _
  cases hn : need0 rows gs ds with
  | none =>
    rw [hn] at key
    walk_at "rs"
    refine r_isnNone ?_
    walk_at "rs"
    refine iteF ?_
    walk_at "rs"
    refine key _ _ _ _ _ H2 (Same.refl _) (by omega) (by omega) (by omega) fun _ => ?_
    show (decide (0 ≤ (k0 : Int)) && decide ((k0 : Int) ≤ 6)) = true
    rw [decide_eq_true (by omega), decide_eq_true (by omega)]
    rfl
  | some n =>
    have hn' := hnl n hn
    rw [hn] at key
    walk_at "rs"
    refine r_isnNone ?_
    walk_at "rs"
    refine iteT ?_
    walk_at "rs"
    refine r_seq ?_
    walk_at "rs"
    refine ⟨p, b, c, rows, gs, ds, rfl, Z2.asks, Z2.goal, Z2.some_, h6, (by omega), hdr, hdg, (fun h => by rw [hn] at h; cases h), fun m' hm' v tr H3 s3 i3 o3 => ?_⟩
    rw [hn] at hm'
    cases hm'
    have Z3 := Z2.same s3
    walk_at "rs"
    refine r_seq ?_
    walk_at "rs"
    refine lp_list (natV ds) (SqL.of Z3.some_) (fun i σ H4 => ∃ (u7 u8 u9 : Option V), σ = [some (.ref a), some (.ref p), some (.ref b), some (.ref c), some (optV (some n)), some (.int (k0 : Int)), some v, u7, u8, u9, none, none] ∧ Same H3 H4) ⟨_, _, _, rfl, Same.refl _⟩ ?_ ?_ ?_
    · rintro i σ H4 hi ⟨u7, u8, u9, rfl, s4⟩
      exact SqL.of (s4 _ _ Z3.some_)
    · rintro i x σ H4 hx ⟨u7, u8, u9, rfl, s4⟩
      obtain ⟨d, hdi, rfl⟩ := nat_of hx
      have hdm := List.mem_of_getElem? hdi
      have Z4 := Z3.same s4
      walk_at "rd"
      refine ⟨v, tr, p, rows, d, rfl, i3.same s4, Z4.asks, o3.low, fun r hr => hdr d hdm r hr, fun t5 H5 ht5 s5 e5 => ?_⟩
      refine g_pair (SqT.of e5) ?_
      rw [o3.tell d (by rw [okS_none]; exact hdm)]
      have Z5 := Z4.same s5
      walk_at "rd"
      refine r_ixL (SqL.of Z5.goal) (goal_at (hdg d hdm)) ?_
      walk_at "rd"
      refine ite_ndec (fun h => absurd rfl h) (fun _ => ?_)
      walk_at "rd"
      have hple := Tr.path_le rows d tr
      rw [o3.deep] at hple
      refine r_I0 (i := (tr.path rows d : Int)) (j := (n : Int)) ?_
      walk_at "rd"
      refine ite_no (by omega) ?_
      walk_at "rd"
      exact ⟨_, _, _, rfl, s4.trans s5⟩
    · rintro σ H4 ⟨u7, u8, u9, rfl, s4⟩
      walk_at "rs"
      refine r_I0 (i := (n : Int)) (j := 1) ?_
      walk_at "rs"
      refine key _ _ _ _ _ H4 (s3.trans s4) (by omega) (by omega) (fun h => by rw [show n = 0 by omega]) fun h => ?_
      show (decide (0 ≤ (n : Int) - 1) && decide ((n : Int) - 1 < (n : Int))) = true
      rw [decide_eq_true h, decide_eq_true (by omega)]
      rfl

end L2

end

section
-- KcNew
set_option Elab.async false
set_option linter.all false
set_option maxRecDepth 100000
set_option maxHeartbeats 4000000
namespace L2
open PySem PySem.Spec PyProof.Rows
theorem Room.units64 {k : Nat} {A : Around} (r : Room k A) : A.units + 64 < cLine := by have := r.un; omega
section
variable {X : Cx}
theorem OpR.weak {f : Value → Value → Sem Value} {r r' : R2} (h : OpR X f r) (w : ∀ x y H Q, r' x y H Q → r x y H Q) : OpR X f r' := fun pins s σ H x y v u Q I rx ry q => h pins s σ H x y v u Q I rx ry (w x y H Q q)
theorem CallR.weak {f : Value} {r r' : List V → Hp → VK → Prop} (h : CallR X f r) (w : ∀ xs H Q, r' xs H Q → r xs H Q) : CallR X f r' := fun pins s σ H xs us Q I rx q => h pins s σ H xs us Q I rx (w xs H Q q)
theorem om_catT : OpR X (binaryOp .Add) (mCatT X.K) := op_catG.weak fun _ _ _ _ h => mCatT_G h
end
section
variable {X : Cx} {es : List Expr} {t : TA} {pos : Pos}
theorem pm_tup {x1} (h : PA X es t) : PE X (.Tuple es x1 pos) (mTup t) := by
  intro pins s σ H Q I hq
  refine wpAny_Tuple_spliced (thn (h pos pins s σ H _ I hq) fun us s1 ⟨xs, H1, I1, r, z, q⟩ => ⟨by rw [← r.length]; exact z, ?_⟩)
  have hf : H1 s1.heap.objs.size = none := I1.hok.fresh (Nat.le_refl _)
  refine ⟨.ref s1.heap.objs.size, upd H1 s1.heap.objs.size (.tup xs), I1.laid (t' := s1.toks) (fun b u e => Heap.get?_push_of_some _ e) (Nat.le_refl _) ?_, rfl, q.upd _ hf⟩
  exact ⟨z, us, r, IsTupD.new _ _⟩
theorem pm_lst (h : PA X es t) : PE X (.List es pos) (mLst t) := by
  intro pins s σ H Q I hq
  refine wpAny_List_spliced (thn (h pos pins s σ H _ I hq) fun us s1 ⟨xs, H1, I1, r, z, q⟩ => ⟨by rw [← r.length]; exact z, ?_⟩)
  have hf : H1 s1.heap.objs.size = none := I1.hok.fresh (Nat.le_refl _)
  refine ⟨.ref s1.heap.objs.size, upd H1 s1.heap.objs.size (.lst xs), I1.laid (t' := s1.toks) (fun b u e => Heap.get?_push_of_some _ e) (Nat.le_refl _) ?_, rfl, q.upd _ hf⟩
  exact ⟨z, us, 0, r, Heap.get?_push_size _ rfl⟩
end
/-! ### arguments, names: what is read off the text once -/
section
variable {X : Cx} {es : List Expr} {te : TE} {t : TA}
theorem pac_Constant {v : Const} {j : Nat} {p : Pos} (ha : PE X (.Constant v j p) te) (hr : PA X es t) : PA X (.Constant v j p :: es) (tCons te t) := pa_cons ha hr rfl
theorem pac_Name {x : Str} {p : Pos} (ha : PE X (.Name x p) te) (hr : PA X es t) : PA X (.Name x p :: es) (tCons te t) := pa_cons ha hr rfl
theorem pac_BinOp {a b : Expr} {o : Operator} {p : Pos} (ha : PE X (.BinOp a o b p) te) (hr : PA X es t) : PA X (.BinOp a o b p :: es) (tCons te t) := pa_cons ha hr rfl
theorem pac_UnaryOp {a : Expr} {o : UnaryOp} {p : Pos} (ha : PE X (.UnaryOp o a p) te) (hr : PA X es t) : PA X (.UnaryOp o a p :: es) (tCons te t) := pa_cons ha hr rfl
theorem pac_Call {f : Expr} {as : List Expr} {ks : List Keyword} {p : Pos} (ha : PE X (.Call f as ks p) te) (hr : PA X es t) : PA X (.Call f as ks p :: es) (tCons te t) := pa_cons ha hr rfl
theorem pac_Subscript {a b : Expr} {p : Pos} (ha : PE X (.Subscript a b p) te) (hr : PA X es t) : PA X (.Subscript a b p :: es) (tCons te t) := pa_cons ha hr rfl
theorem pac_Compare {a : Expr} {os : List CmpOp} {bs : List Expr} {p : Pos} (ha : PE X (.Compare a os bs p) te) (hr : PA X es t) : PA X (.Compare a os bs p :: es) (tCons te t) := pa_cons ha hr rfl
theorem pac_Dict {ks : List (Option Expr)} {vs : List Expr} {p : Pos} (ha : PE X (.Dict ks vs p) te) (hr : PA X es t) : PA X (.Dict ks vs p :: es) (tCons te t) := pa_cons ha hr rfl
theorem pac_ListComp {e : Expr} (ha : PE X e te) (hr : PA X es t) (hs : starEach (e :: es) X.env = (false, eval e X.env) :: starEach es X.env := by rfl) : PA X (e :: es) (tCons te t) := pa_cons ha hr hs
structure VarAt (N : List Str) (sc : Scope) (i : Nat) (x : Str) : Prop where
  n : N[i]? = some x
  v : Vis sc x
  d : (x == ("__debug__" : Str)) = false
  c : (x == ("__classdict__" : Str)) = false
theorem pvQ {N : List Str} {sc : Scope} {i : Nat} {x : Str} {pos : Pos} (h : VarAt N sc i x) (hN : X.N = N) (hS : X.env.scope = sc) : PE X (.Name x pos) (tVar i) := by
  subst hN hS
  exact pe_var h.n h.v h.d h.c
end
end L2

end

section
-- KcForms
set_option Elab.async false
set_option linter.all false
set_option maxRecDepth 100000
set_option maxHeartbeats 4000000
namespace L2
open PySem PySem.Spec PyProof.Rows
theorem sm_tup {X : Cx} : SlR X (mSlT X.K) := fun pins s σ H x v vl vu lo hi sl Q I rx hs pl pu ⟨a, xs, e, h, n, q⟩ => sl_tup pins s σ H x v vl vu lo hi sl Q I rx hs pl pu ⟨a, xs, e, h, n, q.upd⟩
/-! ### a dict of the module's own -/
noncomputable def KDict (P : Program) (w : World) (K : PySem.W.Frag) (a : Addr) (kvs : List (Str × V)) : Prop :=
  (a == sysModules) = false ∧ ∃ (o : Obj) (es : Array DictEntry) (ep : Nat) (vs : List (Key × Value)), K.lookup a = some o ∧ o.ExactDict ∧ o.data = .dict es ep ∧ KeysOf (mixKind P w) es ∧ Pairs (mixKind P w) es.toList vs ∧ (vs.map (·.1)).Nodup ∧
    Paired (fun (p : Str × V) (q : Key × Value) => q.1 = .inr p.1 ∧ RelV p.2 q.2) kvs vs
section
variable {X : Cx} {o i : Expr} {pos : Pos} {td ty : TE} {a : Addr} {kvs : List (Str × V)}
theorem KDict.of {pins : List (Addr × Obj)} {σ : St} {H : Hp} {s : Shared} (D : KDict X.prog X.w X.K a kvs) (I : Inv X pins σ H s) : ∃ vs, s.heap.DictOf (mixKind X.prog X.w) a vs ∧ Paired (fun (p : Str × V) (q : Key × Value) => q.1 = .inr p.1 ∧ RelV p.2 q.2) kvs vs := by
  obtain ⟨_, o, es, ep, vs, lk, ex, hd, hk, hp, nd, rel⟩ := D
  exact ⟨vs, ⟨o, es, ep, I.kIn a o lk, ex, hd, hk, hp, nd⟩, rel⟩
end
end L2

end

section
-- KcMap
set_option Elab.async false
set_option linter.all false
set_option maxRecDepth 100000
set_option maxHeartbeats 4000000
namespace L2
open PySem PySem.Spec PyProof.Rows
/-! ### the object's rules -/
theorem DA.stay {a : Addr} {kvs : List (IA × V)} {h1 h2 : Heap} (d : DA a kvs h1) (k : ∀ o, h1.get? a = some o → h2.get? a = some o) : DA a kvs h2 := by
  obtain ⟨z, y, P, w, vs, r, o, es, ep, e, c⟩ := d
  exact ⟨z, y, P, w, vs, r, o, es, ep, k _ e, c⟩
theorem DB.stay {a : Addr} {zs : List (List IK × Addr × V)} {h1 h2 : Heap} (d : DB a zs h1) (k : ∀ o, h1.get? a = some o → h2.get? a = some o) : DB a zs h2 := by
  obtain ⟨z, y, xs, r, o, es, ep, e, c⟩ := d
  exact ⟨z, y, xs, r, o, es, ep, k _ e, c⟩
theorem DA.ok {P : Program} {w : World} {H : Hp} {h : Heap} {a : Addr} {kvs : List (IA × V)} (d : DA a kvs h) : ObjOk P w H h a (dA a kvs) := by
  obtain ⟨_, _, _, _, _, _, o, _, _, e, _⟩ := id d
  exact ⟨d, ⟨o, e⟩, fun _ _ d k => d.stay k⟩
theorem DB.ok {P : Program} {w : World} {H : Hp} {h : Heap} {a : Addr} {zs : List (List IK × Addr × V)} (d : DB a zs h) : ObjOk P w H h a (dB a zs) := by
  obtain ⟨_, _, _, _, o, _, _, e, _⟩ := id d
  exact ⟨d, ⟨o, e⟩, fun _ _ d k => d.stay k⟩
theorem ZX.length {zs : List (List IK × Addr × V)} {xs : List (List IK × Addr × Value)} (r : ZX zs xs) : zs.length = xs.length := Paired.length r
theorem ZX.val {zs : List (List IK × Addr × V)} {xs : List (List IK × Addr × Value)} (r : ZX zs xs) (k : List IK) : RelO (atZ zs k) ((atKey xs k).map (·.2)) := by
  unfold ZX at r
  induction r with
  | nil => exact True.intro
  | @cons p q ps qs h t ih =>
    obtain ⟨h1, _, h2⟩ := h
    by_cases e : p.1 = k
    · have e' : q.1 = k := h1.symm.trans e
      have b : atKey (q :: qs) k = some q.2 := by simp [atKey, List.find?_cons, e']
      have c : atZ (p :: ps) k = some p.2.2 := by simp [atZ, List.find?_cons, e]
      rw [c, b]; exact h2
    · have e' : ¬ q.1 = k := fun z => e (h1.trans z)
      have b : atKey (q :: qs) k = atKey qs k := by simp [atKey, List.find?_cons, e']
      have c : atZ (p :: ps) k = atZ ps k := by simp [atZ, List.find?_cons, e]
      rw [c, b]; exact ih
noncomputable def putZ (zs : List (List IK × Addr × V)) (k : List IK) (b : Addr) (v : V) : List (List IK × Addr × V) :=
  if (atZ zs k).isSome then zs.map (fun x => if x.1 = k then (x.1, x.2.1, v) else x) else zs ++ [(k, b, v)]
theorem ZX.repl {zs : List (List IK × Addr × V)} {xs : List (List IK × Addr × Value)} (r : ZX zs xs) (k : List IK) {v : V} {u : Value} (rv : RelV v u) : ZX (zs.map fun x => if x.1 = k then (x.1, x.2.1, v) else x) (xs.map (putAt k u)) := by
  unfold ZX at r ⊢
  induction r with
  | nil => exact .nil
  | @cons p q ps qs h t ih =>
    rw [List.map_cons, List.map_cons]
    refine .cons ?_ ih
    obtain ⟨h1, h2, h3⟩ := h
    unfold putAt
    by_cases e : p.1 = k
    · rw [if_pos e, if_pos (h1.symm.trans e)]; exact ⟨h1, h2, rv⟩
    · rw [if_neg e, if_neg (fun z => e (h1.trans z))]; exact ⟨h1, h2, h3⟩
theorem ZX.put {zs : List (List IK × Addr × V)} {xs : List (List IK × Addr × Value)} (r : ZX zs xs) (k : List IK) {b : Addr} {v : V} {u : Value} (rv : RelV v u) : ZX (putZ zs k b v) (storedH xs k b u) := by
  have e : (atZ zs k).isSome = (atKey xs k).isSome := by
    rw [(r.val k).isSome_eq, Option.isSome_map]
  unfold putZ storedH
  rw [e]
  by_cases q : (atKey xs k).isSome = true
  · rw [if_pos q, if_pos q]; exact r.repl k rv
  · rw [if_neg q, if_neg q]; exact Paired.snoc r ⟨rfl, rfl, rv⟩
theorem atZ_put (zs : List (List IK × Addr × V)) (k j : List IK) (b : Addr) (v : V) : atZ (putZ zs k b v) j = if j = k then some v else atZ zs j := by
  have hm : ∀ ys : List (List IK × Addr × V), atZ (ys.map fun x => if x.1 = k then (x.1, x.2.1, v) else x) j = (atZ ys j).map fun y => if j = k then v else y := by
    intro ys
    induction ys with
    | nil => rfl
    | cons p r ih =>
      rw [List.map_cons]
      unfold atZ at ih ⊢
      by_cases h : p.1 = k
      · rw [if_pos h]
        by_cases e : p.1 = j
        · simp [List.find?_cons, e, e.symm.trans h]
        · simp [List.find?_cons, e]; simpa using ih
      · rw [if_neg h]
        by_cases e : p.1 = j
        · have : ¬ j = k := fun z => h (e.trans z)
          simp [List.find?_cons, e, this]
        · simp [List.find?_cons, e]; simpa using ih
  have ha : ∀ ys : List (List IK × Addr × V), atZ ys k = none → atZ (ys ++ [(k, b, v)]) j = if j = k then some v else atZ ys j := by
    intro ys
    induction ys with
    | nil =>
      intro _
      by_cases e : k = j
      · simp [atZ, List.find?_cons, e]
      · have : ¬ j = k := fun z => e z.symm
        simp [atZ, List.find?_cons, e, this]
    | cons p r ih =>
      intro hn
      have hk : ¬ p.1 = k := fun z => by simp [atZ, List.find?_cons, z] at hn
      have hn' : atZ r k = none := by simpa [atZ, List.find?_cons, hk] using hn
      have ih' := ih hn'
      by_cases e : p.1 = j
      · have : ¬ j = k := fun z => hk (e.trans z)
        simp [atZ, List.find?_cons, e, this]
      · have c : atZ (p :: (r ++ [(k, b, v)])) j = atZ (r ++ [(k, b, v)]) j := by simp [atZ, List.find?_cons, e]
        have c' : atZ (p :: r) j = atZ r j := by simp [atZ, List.find?_cons, e]
        rw [List.cons_append, c, c', ih']
  unfold putZ
  cases q : atZ zs k with
  | some y =>
    rw [if_pos (show (some y).isSome = true from rfl), hm]
    by_cases e : j = k
    · subst e; rw [q, if_pos rfl]; simp
    · rw [if_neg e]; cases atZ zs j <;> simp [e]
  | none => rw [if_neg (show ¬ (none : Option V).isSome = true by decide)]; exact ha zs q
theorem length_putZ (zs : List (List IK × Addr × V)) (k : List IK) (b : Addr) (v : V) : (putZ zs k b v).length ≤ zs.length + 1 := by
  unfold putZ
  split
  · rw [List.length_map]; omega
  · rw [List.length_append, List.length_cons, List.length_nil]; omega
theorem mem_putZ {zs : List (List IK × Addr × V)} {k : List IK} {b : Addr} {v : V} {z : List IK × Addr × V} (h : z ∈ putZ zs k b v) : (∃ z0 ∈ zs, z.1 = z0.1 ∧ z.2.1 = z0.2.1) ∨ (z.1 = k ∧ z.2.1 = b) := by
  unfold putZ at h
  split at h
  · obtain ⟨z0, h0, rfl⟩ := List.mem_map.mp h
    refine .inl ⟨z0, h0, ?_⟩
    split <;> exact ⟨rfl, rfl⟩
  · rcases List.mem_append.mp h with h | h
    · exact .inl ⟨z, h, rfl, rfl⟩
    · rw [List.mem_singleton.mp h]; exact .inr ⟨rfl, rfl⟩
section
variable {X : Cx} {pins : List (Addr × Obj)} {σ : St} {H : Hp} {s : Shared} {a : Addr} {y v : V} {u r : Value} {A : Around} {E : Value → Shared → Prop} {srt : Bool} {f : MK → Option V} {n : Nat} {k : MK}
theorem ia_is {k : IA} (h : iaV y = some k) (ry : RelV y u) : iaIs k u = true := by
  cases y with
  | non => cases h; cases ry; rfl
  | bl b => cases h; cases ry; simp [iaIs]
  | int i => cases h; obtain ⟨t, rfl⟩ := ry; simp [iaIs]
  | _ => cases h
theorem ias_are {P : Program} {w : World} : ∀ {ks : List IA} {ys : List V} {us : List Value}, ys.map iaV = ks.map some → Vals ys us → ItemsAre (iaKind P w) ks us
  | [], [], _, _, .nil => .nil
  | k :: ks, y :: ys, _, e, .cons h t => by
    rw [List.map_cons, List.map_cons] at e
    injection e with e1 e2
    exact .cons (ia_is e1 h) (ias_are e2 t)
  | [], _ :: _, _, e, _ => by simp at e
  | _ :: _, [], _, e, _ => by simp at e
theorem tup_at (ok : HOk X.prog X.w H s.heap) {c : Addr} {xs : List V} (e : H c = some (.tup xs)) : ∃ its, Vals xs its ∧ ∃ o n, s.heap.get? c = some o ∧ o.cls = .type "tuple" ∧ o.data = .seq its.toArray n := by
  obtain ⟨_, its, r, o, h1, h2, ⟨n, h3⟩, _⟩ := (show ObjOk X.prog X.w H s.heap c (.tup xs) from ok c _ e)
  exact ⟨its, r, o, n, h1, h2, h3⟩
theorem item_is (ok : HOk X.prog X.w H s.heap) {k : IK} (h : ItemV H y k) (ry : RelV y u) : ItemIs X.prog X.w s.heap k u := by
  cases k with
  | inl a => exact ia_is h ry
  | inr as =>
    obtain ⟨c, ys, rfl, e, q⟩ := h
    cases ry
    obtain ⟨its, rv, o, n, h1, h2, h3⟩ := tup_at ok e
    exact ⟨c, rfl, o, its.toArray, n, h1, h2, h3, by simpa using ias_are q rv⟩
theorem items_is (ok : HOk X.prog X.w H s.heap) {xs : List V} {ks : List IK} {us : List Value} (p : Paired (ItemV H) xs ks) : Vals xs us → Paired (ItemIs X.prog X.w s.heap) ks us := by
  induction p generalizing us with
  | nil => intro q; cases q; exact .nil
  | cons h t ih => intro q; cases q with
    | cons r q => exact .cons (item_is ok h r) (ih q)
theorem tk_is (ok : HOk X.prog X.w H s.heap) {c : Addr} {ks : List IK} (h : KeyV H (.ref c) (.inr ks)) : IsTk X.prog X.w s.heap ks c := by
  obtain ⟨c', xs, e, ec, q⟩ := h
  cases e
  obtain ⟨its, rv, o, n, h1, h2, h3⟩ := tup_at ok ec
  exact ⟨o, its.toArray, n, h1, h2, h3, by simpa using items_is ok q rv⟩
theorem key_ref (h : KeyV H y k) (hs : kSort k = true) : ∃ c ks, y = .ref c ∧ k = .inr ks := by
  cases k with
  | inl _ => cases hs
  | inr ks => obtain ⟨c, xs, e, _⟩ := h; exact ⟨c, ks, e, rfl⟩
theorem pairs_any {P P' : Program} {w w' : World} {es : List DictEntry} {vs : List (IA × Value)} (h : Pairs (iaKind P w) es vs) : Pairs (iaKind P' w') es vs := by
  induction h with
  | nil => exact .nil
  | cons a b _ ih => exact .cons a b ih
theorem da_of {kvs : List (IA × V)} (ok : HOk X.prog X.w H s.heap) (e : H a = some (dA a kvs)) : kvs.length ≤ sizeLine ∧ (a == sysModules) = false ∧ ∃ vs, KV kvs vs ∧ s.heap.DictOf (iaKind X.prog X.w) a vs := by
  obtain ⟨⟨z, y, P, w, vs, r, o, es, ep, h1, h2, h3, h4, h5, h6⟩, _⟩ := (show ObjOk X.prog X.w H s.heap a (dA a kvs) from ok a _ e)
  exact ⟨z, y, vs, r, o, es, ep, h1, h2, h3, h4, pairs_any h5, h6⟩
theorem db_of {zs : List (List IK × Addr × V)} (ok : HOk X.prog X.w H s.heap) (e : H a = some (dB a zs)) (hk : ∀ z ∈ zs, KeyV H (.ref z.2.1) (.inr z.1)) : zs.length ≤ sizeLine ∧ (a == sysModules) = false ∧ ∃ xs, ZX zs xs ∧ s.heap.DictOfH (tkKind X.prog X.w) a xs := by
  obtain ⟨⟨z, y, xs, r, o, es, ep, h1, h2, h3, h4, h5⟩, _⟩ := (show ObjOk X.prog X.w H s.heap a (dB a zs) from ok a _ e)
  refine ⟨z, y, xs, r, o, es, ep, h1, h2, h3, h4, ?_, h5⟩
  have all : ∀ {l : List (List IK × Addr × V)} {m : List (List IK × Addr × Value)}, ZX l m → (∀ z ∈ l, KeyV H (.ref z.2.1) (.inr z.1)) → ∀ x ∈ m, (tkKind X.prog X.w).is s.heap x.1 x.2.1 := by
    intro l m q
    unfold ZX at q
    induction q with
    | nil => intro _ x hx; exact nomatch hx
    | @cons p q ps qs hq t ih =>
      intro hk x hx
      rcases List.mem_cons.mp hx with e | hx
      · subst e
        have := hk p (List.mem_cons_self ..)
        rw [hq.1, hq.2.1] at this
        exact tk_is ok this
      · exact ih (fun z hz => hk z (List.mem_cons_of_mem _ hz)) x hx
  exact all r hk
theorem x_notIn {Q : Value → Shared → Prop} (hu : A.units + 2 < cLine) (I : Inv X pins σ H s) (d : Dx H a srt f n) (hk : KeyV H y k) (hs : kSort k = srt) (ry : RelV y u) (h : ∀ s', Inv X pins σ H s' → Q (.bool (f k).isNone) s') :
    wpAny (model X.prog X.w) A (compareOp .NotIn u (.ref a)) Q E s := by
  rcases d with ⟨rfl, kvs, e, hf, _⟩ | ⟨rfl, zs, e, hz, hf, _⟩
  · cases k with
    | inr _ => cases hs
    | inl k =>
      obtain ⟨z, hd, vs, rel, dd⟩ := da_of I.hok e
      refine wpAny_notIn_of (knd := iaKind X.prog X.w) (ia_is hk ry) hd dd.mapOf ?_
      rw [← (rel.val k).isSome_eq, hf k]
      rw [show (!(f (.inl k)).isSome) = (f (.inl k)).isNone by cases f (.inl k) <;> rfl]
      exact h _ (I.tok _)
  · obtain ⟨c, ks, rfl, rfl⟩ := key_ref hk hs
    cases ry
    obtain ⟨z, hd, xs, rel, dd⟩ := db_of I.hok e hz
    refine wpAny_notIn_heap (knd := tkKind X.prog X.w) hu (tk_is I.hok hk) hd dd ?_
    have q := (rel.val ks).isSome_eq
    rw [Option.isSome_map, hf ks] at q
    rw [← q, show (!(f (.inr ks)).isSome) = (f (.inr ks)).isNone by cases f (.inr ks) <;> rfl]
    exact h _ (I.tok _)
theorem x_get {Q : Value → Shared → Prop} (hu : A.units + 2 < cLine) (I : Inv X pins σ H s) (d : Dx H a srt f n) (hk : KeyV H y k) (hs : kSort k = srt) (ry : RelV y u) (ev : f k = some v) (h : ∀ w' s', Inv X pins σ H s' → RelV v w' → Q w' s') :
    wpAny (model X.prog X.w) A (getItem (.ref a) u) Q E s := by
  rcases d with ⟨rfl, kvs, e, hf, _⟩ | ⟨rfl, zs, e, hz, hf, _⟩
  · cases k with
    | inr _ => cases hs
    | inl k =>
      obtain ⟨z, hd, vs, rel, dd⟩ := da_of I.hok e
      obtain ⟨w', hw, rw'⟩ := RelO.some_of (v := v) (o := valueAt vs k) (by rw [← ev, ← hf k]; exact rel.val k)
      exact wpAny_getItem_of (knd := iaKind X.prog X.w) (ia_is hk ry) dd.mapOf hw (h w' _ (I.tok _) rw')
  · obtain ⟨c, ks, rfl, rfl⟩ := key_ref hk hs
    cases ry
    obtain ⟨z, hd, xs, rel, dd⟩ := db_of I.hok e hz
    obtain ⟨w', hw, rw'⟩ := RelO.some_of (v := v) (o := (atKey xs ks).map (·.2)) (by rw [← ev, ← hf ks]; exact rel.val ks)
    obtain ⟨p, hp, hp2⟩ := Option.map_eq_some_iff.mp hw
    refine wpAny_getItem_heap (knd := tkKind X.prog X.w) hu (tk_is I.hok hk) dd hp ?_
    rw [hp2]
    exact h w' _ (I.tok _) rw'
theorem off_upd' {o : HO} : Off a H (upd H a o) := fun b hb => upd_ne hb
theorem da_new {h' : Heap} {t' : Nat} {kvs kvs' : List (IA × V)} {vs' : List (IA × Value)} (I : Inv X pins σ H s) (e : H a = some (dA a kvs)) (hs : Heap.SameBut a s.heap h') (z : kvs'.length ≤ sizeLine) (hd : (a == sysModules) = false) (rel : KV kvs' vs') (dd : h'.DictOf (iaKind X.prog X.w) a vs') :
    Inv X pins σ (upd H a (dA a kvs')) { s with heap := h', toks := t' } := by
  have he : ∃ q, h'.get? a = some q := let ⟨q, _, _, hq, _⟩ := dd; ⟨q, hq⟩
  exact d_write I (by rw [e]; exact True.intro) hs he (DA.ok ⟨z, hd, X.prog, X.w, vs', rel, dd⟩)
theorem db_new {h' : Heap} {t' : Nat} {zs zs' : List (List IK × Addr × V)} {xs' : List (List IK × Addr × Value)} (I : Inv X pins σ H s) (e : H a = some (dB a zs)) (hs : Heap.SameBut a s.heap h') (z : zs'.length ≤ sizeLine) (hd : (a == sysModules) = false) (rel : ZX zs' xs') (dd : h'.DictOfH (tkKind X.prog X.w) a xs') :
    Inv X pins σ (upd H a (dB a zs')) { s with heap := h', toks := t' } := by
  obtain ⟨o, es, ep, h1, h2, h3, h4, _, h5⟩ := dd
  exact d_write I (by rw [e]; exact True.intro) hs ⟨o, h1⟩ (DB.ok ⟨z, hd, xs', rel, o, es, ep, h1, h2, h3, h4, h5⟩)
theorem dx_putA {kvs : List (IA × V)} {k : IA} (e : H a = some (dA a kvs)) (hf : ∀ k, valV kvs k = f (.inl k)) (hn : kvs.length ≤ n) : Dx (upd H a (dA a (putK kvs k v))) a false (putF_ f (.inl k) v) (n + 1) := by
  refine .inl ⟨rfl, _, upd_same, fun j => ?_, ?_⟩
  · rw [valV_put]
    unfold putF_
    by_cases q : j = k
    · rw [if_pos q, if_pos (by rw [q])]
    · rw [if_neg q, if_neg (fun z => q (Sum.inl.inj z)), hf j]
  · have := length_putK kvs k v; omega
theorem dx_putB {zs : List (List IK × Addr × V)} {k : List IK} {c : Addr} (e : H a = some (dB a zs)) (hz : ∀ z ∈ zs, KeyV H (.ref z.2.1) (.inr z.1)) (hk : KeyV H (.ref c) (.inr k)) (hf : ∀ k, atZ zs k = f (.inr k)) (hn : zs.length ≤ n) :
    Dx (upd H a (dB a (putZ zs k c v))) a true (putF_ f (.inr k) v) (n + 1) := by
  have kp : Keep H (upd H a (dB a (putZ zs k c v))) := off_upd'.keepD fun xs q => by rw [e] at q; cases q
  refine .inr ⟨rfl, _, upd_same, fun z h => ?_, fun j => ?_, ?_⟩
  · rcases mem_putZ h with ⟨z0, h0, e1, e2⟩ | ⟨e1, e2⟩
    · rw [e1, e2]; exact (hz z0 h0).keep kp
    · rw [e1, e2]; exact hk.keep kp
  · rw [atZ_put]
    unfold putF_
    by_cases q : j = k
    · rw [if_pos q, if_pos (by rw [q])]
    · rw [if_neg q, if_neg (fun z => q (Sum.inr.inj z)), hf j]
  · have := length_putZ zs k c v; omega
theorem x_set {Q : Unit → Shared → Prop} (hu : A.units + 2 < cLine) (I : Inv X pins σ H s) (d : Dx H a srt f n) (hk : KeyV H y k) (hs : kSort k = srt) (hn : n < sizeLine) (ry : RelV y u) (rv : RelV v r)
    (h : ∀ H' s', Off a H H' → Dx H' a srt (putF_ f k v) (n + 1) → Inv X pins σ H' s' → Q () s') : wpAny (model X.prog X.w) A (setItem (.ref a) u r) Q E s := by
  rcases d with ⟨rfl, kvs, e, hf, hl⟩ | ⟨rfl, zs, e, hz, hf, hl⟩
  · cases k with
    | inr _ => cases hs
    | inl k =>
      obtain ⟨z, hd, vs, rel, dd⟩ := da_of I.hok e
      have hvz : vs.length ≤ sizeLine := by rw [← rel.length]; exact z
      have hl' : (putK kvs k v).length ≤ sizeLine := by have := length_putK kvs k v; omega
      refine wpAny_setItem_pairs (knd := iaKind X.prog X.w) (hsz := hvz) (ia_is hk ry) dd fun h' dd' hs' => h _ _ off_upd' (dx_putA e hf hl) ?_
      exact da_new I e hs' hl' hd (rel.put k rv) dd'
  · obtain ⟨c, ks, rfl, rfl⟩ := key_ref hk hs
    cases ry
    obtain ⟨z, hd, xs, rel, dd⟩ := db_of I.hok e hz
    have hvz : xs.length ≤ sizeLine := by rw [← rel.length]; exact z
    have hl' : (putZ zs ks c v).length ≤ sizeLine := by have := length_putZ zs ks c v; omega
    refine wpAny_setItem_heap (knd := tkKind X.prog X.w) (hsz := hvz) hu (tk_is I.hok hk) dd fun h' dd' hs' => h _ _ off_upd' (dx_putB (c := c) e hz hk hf hl) ?_
    exact db_new I e hs' hl' hd (rel.put ks rv) dd'
theorem x_type (I : Inv X pins σ H s) (d : Dx H a srt f n) : s.TypeIs (.ref a) "dict" ∧ ∀ b, Value.ref a = .ref b → ∃ ob, s.heap.get? b = some ob ∧ ob.dict = none := by
  rcases d with ⟨_, kvs, e, _, _⟩ | ⟨_, zs, e, hz, _, _⟩
  · obtain ⟨_, _, vs, _, dd⟩ := da_of I.hok e
    refine ⟨dd.typeIs, fun b q => ?_⟩
    cases q
    obtain ⟨ob, _, _, h1, h2, _⟩ := dd
    exact ⟨ob, h1, h2.2.1⟩
  · obtain ⟨_, _, xs, _, dd⟩ := db_of I.hok e hz
    refine ⟨dd.typeIs, fun b q => ?_⟩
    cases q
    obtain ⟨ob, _, _, h1, h2, _⟩ := dd
    exact ⟨ob, h1, h2.2.1⟩
end
/-! ### the rules -/
section
variable {X : Cx}
theorem op_xnotin (hu : X.A.units + 64 < cLine) : OpR X (compareOp .NotIn) (rXIn true) := by
  intro pins s σ H x y v u Q I rx ry h
  obtain ⟨a, srt, f, n, k, rfl, d, hk, hs, q⟩ := h
  cases ry
  exact x_notIn (by omega) I d hk hs rx fun s' I' => ⟨.bl _, H, I', rfl, q⟩
theorem pe_xget {o i : Expr} {pos : Pos} {td ty : TE} (hu : X.A.units + 64 < cLine) (ho : PE X o td) (hi : PE X i ty) (hs : NoSl i) : PE X (.Subscript o i pos) (tOp rXGet td ty) := by
  intro pins s σ H Q I h
  refine subD_of PySem.F.slot_dict_getitem.lookup hs (thn (ho pins s σ H _ I h) fun u s1 ⟨x, H1, I1, rx, q1⟩ => thn (hi pins s1 σ H1 _ I1 q1) fun iv s2 ⟨y, H2, I2, ry, a, srt, f, n, k, v, ex, d, hk, hs', ev, q2⟩ => ?_)
  subst ex
  obtain rfl : u = Value.ref a := rx
  exact ⟨(x_type I2 d).1, x_get (by omega) I2 d hk hs' ry ev fun w' s3 I3 rw' => ⟨v, H2, I3, rw', q2⟩⟩
theorem set_X (hu : X.A.units + 64 < cLine) : PSet X rXSet := by
  intro pins s σ H o i v ov iv u Q I ro ri rv h
  obtain ⟨a, srt, f, n, k, rfl, d, hk, hs, hn, q⟩ := h
  cases ro
  exact x_set (by omega) I d hk hs hn ri rv fun H' s' o' d' I' => ⟨H', I', q H' o' d'⟩
theorem pm_dnewX {pos : Pos} : PE X (.Dict [] [] pos) mDnewX := fun pins s σ H Q I h => by
  obtain ⟨srt, h⟩ := h
  have hd : (s.heap.objs.size == sysModules) = false := beq_eq_false_iff_ne.mpr (Ne.symm (Nat.ne_of_lt I.big))
  have hp := I.hok.fresh (Nat.le_refl s.heap.objs.size)
  cases srt with
  | false =>
    refine wpAny_Dict_empty ⟨.ref s.heap.objs.size, _, I.laid (a := s.heap.objs.size) (o := dA s.heap.objs.size []) (t' := s.toks) (fun _ _ q => Heap.get?_push_of_some _ q) (Nat.le_refl _) (DA.ok ⟨Nat.zero_le _, hd, X.prog, X.w, [], .nil, Heap.DictOf.new s.heap⟩), rfl, ?_⟩
    exact h _ _ hp (same_new hp _) (.inl ⟨rfl, [], upd_same, fun _ => rfl, Nat.le_refl _⟩)
  | true =>
    refine wpAny_Dict_empty ⟨.ref s.heap.objs.size, _, I.laid (a := s.heap.objs.size) (o := dB s.heap.objs.size []) (t' := s.toks) (fun _ _ q => Heap.get?_push_of_some _ q) (Nat.le_refl _) (DB.ok ⟨Nat.zero_le _, hd, [], .nil, _, #[], 0, Heap.get?_push_size _ rfl, ⟨rfl, rfl, rfl⟩, rfl, rfl, List.nodup_nil⟩), rfl, ?_⟩
    exact h _ _ hp (same_new hp _) (.inr ⟨rfl, [], upd_same, fun z hz => (nomatch hz), fun _ => rfl, Nat.le_refl _⟩)
end
end L2

end

section
-- KcIsN
set_option Elab.async false
set_option linter.all false
set_option maxRecDepth 100000
set_option maxHeartbeats 4000000
namespace L2
open PySem PySem.Spec PyProof.Rows
section
variable {X : Cx}
theorem op_isNone : OpR X (compareOp .Is) rIsNone := by
  intro pins s σ H x y v u Q I rx ry h
  obtain ⟨rfl, q⟩ := h
  cases ry
  refine wpAny_is_plain (by cases x <;> (first | (obtain ⟨t, rfl⟩ := rx; rfl) | (cases rx; rfl))) ⟨.bl (isN x), H, I, ?_, q⟩
  cases x <;> (first | (obtain ⟨t, rfl⟩ := rx; rfl) | (cases rx; rfl))
theorem op_isnNone : OpR X (compareOp .IsNot) rIsnNone := by
  intro pins s σ H x y v u Q I rx ry h
  obtain ⟨rfl, q⟩ := h
  cases ry
  refine wpAny_isNot_plain (by cases x <;> (first | (obtain ⟨t, rfl⟩ := rx; rfl) | (cases rx; rfl))) ⟨.bl (!isN x), H, I, ?_, q⟩
  cases x <;> (first | (obtain ⟨t, rfl⟩ := rx; rfl) | (cases rx; rfl))
end
end L2

end

section
-- KcRuleA
set_option Elab.async false
set_option linter.all false
set_option maxRecDepth 100000
set_option maxHeartbeats 4000000
namespace L2
open PySem PySem.Spec PyProof.Rows
/-! ### (x,) * n -/
theorem rep_noFill : fillsNumberSlot (.type "tuple") "mul" = pure false :=
  (PySem.fillsNumberSlot_seq (id := "tuple.__mul__") (r := some (.builtin "tuple.__rmul__")) PySem.F.slot_tuple_mul.lookup (by decide +kernel) PySem.F.slot_tuple_rmul.lookup (by decide +kernel))
theorem rep_tuple : seqRepeat? (.type "tuple") = pure (some (.builtin "tuple.__mul__")) := by
  unfold seqRepeat?
  rw [PySem.seqSlot_of (T := "tuple") (name := "__mul__") (id := "tuple.__mul__") PySem.F.slot_tuple_mul.lookup (by decide +kernel), PySem.seqSlot_of (T := "tuple") (name := "__rmul__") (id := "tuple.__rmul__") PySem.F.slot_tuple_rmul.lookup (by decide +kernel)]
  rfl
theorem rmul_tup (a : Int) (t : Tok) (l : Addr) (items : Array Value) (n : Nat) (dd : Option Addr) (sl : Array (Option Value)) :
    Meets (Builtin.«int.__rmul__» ⟨[.int a t, .ref l], []⟩) (fun _ R s => s.heap.get? l = some ⟨.type "tuple", dd, .seq items n, sl⟩ ∧ R (.ok (.ret Value.notImplemented)) s) :=
  .of_wp fun prog w A R s h => by obtain ⟨hp, g, d, tk, os⟩ := s; obtain ⟨hl, h⟩ := h; (wp_walk; exact ⟨_, rfl, h⟩)
theorem mul_tup0 (l : Addr) (v : Value) (n : Nat) (u : Tok) (dd : Option Addr) (sl : Array (Option Value)) :
    Meets (Builtin.«tuple.__mul__» ⟨[.ref l, .int 0 u], []⟩) (fun _ R s => s.heap.get? l = some ⟨.type "tuple", dd, .seq #[v] n, sl⟩ ∧ R (.ok (.ret (Value.ref s.heap.objs.size))) { s with heap := s.heap.push { cls := Value.type "tuple", data := Data.seq #[] }, toks := s.toks }) :=
  .of_wp fun prog w A R s h => by obtain ⟨hp, g, d, tk, os⟩ := s; obtain ⟨hl, h⟩ := h; (wp_walk; exact ⟨_, rfl, h⟩)
theorem mul_tup1 (l : Addr) (v : Value) (n : Nat) (u : Tok) (dd : Option Addr) (sl : Array (Option Value)) :
    Meets (Builtin.«tuple.__mul__» ⟨[.ref l, .int 1 u], []⟩) (fun _ R s => s.heap.get? l = some ⟨.type "tuple", dd, .seq #[v] n, sl⟩ ∧ R (.ok (.ret (Value.ref l))) s) :=
  .of_wp fun prog w A R s h => by obtain ⟨hp, g, d, tk, os⟩ := s; obtain ⟨hl, h⟩ := h; (wp_walk; exact ⟨_, rfl, h⟩)
theorem rep_fold (v : Value) : ∀ (m : Nat) (acc : Array Value), List.foldl (fun x1 x2 => x1 ++ x2) acc (List.replicate m #[v]) = acc ++ (List.replicate m v).toArray
  | 0, acc => by simp
  | m + 1, acc => by
    rw [List.replicate_succ, List.foldl_cons, rep_fold v m, List.replicate_succ]
    refine Array.toList_inj.mp ?_
    rw [Array.toList_append, Array.toList_append, Array.toList_append, List.append_assoc]
    rfl
theorem mul_tup2 (l : Addr) (v : Value) (n : Nat) (k : Nat) (u : Tok) (dd : Option Addr) (sl : Array (Option Value)) (h2 : 2 ≤ k) (h3 : k ≤ 1000) :
    Meets (Builtin.«tuple.__mul__» ⟨[.ref l, .int (k : Int) u], []⟩) (fun _ R s => s.heap.get? l = some ⟨.type "tuple", dd, .seq #[v] n, sl⟩ ∧ R (.ok (.ret (Value.ref s.heap.objs.size))) { s with heap := s.heap.push { cls := Value.type "tuple", data := Data.seq (List.replicate k v).toArray }, toks := s.toks }) :=
  .of_wp fun prog w A R s h => by
    obtain ⟨hp, g, d, tk, os⟩ := s; obtain ⟨hl, h⟩ := h
    have c1 : ¬ (decide ((k : Int) < -(2 ^ 63)) || decide ((k : Int) ≥ 2 ^ 63)) = true := by simp; omega
    have c2 : ¬ ((#[v] : Array Value).isEmpty || ((k : Int) == 1)) = true := by simp; omega
    have c3 : ¬ (decide ((k : Int) ≤ 0) || (#[v] : Array Value).isEmpty) = true := by simp; omega
    have c4 : ¬ (((#[v] : Array Value).size : Int) * (k : Int) > (2 ^ 63 - 1) / 8) := by simp; omega
    have c5 : ¬ Builtin.Tuple.tupleTooMany (((#[v] : Array Value).size : Int) * (k : Int)) = true := by
      unfold Builtin.Tuple.tupleTooMany
      simp [sizeLine_eq]
      omega
    wp_walk
    rw [if_neg c1]
    wp_walk
    rw [if_neg c2]
    wp_walk
    rw [if_neg c3]
    wp_walk
    rw [if_neg c4]
    wp_walk
    rw [if_neg c5]
    wp_walk
    rw [Int.toNat_natCast, rep_fold, Array.empty_append]
    rw [if_neg (by rw [List.size_toArray, List.length_replicate, sizeLine_eq]; omega)]
    wp_walk
    exact ⟨_, rfl, h⟩
/-! ### min(xs, default=None) -/
section
variable {prog : Program} {w : World} {A : Around} {R : Result → Shared → Prop} {I : Addr} {fp wr : List Addr} {n : Nat} {P : Nat → Value → Prop} {St : Nat → Heap → Prop} {kw : List (Str × Value)}
theorem minD_none (W : Walks prog w A.in1 I fp wr n P St) (S : Addr) (hSf : S ∉ fp) (hn : n = 0) {s : Shared} {c : Nat} {k : Str} {d : Value} (hst : St 0 s.heap) (hS : s.heap.get? S = some ⟨.type "list", none, .seq #[] c, #[]⟩)
    (hR : ∀ h' tk, (∀ b o, b ∉ wr → b ≠ S → s.heap.get? b = some o → h'.get? b = some o) → R (.ok (.ret d)) { s with heap := h', toks := tk }) :
    codeAny (model prog w) A (.builtin "min.loop" ⟨[.ref I, .none, .ref S], [(k, d)]⟩) R s := by
  have hSw : S ∉ wr := fun h => hSf (W.sub _ h)
  refine codeAny_builtin PySem.F.entry_min_loop ?_
  rw [Around.under_plainId PySem.F.plain_min_loop _]
  (show wpAny _ A.in1 (seqItems? (.ref S) >>= _) _ _ s); refine wpAny_bind (wpAny_seqItems hS rfl ?_)
  (show wpAny _ A.in1 (tryCatch (pyNext (.ref I)) _ >>= _) _ _ s)
  refine wpAny_bind (wpAny_tryCatch (W.done s _ _ (hn ▸ hst) fun h' tk hk' => ?_))
  refine wpAny_bind (wpAny_rule (wpAny_pure ?_))
  exact hR _ _ fun b o hb hbS e => hk' b o hb e
theorem minD_loop (W : Walks prog w A.in1 I fp wr n P St) (bt : Nat → Nat → Bool) (hcmp : CmpOf prog w A.in1 .Lt P bt) (S : Addr) (hSf : S ∉ fp) :
    ∀ (k j : Nat) (s : Shared) (vb : Value) (c : Nat), n - (j + 1) = k → j + 1 ≤ n → St (j + 1) s.heap → P (argBest bt j) vb → s.heap.get? S = some ⟨.type "list", none, .seq #[vb, vb] c, #[]⟩ →
    (∀ v h' tk, P (argBest bt (n - 1)) v → (∀ b o, b ∉ wr → b ≠ S → s.heap.get? b = some o → h'.get? b = some o) → R (.ok (.ret v)) { s with heap := h', toks := tk }) →
    codeAny (model prog w) A (.builtin "min.loop" ⟨[.ref I, .none, .ref S], kw⟩) R s := by
  have hSw : S ∉ wr := fun h => hSf (W.sub _ h)
  have nm : (toString "min" ++ toString ".loop" : String) = "min.loop" := by decide
  intro k
  induction k with
  | zero =>
    intro j s vb c hk hj hst hPb hS hR
    have hin : j + 1 = n := by omega
    refine codeAny_builtin PySem.F.entry_min_loop ?_
    rw [Around.under_plainId PySem.F.plain_min_loop _]
    (show wpAny _ A.in1 (seqItems? (.ref S) >>= _) _ _ s); refine wpAny_bind (wpAny_seqItems hS rfl ?_)
    (show wpAny _ A.in1 (tryCatch (pyNext (.ref I)) _ >>= _) _ _ s)
    refine (wpAny_bind (wpAny_tryCatch (W.done s _ _ (hin ▸ hst) fun h' tk hk' => ?_)))
    have hT := hk' S _ hSw hS
    (show wpAny _ A.in1 (updateSeq S (fun _ => #[]) >>= _) _ _ _); refine wpAny_bind ?_
    refine (wpAny_updateSeq hT rfl (wpAny_bind (wpAny_letGo (wpAny_pure ?_))))
    exact hR vb _ tk (by rw [← hin]; exact hPb) fun b o hbw hbS e => (Heap.get?_update_other _ _ (Ne.symm hbS)).trans (hk' b o hbw e)
  | succ k ih =>
    intro j s vb c hk hj hst hPb hS hR
    have hlt : j + 1 < n := by omega
    refine codeAny_builtin PySem.F.entry_min_loop ?_
    rw [Around.under_plainId PySem.F.plain_min_loop _]
    (show wpAny _ A.in1 (seqItems? (.ref S) >>= _) _ _ s); refine wpAny_bind (wpAny_seqItems hS rfl ?_)
    (show wpAny _ A.in1 (tryCatch (pyNext (.ref I)) _ >>= _) _ _ s)
    refine (wpAny_bind (wpAny_tryCatch (W.item (j + 1) s _ _ hlt hst fun v h' tk hP hst' hk' => ?_)))
    have hT := hk' S _ hSw hS
    (show wpAny _ A.in1 (tryCatch (holding [v, v] (richCompare .Lt v vb >>= _)) _ >>= _) _ _ _)
    refine (wpAny_bind (wpAny_tryCatch (wpAny_holding (wpAny_bind (hcmp (j + 1) (argBest bt j) v vb _ _ _ hP hPb ?_)))))
    refine (wpAny_bind (wpAny_holding (wpAny_truthy_bool ?_))); refine (wpAny_bind (wpAny_letGo (wpAny_pure ?_)))
    cases hb : bt (j + 1) (argBest bt j) with
    | true =>
      simp only [if_true]
      refine wpAny_bind ?_
      refine (wpAny_updateSeq hT rfl (wpAny_bind (wpAny_letGo ?_)))
      rw [nm]
      refine wpAny_pure ⟨plainId_quiet PySem.F.plain_min_loop _, ih (j + 1) _ v _ (by omega) hlt (W.frame _ _ _ hst' fun b hbf o e => ?_) (by (simp only [argBest, hb, if_true]); exact hP) (Heap.get?_update_self _ hT rfl) fun v' h'' tk'' hP' hk'' => ?_⟩
      · exact (Heap.get?_update_other _ _ (fun z : S = b => hSf (by rw [z]; exact hbf))).trans e
      · exact hR v' h'' tk'' hP' fun b o hbw hbS e => hk'' b o hbw hbS ((Heap.get?_update_other _ _ (Ne.symm hbS)).trans (hk' b o hbw e))
    | false =>
      simp only [Bool.false_eq_true, if_false]
      refine wpAny_bind (wpAny_letGo ?_)
      rw [nm]
      refine wpAny_pure ⟨plainId_quiet PySem.F.plain_min_loop _, ih (j + 1) _ vb c (by omega) hlt hst' (by (simp only [argBest, hb, Bool.false_eq_true, if_false]); exact hPb) hT fun v' h'' tk'' hP' hk'' => ?_⟩
      exact hR v' h'' tk'' hP' fun b o hbw hbS e => hk'' b o hbw hbS (hk' b o hbw e)
theorem minD_first (W : Walks prog w A.in1 I fp wr n P St) (bt : Nat → Nat → Bool) (hcmp : CmpOf prog w A.in1 .Lt P bt) (S : Addr) (hSf : S ∉ fp) (hn : 0 < n) {s : Shared} {c : Nat} (hst : St 0 s.heap) (hS : s.heap.get? S = some ⟨.type "list", none, .seq #[] c, #[]⟩)
    (hR : ∀ v h' tk, P (argBest bt (n - 1)) v → (∀ b o, b ∉ wr → b ≠ S → s.heap.get? b = some o → h'.get? b = some o) → R (.ok (.ret v)) { s with heap := h', toks := tk }) :
    codeAny (model prog w) A (.builtin "min.loop" ⟨[.ref I, .none, .ref S], kw⟩) R s := by
  have hSw : S ∉ wr := fun h => hSf (W.sub _ h)
  have nm : (toString "min" ++ toString ".loop" : String) = "min.loop" := by decide
  refine codeAny_builtin PySem.F.entry_min_loop ?_
  rw [Around.under_plainId PySem.F.plain_min_loop _]
  (show wpAny _ A.in1 (seqItems? (.ref S) >>= _) _ _ s); refine wpAny_bind (wpAny_seqItems hS rfl ?_)
  (show wpAny _ A.in1 (tryCatch (pyNext (.ref I)) _ >>= _) _ _ s)
  refine (wpAny_bind (wpAny_tryCatch (W.item 0 s _ _ hn hst fun v h' tk hP hst' hk' => ?_)))
  have hT := hk' S _ hSw hS
  (show wpAny _ A.in1 (updateSeq S (fun _ => #[v, v]) >>= _) _ _ _); refine wpAny_bind ?_
  refine (wpAny_updateSeq hT rfl ?_)
  rw [nm]
  refine wpAny_pure ⟨plainId_quiet PySem.F.plain_min_loop _, minD_loop W bt hcmp S hSf _ 0 _ v _ rfl hn (W.frame _ _ _ hst' fun b hbf o e => ?_) hP (Heap.get?_update_self _ hT rfl) fun v' h'' tk'' hP' hk'' => ?_⟩
  · exact (Heap.get?_update_other _ _ (fun z : S = b => hSf (by rw [z]; exact hbf))).trans e
  · exact hR v' h'' tk'' hP' fun b o hbw hbS e => hk'' b o hbw hbS ((Heap.get?_update_other _ _ (Ne.symm hbS)).trans (hk' b o hbw e))
end
end L2

end

section
-- KcRuleB
set_option Elab.async false
set_option linter.all false
set_option maxRecDepth 100000
set_option maxHeartbeats 4000000
namespace L2
open PySem PySem.Spec PyProof.Rows
section
variable {prog : Program} {w : World} {A : Around} {E : Value → Shared → Prop} {s : Shared}
theorem args_minD (a v : Value) : argsOk "min" ⟨[a], [(Str.ofString "default", v)]⟩ := by unfold argsOk; kernel_rfl
theorem call_minD {l : Addr} {zs : Array (Int × Tok)} {Q : Value → Shared → Prop} (hh : A.handled = none) (hl : s.heap.IsList l (intItems zs))
    (h0 : zs.size = 0 → ∀ h' tk, (∀ b o, s.heap.get? b = some o → h'.get? b = some o) → Q .none { s with heap := h', toks := tk })
    (h : 0 < zs.size → ∀ v h' tk, (intItems zs)[argBest (fun i j => decide (numAt zs i < numAt zs j)) (zs.size - 1)]? = some v → (∀ b o, s.heap.get? b = some o → h'.get? b = some o) → Q v { s with heap := h', toks := tk }) :
    wpAny (model prog w) A (call (.builtin "min") [.ref l] [(Str.ofString "default", .none)]) Q E s := by
  have nm : (toString "min" ++ toString ".loop" : String) = "min.loop" := by decide
  refine PyProof.Rows.kmb_tree PySem.F.kind_min PySem.F.plain_min PySem.F.entry_min (args_minD _ _) ?_
  (show wpAny _ A.in1 (Builtin.Builtins.bindParams "min" ["key", "default"] 0 ⟨[], [(Str.ofString "default", .none)]⟩ >>= _) _ _ s)
  refine wpAny_bind (wpAny_of_eq (show Builtin.Builtins.bindParams "min" ["key", "default"] 0 ⟨[], [(Str.ofString "default", .none)]⟩ = pure [none, some .none] from rfl) ?_)
  refine wpAny_bind (wpAny_pure ?_)
  refine wpAny_bind (iter_intList hl fun s₂ e st hfp hlI => ?_)
  subst e
  refine wpAny_bind (wpAny_newObj_type ?_)
  have hW := Walks.list (A := A.in1) (prog := prog) (w := w) hh s.heap.objs.size l hlI (intItems zs)
  rw [nm]
  by_cases hz : zs.size = 0
  · refine wpAny_pure ⟨plainId_quiet PySem.F.plain_min_loop _, minD_none hW _ (fun hm => Nat.lt_irrefl _ (hfp _ hm)) (by simpa [intItems] using hz) (hW.frame _ _ _ st fun b _ o e => Heap.get?_push_of_some _ e) (Heap.get?_push_size _ rfl) fun h' tk hk => ?_⟩
    refine h0 hz _ _ (old_kept (l := l) fun b o hb e => ?_)
    exact hk b o hb (fun z => Nat.lt_irrefl _ (z ▸ Heap.lt_size e)) (Heap.get?_push_of_some _ e)
  · refine wpAny_pure ⟨plainId_quiet PySem.F.plain_min_loop _, minD_first hW _ (CmpOf.ints_lt (numAt zs) (fun _ _ => intItems_at)) _ (fun hm => Nat.lt_irrefl _ (hfp _ hm)) (by simpa [intItems] using Nat.pos_of_ne_zero hz) (hW.frame _ _ _ st fun b _ o e => Heap.get?_push_of_some _ e) (Heap.get?_push_size _ rfl) fun v h' tk hP hk => ?_⟩
    refine h (Nat.pos_of_ne_zero hz) v _ _ (by simpa [intItems] using hP) (old_kept (l := l) fun b o hb e => ?_)
    exact hk b o hb (fun z => Nat.lt_irrefl _ (z ▸ Heap.lt_size e)) (Heap.get?_push_of_some _ e)
end
end L2

end

section
-- KcSetN
set_option Elab.async false
set_option linter.all false
set_option maxRecDepth 100000
set_option maxHeartbeats 4000000
namespace L2
open PySem PySem.Spec PyProof.Rows
theorem met_mem (val : Nat → Int) : ∀ (n : Nat) {i : Nat}, i < n → val i ∈ firstMet val n := fun n i h => by
  have e := firstMet_any val n (val i)
  have t : ((List.range n).map val).any (· == val i) = true := List.any_eq_true.mpr ⟨val i, List.mem_map_of_mem (List.mem_range.mpr h), beq_self_eq_true _⟩
  rw [t] at e
  obtain ⟨x, hx, hb⟩ := List.any_eq_true.mp e
  rw [beq_iff_eq] at hb
  rw [← hb]
  exact hx
theorem met_nd (val : Nat → Int) : ∀ n : Nat, (firstMet val n).Nodup ∧ ∀ x, x ∈ firstMet val n → ∃ i, i < n ∧ val i = x
  | 0 => ⟨List.nodup_nil, fun x h => by cases h⟩
  | n + 1 => by
    obtain ⟨nd, hm⟩ := met_nd val n
    rw [firstMet_succ]
    unfold step_dedup
    by_cases c : ((firstMet val n).any fun x => x == val n) = true
    · rw [if_pos c]
      exact ⟨nd, fun x h => let ⟨i, hi, e⟩ := hm x h; ⟨i, by omega, e⟩⟩
    · rw [if_neg c]
      refine ⟨List.nodup_append.mpr ⟨nd, by simp, fun a ha b hb => ?_⟩, fun x h => ?_⟩
      · rw [List.mem_singleton.mp hb]
        exact fun e => c (List.any_eq_true.mpr ⟨a, ha, by rw [e]; exact beq_self_eq_true _⟩)
      · rcases List.mem_append.mp h with h | h
        · obtain ⟨i, hi, e⟩ := hm x h; exact ⟨i, by omega, e⟩
        · exact ⟨n, by omega, (List.mem_singleton.mp h).symm⟩
theorem met_all (ns : List Int) : ∃ L : List Int, L.Nodup ∧ (∀ x, x ∈ L ↔ x ∈ ns) ∧ (firstMet (fun i => ns.getD i 0) ns.length).length = L.length := by
  obtain ⟨nd, hm⟩ := met_nd (fun i => ns.getD i 0) ns.length
  refine ⟨_, nd, fun x => ⟨fun h => ?_, fun h => ?_⟩, rfl⟩
  · obtain ⟨i, hi, rfl⟩ := hm x h
    show ns.getD i 0 ∈ ns
    rw [List.getD_eq_getElem?_getD, List.getElem?_eq_getElem hi]
    exact List.getElem_mem hi
  · obtain ⟨i, hi, rfl⟩ := List.getElem_of_mem h
    have := met_mem (fun i => ns.getD i 0) ns.length hi
    have e : ns.getD i 0 = ns[i] := by rw [List.getD_eq_getElem?_getD, List.getElem?_eq_getElem hi]; rfl
    show ns[i] ∈ _
    rw [← e]
    exact this
section
variable {X : Cx}
theorem om_repT : OpR X (binaryOp .Mult) mRepT := by
  intro pins s σ H x y v u Q I rx ry h
  obtain ⟨a, z, k, rfl, rfl, e, hk, q⟩ := h
  cases rx
  obtain ⟨t, rfl⟩ := ry
  obtain ⟨_, its, r, ⟨cls, dd, data, sl⟩, ho, hc, ⟨n, hd⟩, hdd⟩ := I.hok a _ e
  simp only at hc hd hdd
  subst hc hd hdd
  obtain ⟨zv, rfl, rz⟩ := r.one
  refine wpAny_binaryOp_repeat_ref (T := "tuple") (U := "int") (by decide) ⟨_, ho, rfl⟩ (fun s' => typeIs_int s' _ t) rep_noFill PySem.F.fills_int_mul PySem.F.slot_int_rmul rep_tuple PySem.F.slot_int_index.lookup
    (call_meets PySem.F.slot_int_rmul (typeIs_int s _ t) PySem.F.entry_int_rmul (PySem.F.args_int_rmul_2 _ _) (rmul_tup (k : Int) t a _ n none sl) ⟨ho, rfl, ⟨_, ho, rfl⟩, ?_⟩)
  have rep : ∀ k : Nat, Vals (List.replicate k z) (List.replicate k zv) := fun k => by
    induction k with
    | zero => exact .nil
    | succ k ih => exact .cons rz ih
  have fin : ∀ k : Nat, k ≤ 1000 → (∀ p H', Same H H' → H' p = some (.tup (List.replicate k z)) → Q (.ref p) H') → EP X pins σ Q (.ref s.heap.objs.size) { s with heap := s.heap.push { cls := .type "tuple", data := .seq (List.replicate k zv).toArray } } := fun k hk q =>
    ⟨.ref s.heap.objs.size, _, I.laid (t' := s.toks) (o := .tup (List.replicate k z)) (fun b ob q => Heap.get?_push_of_some _ q) (Nat.le_refl _) ⟨by rw [List.length_replicate, sizeLine_eq]; omega, _, rep k, IsTupD.new _ _⟩, rfl, q _ _ (same_new (I.hok.fresh (Nat.le_refl _)) _) upd_same⟩
  match k, hk, q with
  | 0, hk, q =>
    refine call_meets PySem.F.slot_tuple_mul ⟨_, ho, rfl⟩ PySem.F.entry_tuple_mul (PySem.F.args_tuple_mul_2 _ _) (mul_tup0 a zv n t none sl) ⟨ho, ?_⟩
    exact fin 0 hk q
  | 1, hk, q =>
    refine call_meets PySem.F.slot_tuple_mul ⟨_, ho, rfl⟩ PySem.F.entry_tuple_mul (PySem.F.args_tuple_mul_2 _ _) (mul_tup1 a zv n t none sl) ⟨ho, ?_⟩
    exact ⟨.ref a, H, I, rfl, q a H (Same.refl H) e⟩
  | k + 2, hk, q =>
    refine call_meets PySem.F.slot_tuple_mul ⟨_, ho, rfl⟩ PySem.F.entry_tuple_mul (PySem.F.args_tuple_mul_2 _ _) (mul_tup2 a zv n (k + 2) t none sl (by omega) hk) ⟨ho, ?_⟩
    exact fin (k + 2) hk q
theorem call_setL (hc : X.calm = true) : CallR X (.type "set") (cSetL X.K) := by
  intro pins s σ H xs us Q I r h
  obtain ⟨p, ns, rfl, hq, hl, q⟩ := h
  obtain ⟨u, rfl, rx⟩ := r.one
  cases rx
  obtain ⟨its, rv, pl, hz⟩ := I.list hq
  have hi := intsAre_of rv
  have hlen : its.length = ns.length := by have := rv.length; rw [List.length_map] at this; omega
  refine PySem.call_set_list (I.ok.hd hc) pl.isList hi (by rw [List.size_toArray, hlen]; exact Nat.lt_of_le_of_lt (Nat.succ_le_succ hl) (by decide)) fun h' tk hS hk => ?_
  have hsz : its.toArray.size = ns.length := by rw [List.size_toArray, hlen]
  rw [hsz] at hS
  have hn := firstMet_length_le (fun i => ns.getD i 0) ns.length
  exact ⟨.ref s.heap.objs.size, _, I.laid (o := .set _ _) (fun b ob e => hk b ob (Heap.lt_size e) e) (Nat.le_refl _) hS, rfl, q _ _ _ _ (I.hok.fresh (Nat.le_refl _)) (same_new (I.hok.fresh (Nat.le_refl _)) _) upd_same hn (met_all ns)⟩
theorem call_lenS : CallR X (.builtin "len") cLenS := by
  intro pins s σ H xs us Q I r h
  obtain ⟨p, S, n, rfl, e, hn, q⟩ := h
  obtain ⟨u, rfl, rx⟩ := r.one
  cases rx
  obtain ⟨o, es, ep, t, ho, hex, hd, _, _, _, hf, rfl⟩ := I.hok p _ e
  exact PySem.call_len_set ho hex hd hf (by omega) ⟨.int _, H, I.tok _, ⟨_, rfl⟩, q⟩
theorem pe_minD {e : Expr} {p pos kp kp2 : Pos} {j : Nat} {t : TA} (hc : X.calm = true) (hm : X.mg "min" = none) (ha : PA X [e] t) (hg : Gl X "min" := by rfl)
    (he : backTo pos (starEach [e] X.env) = (false, eval e X.env) :: backTo pos (starEach [] X.env) := by rfl) (hpl : (backTo pos (starEach [e] X.env)).any (·.1) = false := by rfl) :
    PE X (.Call (.Name "min" p) [e] [⟨some "default", .Constant .none j kp2, kp⟩] pos) (mMinD X.K t) := by
  intro pins s σ H Q I h
  refine wpAny_Call_Name_kw (ld_blt I hg hm boot_min ?_ (by decide) (by decide))
  refine PyProof.Rows.callWith_kw (thn (ha pos pins s σ H _ I h) fun us s1 ⟨vs, H1, I1, r1, q1⟩ => ?_) he hpl
  obtain ⟨l, ns, rfl, hq, h0, h1⟩ := q1
  obtain ⟨u, rfl, rx⟩ := r1.one
  cases rx
  refine thn ((pk_cons pe_non pk_nil) pos pins s1 σ H1 (fun zs H2 => zs = [.non] ∧ H2 = H1) I1 ⟨rfl, rfl⟩) fun ws s2 ⟨zs, H2, I2, rz, ez, eH⟩ => ?_
  subst ez eH
  obtain ⟨wv, rfl, rw'⟩ := rz.one
  cases rw'
  obtain ⟨its, rv, pl, hz⟩ := I2.list hq
  have hi := intsAre_of rv
  obtain ⟨zs, ez⟩ := (hi.allInts).items
  have hl : s2.heap.IsList l (intItems zs) := by rw [← ez]; exact pl.isList
  have hnum : zs.toList.map (·.1) = ns := by rw [← nums_intItems, ← ez]; exact hi.numsOf
  have hsz : zs.size = ns.length := by rw [← hnum]; simp
  refine call_minD (I.ok.hd hc) hl (fun hz h' tk hk => ⟨.non, H2, I2.kept hk, rfl, h0 (List.eq_nil_of_length_eq_zero (by omega))⟩) fun hpos v h' tk hv hk => ?_
  obtain ⟨t, rfl⟩ := intItems_at hv
  obtain ⟨b1, b2⟩ := argBest_lt (numAt zs) (zs.size - 1)
  refine ⟨.int _, H2, I2.kept hk, ⟨t, rfl⟩, h1 _ ?_ fun a ha => ?_⟩
  · rw [numAt_eq, hnum]
    exact getD_mem (by omega)
  · rw [← hnum] at ha
    obtain ⟨j, hj, rfl⟩ := mem_getD ha
    rw [List.length_map, Array.length_toList] at hj
    rw [← numAt_eq]
    exact b2 j (by omega)
end
end L2

end

section
-- KcDxL
set_option Elab.async false
set_option linter.all false
set_option maxRecDepth 100000
set_option maxHeartbeats 4000000
namespace L2
open PySem PySem.Spec PyProof.Rows
section
variable {prog : Program} {w : World} {A : Around} {E : Value → Shared → Prop} {s : Shared}
theorem own_no : Builtin.Dict_items.ownsTuple "dict_keyiterator" = false := by decide
theorem nextR_item {it d : Addr} {i ep : Nat} {o : Obj} {es : Array DictEntry} {e : DictEntry} {Q : Option Value → Shared → Prop} (st : s.heap.IsKeyIter it d i es.size ep) (ho : s.heap.get? d = some o) (hd : o.data = .dict es ep) (hi : es[i]? = some e)
    (h : ∀ h' : Heap, h'.IsKeyIter it d (i + 1) es.size ep → Heap.SameBut it s.heap h' → Q (some e.key) { s with heap := h' }) : wpAny (model prog w) A (pyNext (.ref it)) Q E s := by
  obtain ⟨⟨cl, dd, data, sl⟩, hI, hc, hdI⟩ := st
  simp only at hc hdI
  subst hc hdI
  have hT : s.TypeIs (.ref it) "dict_keyiterator" := ⟨_, hI, rfl⟩
  unfold pyNext
  refine wpAny_bind (wpAny_attempt (wpAny_callSpecial?_slot hT F.slot_dict_keyiterator_next (wpAny_call_entry F.slot_dict_keyiterator_next hT F.entry_dict_keyiterator_next ?_ (F.args_dict_keyiterator_next_1 _))))
  (show wpAny _ A.in1 (Builtin.Dict_items.slot0 "__next__" ⟨[.ref it], []⟩ >>= _) _ _ s)
  refine wpAny_bind (wpAny_of_eq (show Builtin.Dict_items.slot0 "__next__" ⟨[.ref it], []⟩ = pure (.ref it) from rfl) ?_)
  refine wpAny_bind ?_
  (show wpAny _ A.in1 ((typeNameOfWhole (.ref it) >>= _) >>= _) _ _ s)
  refine wpAny_bind (wpAny_bind (wpAny_typeNameOfWhole_keyiter hT (wpAny_pure ?_)))
  rw [own_no]
  (show wpAny _ A.in1 (fieldsOf (.ref it) >>= _) _ _ s)
  refine wpAny_bind (wpAny_fieldsOf hI rfl ?_)
  (show wpAny _ A.in1 (if (Value.ref d == Value.none) = true then _ else _) _ _ s)
  rw [if_neg (by rw [show (Value.ref d == Value.none) = false from rfl]; exact Bool.false_ne_true)]
  refine wpAny_bind (wpAny_of_eq (show Builtin.Dict_items.addrOf (.ref d) = pure d from rfl) ?_)
  refine wpAny_bind (wpAny_dictEntries ho hd ?_)
  (show wpAny _ A.in1 (if (((es.size : Nat) : Int) != ((es.size : Nat) : Int)) = true then _ else _) _ _ s)
  rw [if_neg (by simp)]
  refine wpAny_bind (wpAny_of_eq (show Builtin.Dict_items.addrOf (.ref d) = pure d from rfl) ?_)
  refine wpAny_bind (wpAny_dictEpoch ho hd ?_)
  (show wpAny _ A.in1 (if (((ep : Nat) : Int) != ((ep : Nat) : Int)) = true then _ else _) _ _ s)
  rw [if_neg (by simp)]
  refine wpAny_pure ?_
  (show wpAny _ A.in1 (match (if (i : Int) < 0 then none else es[(i : Int).toNat]?) with | some e => _ | none => _) _ _ s)
  rw [if_neg (by omega), Int.toNat_natCast, hi]
  (show wpAny _ A.in1 ((typeNameOfWhole (.ref it) >>= _) >>= _) _ _ s)
  refine wpAny_bind (wpAny_bind (wpAny_typeNameOfWhole_keyiter hT (wpAny_pure ?_)))
  rw [own_no]
  refine wpAny_bind (wpAny_isOneOf_keyiter hT ?_)
  refine wpAny_bind (wpAny_setField hI rfl (show 1 < 4 by decide) ?_)
  generalize hh : s.heap.update it _ = h2
  have hK : h2.IsKeyIter it d (i + 1) es.size ep := by
    rw [← hh]
    exact ⟨_, Heap.get?_update_self _ hI rfl, rfl, rfl⟩
  have hS : Heap.SameBut it s.heap h2 := by
    rw [← hh]
    exact ⟨Heap.size_update _ _ _, fun b hb => Heap.get?_update_other _ _ (Ne.symm hb)⟩
  have hT2 : ({ s with heap := h2 } : Shared).TypeIs (.ref it) "dict_keyiterator" := let ⟨o2, h1, h3, _⟩ := hK; ⟨o2, h1, h3⟩
  refine wpAny_bind (wpAny_holding ?_)
  (show wpAny _ A.in1 (Builtin.Dict_items.isOneOf (.ref it) _ >>= _) _ _ _)
  refine wpAny_bind (wpAny_isOneOf_keyiter hT2 ?_)
  (show wpAny _ A.in1 (if true = true then pure e.key else _) _ _ _)
  rw [if_pos rfl]
  refine wpAny_pure ?_
  refine wpAny_pure ⟨e.key, rfl, ?_⟩
  (show wpAny _ A (pure (some e.key)) Q E _)
  exact wpAny_pure (h h2 hK hS)
theorem first_stop : firstArgMember (.type "StopIteration") [] = pure Value.none := by
  unfold firstArgMember
  (show (pure (if _ = true then Value.none else Value.none) : Sem Value) = _)
  rw [ite_self]
theorem stop_new {Q : Value → Shared → Prop} (h : ∀ (h' : Heap) (e : Addr), (∀ b ob, s.heap.get? b = some ob → h'.get? b = some ob) → (∃ o, h'.get? e = some o ∧ o.cls = .type "StopIteration") → Q (.ref e) { s with heap := h' }) : wpAny (model prog w) A (newExc (.type "StopIteration") []) Q E s := by
  unfold newExc
  refine wpAny_bind (wpAny_newTuple ?_)
  refine wpAny_bind (wpAny_of_eq first_stop ?_)
  refine wpAny_newObj_type ?_
  exact h _ _ (fun b ob e => Heap.get?_push_of_some _ (Heap.get?_push_of_some _ e)) ⟨_, Heap.get?_push_size _ rfl, rfl⟩
theorem nextR_end {it d : Addr} {i ep : Nat} {o : Obj} {es : Array DictEntry} {Q : Option Value → Shared → Prop} (hh : A.handled = none) (st : s.heap.IsKeyIter it d i es.size ep) (ho : s.heap.get? d = some o) (hd : o.data = .dict es ep) (hi : es[i]? = none)
    (h : ∀ h' : Heap, (∀ b ob, b ≠ it → s.heap.get? b = some ob → h'.get? b = some ob) → Q none { s with heap := h' }) : wpAny (model prog w) A (pyNext (.ref it)) Q E s := by
  obtain ⟨⟨cl, dd, data, sl⟩, hI, hc, hdI⟩ := st
  simp only at hc hdI
  subst hc hdI
  have hT : s.TypeIs (.ref it) "dict_keyiterator" := ⟨_, hI, rfl⟩
  unfold pyNext
  refine wpAny_bind (wpAny_attempt (wpAny_callSpecial?_slot hT F.slot_dict_keyiterator_next (wpAny_call_entry F.slot_dict_keyiterator_next hT F.entry_dict_keyiterator_next ?_ (F.args_dict_keyiterator_next_1 _))))
  (show wpAny _ A.in1 (Builtin.Dict_items.slot0 "__next__" ⟨[.ref it], []⟩ >>= _) _ _ s)
  refine wpAny_bind (wpAny_of_eq (show Builtin.Dict_items.slot0 "__next__" ⟨[.ref it], []⟩ = pure (.ref it) from rfl) ?_)
  refine wpAny_bind ?_
  (show wpAny _ A.in1 ((typeNameOfWhole (.ref it) >>= _) >>= _) _ _ s)
  refine wpAny_bind (wpAny_bind (wpAny_typeNameOfWhole_keyiter hT (wpAny_pure ?_)))
  rw [own_no]
  (show wpAny _ A.in1 (fieldsOf (.ref it) >>= _) _ _ s)
  refine wpAny_bind (wpAny_fieldsOf hI rfl ?_)
  (show wpAny _ A.in1 (if (Value.ref d == Value.none) = true then _ else _) _ _ s)
  rw [if_neg (by rw [show (Value.ref d == Value.none) = false from rfl]; exact Bool.false_ne_true)]
  refine wpAny_bind (wpAny_of_eq (show Builtin.Dict_items.addrOf (.ref d) = pure d from rfl) ?_)
  refine wpAny_bind (wpAny_dictEntries ho hd ?_)
  (show wpAny _ A.in1 (if (((es.size : Nat) : Int) != ((es.size : Nat) : Int)) = true then _ else _) _ _ s)
  rw [if_neg (by simp)]
  refine wpAny_bind (wpAny_of_eq (show Builtin.Dict_items.addrOf (.ref d) = pure d from rfl) ?_)
  refine wpAny_bind (wpAny_dictEpoch ho hd ?_)
  (show wpAny _ A.in1 (if (((ep : Nat) : Int) != ((ep : Nat) : Int)) = true then _ else _) _ _ s)
  rw [if_neg (by simp)]
  refine wpAny_pure ?_
  (show wpAny _ A.in1 (match (if (i : Int) < 0 then none else es[(i : Int).toNat]?) with | some e => _ | none => _) _ _ s)
  rw [if_neg (by omega), Int.toNat_natCast, hi]
  (show wpAny _ A.in1 ((typeNameOfWhole (.ref it) >>= _) >>= _) _ _ s)
  refine wpAny_bind (wpAny_bind (wpAny_typeNameOfWhole_keyiter hT (wpAny_pure ?_)))
  rw [own_no]
  refine wpAny_bind (wpAny_setField hI rfl (show 0 < 4 by decide) ?_)
  generalize hh2 : s.heap.update it _ = h2
  have hS : ∀ b ob, b ≠ it → s.heap.get? b = some ob → h2.get? b = some ob := fun b ob hb e => by
    rw [← hh2]
    exact (Heap.get?_update_other _ _ (Ne.symm hb)).trans e
  refine wpAny_bind (stop_new fun h3 e M ⟨oe, he, hce⟩ => ?_)
  refine wpAny_raiseNew_none (show A.in1.handled = none from hh) ?_
  (show wpAny _ A (isInstance (.ref e) (.type "StopIteration") >>= _) _ _ _)
  refine wpAny_bind (wpAny_isInstance ⟨_, he, hce⟩ isSubtype_stop ?_)
  rw [if_pos rfl]
  exact wpAny_pure (h h3 fun b ob hb q => M _ _ (hS b ob hb q))
theorem iterR {d : Addr} {o : Obj} {es : Array DictEntry} {ep : Nat} {Q : Value → Shared → Prop} (hs : (d == sysModules) = false) (ho : s.heap.get? d = some o) (hx : o.ExactDict) (hd : o.data = .dict es ep)
    (h : Q (.ref s.heap.objs.size) { s with heap := s.heap.push { cls := .type "dict_keyiterator", data := .fields #[.ref d, .int 0 0, .int (es.size : Nat) 0, .int (ep : Nat) 0] } }) : wpAny (model prog w) A (pyIter (.ref d)) Q E s := by
  have hT : s.TypeIs (.ref d) "dict" := ⟨o, ho, hx.1⟩
  unfold pyIter
  refine wpAny_bind (wpAny_specialOf hT F.slot_dict_iter.lookup ?_)
  (show wpAny _ A (callSpecialIfBoundUnlessNone? (.ref d) _ _ >>= _) _ _ s)
  refine wpAny_bind (wpAny_callSpecialIfBoundUnlessNone?_slot hT F.slot_dict_iter (wpAny_call_entry F.slot_dict_iter hT F.entry_dict_iter ?_ (F.args_dict_iter_1 _)))
  (show wpAny _ A.in1 (Builtin.Dict.dictSlotNone "__iter__" ⟨[.ref d], []⟩ >>= _) _ _ s)
  refine wpAny_bind ?_
  (show wpAny _ A.in1 (Builtin.Dict.notOrdered "__iter__" ⟨[.ref d], []⟩ >>= _) _ _ s)
  refine wpAny_bind ?_
  (show wpAny _ A.in1 (typeOf (.ref d) >>= _) _ _ s)
  refine wpAny_bind (wpAny_typeOf hT ?_)
  rw [if_neg (by decide)]
  refine wpAny_pure ?_
  refine wpAny_bind (wpAny_of_eq (show slotArgs "__iter__" 0 ⟨[.ref d], []⟩ = pure (.ref d, []) from rfl) ?_)
  refine wpAny_pure ?_
  refine wpAny_bind (wpAny_of_eq (show Builtin.Dict.addrOf (.ref d) = pure d from rfl) ?_)
  refine wpAny_bind (wpAny_of_eq (show Builtin.Dict.showsAll d = pure () by unfold Builtin.Dict.showsAll; rw [hs]; rfl) ?_)
  refine wpAny_bind (wpAny_dictEntries ho hd ?_)
  refine wpAny_bind (wpAny_dictEpoch ho hd ?_)
  refine wpAny_bind ?_
  unfold newFields
  refine wpAny_newObj_type ?_
  refine wpAny_pure ⟨_, rfl, ?_⟩
  refine wpAny_bind (wpAny_specialOf (T := "dict_keyiterator") ⟨_, Heap.get?_push_size _ rfl, rfl⟩ F.slot_dict_keyiterator_next.lookup ?_)
  exact wpAny_pure h
theorem srcR {d : Addr} {es : Array DictEntry} {ep : Nat} (hs : (d == sysModules) = false) :
    PySem.W.KdlSrc prog w "dict" d d es.size (fun i v => ∃ e, es[i]? = some e ∧ v = e.key) (fun h => ∃ o, h.get? d = some o ∧ o.ExactDict ∧ o.data = .dict es ep) where
  type := fun s ⟨o, ho, hx, _⟩ => ⟨o, ho, hx.1⟩
  there := fun h ⟨o, ho, _⟩ => ⟨Heap.lt_size ho, Heap.lt_size ho⟩
  keep := fun h h' ⟨o, ho, hx, hd⟩ k => ⟨o, k d (.inl rfl) o ho, hx, hd⟩
  notList := rfl
  notTuple := rfl
  hint := fun A E s Q ⟨o, ho, hx, _⟩ q => PySem.W.kdl_hint_dict ⟨o, ho, hx.1⟩ q
  iter := fun A s hh ⟨o, ho, hx, hd⟩ => by
    have hne : d ≠ s.heap.objs.size := Nat.ne_of_lt (Heap.lt_size ho)
    refine ⟨{ cls := .type "dict_keyiterator", data := .fields #[.ref d, .int 0 0, .int (es.size : Nat) 0, .int (ep : Nat) 0] }, fun i h => h.IsKeyIter s.heap.objs.size d i es.size ep ∧ ∃ o, h.get? d = some o ∧ o.ExactDict ∧ o.data = .dict es ep, fun E Q q => iterR hs ho hx hd q, ?_, ⟨_, Heap.get?_push_size _ rfl, rfl, rfl⟩, o, Heap.get?_push_of_some _ ho, hx, hd⟩
    refine ⟨fun b hb => by simp at hb ⊢; exact .inl hb, fun i h h' ⟨st, o, ho, hx, hd⟩ k => ⟨st.at fun ob e => k _ (by simp) ob e, o, k d (by simp) o ho, hx, hd⟩, fun i s' Q E hi ⟨st, o, ho, hx, hd⟩ q => ?_, fun s' Q E ⟨st, o, ho, hx, hd⟩ q => ?_, fun i s' Q E ⟨st, _⟩ q => wpAny_pyIter_keyiter st q⟩
    · obtain ⟨e, he⟩ : ∃ e, es[i]? = some e := ⟨es[i], Array.getElem?_eq_getElem hi⟩
      refine nextR_item st ho hd he fun h' st' sb => ?_
      have hk : h'.get? d = s'.heap.get? d := sb.2 d hne
      exact q _ h' s'.toks ⟨e, he, rfl⟩ ⟨st', o, hk.trans ho, hx, hd⟩ fun b ob hb eb => by rw [sb.2 b (by simpa using hb)]; exact eb
    · refine nextR_end hh st ho hd (Array.getElem?_eq_none (Nat.le_refl _)) fun h' k => ?_
      exact q h' s'.toks fun b ob hb eb => k b ob (by simpa using hb) eb
end
end L2

end

section
-- KcDxN
set_option Elab.async false
set_option linter.all false
set_option maxRecDepth 100000
set_option maxHeartbeats 4000000
namespace L2
open PySem PySem.Spec PyProof.Rows
theorem putZ_st {H : Hp} {zs : List (List IK × Addr × V)} {sts : List (List (Option Bool))} {st : List (Option Bool)} {ks : List IK} {t : Addr} {v : V} (p : Paired (fun (z : List IK × Addr × V) (st : List (Option Bool)) => H z.2.1 = some (.tup (st.map stV)) ∧ (Sum.inr z.1 : MK) = keyS st) zs sts) (hk : (Sum.inr ks : MK) = keyS st) (et : H t = some (.tup (st.map stV))) :
    Paired (fun (z : List IK × Addr × V) (st : List (Option Bool)) => H z.2.1 = some (.tup (st.map stV)) ∧ (Sum.inr z.1 : MK) = keyS st) (putZ zs ks t v) (insS sts st) := by
  have hs : (atZ zs ks).isSome = true ↔ st ∈ sts := by
    clear et
    induction p with
    | nil => simp [atZ]
    | @cons z s zs sts q r ih =>
      unfold atZ at ih ⊢
      rw [List.find?_cons]
      by_cases e : z.1 = ks
      · rw [decide_eq_true e]
        have : s = st := keyS_inj (by rw [← q.2, ← hk, e])
        simp [this]
      · rw [decide_eq_false e]
        have : st ≠ s := fun z' => e (by have := q.2; rw [← z', ← hk] at this; injection this)
        rw [List.mem_cons]
        exact ih.trans ⟨.inr, fun h => h.resolve_left this⟩
  unfold putZ insS
  by_cases c : (atZ zs ks).isSome = true
  · rw [if_pos c, if_pos (hs.mp c)]
    clear hs c
    induction p with
    | nil => exact .nil
    | cons q r ih =>
      refine .cons ?_ ih
      dsimp only
      split
      · exact q
      · exact q
  · rw [if_neg c, if_neg (fun z => c (hs.mpr z))]
    exact Paired.snoc p ⟨et, hk⟩
section
variable {X : Cx}
theorem set_B (hu : X.A.units + 64 < cLine) : PSet X rBSet := by
  intro pins s σ H o i v ov iv u Q I ro ri rv h
  obtain ⟨a, t, sts, st, rfl, rfl, et, B, hn, q⟩ := h
  cases ro
  cases ri
  obtain ⟨zs, e, p⟩ := B
  have hz : ∀ z ∈ zs, KeyV H (.ref z.2.1) (.inr z.1) := by
    clear e hn q
    induction p with
    | nil => exact fun z hz => (nomatch hz)
    | cons r _ ih =>
      intro z hz
      rcases List.mem_cons.mp hz with rfl | hz
      · rw [r.2]; exact key_st r.1
      · exact ih z hz
  have hk : KeyV H (.ref t) (keyS st) := key_st et
  obtain ⟨ks, hks⟩ : ∃ ks : List IK, (Sum.inr ks : MK) = keyS st := ⟨_, rfl⟩
  rw [← hks] at hk
  obtain ⟨z, hd, xs, rel, dd⟩ := db_of I.hok e hz
  have hlen : zs.length = sts.length := Paired.length p
  have hvz : xs.length ≤ sizeLine := by rw [← rel.length]; exact z
  have hl' : (putZ zs ks t v).length ≤ sizeLine := by have := length_putZ zs ks t v; omega
  refine wpAny_setItem_heap (knd := tkKind X.prog X.w) (hsz := hvz) (show X.A.units + 2 < cLine by omega) (tk_is I.hok hk) dd fun h' dd' hs' => ?_
  have kp : Keep H (upd H a (dB a (putZ zs ks t v))) := off_upd'.keepD fun xs q => by rw [e] at q; cases q
  exact ⟨_, db_new I e hs' hl' hd (rel.put ks rv) dd', q _ off_upd' ⟨_, upd_same, Paired.mapP (putZ_st p hks et) fun _ _ r => ⟨kp _ _ r.1, r.2⟩⟩⟩
theorem call_lbd (hc : X.calm = true) : CallR X (.type "list") cLBd := by
  intro pins s σ H xs us Q I r h
  obtain ⟨a, sts, rfl, B, q⟩ := h
  obtain ⟨u, rfl, rx⟩ := r.one
  cases rx
  obtain ⟨zs, e, p⟩ := B
  obtain ⟨⟨z, y, xs, rel, o, es, ep, h1, h2, h3, h4, h5⟩, _⟩ := (show ObjOk X.prog X.w H s.heap a (dB a zs) from I.hok a _ e)
  have hsz : es.size = zs.length := by rw [← Array.length_toList, h4, List.length_map]; exact (ZX.length rel).symm
  refine PySem.W.kdl_call (srcR (es := es) (ep := ep) y) (I.ok.hd hc) ⟨o, h1, h2, h3⟩ (by rw [hsz]; exact z) fun h' tk acc c kp e' it => ?_
  have hacc : acc.toList = (zs.map fun z => Value.ref z.2.1) := by
    refine List.ext_getElem? fun j => ?_
    rw [Array.getElem?_toList, List.getElem?_map]
    by_cases hj : j < zs.length
    · have hja : j < acc.size := by rw [it.1, hsz]; exact hj
      obtain ⟨en, hen, ev⟩ := it.2 j _ (Array.getElem?_eq_getElem hja)
      rw [Array.getElem?_eq_getElem hja, ev, List.getElem?_eq_getElem hj]
      have hx : es.toList[j]? = some en := by rw [Array.getElem?_toList]; exact hen
      rw [h4, List.getElem?_map] at hx
      cases hxj : xs[j]? with
      | none => rw [hxj] at hx; cases hx
      | some w =>
        rw [hxj] at hx
        cases hx
        have : ∀ {l : List (List IK × Addr × V)} {m : List (List IK × Addr × Value)} {j : Nat} {w : List IK × Addr × Value}, ZX l m → m[j]? = some w → ∃ z, l[j]? = some z ∧ z.2.1 = w.2.1 := by
          intro l m j w q
          unfold ZX at q
          induction q generalizing j with
          | nil => intro h; cases h
          | cons r _ ih =>
            intro h
            cases j with
            | zero => cases h; exact ⟨_, rfl, r.2.1⟩
            | succ j => exact ih h
        obtain ⟨z', hz', ez⟩ := this rel hxj
        rw [List.getElem?_eq_getElem hj] at hz'
        cases hz'
        show some (Value.ref w.2.1) = some (Value.ref _)
        rw [← ez]
    · rw [Array.getElem?_eq_none (by rw [it.1, hsz]; omega), List.getElem?_eq_none (by omega)]
      rfl
  have hV : Vals ((zs.map fun z => z.2.1).map V.ref) acc.toList := by
    rw [hacc]
    have : ∀ l : List (List IK × Addr × V), Vals ((l.map fun z => z.2.1).map V.ref) (l.map fun z => Value.ref z.2.1) := by
      intro l
      induction l with
      | nil => exact .nil
      | cons z l ih => exact .cons rfl ih
    exact this zs
  refine ⟨.ref s.heap.objs.size, _, I.laid (t' := tk) kp (Nat.le_refl _) (show ObjOk X.prog X.w _ h' _ (.lst ((zs.map fun z => z.2.1).map V.ref)) from ⟨by rw [List.length_map, List.length_map]; exact z, acc.toList, c, hV, by simpa using e'⟩), rfl, ?_⟩
  have hf := I.hok.fresh (Nat.le_refl s.heap.objs.size)
  refine q _ _ (zs.map fun z => z.2.1) hf (same_new hf _) upd_same ?_
  have go : ∀ {l : List (List IK × Addr × V)} {m : List (List (Option Bool))} {H' : Hp}, Same H H' → Paired (fun (z : List IK × Addr × V) (st : List (Option Bool)) => H z.2.1 = some (.tup (st.map stV)) ∧ (Sum.inr z.1 : MK) = keyS st) l m → Paired (StP H') (l.map fun z => z.2.1) m := by
    intro l m H' sm q
    induction q with
    | nil => exact .nil
    | cons r _ ih => exact .cons (sm _ _ r.1) ih
  exact go (same_new hf _) p
end
end L2

end

section
-- KcDkN
set_option Elab.async false
set_option linter.all false
set_option maxRecDepth 100000
set_option maxHeartbeats 4000000
namespace L2
open PySem PySem.Spec PyProof.Rows
section
variable {X : Cx}
end
end L2

end

section
-- KcLenN
set_option Elab.async false
set_option linter.all false
set_option maxRecDepth 100000
set_option maxHeartbeats 4000000
namespace L2
open PySem PySem.Spec PyProof.Rows
section
variable {X : Cx}
end
end L2

end

section
-- KcMinN
set_option Elab.async false
set_option linter.all false
set_option maxRecDepth 100000
set_option maxHeartbeats 4000000
namespace L2
section
open PySem PySem.Spec PyProof.Rows
/-! ### max(xs, default=None) -/
section
variable {prog : Program} {w : World} {A : Around} {R : Result → Shared → Prop} {I : Addr} {fp wr : List Addr} {n : Nat} {P : Nat → Value → Prop} {St : Nat → Heap → Prop} {kw : List (Str × Value)}
end
section
variable {prog : Program} {w : World} {A : Around} {E : Value → Shared → Prop} {s : Shared}
theorem args_minDd (a v : Value) : argsOk "min" ⟨[a], [(Str.ofString "default", v)]⟩ := by unfold argsOk; kernel_rfl
theorem call_minDd (d : Value) {l : Addr} {zs : Array (Int × Tok)} {Q : Value → Shared → Prop} (hh : A.handled = none) (hl : s.heap.IsList l (intItems zs))
    (h0 : zs.size = 0 → ∀ h' tk, (∀ b o, s.heap.get? b = some o → h'.get? b = some o) → Q d { s with heap := h', toks := tk })
    (h : 0 < zs.size → ∀ v h' tk, (intItems zs)[argBest (fun i j => decide (numAt zs i < numAt zs j)) (zs.size - 1)]? = some v → (∀ b o, s.heap.get? b = some o → h'.get? b = some o) → Q v { s with heap := h', toks := tk }) :
    wpAny (model prog w) A (call (.builtin "min") [.ref l] [(Str.ofString "default", d)]) Q E s := by
  have nm : (toString "min" ++ toString ".loop" : String) = "min.loop" := by decide
  refine PyProof.Rows.kmb_tree PySem.F.kind_min PySem.F.plain_min PySem.F.entry_min (args_minDd _ _) ?_
  (show wpAny _ A.in1 (Builtin.Builtins.bindParams "min" ["key", "default"] 0 ⟨[], [(Str.ofString "default", d)]⟩ >>= _) _ _ s)
  refine wpAny_bind (wpAny_of_eq (show Builtin.Builtins.bindParams "min" ["key", "default"] 0 ⟨[], [(Str.ofString "default", d)]⟩ = pure [none, some d] from rfl) ?_)
  refine wpAny_bind (wpAny_pure ?_)
  refine wpAny_bind (iter_intList hl fun s₂ e st hfp hlI => ?_)
  subst e
  refine wpAny_bind (wpAny_newObj_type ?_)
  have hW := Walks.list (A := A.in1) (prog := prog) (w := w) hh s.heap.objs.size l hlI (intItems zs)
  rw [nm]
  by_cases hz : zs.size = 0
  · refine wpAny_pure ⟨plainId_quiet PySem.F.plain_min_loop _, minD_none hW _ (fun hm => Nat.lt_irrefl _ (hfp _ hm)) (by simpa [intItems] using hz) (hW.frame _ _ _ st fun b _ o e => Heap.get?_push_of_some _ e) (Heap.get?_push_size _ rfl) fun h' tk hk => ?_⟩
    refine h0 hz _ _ (old_kept (l := l) fun b o hb e => ?_)
    exact hk b o hb (fun z => Nat.lt_irrefl _ (z ▸ Heap.lt_size e)) (Heap.get?_push_of_some _ e)
  · refine wpAny_pure ⟨plainId_quiet PySem.F.plain_min_loop _, minD_first hW _ (CmpOf.ints_lt (numAt zs) (fun _ _ => intItems_at)) _ (fun hm => Nat.lt_irrefl _ (hfp _ hm)) (by simpa [intItems] using Nat.pos_of_ne_zero hz) (hW.frame _ _ _ st fun b _ o e => Heap.get?_push_of_some _ e) (Heap.get?_push_size _ rfl) fun v h' tk hP hk => ?_⟩
    refine h (Nat.pos_of_ne_zero hz) v _ _ (by simpa [intItems] using hP) (old_kept (l := l) fun b o hb e => ?_)
    exact hk b o hb (fun z => Nat.lt_irrefl _ (z ▸ Heap.lt_size e)) (Heap.get?_push_of_some _ e)
end
section
variable {prog : Program} {w : World} {A : Around} {E : Value → Shared → Prop} {s : Shared}
end
end
open PySem PySem.Spec PyProof.Rows
section
variable {X : Cx}
theorem pe_minDI {e : Expr} {p pos kp kp2 : Pos} {j : Nat} {t : TA} (hc : X.calm = true) {c : Int} (hm : X.mg "min" = none) (ha : PA X [e] t) (hg : Gl X "min" := by rfl)
    (he : backTo pos (starEach [e] X.env) = (false, eval e X.env) :: backTo pos (starEach [] X.env) := by rfl) (hpl : (backTo pos (starEach [e] X.env)).any (·.1) = false := by rfl) :
    PE X (.Call (.Name "min" p) [e] [⟨some "default", .Constant (.int c) j kp2, kp⟩] pos) (mMinDI c X.K t) := by
  intro pins s σ H Q I h
  refine wpAny_Call_Name_kw (ld_blt I hg hm boot_min ?_ (by decide) (by decide))
  refine PyProof.Rows.callWith_kw (thn (ha pos pins s σ H _ I h) fun us s1 ⟨vs, H1, I1, r1, q1⟩ => ?_) he hpl
  obtain ⟨l, ns, rfl, hq, h0, h1⟩ := q1
  obtain ⟨u, rfl, rx⟩ := r1.one
  cases rx
  refine thn ((pk_cons pe_int pk_nil) pos pins s1 σ H1 (fun zs H2 => zs = [.int c] ∧ H2 = H1) I1 ⟨rfl, rfl⟩) fun ws s2 ⟨zs, H2, I2, rz, ez, eH⟩ => ?_
  subst ez eH
  obtain ⟨wv, rfl, rw'⟩ := rz.one
  obtain ⟨tw, rfl⟩ := rw'
  obtain ⟨its, rv, pl, hz⟩ := I2.list hq
  have hi := intsAre_of rv
  obtain ⟨zs, ez⟩ := (hi.allInts).items
  have hl : s2.heap.IsList l (intItems zs) := by rw [← ez]; exact pl.isList
  have hnum : zs.toList.map (·.1) = ns := by rw [← nums_intItems, ← ez]; exact hi.numsOf
  have hsz : zs.size = ns.length := by rw [← hnum]; simp
  refine call_minDd _ (I.ok.hd hc) hl (fun hz h' tk hk => ⟨.int c, H2, I2.kept hk, ⟨_, rfl⟩, h0 (List.eq_nil_of_length_eq_zero (by omega))⟩) fun hpos v h' tk hv hk => ?_
  obtain ⟨t, rfl⟩ := intItems_at hv
  obtain ⟨b1, b2⟩ := argBest_lt (numAt zs) (zs.size - 1)
  refine ⟨.int _, H2, I2.kept hk, ⟨t, rfl⟩, h1 _ ?_ fun a ha => ?_⟩
  · rw [numAt_eq, hnum]
    exact getD_mem (by omega)
  · rw [← hnum] at ha
    obtain ⟨j, hj, rfl⟩ := mem_getD ha
    rw [List.length_map, Array.length_toList] at hj
    rw [← numAt_eq]
    exact b2 j (by omega)
end
end L2

end

section
-- KcRng3
set_option Elab.async false
set_option linter.all false
set_option maxRecDepth 100000
set_option maxHeartbeats 4000000
namespace L2
open PySem PySem.Spec PyProof.Rows
/-! ### for i in range(a, -1, -1) -/
theorem turn_down {P : Program} {w : World} {K : PySem.W.Frag} {tg : Expr} (it : Addr) (lo : Int) (n : Nat) : Turn P w K tg (Itd lo n) [it] it (fun i h => IsRangeIter h it (lo + (i : Nat) * (-1)) ((n : Int) - (i : Nat)) (-1)) where
  mem := by simp
  obj := fun i h st b hb => by
    have e : b = it := by simpa using hb
    subst e
    exact ⟨_, st, fun v z => by
      have z' : Data.fields _ = Data.cell v := z
      cases z'⟩
  keep := fun i h h' st k => k it (by simp) _ st
  item := by
    intro X hP hw hK hc i pins s σ H E I hf st hg
    subst hP hw hK
    obtain ⟨f0, f1, f2, f3, f4, f5⟩ := hf it (by simp)
    have W := Walks.range (prog := X.prog) (w := X.w) (I.ok.hd hc) it lo (-1) n
    refine W.item i s _ _ hg st fun v h' tk hv st' kk => ?_
    obtain ⟨t, rfl⟩ := hv
    have I1 : Inv X pins σ H { s with heap := h', toks := tk } := I.turned (fun b o hb e => kk b o (by simpa using hb) e) f0 f1 f3 f4 f5
    refine ⟨_, rfl, go_of (s := { s with heap := h', toks := tk }) (n := "range_iterator") st' rfl rfl (by decide) ⟨.int (lo - i), H, I1, ⟨t, ?_⟩, ⟨rfl, rfl⟩, st', fun b hb => (hf b hb).1⟩⟩
    rw [show lo + (i : Int) * (-1) = lo - (i : Int) by omega]
  done := by
    intro X hP hw hK hc i pins s σ H E I hf st hg
    subst hP hw hK
    obtain ⟨f0, f1, f2, f3, f4, f5⟩ := hf it (by simp)
    exact wpAny_pyNext_range_end (I.ok.hd hc) st (by have : n ≤ i := hg; omega) fun h' eb => ⟨rfl, I.turned (t' := s.toks) (fun b o hb e => eb b o hb e) f0 f1 f3 f4 f5⟩
  self := fun _ _ _ _ _ st h => wpAny_pyIter_rangeiter st h
section
variable {X : Cx} {tg : Expr}
end
end L2

end

section
-- KcRngZ
set_option Elab.async false
set_option linter.all false
set_option maxRecDepth 100000
set_option maxHeartbeats 4000000
namespace L2
open PySem PySem.Spec PyProof.Rows
section
variable {X : Cx} {tg : Expr}
theorem size_downZ {lo : Int} (h1 : 0 ≤ lo) : Builtin.Range.rangeSize lo 0 (-1) = lo := by
  unfold Builtin.Range.rangeSize
  rw [if_neg (by decide)]
  by_cases h : lo > 0
  · rw [if_pos h, show -(-1 : Int) = 1 from rfl, Int.ediv_one]; omega
  · rw [if_neg h]; omega
theorem downZ_it {pins : List (Addr × Obj)} {σ : St} {H : Hp} {s : Shared} {R : It → Hp → Prop} {E : Value → Shared → Prop} {lo : Int} {t u v : Tok} {tk : Nat} (I : Inv X pins σ H s) (h1 : 0 ≤ lo) (h2 : lo < 1000000)
    (q : R (Itd lo lo.toNat) H) : wpAny (model X.prog X.w) X.A (pyIter (.ref s.heap.objs.size)) (PIE X pins σ tg R) E { s with heap := s.heap.push { cls := .type "range", data := .fields #[.int lo t, .int 0 u, .int (-1) v] }, toks := tk } := by
  refine wpAny_pyIter_range (IsRange.new ..) ?small ?_
  case small =>
    unfold Builtin.Range.small
    rw [size_downZ h1]
    simp [Builtin.Range.rangeFitsLong]
    omega
  have I1 : Inv X pins σ H { s with heap := s.heap.push { cls := .type "range", data := .fields #[.int lo t, .int 0 u, .int (-1) v] }, toks := tk } := I.kept fun b o e => Heap.get?_push_of_some _ e
  refine ⟨(s.heap.push { cls := .type "range", data := .fields #[.int lo t, .int 0 u, .int (-1) v] }).objs.size, [(s.heap.push { cls := .type "range", data := .fields #[.int lo t, .int 0 u, .int (-1) v] }).objs.size], _, _, H, rfl,
    I1.kept (t' := tk) fun b o e => Heap.get?_push_of_some _ e, turn_down _ lo lo.toNat, ?_, fun b hb => ?_, q⟩
  · have e1 : lo + ((0 : Nat) : Int) * (-1) = lo := by simp
    have e2 : ((lo.toNat : Nat) : Int) - ((0 : Nat) : Int) = Builtin.Range.rangeSize lo 0 (-1) := by
      rw [size_downZ h1]; omega
    show IsRangeIter _ _ (lo + ((0 : Nat) : Int) * (-1)) (((lo.toNat : Nat) : Int) - ((0 : Nat) : Int)) (-1)
    rw [e1, e2]
    exact Heap.get?_push_size _ rfl
  · have e : b = (s.heap.push { cls := .type "range", data := .fields #[.int lo t, .int 0 u, .int (-1) v] }).objs.size := by simpa using hb
    subst e
    exact I1.fpOk (Nat.le_refl _) (I1.hok.fresh (Nat.le_refl _))
theorem pi_rangeZ {a b d : Expr} {ta : TA} {p pos : Pos} (hg : Gl X "range") (hm : X.mg "range" = none) (ha : PA X [a, b, d] ta) (hs : starEach [a, b, d] X.env = [(false, eval a X.env), (false, eval b X.env), (false, eval d X.env)] := by rfl) (hs2 : starEach [b, d] X.env = [(false, eval b X.env), (false, eval d X.env)] := by rfl) :
    PI X tg (.Call (.Name "range" p) [a, b, d] [] pos) (iRngZ ta) := by
  intro pins s σ H R I h
  refine Call_ (ld_blt I hg hm boot_range (PyProof.Rows.callWith_type1 (thn (ha pos pins s σ H _ I h) fun us s1 ⟨vs, H1, I1, r1, q1⟩ => ?_) (by rw [hs, hs2]) (by rw [hs2]; rfl)))
  obtain ⟨i, e, q1, q2, q⟩ := q1
  subst e
  cases r1 with
  | cons r rr =>
    cases rr with
    | cons r' rr =>
      cases rr with
      | cons r'' rr =>
        cases rr
        obtain ⟨t, rfl⟩ := r
        obtain ⟨t', rfl⟩ := r'
        obtain ⟨t'', rfl⟩ := r''
        exact call_range_3 (by decide) (downZ_it I1 q1 q2 q) (Or.inl (PyProof.noPylong_small (by omega)))
theorem op_isTr : OpR X (compareOp .Is) rIsTr := by
  intro pins s σ H x y v u Q I rx ry h
  obtain ⟨rfl, q⟩ := h
  cases ry
  refine wpAny_is_plain (by cases x <;> (first | (obtain ⟨t, rfl⟩ := rx; rfl) | (cases rx; rfl))) ⟨.bl (isT x), H, I, ?_, q⟩
  cases x <;> (first | (obtain ⟨t, rfl⟩ := rx; rfl) | (cases rx; first | rfl | (rename_i c; cases c <;> rfl)))
end
end L2

end

section
-- KcEq
set_option Elab.async false
set_option linter.all false
set_option maxRecDepth 100000
set_option maxHeartbeats 4000000
namespace L2
open PySem PySem.Spec PyProof.Rows
/-! ### data behind a value: lists and tuples to any depth -/
mutual
inductive Dat (K : PySem.W.Frag) (H : Hp) : V → PyData → Prop where
  | non : Dat K H .non .none
  | bl (b : Bool) : Dat K H (.bl b) (.bool b)
  | int (i : Int) : Dat K H (.int i) (.int i)
  | str (x : Str) : Dat K H (.str x) (.str x)
  | lst {a : Addr} {xs : List V} {ds : List PyData} (e : SqL K H a xs) (h : Dats K H xs ds) : Dat K H (.ref a) (.list ds)
  | tup {a : Addr} {xs : List V} {ds : List PyData} (e : SqT K H a xs) (h : Dats K H xs ds) : Dat K H (.ref a) (.tuple ds)
inductive Dats (K : PySem.W.Frag) (H : Hp) : List V → List PyData → Prop where
  | nil : Dats K H [] []
  | cons {x : V} {xs : List V} {d : PyData} {ds : List PyData} (h : Dat K H x d) (t : Dats K H xs ds) : Dats K H (x :: xs) (d :: ds)
end
section
variable {X : Cx} {pins : List (Addr × Obj)} {σ : St} {H : Hp} {s : Shared}
mutual
theorem Dat.reads (I : Inv X pins σ H s) : ∀ {x : V} {d : PyData} {u : Value}, Dat X.K H x d → RelV x u → ∃ as, Reads s.heap u d as
  | _, _, _, .non, r => by cases r; exact ⟨_, .none⟩
  | _, _, _, .bl b, r => by cases r; exact ⟨_, .bool b⟩
  | _, _, _, .int i, r => by obtain ⟨t, rfl⟩ := r; exact ⟨_, .int i t⟩
  | _, _, _, .str x, r => by obtain ⟨t, rfl⟩ := r; exact ⟨_, .str x t⟩
  | _, _, _, .lst e h, r => by
    cases r
    obtain ⟨its, rv, ⟨o, n, h1, h2, h3, h4⟩, _⟩ := I.list e
    obtain ⟨as, ra⟩ := Dats.reads I h rv
    exact ⟨_, .list h1 h2 h4 (by simpa using ra)⟩
  | _, _, _, .tup e h, r => by
    cases r
    obtain ⟨its, rv, ⟨o, h1, h2, n, h3⟩, _⟩ := I.tuple e
    obtain ⟨as, ra⟩ := Dats.reads I h rv
    exact ⟨_, .tuple h1 h2 h3 (by simpa using ra)⟩
theorem Dats.reads (I : Inv X pins σ H s) : ∀ {xs : List V} {ds : List PyData} {us : List Value}, Dats X.K H xs ds → Vals xs us → ∃ as, ReadsAll s.heap us ds as
  | _, _, _, .nil, .nil => ⟨_, .nil⟩
  | _, _, _, .cons h t, .cons r q => by
    obtain ⟨as, ra⟩ := Dat.reads I h r
    obtain ⟨bs, rb⟩ := Dats.reads I t q
    exact ⟨_, .cons ra rb⟩
end
end
section
variable {X : Cx}
end
end L2

end

section
-- KcSameN
set_option Elab.async false
set_option linter.all false
set_option maxRecDepth 100000
set_option maxHeartbeats 4000000
namespace L2
open PySem PySem.Spec PyProof.Rows
mutual
theorem datD {K : PySem.W.Frag} {H : Hp} : ∀ {n : Nat} {x y : V}, SameD K H n x y → ∃ d, Dat K H x d ∧ Dat K H y d ∧ d.canLay0 = true ∧ d.depth ≤ n
  | n, x, _, .flat h => by
    cases x with
    | non => exact ⟨_, .non, .non, rfl, Nat.zero_le _⟩
    | bl b => exact ⟨_, .bl b, .bl b, rfl, Nat.zero_le _⟩
    | int i => exact ⟨_, .int i, .int i, rfl, Nat.zero_le _⟩
    | _ => cases h
  | _, _, _, .lst (xs := xs) (ys := ys) e1 e2 hl h => by
    obtain ⟨ds, h1, h2, h3, h4⟩ := datsD xs ys hl h
    exact ⟨_, .lst e1 h1, .lst e2 h2, h3, Nat.succ_le_succ h4⟩
  | _, _, _, .tup (xs := xs) (ys := ys) e1 e2 hl h => by
    obtain ⟨ds, h1, h2, h3, h4⟩ := datsD xs ys hl h
    exact ⟨_, .tup e1 h1, .tup e2 h2, h3, Nat.succ_le_succ h4⟩
theorem datsD {K : PySem.W.Frag} {H : Hp} {n : Nat} : ∀ (xs ys : List V), xs.length = ys.length → (∀ (i : Nat) (x y : V), xs[i]? = some x → ys[i]? = some y → SameD K H n x y) → ∃ ds, Dats K H xs ds ∧ Dats K H ys ds ∧ PyData.canLayAll0 ds = true ∧ PyData.depthAll ds ≤ n
  | [], [], _, _ => ⟨[], .nil, .nil, rfl, Nat.zero_le _⟩
  | x :: xs, y :: ys, hl, h => by
    obtain ⟨d, a1, a2, a3, a4⟩ := datD (h 0 x y rfl rfl)
    obtain ⟨ds, b1, b2, b3, b4⟩ := datsD xs ys (by simpa using hl) (fun i x y hx hy => h (i + 1) x y hx hy)
    refine ⟨d :: ds, .cons a1 b1, .cons a2 b2, ?_, ?_⟩
    · show (d.canLay0 && PyData.canLayAll0 ds) = true
      rw [a3, b3]; rfl
    · show max d.depth (PyData.depthAll ds) ≤ n
      omega
  | [], _ :: _, hl, _ => by simp at hl
  | _ :: _, [], hl, _ => by simp at hl
end
section
variable {X : Cx}
end
end L2

end

set_option Elab.async false
set_option linter.all false
set_option maxRecDepth 100000
set_option maxHeartbeats 4000000
namespace Kc_k50
open PySem L2 PyProof.Rows
seal L2.PE L2.PA L2.PS L2.PSs L2.PT L2.PW L2.PI L2.PG L2.PGs L2.PO L2.PTL L2.OpR L2.UnR L2.CallR L2.SlR L2.IxR L2.PSet
noncomputable def top (i : Nat) : Stmt := PySem.Challenge.pw_knowcards_k50_whole_papers_beat_every_wa.main.body.getD i (.Pass ⟨0, 0, 0, 0⟩)
noncomputable abbrev S_fewest : Stmt := top 1
theorem sc_fewest : FnScope ["asks", "goal", "some"] ["asks", "goal", "some"] (defScope S_fewest) := ⟨rfl, rfl, rfl, by decide +kernel, rfl, by decide +kernel, by decide +kernel⟩
theorem v_fewest_0 : VarAt ["asks", "goal", "some"] (defScope S_fewest) 0 "asks" := ⟨rfl, by first | exact Or.inl rfl | exact Or.inr (Or.inl rfl) | exact Or.inr (Or.inr rfl), by decide, by decide⟩
theorem v_fewest_1 : VarAt ["asks", "goal", "some"] (defScope S_fewest) 1 "goal" := ⟨rfl, by first | exact Or.inl rfl | exact Or.inr (Or.inl rfl) | exact Or.inr (Or.inr rfl), by decide, by decide⟩
theorem v_fewest_2 : VarAt ["asks", "goal", "some"] (defScope S_fewest) 2 "some" := ⟨rfl, by first | exact Or.inl rfl | exact Or.inr (Or.inl rfl) | exact Or.inr (Or.inr rfl), by decide, by decide⟩
noncomputable abbrev S_fewest_from : Stmt := top 2
theorem sc_fewest_from : FnScope ["asks", "goal", "left", "state", "found"] ["asks", "goal", "left", "state", "found"] (defScope S_fewest_from) := ⟨rfl, rfl, rfl, by decide +kernel, rfl, by decide +kernel, by decide +kernel⟩
theorem v_fewest_from_0 : VarAt ["asks", "goal", "left", "state", "found"] (defScope S_fewest_from) 0 "asks" := ⟨rfl, by first | exact Or.inl rfl | exact Or.inr (Or.inl rfl) | exact Or.inr (Or.inr rfl), by decide, by decide⟩
theorem v_fewest_from_1 : VarAt ["asks", "goal", "left", "state", "found"] (defScope S_fewest_from) 1 "goal" := ⟨rfl, by first | exact Or.inl rfl | exact Or.inr (Or.inl rfl) | exact Or.inr (Or.inr rfl), by decide, by decide⟩
theorem v_fewest_from_2 : VarAt ["asks", "goal", "left", "state", "found"] (defScope S_fewest_from) 2 "left" := ⟨rfl, by first | exact Or.inl rfl | exact Or.inr (Or.inl rfl) | exact Or.inr (Or.inr rfl), by decide, by decide⟩
theorem v_fewest_from_3 : VarAt ["asks", "goal", "left", "state", "found"] (defScope S_fewest_from) 3 "state" := ⟨rfl, by first | exact Or.inl rfl | exact Or.inr (Or.inl rfl) | exact Or.inr (Or.inr rfl), by decide, by decide⟩
theorem v_fewest_from_4 : VarAt ["asks", "goal", "left", "state", "found"] (defScope S_fewest_from) 4 "found" := ⟨rfl, by first | exact Or.inl rfl | exact Or.inr (Or.inl rfl) | exact Or.inr (Or.inr rfl), by decide, by decide⟩
noncomputable abbrev S_are_same : Stmt := top 3
theorem sc_are_same : FnScope ["goal", "left"] ["goal", "left"] (defScope S_are_same) := ⟨rfl, rfl, rfl, by decide +kernel, rfl, by decide +kernel, by decide +kernel⟩
theorem v_are_same_1 : VarAt ["goal", "left"] (defScope S_are_same) 1 "left" := ⟨rfl, by first | exact Or.inl rfl | exact Or.inr (Or.inl rfl) | exact Or.inr (Or.inr rfl), by decide, by decide⟩
noncomputable abbrev S_fewest_of_more : Stmt := top 4
theorem sc_fewest_of_more : FnScope ["asks", "goal", "left", "state", "found", "counts", "number", "ask", "yes", "no"] ["asks", "goal", "left", "state", "found"] (defScope S_fewest_of_more) := ⟨rfl, rfl, rfl, by decide +kernel, rfl, by decide +kernel, by decide +kernel⟩
theorem v_fewest_of_more_0 : VarAt ["asks", "goal", "left", "state", "found", "counts", "number", "ask", "yes", "no"] (defScope S_fewest_of_more) 0 "asks" := ⟨rfl, by first | exact Or.inl rfl | exact Or.inr (Or.inl rfl) | exact Or.inr (Or.inr rfl), by decide, by decide⟩
theorem v_fewest_of_more_1 : VarAt ["asks", "goal", "left", "state", "found", "counts", "number", "ask", "yes", "no"] (defScope S_fewest_of_more) 1 "goal" := ⟨rfl, by first | exact Or.inl rfl | exact Or.inr (Or.inl rfl) | exact Or.inr (Or.inr rfl), by decide, by decide⟩
theorem v_fewest_of_more_2 : VarAt ["asks", "goal", "left", "state", "found", "counts", "number", "ask", "yes", "no"] (defScope S_fewest_of_more) 2 "left" := ⟨rfl, by first | exact Or.inl rfl | exact Or.inr (Or.inl rfl) | exact Or.inr (Or.inr rfl), by decide, by decide⟩
theorem v_fewest_of_more_3 : VarAt ["asks", "goal", "left", "state", "found", "counts", "number", "ask", "yes", "no"] (defScope S_fewest_of_more) 3 "state" := ⟨rfl, by first | exact Or.inl rfl | exact Or.inr (Or.inl rfl) | exact Or.inr (Or.inr rfl), by decide, by decide⟩
theorem v_fewest_of_more_4 : VarAt ["asks", "goal", "left", "state", "found", "counts", "number", "ask", "yes", "no"] (defScope S_fewest_of_more) 4 "found" := ⟨rfl, by first | exact Or.inl rfl | exact Or.inr (Or.inl rfl) | exact Or.inr (Or.inr rfl), by decide, by decide⟩
theorem v_fewest_of_more_5 : VarAt ["asks", "goal", "left", "state", "found", "counts", "number", "ask", "yes", "no"] (defScope S_fewest_of_more) 5 "counts" := ⟨rfl, by first | exact Or.inl rfl | exact Or.inr (Or.inl rfl) | exact Or.inr (Or.inr rfl), by decide, by decide⟩
theorem v_fewest_of_more_6 : VarAt ["asks", "goal", "left", "state", "found", "counts", "number", "ask", "yes", "no"] (defScope S_fewest_of_more) 6 "number" := ⟨rfl, by first | exact Or.inl rfl | exact Or.inr (Or.inl rfl) | exact Or.inr (Or.inr rfl), by decide, by decide⟩
theorem v_fewest_of_more_7 : VarAt ["asks", "goal", "left", "state", "found", "counts", "number", "ask", "yes", "no"] (defScope S_fewest_of_more) 7 "ask" := ⟨rfl, by first | exact Or.inl rfl | exact Or.inr (Or.inl rfl) | exact Or.inr (Or.inr rfl), by decide, by decide⟩
theorem v_fewest_of_more_8 : VarAt ["asks", "goal", "left", "state", "found", "counts", "number", "ask", "yes", "no"] (defScope S_fewest_of_more) 8 "yes" := ⟨rfl, by first | exact Or.inl rfl | exact Or.inr (Or.inl rfl) | exact Or.inr (Or.inr rfl), by decide, by decide⟩
theorem v_fewest_of_more_9 : VarAt ["asks", "goal", "left", "state", "found", "counts", "number", "ask", "yes", "no"] (defScope S_fewest_of_more) 9 "no" := ⟨rfl, by first | exact Or.inl rfl | exact Or.inr (Or.inl rfl) | exact Or.inr (Or.inr rfl), by decide, by decide⟩
noncomputable abbrev S_answering : Stmt := top 5
theorem sc_answering : FnScope ["ask", "left", "answer"] ["ask", "left", "answer"] (defScope S_answering) := ⟨rfl, rfl, rfl, by decide +kernel, rfl, by decide +kernel, by decide +kernel⟩
theorem v_answering_1 : VarAt ["ask", "left", "answer"] (defScope S_answering) 1 "left" := ⟨rfl, by first | exact Or.inl rfl | exact Or.inr (Or.inl rfl) | exact Or.inr (Or.inr rfl), by decide, by decide⟩
noncomputable abbrev S_with_answer : Stmt := top 6
theorem sc_with_answer : FnScope ["state", "number", "answer"] ["state", "number", "answer"] (defScope S_with_answer) := ⟨rfl, rfl, rfl, by decide +kernel, rfl, by decide +kernel, by decide +kernel⟩
theorem v_with_answer_0 : VarAt ["state", "number", "answer"] (defScope S_with_answer) 0 "state" := ⟨rfl, by first | exact Or.inl rfl | exact Or.inr (Or.inl rfl) | exact Or.inr (Or.inr rfl), by decide, by decide⟩
theorem v_with_answer_1 : VarAt ["state", "number", "answer"] (defScope S_with_answer) 1 "number" := ⟨rfl, by first | exact Or.inl rfl | exact Or.inr (Or.inl rfl) | exact Or.inr (Or.inr rfl), by decide, by decide⟩
theorem v_with_answer_2 : VarAt ["state", "number", "answer"] (defScope S_with_answer) 2 "answer" := ⟨rfl, by first | exact Or.inl rfl | exact Or.inr (Or.inl rfl) | exact Or.inr (Or.inr rfl), by decide, by decide⟩
noncomputable abbrev S_tree_of : Stmt := top 9
theorem sc_tree_of : FnScope ["asks", "goal", "some", "found", "state"] ["asks", "goal", "some"] (defScope S_tree_of) := ⟨rfl, rfl, rfl, by decide +kernel, rfl, by decide +kernel, by decide +kernel⟩
theorem v_tree_of_0 : VarAt ["asks", "goal", "some", "found", "state"] (defScope S_tree_of) 0 "asks" := ⟨rfl, by first | exact Or.inl rfl | exact Or.inr (Or.inl rfl) | exact Or.inr (Or.inr rfl), by decide, by decide⟩
theorem v_tree_of_1 : VarAt ["asks", "goal", "some", "found", "state"] (defScope S_tree_of) 1 "goal" := ⟨rfl, by first | exact Or.inl rfl | exact Or.inr (Or.inl rfl) | exact Or.inr (Or.inr rfl), by decide, by decide⟩
theorem v_tree_of_2 : VarAt ["asks", "goal", "some", "found", "state"] (defScope S_tree_of) 2 "some" := ⟨rfl, by first | exact Or.inl rfl | exact Or.inr (Or.inl rfl) | exact Or.inr (Or.inr rfl), by decide, by decide⟩
theorem v_tree_of_3 : VarAt ["asks", "goal", "some", "found", "state"] (defScope S_tree_of) 3 "found" := ⟨rfl, by first | exact Or.inl rfl | exact Or.inr (Or.inl rfl) | exact Or.inr (Or.inr rfl), by decide, by decide⟩
theorem v_tree_of_4 : VarAt ["asks", "goal", "some", "found", "state"] (defScope S_tree_of) 4 "state" := ⟨rfl, by first | exact Or.inl rfl | exact Or.inr (Or.inl rfl) | exact Or.inr (Or.inr rfl), by decide, by decide⟩
noncomputable abbrev S_tree_from : Stmt := top 10
theorem sc_tree_from : FnScope ["asks", "goal", "left", "state", "found", "number", "yes", "no"] ["asks", "goal", "left", "state", "found"] (defScope S_tree_from) := ⟨rfl, rfl, rfl, by decide +kernel, rfl, by decide +kernel, by decide +kernel⟩
theorem v_tree_from_0 : VarAt ["asks", "goal", "left", "state", "found", "number", "yes", "no"] (defScope S_tree_from) 0 "asks" := ⟨rfl, by first | exact Or.inl rfl | exact Or.inr (Or.inl rfl) | exact Or.inr (Or.inr rfl), by decide, by decide⟩
theorem v_tree_from_1 : VarAt ["asks", "goal", "left", "state", "found", "number", "yes", "no"] (defScope S_tree_from) 1 "goal" := ⟨rfl, by first | exact Or.inl rfl | exact Or.inr (Or.inl rfl) | exact Or.inr (Or.inr rfl), by decide, by decide⟩
theorem v_tree_from_2 : VarAt ["asks", "goal", "left", "state", "found", "number", "yes", "no"] (defScope S_tree_from) 2 "left" := ⟨rfl, by first | exact Or.inl rfl | exact Or.inr (Or.inl rfl) | exact Or.inr (Or.inr rfl), by decide, by decide⟩
theorem v_tree_from_3 : VarAt ["asks", "goal", "left", "state", "found", "number", "yes", "no"] (defScope S_tree_from) 3 "state" := ⟨rfl, by first | exact Or.inl rfl | exact Or.inr (Or.inl rfl) | exact Or.inr (Or.inr rfl), by decide, by decide⟩
theorem v_tree_from_4 : VarAt ["asks", "goal", "left", "state", "found", "number", "yes", "no"] (defScope S_tree_from) 4 "found" := ⟨rfl, by first | exact Or.inl rfl | exact Or.inr (Or.inl rfl) | exact Or.inr (Or.inr rfl), by decide, by decide⟩
theorem v_tree_from_5 : VarAt ["asks", "goal", "left", "state", "found", "number", "yes", "no"] (defScope S_tree_from) 5 "number" := ⟨rfl, by first | exact Or.inl rfl | exact Or.inr (Or.inl rfl) | exact Or.inr (Or.inr rfl), by decide, by decide⟩
theorem v_tree_from_6 : VarAt ["asks", "goal", "left", "state", "found", "number", "yes", "no"] (defScope S_tree_from) 6 "yes" := ⟨rfl, by first | exact Or.inl rfl | exact Or.inr (Or.inl rfl) | exact Or.inr (Or.inr rfl), by decide, by decide⟩
theorem v_tree_from_7 : VarAt ["asks", "goal", "left", "state", "found", "number", "yes", "no"] (defScope S_tree_from) 7 "no" := ⟨rfl, by first | exact Or.inl rfl | exact Or.inr (Or.inl rfl) | exact Or.inr (Or.inr rfl), by decide, by decide⟩
noncomputable abbrev S_best_ask : Stmt := top 11
theorem sc_best_ask : FnScope ["state", "found"] ["state", "found"] (defScope S_best_ask) := ⟨rfl, rfl, rfl, by decide +kernel, rfl, by decide +kernel, by decide +kernel⟩
theorem v_best_ask_0 : VarAt ["state", "found"] (defScope S_best_ask) 0 "state" := ⟨rfl, by first | exact Or.inl rfl | exact Or.inr (Or.inl rfl) | exact Or.inr (Or.inr rfl), by decide, by decide⟩
noncomputable abbrev S_is_good : Stmt := top 12
theorem sc_is_good : FnScope ["state", "number", "found", "left"] ["state", "number", "found"] (defScope S_is_good) := ⟨rfl, rfl, rfl, by decide +kernel, rfl, by decide +kernel, by decide +kernel⟩
theorem v_is_good_0 : VarAt ["state", "number", "found", "left"] (defScope S_is_good) 0 "state" := ⟨rfl, by first | exact Or.inl rfl | exact Or.inr (Or.inl rfl) | exact Or.inr (Or.inr rfl), by decide, by decide⟩
theorem v_is_good_1 : VarAt ["state", "number", "found", "left"] (defScope S_is_good) 1 "number" := ⟨rfl, by first | exact Or.inl rfl | exact Or.inr (Or.inl rfl) | exact Or.inr (Or.inr rfl), by decide, by decide⟩
theorem v_is_good_2 : VarAt ["state", "number", "found", "left"] (defScope S_is_good) 2 "found" := ⟨rfl, by first | exact Or.inl rfl | exact Or.inr (Or.inl rfl) | exact Or.inr (Or.inr rfl), by decide, by decide⟩
theorem v_is_good_3 : VarAt ["state", "number", "found", "left"] (defScope S_is_good) 3 "left" := ⟨rfl, by first | exact Or.inl rfl | exact Or.inr (Or.inl rfl) | exact Or.inr (Or.inr rfl), by decide, by decide⟩
noncomputable abbrev S_is_hard : Stmt := top 13
theorem sc_is_hard : FnScope ["state", "number", "answer", "left", "found", "more"] ["state", "number", "answer", "left", "found"] (defScope S_is_hard) := ⟨rfl, rfl, rfl, by decide +kernel, rfl, by decide +kernel, by decide +kernel⟩
theorem v_is_hard_0 : VarAt ["state", "number", "answer", "left", "found", "more"] (defScope S_is_hard) 0 "state" := ⟨rfl, by first | exact Or.inl rfl | exact Or.inr (Or.inl rfl) | exact Or.inr (Or.inr rfl), by decide, by decide⟩
theorem v_is_hard_1 : VarAt ["state", "number", "answer", "left", "found", "more"] (defScope S_is_hard) 1 "number" := ⟨rfl, by first | exact Or.inl rfl | exact Or.inr (Or.inl rfl) | exact Or.inr (Or.inr rfl), by decide, by decide⟩
theorem v_is_hard_2 : VarAt ["state", "number", "answer", "left", "found", "more"] (defScope S_is_hard) 2 "answer" := ⟨rfl, by first | exact Or.inl rfl | exact Or.inr (Or.inl rfl) | exact Or.inr (Or.inr rfl), by decide, by decide⟩
theorem v_is_hard_3 : VarAt ["state", "number", "answer", "left", "found", "more"] (defScope S_is_hard) 3 "left" := ⟨rfl, by first | exact Or.inl rfl | exact Or.inr (Or.inl rfl) | exact Or.inr (Or.inr rfl), by decide, by decide⟩
theorem v_is_hard_4 : VarAt ["state", "number", "answer", "left", "found", "more"] (defScope S_is_hard) 4 "found" := ⟨rfl, by first | exact Or.inl rfl | exact Or.inr (Or.inl rfl) | exact Or.inr (Or.inr rfl), by decide, by decide⟩
theorem v_is_hard_5 : VarAt ["state", "number", "answer", "left", "found", "more"] (defScope S_is_hard) 5 "more" := ⟨rfl, by first | exact Or.inl rfl | exact Or.inr (Or.inl rfl) | exact Or.inr (Or.inr rfl), by decide, by decide⟩
noncomputable abbrev S_too_few : Stmt := top 14
theorem sc_too_few : FnScope ["asks", "goal", "some", "k", "found", "state", "least"] ["asks", "goal", "some", "k"] (defScope S_too_few) := ⟨rfl, rfl, rfl, by decide +kernel, rfl, by decide +kernel, by decide +kernel⟩
theorem v_too_few_0 : VarAt ["asks", "goal", "some", "k", "found", "state", "least"] (defScope S_too_few) 0 "asks" := ⟨rfl, by first | exact Or.inl rfl | exact Or.inr (Or.inl rfl) | exact Or.inr (Or.inr rfl), by decide, by decide⟩
theorem v_too_few_1 : VarAt ["asks", "goal", "some", "k", "found", "state", "least"] (defScope S_too_few) 1 "goal" := ⟨rfl, by first | exact Or.inl rfl | exact Or.inr (Or.inl rfl) | exact Or.inr (Or.inr rfl), by decide, by decide⟩
theorem v_too_few_2 : VarAt ["asks", "goal", "some", "k", "found", "state", "least"] (defScope S_too_few) 2 "some" := ⟨rfl, by first | exact Or.inl rfl | exact Or.inr (Or.inl rfl) | exact Or.inr (Or.inr rfl), by decide, by decide⟩
theorem v_too_few_3 : VarAt ["asks", "goal", "some", "k", "found", "state", "least"] (defScope S_too_few) 3 "k" := ⟨rfl, by first | exact Or.inl rfl | exact Or.inr (Or.inl rfl) | exact Or.inr (Or.inr rfl), by decide, by decide⟩
theorem v_too_few_4 : VarAt ["asks", "goal", "some", "k", "found", "state", "least"] (defScope S_too_few) 4 "found" := ⟨rfl, by first | exact Or.inl rfl | exact Or.inr (Or.inl rfl) | exact Or.inr (Or.inr rfl), by decide, by decide⟩
theorem v_too_few_5 : VarAt ["asks", "goal", "some", "k", "found", "state", "least"] (defScope S_too_few) 5 "state" := ⟨rfl, by first | exact Or.inl rfl | exact Or.inr (Or.inl rfl) | exact Or.inr (Or.inr rfl), by decide, by decide⟩
theorem v_too_few_6 : VarAt ["asks", "goal", "some", "k", "found", "state", "least"] (defScope S_too_few) 6 "least" := ⟨rfl, by first | exact Or.inl rfl | exact Or.inr (Or.inl rfl) | exact Or.inr (Or.inr rfl), by decide, by decide⟩
noncomputable abbrev S_is_too_few : Stmt := top 15
theorem sc_is_too_few : FnScope ["least", "k"] ["least", "k"] (defScope S_is_too_few) := ⟨rfl, rfl, rfl, by decide +kernel, rfl, by decide +kernel, by decide +kernel⟩
theorem v_is_too_few_0 : VarAt ["least", "k"] (defScope S_is_too_few) 0 "least" := ⟨rfl, by first | exact Or.inl rfl | exact Or.inr (Or.inl rfl) | exact Or.inr (Or.inr rfl), by decide, by decide⟩
theorem v_is_too_few_1 : VarAt ["least", "k"] (defScope S_is_too_few) 1 "k" := ⟨rfl, by first | exact Or.inl rfl | exact Or.inr (Or.inl rfl) | exact Or.inr (Or.inr rfl), by decide, by decide⟩
noncomputable abbrev S_paper_from : Stmt := top 16
theorem sc_paper_from : FnScope ["state", "k", "found", "paper", "level", "left", "rows"] ["state", "k", "found"] (defScope S_paper_from) := ⟨rfl, rfl, rfl, by decide +kernel, rfl, by decide +kernel, by decide +kernel⟩
theorem v_paper_from_0 : VarAt ["state", "k", "found", "paper", "level", "left", "rows"] (defScope S_paper_from) 0 "state" := ⟨rfl, by first | exact Or.inl rfl | exact Or.inr (Or.inl rfl) | exact Or.inr (Or.inr rfl), by decide, by decide⟩
theorem v_paper_from_1 : VarAt ["state", "k", "found", "paper", "level", "left", "rows"] (defScope S_paper_from) 1 "k" := ⟨rfl, by first | exact Or.inl rfl | exact Or.inr (Or.inl rfl) | exact Or.inr (Or.inr rfl), by decide, by decide⟩
theorem v_paper_from_3 : VarAt ["state", "k", "found", "paper", "level", "left", "rows"] (defScope S_paper_from) 3 "paper" := ⟨rfl, by first | exact Or.inl rfl | exact Or.inr (Or.inl rfl) | exact Or.inr (Or.inr rfl), by decide, by decide⟩
theorem v_paper_from_4 : VarAt ["state", "k", "found", "paper", "level", "left", "rows"] (defScope S_paper_from) 4 "level" := ⟨rfl, by first | exact Or.inl rfl | exact Or.inr (Or.inl rfl) | exact Or.inr (Or.inr rfl), by decide, by decide⟩
theorem v_paper_from_5 : VarAt ["state", "k", "found", "paper", "level", "left", "rows"] (defScope S_paper_from) 5 "left" := ⟨rfl, by first | exact Or.inl rfl | exact Or.inr (Or.inl rfl) | exact Or.inr (Or.inr rfl), by decide, by decide⟩
theorem v_paper_from_6 : VarAt ["state", "k", "found", "paper", "level", "left", "rows"] (defScope S_paper_from) 6 "rows" := ⟨rfl, by first | exact Or.inl rfl | exact Or.inr (Or.inl rfl) | exact Or.inr (Or.inr rfl), by decide, by decide⟩
noncomputable abbrev S_hard_answers : Stmt := top 17
theorem sc_hard_answers : FnScope ["state", "left", "found"] ["state", "left", "found"] (defScope S_hard_answers) := ⟨rfl, rfl, rfl, by decide +kernel, rfl, by decide +kernel, by decide +kernel⟩
theorem v_hard_answers_0 : VarAt ["state", "left", "found"] (defScope S_hard_answers) 0 "state" := ⟨rfl, by first | exact Or.inl rfl | exact Or.inr (Or.inl rfl) | exact Or.inr (Or.inr rfl), by decide, by decide⟩
theorem v_hard_answers_1 : VarAt ["state", "left", "found"] (defScope S_hard_answers) 1 "left" := ⟨rfl, by first | exact Or.inl rfl | exact Or.inr (Or.inl rfl) | exact Or.inr (Or.inr rfl), by decide, by decide⟩
noncomputable abbrev S_hard_answer : Stmt := top 18
theorem sc_hard_answer : FnScope ["state", "number", "left", "found"] ["state", "number", "left", "found"] (defScope S_hard_answer) := ⟨rfl, rfl, rfl, by decide +kernel, rfl, by decide +kernel, by decide +kernel⟩
theorem v_hard_answer_0 : VarAt ["state", "number", "left", "found"] (defScope S_hard_answer) 0 "state" := ⟨rfl, by first | exact Or.inl rfl | exact Or.inr (Or.inl rfl) | exact Or.inr (Or.inr rfl), by decide, by decide⟩
theorem v_hard_answer_1 : VarAt ["state", "number", "left", "found"] (defScope S_hard_answer) 1 "number" := ⟨rfl, by first | exact Or.inl rfl | exact Or.inr (Or.inl rfl) | exact Or.inr (Or.inr rfl), by decide, by decide⟩
theorem v_hard_answer_2 : VarAt ["state", "number", "left", "found"] (defScope S_hard_answer) 2 "left" := ⟨rfl, by first | exact Or.inl rfl | exact Or.inr (Or.inl rfl) | exact Or.inr (Or.inr rfl), by decide, by decide⟩
theorem v_hard_answer_3 : VarAt ["state", "number", "left", "found"] (defScope S_hard_answer) 3 "found" := ⟨rfl, by first | exact Or.inl rfl | exact Or.inr (Or.inl rfl) | exact Or.inr (Or.inr rfl), by decide, by decide⟩
noncomputable abbrev S_states_behind : Stmt := top 19
theorem sc_states_behind : FnScope ["rows", "behind", "state", "left", "answers", "number", "answer"] ["rows"] (defScope S_states_behind) := ⟨rfl, rfl, rfl, by decide +kernel, rfl, by decide +kernel, by decide +kernel⟩
theorem v_states_behind_0 : VarAt ["rows", "behind", "state", "left", "answers", "number", "answer"] (defScope S_states_behind) 0 "rows" := ⟨rfl, by first | exact Or.inl rfl | exact Or.inr (Or.inl rfl) | exact Or.inr (Or.inr rfl), by decide, by decide⟩
theorem v_states_behind_1 : VarAt ["rows", "behind", "state", "left", "answers", "number", "answer"] (defScope S_states_behind) 1 "behind" := ⟨rfl, by first | exact Or.inl rfl | exact Or.inr (Or.inl rfl) | exact Or.inr (Or.inr rfl), by decide, by decide⟩
theorem v_states_behind_2 : VarAt ["rows", "behind", "state", "left", "answers", "number", "answer"] (defScope S_states_behind) 2 "state" := ⟨rfl, by first | exact Or.inl rfl | exact Or.inr (Or.inl rfl) | exact Or.inr (Or.inr rfl), by decide, by decide⟩
theorem v_states_behind_4 : VarAt ["rows", "behind", "state", "left", "answers", "number", "answer"] (defScope S_states_behind) 4 "answers" := ⟨rfl, by first | exact Or.inl rfl | exact Or.inr (Or.inl rfl) | exact Or.inr (Or.inr rfl), by decide, by decide⟩
theorem v_states_behind_5 : VarAt ["rows", "behind", "state", "left", "answers", "number", "answer"] (defScope S_states_behind) 5 "number" := ⟨rfl, by first | exact Or.inl rfl | exact Or.inr (Or.inl rfl) | exact Or.inr (Or.inr rfl), by decide, by decide⟩
theorem v_states_behind_6 : VarAt ["rows", "behind", "state", "left", "answers", "number", "answer"] (defScope S_states_behind) 6 "answer" := ⟨rfl, by first | exact Or.inl rfl | exact Or.inr (Or.inl rfl) | exact Or.inr (Or.inr rfl), by decide, by decide⟩
noncomputable abbrev S__law_cell_at : Stmt := top 21
theorem sc__law_cell_at : FnScope ["_law_script", "_law_k"] ["_law_script", "_law_k"] (defScope S__law_cell_at) := ⟨rfl, rfl, rfl, by decide +kernel, rfl, by decide +kernel, by decide +kernel⟩
theorem v__law_cell_at_0 : VarAt ["_law_script", "_law_k"] (defScope S__law_cell_at) 0 "_law_script" := ⟨rfl, by first | exact Or.inl rfl | exact Or.inr (Or.inl rfl) | exact Or.inr (Or.inr rfl), by decide, by decide⟩
theorem v__law_cell_at_1 : VarAt ["_law_script", "_law_k"] (defScope S__law_cell_at) 1 "_law_k" := ⟨rfl, by first | exact Or.inl rfl | exact Or.inr (Or.inl rfl) | exact Or.inr (Or.inr rfl), by decide, by decide⟩
noncomputable abbrev S__law_stream : Stmt := top 22
theorem sc__law_stream : FnScope ["_law_cell", "_law_salt", "_law_many", "_law_number", "_law_found", "_law_k"] ["_law_cell", "_law_salt", "_law_many"] (defScope S__law_stream) := ⟨rfl, rfl, rfl, by decide +kernel, rfl, by decide +kernel, by decide +kernel⟩
theorem v__law_stream_0 : VarAt ["_law_cell", "_law_salt", "_law_many", "_law_number", "_law_found", "_law_k"] (defScope S__law_stream) 0 "_law_cell" := ⟨rfl, by first | exact Or.inl rfl | exact Or.inr (Or.inl rfl) | exact Or.inr (Or.inr rfl), by decide, by decide⟩
theorem v__law_stream_1 : VarAt ["_law_cell", "_law_salt", "_law_many", "_law_number", "_law_found", "_law_k"] (defScope S__law_stream) 1 "_law_salt" := ⟨rfl, by first | exact Or.inl rfl | exact Or.inr (Or.inl rfl) | exact Or.inr (Or.inr rfl), by decide, by decide⟩
theorem v__law_stream_2 : VarAt ["_law_cell", "_law_salt", "_law_many", "_law_number", "_law_found", "_law_k"] (defScope S__law_stream) 2 "_law_many" := ⟨rfl, by first | exact Or.inl rfl | exact Or.inr (Or.inl rfl) | exact Or.inr (Or.inr rfl), by decide, by decide⟩
theorem v__law_stream_3 : VarAt ["_law_cell", "_law_salt", "_law_many", "_law_number", "_law_found", "_law_k"] (defScope S__law_stream) 3 "_law_number" := ⟨rfl, by first | exact Or.inl rfl | exact Or.inr (Or.inl rfl) | exact Or.inr (Or.inr rfl), by decide, by decide⟩
theorem v__law_stream_4 : VarAt ["_law_cell", "_law_salt", "_law_many", "_law_number", "_law_found", "_law_k"] (defScope S__law_stream) 4 "_law_found" := ⟨rfl, by first | exact Or.inl rfl | exact Or.inr (Or.inl rfl) | exact Or.inr (Or.inr rfl), by decide, by decide⟩
theorem v__law_stream_5 : VarAt ["_law_cell", "_law_salt", "_law_many", "_law_number", "_law_found", "_law_k"] (defScope S__law_stream) 5 "_law_k" := ⟨rfl, by first | exact Or.inl rfl | exact Or.inr (Or.inl rfl) | exact Or.inr (Or.inr rfl), by decide, by decide⟩
noncomputable abbrev S__law_ask : Stmt := top 23
theorem sc__law_ask : FnScope ["_law_script", "_law_k", "_law_many", "_law_asks", "_law_xs", "_law_way", "_law_found", "_law_d", "_law_bit", "_law_some"] ["_law_script", "_law_k", "_law_many", "_law_asks"] (defScope S__law_ask) := ⟨rfl, rfl, rfl, by decide +kernel, rfl, by decide +kernel, by decide +kernel⟩
theorem v__law_ask_0 : VarAt ["_law_script", "_law_k", "_law_many", "_law_asks", "_law_xs", "_law_way", "_law_found", "_law_d", "_law_bit", "_law_some"] (defScope S__law_ask) 0 "_law_script" := ⟨rfl, by first | exact Or.inl rfl | exact Or.inr (Or.inl rfl) | exact Or.inr (Or.inr rfl), by decide, by decide⟩
theorem v__law_ask_1 : VarAt ["_law_script", "_law_k", "_law_many", "_law_asks", "_law_xs", "_law_way", "_law_found", "_law_d", "_law_bit", "_law_some"] (defScope S__law_ask) 1 "_law_k" := ⟨rfl, by first | exact Or.inl rfl | exact Or.inr (Or.inl rfl) | exact Or.inr (Or.inr rfl), by decide, by decide⟩
theorem v__law_ask_2 : VarAt ["_law_script", "_law_k", "_law_many", "_law_asks", "_law_xs", "_law_way", "_law_found", "_law_d", "_law_bit", "_law_some"] (defScope S__law_ask) 2 "_law_many" := ⟨rfl, by first | exact Or.inl rfl | exact Or.inr (Or.inl rfl) | exact Or.inr (Or.inr rfl), by decide, by decide⟩
theorem v__law_ask_3 : VarAt ["_law_script", "_law_k", "_law_many", "_law_asks", "_law_xs", "_law_way", "_law_found", "_law_d", "_law_bit", "_law_some"] (defScope S__law_ask) 3 "_law_asks" := ⟨rfl, by first | exact Or.inl rfl | exact Or.inr (Or.inl rfl) | exact Or.inr (Or.inr rfl), by decide, by decide⟩
theorem v__law_ask_4 : VarAt ["_law_script", "_law_k", "_law_many", "_law_asks", "_law_xs", "_law_way", "_law_found", "_law_d", "_law_bit", "_law_some"] (defScope S__law_ask) 4 "_law_xs" := ⟨rfl, by first | exact Or.inl rfl | exact Or.inr (Or.inl rfl) | exact Or.inr (Or.inr rfl), by decide, by decide⟩
theorem v__law_ask_5 : VarAt ["_law_script", "_law_k", "_law_many", "_law_asks", "_law_xs", "_law_way", "_law_found", "_law_d", "_law_bit", "_law_some"] (defScope S__law_ask) 5 "_law_way" := ⟨rfl, by first | exact Or.inl rfl | exact Or.inr (Or.inl rfl) | exact Or.inr (Or.inr rfl), by decide, by decide⟩
theorem v__law_ask_6 : VarAt ["_law_script", "_law_k", "_law_many", "_law_asks", "_law_xs", "_law_way", "_law_found", "_law_d", "_law_bit", "_law_some"] (defScope S__law_ask) 6 "_law_found" := ⟨rfl, by first | exact Or.inl rfl | exact Or.inr (Or.inl rfl) | exact Or.inr (Or.inr rfl), by decide, by decide⟩
theorem v__law_ask_7 : VarAt ["_law_script", "_law_k", "_law_many", "_law_asks", "_law_xs", "_law_way", "_law_found", "_law_d", "_law_bit", "_law_some"] (defScope S__law_ask) 7 "_law_d" := ⟨rfl, by first | exact Or.inl rfl | exact Or.inr (Or.inl rfl) | exact Or.inr (Or.inr rfl), by decide, by decide⟩
theorem v__law_ask_8 : VarAt ["_law_script", "_law_k", "_law_many", "_law_asks", "_law_xs", "_law_way", "_law_found", "_law_d", "_law_bit", "_law_some"] (defScope S__law_ask) 8 "_law_bit" := ⟨rfl, by first | exact Or.inl rfl | exact Or.inr (Or.inl rfl) | exact Or.inr (Or.inr rfl), by decide, by decide⟩
theorem v__law_ask_9 : VarAt ["_law_script", "_law_k", "_law_many", "_law_asks", "_law_xs", "_law_way", "_law_found", "_law_d", "_law_bit", "_law_some"] (defScope S__law_ask) 9 "_law_some" := ⟨rfl, by first | exact Or.inl rfl | exact Or.inr (Or.inl rfl) | exact Or.inr (Or.inr rfl), by decide, by decide⟩
noncomputable abbrev S__law_case : Stmt := top 24
theorem sc__law_case : FnScope ["_law_script", "_law_first", "_law_count", "_law_many", "_law_asks", "_law_k", "_law_xs", "_law_goal", "_law_d", "_law_some", "_law_ys", "_law_chosen_ones"] ["_law_script"] (defScope S__law_case) := ⟨rfl, rfl, rfl, by decide +kernel, rfl, by decide +kernel, by decide +kernel⟩
theorem v__law_case_0 : VarAt ["_law_script", "_law_first", "_law_count", "_law_many", "_law_asks", "_law_k", "_law_xs", "_law_goal", "_law_d", "_law_some", "_law_ys", "_law_chosen_ones"] (defScope S__law_case) 0 "_law_script" := ⟨rfl, by first | exact Or.inl rfl | exact Or.inr (Or.inl rfl) | exact Or.inr (Or.inr rfl), by decide, by decide⟩
theorem v__law_case_1 : VarAt ["_law_script", "_law_first", "_law_count", "_law_many", "_law_asks", "_law_k", "_law_xs", "_law_goal", "_law_d", "_law_some", "_law_ys", "_law_chosen_ones"] (defScope S__law_case) 1 "_law_first" := ⟨rfl, by first | exact Or.inl rfl | exact Or.inr (Or.inl rfl) | exact Or.inr (Or.inr rfl), by decide, by decide⟩
theorem v__law_case_2 : VarAt ["_law_script", "_law_first", "_law_count", "_law_many", "_law_asks", "_law_k", "_law_xs", "_law_goal", "_law_d", "_law_some", "_law_ys", "_law_chosen_ones"] (defScope S__law_case) 2 "_law_count" := ⟨rfl, by first | exact Or.inl rfl | exact Or.inr (Or.inl rfl) | exact Or.inr (Or.inr rfl), by decide, by decide⟩
theorem v__law_case_3 : VarAt ["_law_script", "_law_first", "_law_count", "_law_many", "_law_asks", "_law_k", "_law_xs", "_law_goal", "_law_d", "_law_some", "_law_ys", "_law_chosen_ones"] (defScope S__law_case) 3 "_law_many" := ⟨rfl, by first | exact Or.inl rfl | exact Or.inr (Or.inl rfl) | exact Or.inr (Or.inr rfl), by decide, by decide⟩
theorem v__law_case_4 : VarAt ["_law_script", "_law_first", "_law_count", "_law_many", "_law_asks", "_law_k", "_law_xs", "_law_goal", "_law_d", "_law_some", "_law_ys", "_law_chosen_ones"] (defScope S__law_case) 4 "_law_asks" := ⟨rfl, by first | exact Or.inl rfl | exact Or.inr (Or.inl rfl) | exact Or.inr (Or.inr rfl), by decide, by decide⟩
theorem v__law_case_5 : VarAt ["_law_script", "_law_first", "_law_count", "_law_many", "_law_asks", "_law_k", "_law_xs", "_law_goal", "_law_d", "_law_some", "_law_ys", "_law_chosen_ones"] (defScope S__law_case) 5 "_law_k" := ⟨rfl, by first | exact Or.inl rfl | exact Or.inr (Or.inl rfl) | exact Or.inr (Or.inr rfl), by decide, by decide⟩
theorem v__law_case_6 : VarAt ["_law_script", "_law_first", "_law_count", "_law_many", "_law_asks", "_law_k", "_law_xs", "_law_goal", "_law_d", "_law_some", "_law_ys", "_law_chosen_ones"] (defScope S__law_case) 6 "_law_xs" := ⟨rfl, by first | exact Or.inl rfl | exact Or.inr (Or.inl rfl) | exact Or.inr (Or.inr rfl), by decide, by decide⟩
theorem v__law_case_7 : VarAt ["_law_script", "_law_first", "_law_count", "_law_many", "_law_asks", "_law_k", "_law_xs", "_law_goal", "_law_d", "_law_some", "_law_ys", "_law_chosen_ones"] (defScope S__law_case) 7 "_law_goal" := ⟨rfl, by first | exact Or.inl rfl | exact Or.inr (Or.inl rfl) | exact Or.inr (Or.inr rfl), by decide, by decide⟩
theorem v__law_case_8 : VarAt ["_law_script", "_law_first", "_law_count", "_law_many", "_law_asks", "_law_k", "_law_xs", "_law_goal", "_law_d", "_law_some", "_law_ys", "_law_chosen_ones"] (defScope S__law_case) 8 "_law_d" := ⟨rfl, by first | exact Or.inl rfl | exact Or.inr (Or.inl rfl) | exact Or.inr (Or.inr rfl), by decide, by decide⟩
theorem v__law_case_9 : VarAt ["_law_script", "_law_first", "_law_count", "_law_many", "_law_asks", "_law_k", "_law_xs", "_law_goal", "_law_d", "_law_some", "_law_ys", "_law_chosen_ones"] (defScope S__law_case) 9 "_law_some" := ⟨rfl, by first | exact Or.inl rfl | exact Or.inr (Or.inl rfl) | exact Or.inr (Or.inr rfl), by decide, by decide⟩
theorem v__law_case_10 : VarAt ["_law_script", "_law_first", "_law_count", "_law_many", "_law_asks", "_law_k", "_law_xs", "_law_goal", "_law_d", "_law_some", "_law_ys", "_law_chosen_ones"] (defScope S__law_case) 10 "_law_ys" := ⟨rfl, by first | exact Or.inl rfl | exact Or.inr (Or.inl rfl) | exact Or.inr (Or.inr rfl), by decide, by decide⟩
theorem v__law_case_11 : VarAt ["_law_script", "_law_first", "_law_count", "_law_many", "_law_asks", "_law_k", "_law_xs", "_law_goal", "_law_d", "_law_some", "_law_ys", "_law_chosen_ones"] (defScope S__law_case) 11 "_law_chosen_ones" := ⟨rfl, by first | exact Or.inl rfl | exact Or.inr (Or.inl rfl) | exact Or.inr (Or.inr rfl), by decide, by decide⟩
noncomputable abbrev S__law_left : Stmt := top 25
theorem sc__law_left : FnScope ["_law_asks", "_law_some", "_law_state", "_law_found", "_law_deal", "_law_good", "_law_k"] ["_law_asks", "_law_some", "_law_state"] (defScope S__law_left) := ⟨rfl, rfl, rfl, by decide +kernel, rfl, by decide +kernel, by decide +kernel⟩
theorem v__law_left_0 : VarAt ["_law_asks", "_law_some", "_law_state", "_law_found", "_law_deal", "_law_good", "_law_k"] (defScope S__law_left) 0 "_law_asks" := ⟨rfl, by first | exact Or.inl rfl | exact Or.inr (Or.inl rfl) | exact Or.inr (Or.inr rfl), by decide, by decide⟩
theorem v__law_left_1 : VarAt ["_law_asks", "_law_some", "_law_state", "_law_found", "_law_deal", "_law_good", "_law_k"] (defScope S__law_left) 1 "_law_some" := ⟨rfl, by first | exact Or.inl rfl | exact Or.inr (Or.inl rfl) | exact Or.inr (Or.inr rfl), by decide, by decide⟩
theorem v__law_left_2 : VarAt ["_law_asks", "_law_some", "_law_state", "_law_found", "_law_deal", "_law_good", "_law_k"] (defScope S__law_left) 2 "_law_state" := ⟨rfl, by first | exact Or.inl rfl | exact Or.inr (Or.inl rfl) | exact Or.inr (Or.inr rfl), by decide, by decide⟩
theorem v__law_left_3 : VarAt ["_law_asks", "_law_some", "_law_state", "_law_found", "_law_deal", "_law_good", "_law_k"] (defScope S__law_left) 3 "_law_found" := ⟨rfl, by first | exact Or.inl rfl | exact Or.inr (Or.inl rfl) | exact Or.inr (Or.inr rfl), by decide, by decide⟩
theorem v__law_left_4 : VarAt ["_law_asks", "_law_some", "_law_state", "_law_found", "_law_deal", "_law_good", "_law_k"] (defScope S__law_left) 4 "_law_deal" := ⟨rfl, by first | exact Or.inl rfl | exact Or.inr (Or.inl rfl) | exact Or.inr (Or.inr rfl), by decide, by decide⟩
theorem v__law_left_5 : VarAt ["_law_asks", "_law_some", "_law_state", "_law_found", "_law_deal", "_law_good", "_law_k"] (defScope S__law_left) 5 "_law_good" := ⟨rfl, by first | exact Or.inl rfl | exact Or.inr (Or.inl rfl) | exact Or.inr (Or.inr rfl), by decide, by decide⟩
theorem v__law_left_6 : VarAt ["_law_asks", "_law_some", "_law_state", "_law_found", "_law_deal", "_law_good", "_law_k"] (defScope S__law_left) 6 "_law_k" := ⟨rfl, by first | exact Or.inl rfl | exact Or.inr (Or.inl rfl) | exact Or.inr (Or.inr rfl), by decide, by decide⟩
noncomputable abbrev S__law_unlike : Stmt := top 26
theorem sc__law_unlike : FnScope ["_law_goal", "_law_some"] ["_law_goal", "_law_some"] (defScope S__law_unlike) := ⟨rfl, rfl, rfl, by decide +kernel, rfl, by decide +kernel, by decide +kernel⟩
theorem v__law_unlike_1 : VarAt ["_law_goal", "_law_some"] (defScope S__law_unlike) 1 "_law_some" := ⟨rfl, by first | exact Or.inl rfl | exact Or.inr (Or.inl rfl) | exact Or.inr (Or.inr rfl), by decide, by decide⟩
noncomputable abbrev S__law_walked : Stmt := top 27
theorem sc__law_walked : FnScope ["_law_tree", "_law_asks", "_law_deal", "_law_many"] ["_law_tree", "_law_asks", "_law_deal"] (defScope S__law_walked) := ⟨rfl, rfl, rfl, by decide +kernel, rfl, by decide +kernel, by decide +kernel⟩
theorem v__law_walked_0 : VarAt ["_law_tree", "_law_asks", "_law_deal", "_law_many"] (defScope S__law_walked) 0 "_law_tree" := ⟨rfl, by first | exact Or.inl rfl | exact Or.inr (Or.inl rfl) | exact Or.inr (Or.inr rfl), by decide, by decide⟩
theorem v__law_walked_1 : VarAt ["_law_tree", "_law_asks", "_law_deal", "_law_many"] (defScope S__law_walked) 1 "_law_asks" := ⟨rfl, by first | exact Or.inl rfl | exact Or.inr (Or.inl rfl) | exact Or.inr (Or.inr rfl), by decide, by decide⟩
theorem v__law_walked_2 : VarAt ["_law_tree", "_law_asks", "_law_deal", "_law_many"] (defScope S__law_walked) 2 "_law_deal" := ⟨rfl, by first | exact Or.inl rfl | exact Or.inr (Or.inl rfl) | exact Or.inr (Or.inr rfl), by decide, by decide⟩
theorem v__law_walked_3 : VarAt ["_law_tree", "_law_asks", "_law_deal", "_law_many"] (defScope S__law_walked) 3 "_law_many" := ⟨rfl, by first | exact Or.inl rfl | exact Or.inr (Or.inl rfl) | exact Or.inr (Or.inr rfl), by decide, by decide⟩
noncomputable abbrev S__law_beaten : Stmt := top 28
theorem sc__law_beaten : FnScope ["_law_paper", "_law_asks", "_law_goal", "_law_some", "_law_k", "_law_cell", "_law_answers_of", "_law_state", "_law_left_here", "_law_answers", "_law_open_ones", "_law_mixed", "_law_answer", "_law_j"] ["_law_paper", "_law_asks", "_law_goal", "_law_some", "_law_k", "_law_cell"] (defScope S__law_beaten) := ⟨rfl, rfl, rfl, by decide +kernel, rfl, by decide +kernel, by decide +kernel⟩
theorem v__law_beaten_0 : VarAt ["_law_paper", "_law_asks", "_law_goal", "_law_some", "_law_k", "_law_cell", "_law_answers_of", "_law_state", "_law_left_here", "_law_answers", "_law_open_ones", "_law_mixed", "_law_answer", "_law_j"] (defScope S__law_beaten) 0 "_law_paper" := ⟨rfl, by first | exact Or.inl rfl | exact Or.inr (Or.inl rfl) | exact Or.inr (Or.inr rfl), by decide, by decide⟩
theorem v__law_beaten_1 : VarAt ["_law_paper", "_law_asks", "_law_goal", "_law_some", "_law_k", "_law_cell", "_law_answers_of", "_law_state", "_law_left_here", "_law_answers", "_law_open_ones", "_law_mixed", "_law_answer", "_law_j"] (defScope S__law_beaten) 1 "_law_asks" := ⟨rfl, by first | exact Or.inl rfl | exact Or.inr (Or.inl rfl) | exact Or.inr (Or.inr rfl), by decide, by decide⟩
theorem v__law_beaten_2 : VarAt ["_law_paper", "_law_asks", "_law_goal", "_law_some", "_law_k", "_law_cell", "_law_answers_of", "_law_state", "_law_left_here", "_law_answers", "_law_open_ones", "_law_mixed", "_law_answer", "_law_j"] (defScope S__law_beaten) 2 "_law_goal" := ⟨rfl, by first | exact Or.inl rfl | exact Or.inr (Or.inl rfl) | exact Or.inr (Or.inr rfl), by decide, by decide⟩
theorem v__law_beaten_3 : VarAt ["_law_paper", "_law_asks", "_law_goal", "_law_some", "_law_k", "_law_cell", "_law_answers_of", "_law_state", "_law_left_here", "_law_answers", "_law_open_ones", "_law_mixed", "_law_answer", "_law_j"] (defScope S__law_beaten) 3 "_law_some" := ⟨rfl, by first | exact Or.inl rfl | exact Or.inr (Or.inl rfl) | exact Or.inr (Or.inr rfl), by decide, by decide⟩
theorem v__law_beaten_4 : VarAt ["_law_paper", "_law_asks", "_law_goal", "_law_some", "_law_k", "_law_cell", "_law_answers_of", "_law_state", "_law_left_here", "_law_answers", "_law_open_ones", "_law_mixed", "_law_answer", "_law_j"] (defScope S__law_beaten) 4 "_law_k" := ⟨rfl, by first | exact Or.inl rfl | exact Or.inr (Or.inl rfl) | exact Or.inr (Or.inr rfl), by decide, by decide⟩
theorem v__law_beaten_5 : VarAt ["_law_paper", "_law_asks", "_law_goal", "_law_some", "_law_k", "_law_cell", "_law_answers_of", "_law_state", "_law_left_here", "_law_answers", "_law_open_ones", "_law_mixed", "_law_answer", "_law_j"] (defScope S__law_beaten) 5 "_law_cell" := ⟨rfl, by first | exact Or.inl rfl | exact Or.inr (Or.inl rfl) | exact Or.inr (Or.inr rfl), by decide, by decide⟩
theorem v__law_beaten_6 : VarAt ["_law_paper", "_law_asks", "_law_goal", "_law_some", "_law_k", "_law_cell", "_law_answers_of", "_law_state", "_law_left_here", "_law_answers", "_law_open_ones", "_law_mixed", "_law_answer", "_law_j"] (defScope S__law_beaten) 6 "_law_answers_of" := ⟨rfl, by first | exact Or.inl rfl | exact Or.inr (Or.inl rfl) | exact Or.inr (Or.inr rfl), by decide, by decide⟩
theorem v__law_beaten_7 : VarAt ["_law_paper", "_law_asks", "_law_goal", "_law_some", "_law_k", "_law_cell", "_law_answers_of", "_law_state", "_law_left_here", "_law_answers", "_law_open_ones", "_law_mixed", "_law_answer", "_law_j"] (defScope S__law_beaten) 7 "_law_state" := ⟨rfl, by first | exact Or.inl rfl | exact Or.inr (Or.inl rfl) | exact Or.inr (Or.inr rfl), by decide, by decide⟩
theorem v__law_beaten_8 : VarAt ["_law_paper", "_law_asks", "_law_goal", "_law_some", "_law_k", "_law_cell", "_law_answers_of", "_law_state", "_law_left_here", "_law_answers", "_law_open_ones", "_law_mixed", "_law_answer", "_law_j"] (defScope S__law_beaten) 8 "_law_left_here" := ⟨rfl, by first | exact Or.inl rfl | exact Or.inr (Or.inl rfl) | exact Or.inr (Or.inr rfl), by decide, by decide⟩
theorem v__law_beaten_9 : VarAt ["_law_paper", "_law_asks", "_law_goal", "_law_some", "_law_k", "_law_cell", "_law_answers_of", "_law_state", "_law_left_here", "_law_answers", "_law_open_ones", "_law_mixed", "_law_answer", "_law_j"] (defScope S__law_beaten) 9 "_law_answers" := ⟨rfl, by first | exact Or.inl rfl | exact Or.inr (Or.inl rfl) | exact Or.inr (Or.inr rfl), by decide, by decide⟩
theorem v__law_beaten_10 : VarAt ["_law_paper", "_law_asks", "_law_goal", "_law_some", "_law_k", "_law_cell", "_law_answers_of", "_law_state", "_law_left_here", "_law_answers", "_law_open_ones", "_law_mixed", "_law_answer", "_law_j"] (defScope S__law_beaten) 10 "_law_open_ones" := ⟨rfl, by first | exact Or.inl rfl | exact Or.inr (Or.inl rfl) | exact Or.inr (Or.inr rfl), by decide, by decide⟩
theorem v__law_beaten_11 : VarAt ["_law_paper", "_law_asks", "_law_goal", "_law_some", "_law_k", "_law_cell", "_law_answers_of", "_law_state", "_law_left_here", "_law_answers", "_law_open_ones", "_law_mixed", "_law_answer", "_law_j"] (defScope S__law_beaten) 11 "_law_mixed" := ⟨rfl, by first | exact Or.inl rfl | exact Or.inr (Or.inl rfl) | exact Or.inr (Or.inr rfl), by decide, by decide⟩
theorem v__law_beaten_12 : VarAt ["_law_paper", "_law_asks", "_law_goal", "_law_some", "_law_k", "_law_cell", "_law_answers_of", "_law_state", "_law_left_here", "_law_answers", "_law_open_ones", "_law_mixed", "_law_answer", "_law_j"] (defScope S__law_beaten) 12 "_law_answer" := ⟨rfl, by first | exact Or.inl rfl | exact Or.inr (Or.inl rfl) | exact Or.inr (Or.inr rfl), by decide, by decide⟩
theorem v__law_beaten_13 : VarAt ["_law_paper", "_law_asks", "_law_goal", "_law_some", "_law_k", "_law_cell", "_law_answers_of", "_law_state", "_law_left_here", "_law_answers", "_law_open_ones", "_law_mixed", "_law_answer", "_law_j"] (defScope S__law_beaten) 13 "_law_j" := ⟨rfl, by first | exact Or.inl rfl | exact Or.inr (Or.inl rfl) | exact Or.inr (Or.inr rfl), by decide, by decide⟩
noncomputable abbrev S_law : Stmt := top 29
theorem sc_law : FnScope ["_law_script", "_law_asks", "_law_goal", "_law_some", "_law_least", "_law_k", "_law_tree", "_law_deal", "_law_told_goal", "_law_many", "_law_paper", "_law_cell"] ["_law_script"] (defScope S_law) := ⟨rfl, rfl, rfl, by decide +kernel, rfl, by decide +kernel, by decide +kernel⟩
theorem v_law_0 : VarAt ["_law_script", "_law_asks", "_law_goal", "_law_some", "_law_least", "_law_k", "_law_tree", "_law_deal", "_law_told_goal", "_law_many", "_law_paper", "_law_cell"] (defScope S_law) 0 "_law_script" := ⟨rfl, by first | exact Or.inl rfl | exact Or.inr (Or.inl rfl) | exact Or.inr (Or.inr rfl), by decide, by decide⟩
theorem v_law_1 : VarAt ["_law_script", "_law_asks", "_law_goal", "_law_some", "_law_least", "_law_k", "_law_tree", "_law_deal", "_law_told_goal", "_law_many", "_law_paper", "_law_cell"] (defScope S_law) 1 "_law_asks" := ⟨rfl, by first | exact Or.inl rfl | exact Or.inr (Or.inl rfl) | exact Or.inr (Or.inr rfl), by decide, by decide⟩
theorem v_law_2 : VarAt ["_law_script", "_law_asks", "_law_goal", "_law_some", "_law_least", "_law_k", "_law_tree", "_law_deal", "_law_told_goal", "_law_many", "_law_paper", "_law_cell"] (defScope S_law) 2 "_law_goal" := ⟨rfl, by first | exact Or.inl rfl | exact Or.inr (Or.inl rfl) | exact Or.inr (Or.inr rfl), by decide, by decide⟩
theorem v_law_3 : VarAt ["_law_script", "_law_asks", "_law_goal", "_law_some", "_law_least", "_law_k", "_law_tree", "_law_deal", "_law_told_goal", "_law_many", "_law_paper", "_law_cell"] (defScope S_law) 3 "_law_some" := ⟨rfl, by first | exact Or.inl rfl | exact Or.inr (Or.inl rfl) | exact Or.inr (Or.inr rfl), by decide, by decide⟩
theorem v_law_4 : VarAt ["_law_script", "_law_asks", "_law_goal", "_law_some", "_law_least", "_law_k", "_law_tree", "_law_deal", "_law_told_goal", "_law_many", "_law_paper", "_law_cell"] (defScope S_law) 4 "_law_least" := ⟨rfl, by first | exact Or.inl rfl | exact Or.inr (Or.inl rfl) | exact Or.inr (Or.inr rfl), by decide, by decide⟩
theorem v_law_5 : VarAt ["_law_script", "_law_asks", "_law_goal", "_law_some", "_law_least", "_law_k", "_law_tree", "_law_deal", "_law_told_goal", "_law_many", "_law_paper", "_law_cell"] (defScope S_law) 5 "_law_k" := ⟨rfl, by first | exact Or.inl rfl | exact Or.inr (Or.inl rfl) | exact Or.inr (Or.inr rfl), by decide, by decide⟩
theorem v_law_6 : VarAt ["_law_script", "_law_asks", "_law_goal", "_law_some", "_law_least", "_law_k", "_law_tree", "_law_deal", "_law_told_goal", "_law_many", "_law_paper", "_law_cell"] (defScope S_law) 6 "_law_tree" := ⟨rfl, by first | exact Or.inl rfl | exact Or.inr (Or.inl rfl) | exact Or.inr (Or.inr rfl), by decide, by decide⟩
theorem v_law_7 : VarAt ["_law_script", "_law_asks", "_law_goal", "_law_some", "_law_least", "_law_k", "_law_tree", "_law_deal", "_law_told_goal", "_law_many", "_law_paper", "_law_cell"] (defScope S_law) 7 "_law_deal" := ⟨rfl, by first | exact Or.inl rfl | exact Or.inr (Or.inl rfl) | exact Or.inr (Or.inr rfl), by decide, by decide⟩
theorem v_law_8 : VarAt ["_law_script", "_law_asks", "_law_goal", "_law_some", "_law_least", "_law_k", "_law_tree", "_law_deal", "_law_told_goal", "_law_many", "_law_paper", "_law_cell"] (defScope S_law) 8 "_law_told_goal" := ⟨rfl, by first | exact Or.inl rfl | exact Or.inr (Or.inl rfl) | exact Or.inr (Or.inr rfl), by decide, by decide⟩
theorem v_law_9 : VarAt ["_law_script", "_law_asks", "_law_goal", "_law_some", "_law_least", "_law_k", "_law_tree", "_law_deal", "_law_told_goal", "_law_many", "_law_paper", "_law_cell"] (defScope S_law) 9 "_law_many" := ⟨rfl, by first | exact Or.inl rfl | exact Or.inr (Or.inl rfl) | exact Or.inr (Or.inr rfl), by decide, by decide⟩
theorem v_law_10 : VarAt ["_law_script", "_law_asks", "_law_goal", "_law_some", "_law_least", "_law_k", "_law_tree", "_law_deal", "_law_told_goal", "_law_many", "_law_paper", "_law_cell"] (defScope S_law) 10 "_law_paper" := ⟨rfl, by first | exact Or.inl rfl | exact Or.inr (Or.inl rfl) | exact Or.inr (Or.inr rfl), by decide, by decide⟩
theorem v_law_11 : VarAt ["_law_script", "_law_asks", "_law_goal", "_law_some", "_law_least", "_law_k", "_law_tree", "_law_deal", "_law_told_goal", "_law_many", "_law_paper", "_law_cell"] (defScope S_law) 11 "_law_cell" := ⟨rfl, by first | exact Or.inl rfl | exact Or.inr (Or.inl rfl) | exact Or.inr (Or.inr rfl), by decide, by decide⟩
section
variable {P : Program} {w : World} {K : PySem.W.Frag} {mg : Str → Option Value} {base : Heap}
theorem ok_fewest {f : Addr} {fd : FuncData} (D : Def K mg "fewest" S_fewest ["asks", "goal", "some"] f fd) (B : Blt mg) (F_fewest_from : FnB P w K mg base 16 "fewest_from" ["asks", "goal", "left", "state", "found"] (sp_fewest_from K 7)) : FnB P w K mg base 17 "fewest" ["asks", "goal", "some"] (sp_fewest K) := by
  refine D.ok sc_fewest (fun vs H Q E h => len_fewest h) (fun cdv A outer s H vs Q E hr h => ?_)
  have hu := hr.units0
  have hux := hr.units64
  exact ⟨t_fewest K, (pss_one (ps_ret (pe_callF F_fewest_from (hr.mono (by decide)) (pac_Name (pvQ v_fewest_0 rfl rfl) (pac_Name (pvQ v_fewest_1 rfl rfl) (pac_Name (pvQ v_fewest_2 rfl rfl) (pac_BinOp (pe_op om_repT (pm_tup (pac_Constant pe_non pa_nil)) (pe_callB call_len_seq rfl B.len boot_len (pac_Name (pvQ v_fewest_0 rfl rfl) pa_nil))) (pac_Dict pm_dnewX pa_nil)))))))), rd_fewest h⟩
theorem ok_are_same {f : Addr} {fd : FuncData} (D : Def K mg "are_same" S_are_same ["goal", "left"] f fd) (B : Blt mg) (m_set : mg "set" = none) : FnB P w K mg base 1 "are_same" ["goal", "left"] (sp_are_same K) := by
  refine D.ok sc_are_same (fun vs H Q E h => len_are_same h) (fun cdv A outer s H vs Q E hr h => ?_)
  have hu := hr.units0
  have hux := hr.units64
  exact ⟨t_are_same K, (pss_one (ps_ret (pe_cmpR op_lt (pe_callB call_lenS rfl B.len boot_len (pac_Call (pe_callTy (call_setL rfl) rfl m_set boot_set (pac_ListComp (pe_comp (sc := (defScope S_are_same)) (NX := ["goal", "left"]) (N := ["deal", "goal"]) (ix := [none, some 0]) rfl (by refine ⟨rfl, ?_, ?_, ?_, ?_, rfl, ?_⟩ <;> decide +kernel) (pi_list (pvQ v_are_same_1 rfl rfl)) (by intros; exact (pg_name (i := 0) (show (["deal", "goal"] : List Str).Nodup by decide +kernel) rfl (Or.inl rfl))) (by intros; exact ptl_nil) (by intros; exact (pe_ix ix_list (pv 1) (pv 0) (fun _ _ => rfl)))) pa_nil)) pa_nil)) pe_int (nomark _)))), rd_are_same h⟩
theorem ok_fewest_of_more {n : Nat} {f : Addr} {fd : FuncData} (D : Def K mg "fewest_of_more" S_fewest_of_more ["asks", "goal", "left", "state", "found"] f fd) (B : Blt mg) (F_fewest_from : FnB P w K mg base (2 + 2 * n) "fewest_from" ["asks", "goal", "left", "state", "found"] (sp_fewest_from K n)) (F_answering : FnB P w K mg base 1 "answering" ["ask", "left", "answer"] (sp_answering K)) (F_with_answer : FnB P w K mg base 1 "with_answer" ["state", "number", "answer"] (sp_with_answer K)) : FnB P w K mg base (2 + 2 * n + 1) "fewest_of_more" ["asks", "goal", "left", "state", "found"] (sp_fewest_of_more K n) := by
    refine D.ok (k := 2 + 2 * n) sc_fewest_of_more (fun vs H Q E h => len_fewest_of_more h) (fun cdv A outer s H vs Q E hr h => ?_)
    have hu := hr.units0
    have hux := hr.units64
    exact ⟨t_fewest_of_more K n, (pss_cons (ps_set (i := 5) sc_fewest_of_more.nd rfl (Or.inl rfl) (pm_lst pa_nil))
    (pss_cons (ps_for PassesOwn.never rfl (pi_enum srcL rfl B.enumerate (by decide) (pac_Name (pvQ v_fewest_of_more_0 rfl rfl) pa_nil)) (pg_tup rfl (pgs_cons (pg_name (i := 6) sc_fewest_of_more.nd rfl (Or.inl rfl)) (pgs_cons (pg_name (i := 7) sc_fewest_of_more.nd rfl (Or.inl rfl)) pgs_nil))) (pss_one (ps_if (pt_cmpR op_isNone (pe_ix ix_tup (pvQ v_fewest_of_more_3 rfl rfl) (pvQ v_fewest_of_more_6 rfl rfl) (fun _ _ => rfl)) pe_non (nomark _)) (pss_cons (ps_set (i := 8) sc_fewest_of_more.nd rfl (Or.inl rfl) (pe_callF F_fewest_from (hr.mono (by omega)) (pac_Name (pvQ v_fewest_of_more_0 rfl rfl) (pac_Name (pvQ v_fewest_of_more_1 rfl rfl) (pac_Call (pe_callF F_answering (hr.mono (by omega)) (pac_Name (pvQ v_fewest_of_more_7 rfl rfl) (pac_Name (pvQ v_fewest_of_more_2 rfl rfl) (pac_Constant pe_bl pa_nil)))) (pac_Call (pe_callF F_with_answer (hr.mono (by omega)) (pac_Name (pvQ v_fewest_of_more_3 rfl rfl) (pac_Name (pvQ v_fewest_of_more_6 rfl rfl) (pac_Constant pe_bl pa_nil)))) (pac_Name (pvQ v_fewest_of_more_4 rfl rfl) pa_nil)))))))
    (pss_cons (ps_set (i := 9) sc_fewest_of_more.nd rfl (Or.inl rfl) (pe_callF F_fewest_from (hr.mono (by omega)) (pac_Name (pvQ v_fewest_of_more_0 rfl rfl) (pac_Name (pvQ v_fewest_of_more_1 rfl rfl) (pac_Call (pe_callF F_answering (hr.mono (by omega)) (pac_Name (pvQ v_fewest_of_more_7 rfl rfl) (pac_Name (pvQ v_fewest_of_more_2 rfl rfl) (pac_Constant pe_bl pa_nil)))) (pac_Call (pe_callF F_with_answer (hr.mono (by omega)) (pac_Name (pvQ v_fewest_of_more_3 rfl rfl) (pac_Name (pvQ v_fewest_of_more_6 rfl rfl) (pac_Constant pe_bl pa_nil)))) (pac_Name (pvQ v_fewest_of_more_4 rfl rfl) pa_nil)))))))
    (pss_one (ps_if (PW.pt (pw_and (pt_cmpR op_isnNone (pvQ v_fewest_of_more_8 rfl rfl) pe_non (nomark _)) (pw_and1 (pt_cmpR op_isnNone (pvQ v_fewest_of_more_9 rfl rfl) pe_non (nomark _))))) (pss_one (ps_expr (pe_bm PySem.F.plainAttrs_list PySem.F.slot_list_append PySem.F.type_list_append mt_append (pvQ v_fewest_of_more_5 rfl rfl) (pac_BinOp (pe_op op_add pe_int (pe_callB (call_max2 rfl) rfl B.max boot_max (pac_Name (pvQ v_fewest_of_more_8 rfl rfl) (pac_Name (pvQ v_fewest_of_more_9 rfl rfl) pa_nil)))) pa_nil)))) pss_nil)))) pss_nil)))
    (pss_one (ps_ret (pe_minD rfl B.min (pac_Name (pvQ v_fewest_of_more_5 rfl rfl) pa_nil)))))), rd_fewest_of_more h⟩
theorem ok_answering {f : Addr} {fd : FuncData} (D : Def K mg "answering" S_answering ["ask", "left", "answer"] f fd) (B : Blt mg) : FnB P w K mg base 1 "answering" ["ask", "left", "answer"] (sp_answering K) := by
  refine D.ok sc_answering (fun vs H Q E h => len_answering h) (fun cdv A outer s H vs Q E hr h => ?_)
  have hu := hr.units0
  have hux := hr.units64
  exact ⟨t_answering K, (pss_one (ps_ret (pe_comp (sc := (defScope S_answering)) (NX := ["ask", "left", "answer"]) (N := ["deal", "answer", "ask"]) (ix := [none, some 2, some 0]) rfl (by refine ⟨rfl, ?_, ?_, ?_, ?_, rfl, ?_⟩ <;> decide +kernel) (pi_list (pvQ v_answering_1 rfl rfl)) (by intros; exact (pg_name (i := 0) (show (["deal", "answer", "ask"] : List Str).Nodup by decide +kernel) rfl (Or.inl rfl))) (by intros; exact (ptl_one (pt_cmpR op_eq (pe_ix ix_list (pv 2) (pv 0) (fun _ _ => rfl)) (pv 1) (nomark _)))) (by intros; exact (pv 0))))), rd_answering h⟩
theorem ok_with_answer {f : Addr} {fd : FuncData} (D : Def K mg "with_answer" S_with_answer ["state", "number", "answer"] f fd) (B : Blt mg) : FnB P w K mg base 1 "with_answer" ["state", "number", "answer"] (sp_with_answer K) := by
  refine D.ok sc_with_answer (fun vs H Q E h => len_with_answer h) (fun cdv A outer s H vs Q E hr h => ?_)
  have hu := hr.units0
  have hux := hr.units64
  exact ⟨t_with_answer K, (pss_one (ps_ret (pe_op om_catT (pe_op om_catT (pe_slice sm_tup (pvQ v_with_answer_0 rfl rfl) po_none (po_some (pvQ v_with_answer_1 rfl rfl))) (pm_tup (pac_Name (pvQ v_with_answer_2 rfl rfl) pa_nil))) (pe_slice sm_tup (pvQ v_with_answer_0 rfl rfl) (po_some (pe_op op_add (pvQ v_with_answer_1 rfl rfl) pe_int)) po_none)))), rd_with_answer h⟩
theorem ok_tree_of {f : Addr} {fd : FuncData} (D : Def K mg "tree_of" S_tree_of ["asks", "goal", "some"] f fd) (B : Blt mg) (F_fewest_from : FnB P w K mg base 16 "fewest_from" ["asks", "goal", "left", "state", "found"] (sp_fewest_from K 7)) (F_tree_from : FnB P w K mg base 12 "tree_from" ["asks", "goal", "left", "state", "found"] (sp_tree_from K 7)) : FnB P w K mg base 17 "tree_of" ["asks", "goal", "some"] (sp_tree_of K) := by
  refine D.ok sc_tree_of (fun vs H Q E h => len_tree_of h) (fun cdv A outer s H vs Q E hr h => ?_)
  have hu := hr.units0
  have hux := hr.units64
  exact ⟨t_tree_of K, (pss_cons (ps_set (i := 3) sc_tree_of.nd rfl (Or.inl rfl) pm_dnewX)
    (pss_cons (ps_set (i := 4) sc_tree_of.nd rfl (Or.inl rfl) (pe_op om_repT (pm_tup (pac_Constant pe_non pa_nil)) (pe_callB call_len_seq rfl B.len boot_len (pac_Name (pvQ v_tree_of_0 rfl rfl) pa_nil))))
    (pss_cons (ps_if (pt_cmpR op_isNone (pe_callF F_fewest_from (hr.mono (by decide)) (pac_Name (pvQ v_tree_of_0 rfl rfl) (pac_Name (pvQ v_tree_of_1 rfl rfl) (pac_Name (pvQ v_tree_of_2 rfl rfl) (pac_Name (pvQ v_tree_of_4 rfl rfl) (pac_Name (pvQ v_tree_of_3 rfl rfl) pa_nil)))))) pe_non (nomark _)) (pss_one (ps_ret pe_non)) pss_nil)
    (pss_one (ps_ret (pe_callF F_tree_from (hr.mono (by decide)) (pac_Name (pvQ v_tree_of_0 rfl rfl) (pac_Name (pvQ v_tree_of_1 rfl rfl) (pac_Name (pvQ v_tree_of_2 rfl rfl) (pac_Name (pvQ v_tree_of_4 rfl rfl) (pac_Name (pvQ v_tree_of_3 rfl rfl) pa_nil))))))))))), rd_tree_of h⟩
theorem ok_tree_from {f : Addr} {fd : FuncData} (D : Def K mg "tree_from" S_tree_from ["asks", "goal", "left", "state", "found"] f fd) (B : Blt mg) (F_answering : FnB P w K mg base 1 "answering" ["ask", "left", "answer"] (sp_answering K)) (F_best_ask : FnB P w K mg base 4 "best_ask" ["state", "found"] (sp_best_ask K)) (F_with_answer : FnB P w K mg base 1 "with_answer" ["state", "number", "answer"] (sp_with_answer K)) : ∀ n, FnB P w K mg base (5 + n) "tree_from" ["asks", "goal", "left", "state", "found"] (sp_tree_from K n)
  | 0 => D.ok (k := 4) sc_tree_from (fun vs H Q E h => (no_tree_from h).elim) (fun cdv A outer s H vs Q E hr h => (no_tree_from h).elim)
  | n + 1 => by
    have F_tree_from := ok_tree_from D B F_answering F_best_ask F_with_answer n
    refine D.ok (k := 5 + n) sc_tree_from (fun vs H Q E h => len_tree_from h) (fun cdv A outer s H vs Q E hr h => ?_)
    have hu := hr.units0
    have hux := hr.units64
    exact ⟨t_tree_from K n, (pss_cons (ps_if (pt_cmpR op_eq (pe_xget hux (pvQ v_tree_from_4 rfl rfl) (pvQ v_tree_from_3 rfl rfl) (fun _ _ => rfl)) pe_int (nomark _)) (pss_one (ps_ret (pm_tup (pac_Constant pe_str (pac_Call (pe_minDI rfl B.min (pac_ListComp (pe_comp (sc := (defScope S_tree_from)) (NX := ["asks", "goal", "left", "state", "found", "number", "yes", "no"]) (N := ["deal", "goal"]) (ix := [none, some 1]) rfl (by refine ⟨rfl, ?_, ?_, ?_, ?_, rfl, ?_⟩ <;> decide +kernel) (pi_list (pvQ v_tree_from_2 rfl rfl)) (by intros; exact (pg_name (i := 0) (show (["deal", "goal"] : List Str).Nodup by decide +kernel) rfl (Or.inl rfl))) (by intros; exact ptl_nil) (by intros; exact (pe_ix ix_list (pv 1) (pv 0) (fun _ _ => rfl)))) pa_nil)) pa_nil))))) pss_nil)
    (pss_cons (ps_set (i := 5) sc_tree_from.nd rfl (Or.inl rfl) (pe_callF F_best_ask (hr.mono (by omega)) (pac_Name (pvQ v_tree_from_3 rfl rfl) (pac_Name (pvQ v_tree_from_4 rfl rfl) pa_nil))))
    (pss_cons (ps_set (i := 6) sc_tree_from.nd rfl (Or.inl rfl) (pe_callF F_tree_from (hr.mono (by omega)) (pac_Name (pvQ v_tree_from_0 rfl rfl) (pac_Name (pvQ v_tree_from_1 rfl rfl) (pac_Call (pe_callF F_answering (hr.mono (by omega)) (pac_Subscript (pe_ix ix_list (pvQ v_tree_from_0 rfl rfl) (pvQ v_tree_from_5 rfl rfl) (fun _ _ => rfl)) (pac_Name (pvQ v_tree_from_2 rfl rfl) (pac_Constant pe_bl pa_nil)))) (pac_Call (pe_callF F_with_answer (hr.mono (by omega)) (pac_Name (pvQ v_tree_from_3 rfl rfl) (pac_Name (pvQ v_tree_from_5 rfl rfl) (pac_Constant pe_bl pa_nil)))) (pac_Name (pvQ v_tree_from_4 rfl rfl) pa_nil)))))))
    (pss_cons (ps_set (i := 7) sc_tree_from.nd rfl (Or.inl rfl) (pe_callF F_tree_from (hr.mono (by omega)) (pac_Name (pvQ v_tree_from_0 rfl rfl) (pac_Name (pvQ v_tree_from_1 rfl rfl) (pac_Call (pe_callF F_answering (hr.mono (by omega)) (pac_Subscript (pe_ix ix_list (pvQ v_tree_from_0 rfl rfl) (pvQ v_tree_from_5 rfl rfl) (fun _ _ => rfl)) (pac_Name (pvQ v_tree_from_2 rfl rfl) (pac_Constant pe_bl pa_nil)))) (pac_Call (pe_callF F_with_answer (hr.mono (by omega)) (pac_Name (pvQ v_tree_from_3 rfl rfl) (pac_Name (pvQ v_tree_from_5 rfl rfl) (pac_Constant pe_bl pa_nil)))) (pac_Name (pvQ v_tree_from_4 rfl rfl) pa_nil)))))))
    (pss_one (ps_ret (pm_tup (pac_Constant pe_str (pac_Name (pvQ v_tree_from_5 rfl rfl) (pac_Name (pvQ v_tree_from_6 rfl rfl) (pac_Name (pvQ v_tree_from_7 rfl rfl) pa_nil))))))))))), rd_tree_from h⟩
theorem ok_best_ask {f : Addr} {fd : FuncData} (D : Def K mg "best_ask" S_best_ask ["state", "found"] f fd) (B : Blt mg) (F_is_good : FnB P w K mg base 3 "is_good" ["state", "number", "found"] (sp_is_good K)) : FnB P w K mg base 4 "best_ask" ["state", "found"] (sp_best_ask K) := by
  refine D.ok sc_best_ask (fun vs H Q E h => len_best_ask h) (fun cdv A outer s H vs Q E hr h => ?_)
  have hu := hr.units0
  have hux := hr.units64
  exact ⟨t_best_ask K, (pss_one (ps_ret (pe_ix ix_list (pe_comp (sc := (defScope S_best_ask)) (NX := ["state", "found"]) (N := ["number", "state", "found"]) (ix := [none, some 0, some 1]) rfl (by refine ⟨rfl, ?_, ?_, ?_, ?_, rfl, ?_⟩ <;> decide +kernel) (pi_range1 rfl B.range (pac_Call (pe_callB call_len_seq rfl B.len boot_len (pac_Name (pvQ v_best_ask_0 rfl rfl) pa_nil)) pa_nil)) (by intros; exact (pg_name (i := 0) (show (["number", "state", "found"] : List Str).Nodup by decide +kernel) rfl (Or.inl rfl))) (by intros; exact (ptl_one (pt_val (pe_callF F_is_good (hr.mono (by decide)) (pac_Name (pv 1) (pac_Name (pv 0) (pac_Name (pv 2) pa_nil))))))) (by intros; exact (pv 0))) pe_int (fun _ _ => rfl)))), rd_best_ask h⟩
theorem ok_is_good {f : Addr} {fd : FuncData} (D : Def K mg "is_good" S_is_good ["state", "number", "found"] f fd) (B : Blt mg) (F_is_hard : FnB P w K mg base 2 "is_hard" ["state", "number", "answer", "left", "found"] (sp_is_hard K)) : FnB P w K mg base 3 "is_good" ["state", "number", "found"] (sp_is_good K) := by
  refine D.ok sc_is_good (fun vs H Q E h => len_is_good h) (fun cdv A outer s H vs Q E hr h => ?_)
  have hu := hr.units0
  have hux := hr.units64
  exact ⟨t_is_good K, (pss_cons (ps_if (pt_cmpR op_isnNone (pe_ix ix_tup (pvQ v_is_good_0 rfl rfl) (pvQ v_is_good_1 rfl rfl) (fun _ _ => rfl)) pe_non (nomark _)) (pss_one (ps_ret pe_bl)) pss_nil)
    (pss_cons (ps_set (i := 3) sc_is_good.nd rfl (Or.inl rfl) (pe_op op_sub (pe_xget hux (pvQ v_is_good_2 rfl rfl) (pvQ v_is_good_0 rfl rfl) (fun _ _ => rfl)) pe_int))
    (pss_one (ps_ret (pe_and (pe_not (pe_callF F_is_hard (hr.mono (by decide)) (pac_Name (pvQ v_is_good_0 rfl rfl) (pac_Name (pvQ v_is_good_1 rfl rfl) (pac_Constant pe_bl (pac_Name (pvQ v_is_good_3 rfl rfl) (pac_Name (pvQ v_is_good_2 rfl rfl) pa_nil))))))) (pe_one (pe_not (pe_callF F_is_hard (hr.mono (by decide)) (pac_Name (pvQ v_is_good_0 rfl rfl) (pac_Name (pvQ v_is_good_1 rfl rfl) (pac_Constant pe_bl (pac_Name (pvQ v_is_good_3 rfl rfl) (pac_Name (pvQ v_is_good_2 rfl rfl) pa_nil))))))))))))), rd_is_good h⟩
theorem ok_is_hard {f : Addr} {fd : FuncData} (D : Def K mg "is_hard" S_is_hard ["state", "number", "answer", "left", "found"] f fd) (B : Blt mg) (F_with_answer : FnB P w K mg base 1 "with_answer" ["state", "number", "answer"] (sp_with_answer K)) : FnB P w K mg base 2 "is_hard" ["state", "number", "answer", "left", "found"] (sp_is_hard K) := by
  refine D.ok sc_is_hard (fun vs H Q E h => len_is_hard h) (fun cdv A outer s H vs Q E hr h => ?_)
  have hu := hr.units0
  have hux := hr.units64
  exact ⟨t_is_hard K, (pss_cons (ps_set (i := 5) sc_is_hard.nd rfl (Or.inl rfl) (pe_xget hux (pvQ v_is_hard_4 rfl rfl) (pe_callF F_with_answer (hr.mono (by decide)) (pac_Name (pvQ v_is_hard_0 rfl rfl) (pac_Name (pvQ v_is_hard_1 rfl rfl) (pac_Name (pvQ v_is_hard_2 rfl rfl) pa_nil)))) (fun _ _ => rfl)))
    (pss_one (ps_ret (pe_or (pe_cmpR op_isNone (pvQ v_is_hard_5 rfl rfl) pe_non (nomark _)) (pe_one (pe_cmpR op_gt (pvQ v_is_hard_5 rfl rfl) (pvQ v_is_hard_3 rfl rfl) (nomark _))))))), rd_is_hard h⟩
theorem ok_too_few {f : Addr} {fd : FuncData} (D : Def K mg "too_few" S_too_few ["asks", "goal", "some", "k"] f fd) (B : Blt mg) (F_fewest_from : FnB P w K mg base 16 "fewest_from" ["asks", "goal", "left", "state", "found"] (sp_fewest_from K 7)) (F_is_too_few : FnB P w K mg base 1 "is_too_few" ["least", "k"] (sp_is_too_few K)) (F_paper_from : FnB P w K mg base 5 "paper_from" ["state", "k", "found"] (sp_paper_from K)) : FnB P w K mg base 17 "too_few" ["asks", "goal", "some", "k"] (sp_too_few K) := by
  refine D.ok sc_too_few (fun vs H Q E h => len_too_few h) (fun cdv A outer s H vs Q E hr h => ?_)
  have hu := hr.units0
  have hux := hr.units64
  exact ⟨t_too_few K, (pss_cons (ps_set (i := 4) sc_too_few.nd rfl (Or.inl rfl) pm_dnewX)
    (pss_cons (ps_set (i := 5) sc_too_few.nd rfl (Or.inl rfl) (pe_op om_repT (pm_tup (pac_Constant pe_non pa_nil)) (pe_callB call_len_seq rfl B.len boot_len (pac_Name (pvQ v_too_few_0 rfl rfl) pa_nil))))
    (pss_cons (ps_set (i := 6) sc_too_few.nd rfl (Or.inl rfl) (pe_callF F_fewest_from (hr.mono (by decide)) (pac_Name (pvQ v_too_few_0 rfl rfl) (pac_Name (pvQ v_too_few_1 rfl rfl) (pac_Name (pvQ v_too_few_2 rfl rfl) (pac_Name (pvQ v_too_few_5 rfl rfl) (pac_Name (pvQ v_too_few_4 rfl rfl) pa_nil)))))))
    (pss_cons (ps_if (pt_not (pt_val (pe_callF F_is_too_few (hr.mono (by decide)) (pac_Name (pvQ v_too_few_6 rfl rfl) (pac_Name (pvQ v_too_few_3 rfl rfl) pa_nil))))) (pss_one (ps_ret pe_non)) pss_nil)
    (pss_one (ps_ret (pe_callF F_paper_from (hr.mono (by decide)) (pac_Name (pvQ v_too_few_5 rfl rfl) (pac_Name (pvQ v_too_few_3 rfl rfl) (pac_Name (pvQ v_too_few_4 rfl rfl) pa_nil)))))))))), rd_too_few h⟩
theorem ok_is_too_few {f : Addr} {fd : FuncData} (D : Def K mg "is_too_few" S_is_too_few ["least", "k"] f fd) (B : Blt mg) {t_MOST_ASKS : Tok} (m_MOST_ASKS : mg "MOST_ASKS" = some (.int 6 t_MOST_ASKS)) : FnB P w K mg base 1 "is_too_few" ["least", "k"] (sp_is_too_few K) := by
  refine D.ok sc_is_too_few (fun vs H Q E h => len_is_too_few h) (fun cdv A outer s H vs Q E hr h => ?_)
  have hu := hr.units0
  have hux := hr.units64
  exact ⟨t_is_too_few K, (pss_one (ps_ret (pe_ifExp (pt_cmpR op_isNone (pvQ v_is_too_few_0 rfl rfl) pe_non (nomark _)) (pe_chain op_le op_le pe_int (pvQ v_is_too_few_1 rfl rfl) (pe_glob (v := (.int 6)) rfl m_MOST_ASKS ⟨_, rfl⟩)) (pe_chain op_le op_lt pe_int (pvQ v_is_too_few_1 rfl rfl) (pvQ v_is_too_few_0 rfl rfl))))), rd_is_too_few h⟩
theorem ok_paper_from {f : Addr} {fd : FuncData} (D : Def K mg "paper_from" S_paper_from ["state", "k", "found"] f fd) (B : Blt mg) (F_hard_answers : FnB P w K mg base 4 "hard_answers" ["state", "left", "found"] (sp_hard_answers K)) (F_states_behind : FnB P w K mg base 2 "states_behind" ["rows"] (sp_states_behind K)) : FnB P w K mg base 5 "paper_from" ["state", "k", "found"] (sp_paper_from K) := by
  refine D.ok sc_paper_from (fun vs H Q E h => len_paper_from h) (fun cdv A outer s H vs Q E hr h => ?_)
  have hu := hr.units0
  have hux := hr.units64
  exact ⟨t_paper_from K, (pss_cons (ps_set (i := 3) sc_paper_from.nd rfl (Or.inl rfl) (pm_lst pa_nil))
    (pss_cons (ps_set (i := 4) sc_paper_from.nd rfl (Or.inl rfl) (pm_lst (pac_Name (pvQ v_paper_from_0 rfl rfl) pa_nil)))
    (pss_cons (ps_set (i := 5) sc_paper_from.nd rfl (Or.inr rfl) (pvQ v_paper_from_1 rfl rfl))
    (pss_cons (ps_while PassesOwn.never (pt_cmpR op_gt (pe_callB call_len_seq rfl B.len boot_len (pac_Name (pvQ v_paper_from_4 rfl rfl) pa_nil)) pe_int (nomark _)) (pss_cons (ps_setComp (i := 6) sc_paper_from.nd rfl rfl (sc := (defScope S_paper_from)) (NX := ["state", "k", "found", "paper", "level", "left", "rows"]) (N := ["one", "left", "found"]) (ix := [none, some 5, some 2]) rfl (by refine ⟨rfl, ?_, ?_, ?_, ?_, rfl, ?_⟩ <;> decide +kernel) (pi_list (pvQ v_paper_from_4 rfl rfl)) (by intros; exact (pg_name (i := 0) (show (["one", "left", "found"] : List Str).Nodup by decide +kernel) rfl (Or.inl rfl))) (by intros; exact ptl_nil) (by intros; exact (pm_tup (pac_Name (pv 0) (pac_Name (pv 1) (pac_Call (pe_callF F_hard_answers (hr.mono (by decide)) (pac_Name (pv 0) (pac_Name (pv 1) (pac_Name (pv 2) pa_nil)))) pa_nil))))))
    (pss_cons (ps_expr (pe_bm PySem.F.plainAttrs_list PySem.F.slot_list_extend PySem.F.type_list_extend mt_extend (pvQ v_paper_from_3 rfl rfl) (pac_Name (pvQ v_paper_from_6 rfl rfl) pa_nil)))
    (pss_cons (ps_set (i := 4) sc_paper_from.nd rfl (Or.inl rfl) (pe_callF F_states_behind (hr.mono (by decide)) (pac_Name (pvQ v_paper_from_6 rfl rfl) pa_nil)))
    (pss_one (ps_set (i := 5) sc_paper_from.nd rfl (Or.inr rfl) (pe_op op_sub (pvQ v_paper_from_5 rfl rfl) pe_int)))))))
    (pss_one (ps_ret (pvQ v_paper_from_3 rfl rfl))))))), rd_paper_from h⟩
theorem ok_hard_answers {f : Addr} {fd : FuncData} (D : Def K mg "hard_answers" S_hard_answers ["state", "left", "found"] f fd) (B : Blt mg) (F_hard_answer : FnB P w K mg base 3 "hard_answer" ["state", "number", "left", "found"] (sp_hard_answer K)) : FnB P w K mg base 4 "hard_answers" ["state", "left", "found"] (sp_hard_answers K) := by
  refine D.ok sc_hard_answers (fun vs H Q E h => len_hard_answers h) (fun cdv A outer s H vs Q E hr h => ?_)
  have hu := hr.units0
  have hux := hr.units64
  exact ⟨t_hard_answers K, (pss_cons (ps_if (pt_cmpR op_eq (pvQ v_hard_answers_1 rfl rfl) pe_int (nomark _)) (pss_one (ps_ret (pm_lst pa_nil))) pss_nil)
    (pss_one (ps_ret (pe_comp (sc := (defScope S_hard_answers)) (NX := ["state", "left", "found"]) (N := ["number", "state", "found", "left"]) (ix := [none, some 0, some 2, some 1]) rfl (by refine ⟨rfl, ?_, ?_, ?_, ?_, rfl, ?_⟩ <;> decide +kernel) (pi_range1 rfl B.range (pac_Call (pe_callB call_len_seq rfl B.len boot_len (pac_Name (pvQ v_hard_answers_0 rfl rfl) pa_nil)) pa_nil)) (by intros; exact (pg_name (i := 0) (show (["number", "state", "found", "left"] : List Str).Nodup by decide +kernel) rfl (Or.inl rfl))) (by intros; exact ptl_nil) (by intros; exact (pe_callF F_hard_answer (hr.mono (by decide)) (pac_Name (pv 1) (pac_Name (pv 0) (pac_BinOp (pe_op op_sub (pv 3) pe_int) (pac_Name (pv 2) pa_nil)))))))))), rd_hard_answers h⟩
theorem ok_hard_answer {f : Addr} {fd : FuncData} (D : Def K mg "hard_answer" S_hard_answer ["state", "number", "left", "found"] f fd) (B : Blt mg) (F_is_hard : FnB P w K mg base 2 "is_hard" ["state", "number", "answer", "left", "found"] (sp_is_hard K)) : FnB P w K mg base 3 "hard_answer" ["state", "number", "left", "found"] (sp_hard_answer K) := by
  refine D.ok sc_hard_answer (fun vs H Q E h => len_hard_answer h) (fun cdv A outer s H vs Q E hr h => ?_)
  have hu := hr.units0
  have hux := hr.units64
  exact ⟨t_hard_answer K, (pss_cons (ps_if (pt_cmpR op_isnNone (pe_ix ix_tup (pvQ v_hard_answer_0 rfl rfl) (pvQ v_hard_answer_1 rfl rfl) (fun _ _ => rfl)) pe_non (nomark _)) (pss_one (ps_ret pe_non)) pss_nil)
    (pss_one (ps_ret (pe_callF F_is_hard (hr.mono (by decide)) (pac_Name (pvQ v_hard_answer_0 rfl rfl) (pac_Name (pvQ v_hard_answer_1 rfl rfl) (pac_Constant pe_bl (pac_Name (pvQ v_hard_answer_2 rfl rfl) (pac_Name (pvQ v_hard_answer_3 rfl rfl) pa_nil))))))))), rd_hard_answer h⟩
theorem ok_states_behind {f : Addr} {fd : FuncData} (D : Def K mg "states_behind" S_states_behind ["rows"] f fd) (B : Blt mg) (F_with_answer : FnB P w K mg base 1 "with_answer" ["state", "number", "answer"] (sp_with_answer K)) : FnB P w K mg base 2 "states_behind" ["rows"] (sp_states_behind K) := by
  refine D.ok sc_states_behind (fun vs H Q E h => len_states_behind h) (fun cdv A outer s H vs Q E hr h => ?_)
  have hu := hr.units0
  have hux := hr.units64
  exact ⟨t_states_behind K, (pss_cons (ps_set (i := 1) sc_states_behind.nd rfl (Or.inl rfl) pm_dnewX)
    (pss_cons (ps_for PassesOwn.never rfl (pi_list (pvQ v_states_behind_0 rfl rfl)) (pg_tup rfl (pgs_cons (pg_name (i := 2) sc_states_behind.nd rfl (Or.inl rfl)) (pgs_cons (pg_name (i := 3) sc_states_behind.nd rfl (Or.inl rfl)) (pgs_cons (pg_name (i := 4) sc_states_behind.nd rfl (Or.inl rfl)) pgs_nil)))) (pss_one (ps_for PassesOwn.never rfl (pi_enum srcL rfl B.enumerate (by decide) (pac_Name (pvQ v_states_behind_4 rfl rfl) pa_nil)) (pg_tup rfl (pgs_cons (pg_name (i := 5) sc_states_behind.nd rfl (Or.inl rfl)) (pgs_cons (pg_name (i := 6) sc_states_behind.nd rfl (Or.inl rfl)) pgs_nil))) (pss_one (ps_if (pt_cmpR op_isnNone (pvQ v_states_behind_6 rfl rfl) pe_non (nomark _)) (pss_one (ps_asg pe_bl (pg_sub (pvQ v_states_behind_1 rfl rfl) (pe_callF F_with_answer (hr.mono (by decide)) (pac_Name (pvQ v_states_behind_2 rfl rfl) (pac_Name (pvQ v_states_behind_5 rfl rfl) (pac_Name (pvQ v_states_behind_6 rfl rfl) pa_nil)))) (set_B hux)))) pss_nil)))))
    (pss_one (ps_ret (pe_callTy (call_lbd rfl) rfl B.list boot_list (pac_Name (pvQ v_states_behind_1 rfl rfl) pa_nil)))))), rd_states_behind h⟩
theorem ok__law_cell_at {f : Addr} {fd : FuncData} (D : Def K mg "_law_cell_at" S__law_cell_at ["_law_script", "_law_k"] f fd) (B : Blt mg) : FnB P w K mg base 1 "_law_cell_at" ["_law_script", "_law_k"] (sp__law_cell_at K) := by
  refine D.ok sc__law_cell_at (fun vs H Q E h => len__law_cell_at h) (fun cdv A outer s H vs Q E hr h => ?_)
  have hu := hr.units0
  have hux := hr.units64
  exact ⟨t__law_cell_at K, (pss_cons (ps_if (pt_cmpR op_lt (pvQ v__law_cell_at_1 rfl rfl) (pe_callB call_len_seq rfl B.len boot_len (pac_Name (pvQ v__law_cell_at_0 rfl rfl) pa_nil)) (nomark _)) (pss_one (ps_ret (pe_ix ix_list (pvQ v__law_cell_at_0 rfl rfl) (pvQ v__law_cell_at_1 rfl rfl) (fun _ _ => rfl)))) pss_nil)
    (pss_one (ps_ret pe_int))), rd__law_cell_at h⟩
theorem ok__law_stream {f : Addr} {fd : FuncData} (D : Def K mg "_law_stream" S__law_stream ["_law_cell", "_law_salt", "_law_many"] f fd) (B : Blt mg) : FnB P w K mg base 1 "_law_stream" ["_law_cell", "_law_salt", "_law_many"] (sp__law_stream K) := by
  refine D.ok sc__law_stream (fun vs H Q E h => len__law_stream h) (fun cdv A outer s H vs Q E hr h => ?_)
  have hu := hr.units0
  have hux := hr.units64
  exact ⟨t__law_stream K, (pss_cons (ps_set (i := 3) sc__law_stream.nd rfl (Or.inl rfl) (pe_op op_mod (pe_op op_add (pe_op op_add (pe_op op_mod (pvQ v__law_stream_0 rfl rfl) pe_int) (pe_op op_mulB pe_int (pvQ v__law_stream_1 rfl rfl))) pe_int) pe_int))
    (pss_cons (ps_set (i := 4) sc__law_stream.nd rfl (Or.inl rfl) (pm_lst pa_nil))
    (pss_cons (ps_for PassesOwn.never rfl (pi_range1 rfl B.range (pac_Name (pvQ v__law_stream_2 rfl rfl) pa_nil)) (pg_name (i := 5) sc__law_stream.nd rfl (Or.inl rfl)) (pss_cons (ps_set (i := 3) sc__law_stream.nd rfl (Or.inl rfl) (pe_op op_mod (pe_op op_add (pe_op op_add (pe_op op_add (pe_op op_mulB (pvQ v__law_stream_3 rfl rfl) (pvQ v__law_stream_3 rfl rfl)) (pe_op op_mulB pe_int (pvQ v__law_stream_3 rfl rfl))) (pe_op op_mulB pe_int (pvQ v__law_stream_5 rfl rfl))) (pvQ v__law_stream_1 rfl rfl)) pe_int))
    (pss_one (ps_expr (pe_bm PySem.F.plainAttrs_list PySem.F.slot_list_append PySem.F.type_list_append mt_append (pvQ v__law_stream_4 rfl rfl) (pac_BinOp (pe_op op_fdiv (pvQ v__law_stream_3 rfl rfl) pe_int) pa_nil))))))
    (pss_one (ps_ret (pvQ v__law_stream_4 rfl rfl)))))), rd__law_stream h⟩
theorem ok__law_ask {f : Addr} {fd : FuncData} (D : Def K mg "_law_ask" S__law_ask ["_law_script", "_law_k", "_law_many", "_law_asks"] f fd) (B : Blt mg) (F__law_cell_at : FnB P w K mg base 1 "_law_cell_at" ["_law_script", "_law_k"] (sp__law_cell_at K)) (F__law_stream : FnB P w K mg base 1 "_law_stream" ["_law_cell", "_law_salt", "_law_many"] (sp__law_stream K)) : FnB P w K mg base 2 "_law_ask" ["_law_script", "_law_k", "_law_many", "_law_asks"] (sp__law_ask K) := by
  refine D.ok sc__law_ask (fun vs H Q E h => len__law_ask h) (fun cdv A outer s H vs Q E hr h => ?_)
  have hu := hr.units0
  have hux := hr.units64
  exact ⟨t__law_ask K, (pss_cons (ps_set (i := 4) sc__law_ask.nd rfl (Or.inl rfl) (pe_callF F__law_stream (hr.mono (by decide)) (pac_Call (pe_callF F__law_cell_at (hr.mono (by decide)) (pac_Name (pvQ v__law_ask_0 rfl rfl) (pac_BinOp (pe_op op_add pe_int (pvQ v__law_ask_1 rfl rfl)) pa_nil))) (pac_Name (pvQ v__law_ask_1 rfl rfl) (pac_BinOp (pe_op op_add (pvQ v__law_ask_2 rfl rfl) pe_int) pa_nil)))))
    (pss_cons (ps_set (i := 5) sc__law_ask.nd rfl (Or.inl rfl) (pe_op op_mod (pe_ix ix_list (pvQ v__law_ask_4 rfl rfl) pe_int (fun _ _ => rfl)) pe_int))
    (pss_cons (ps_set (i := 6) sc__law_ask.nd rfl (Or.inl rfl) (pm_lst pa_nil))
    (pss_cons (ps_for PassesOwn.never rfl (pi_range1 rfl B.range (pac_Name (pvQ v__law_ask_2 rfl rfl) pa_nil)) (pg_name (i := 7) sc__law_ask.nd rfl (Or.inl rfl)) (pss_cons (ps_set (i := 8) sc__law_ask.nd rfl (Or.inl rfl) (pe_ix ix_list (pm_lst (pac_Constant pe_int (pac_Constant pe_int (pac_Constant pe_int (pac_Constant pe_int (pac_Constant pe_int (pac_Constant pe_int pa_nil))))))) (pe_op op_mod (pe_op op_fdiv (pe_ix ix_list (pvQ v__law_ask_4 rfl rfl) pe_int (fun _ _ => rfl)) pe_int) pe_int) (fun _ _ => rfl)))
    (pss_cons (ps_set (i := 9) sc__law_ask.nd rfl (Or.inl rfl) (pm_lst (pac_Compare (pe_cmpR op_eq (pe_op op_mod (pe_ix ix_list (pvQ v__law_ask_4 rfl rfl) (pe_op op_add pe_int (pvQ v__law_ask_7 rfl rfl)) (fun _ _ => rfl)) pe_int) pe_int (nomark _)) (pac_Compare (pe_cmpR op_eq (pe_op op_mod (pe_op op_fdiv (pvQ v__law_ask_7 rfl rfl) (pvQ v__law_ask_8 rfl rfl)) pe_int) pe_int (nomark _)) (pac_Compare (pe_cmpR op_eq (pe_op op_mod (pe_ix ix_list (pvQ v__law_ask_4 rfl rfl) (pe_op op_add pe_int (pvQ v__law_ask_7 rfl rfl)) (fun _ _ => rfl)) pe_int) pe_int (nomark _)) (pac_Compare (pe_cmpR op_eq (pe_op op_mod (pe_op op_fdiv (pe_ix ix_list (pvQ v__law_ask_4 rfl rfl) pe_int (fun _ _ => rfl)) pe_int) pe_int) pe_int (nomark _)) (pac_Compare (pe_cmpR op_lt (pvQ v__law_ask_7 rfl rfl) (pe_op op_mod (pe_op op_fdiv (pe_ix ix_list (pvQ v__law_ask_4 rfl rfl) pe_int (fun _ _ => rfl)) pe_int) (pvQ v__law_ask_2 rfl rfl)) (nomark _)) pa_nil)))))))
    (pss_one (ps_if (PW.pt (pw_and (pt_cmpR op_eq (pvQ v__law_ask_5 rfl rfl) pe_int (nomark _)) (pw_and1 (pt_cmpR op_gt (pe_callB call_len_seq rfl B.len boot_len (pac_Name (pvQ v__law_ask_3 rfl rfl) pa_nil)) pe_int (nomark _))))) (pss_one (ps_expr (pe_bm PySem.F.plainAttrs_list PySem.F.slot_list_append PySem.F.type_list_append mt_append (pvQ v__law_ask_6 rfl rfl) (pac_Compare (pe_cmpR op_eq (pe_ix ix_list (pe_ix ix_list (pvQ v__law_ask_3 rfl rfl) (pe_op op_mod (pe_op op_fdiv (pe_ix ix_list (pvQ v__law_ask_4 rfl rfl) pe_int (fun _ _ => rfl)) pe_int) (pe_callB call_len_seq rfl B.len boot_len (pac_Name (pvQ v__law_ask_3 rfl rfl) pa_nil))) (fun _ _ => rfl)) (pvQ v__law_ask_7 rfl rfl) (fun _ _ => rfl)) (pe_cmpR op_gt (pe_op op_mod (pe_ix ix_list (pvQ v__law_ask_4 rfl rfl) (pe_op op_add pe_int (pvQ v__law_ask_7 rfl rfl)) (fun _ _ => rfl)) pe_int) pe_int (nomark _)) (nomark _)) pa_nil)))) (pss_one (ps_expr (pe_bm PySem.F.plainAttrs_list PySem.F.slot_list_append PySem.F.type_list_append mt_append (pvQ v__law_ask_6 rfl rfl) (pac_Subscript (pe_ix ix_list (pvQ v__law_ask_9 rfl rfl) (pe_op op_mod (pvQ v__law_ask_5 rfl rfl) pe_int) (fun _ _ => rfl)) pa_nil)))))))))
    (pss_one (ps_ret (pvQ v__law_ask_6 rfl rfl))))))), rd__law_ask h⟩
theorem ok__law_case {f : Addr} {fd : FuncData} (D : Def K mg "_law_case" S__law_case ["_law_script"] f fd) (B : Blt mg) (F__law_ask : FnB P w K mg base 2 "_law_ask" ["_law_script", "_law_k", "_law_many", "_law_asks"] (sp__law_ask K)) (F__law_cell_at : FnB P w K mg base 1 "_law_cell_at" ["_law_script", "_law_k"] (sp__law_cell_at K)) (F__law_stream : FnB P w K mg base 1 "_law_stream" ["_law_cell", "_law_salt", "_law_many"] (sp__law_stream K)) : FnB P w K mg base 3 "_law_case" ["_law_script"] (sp__law_case K) := by
  refine D.ok sc__law_case (fun vs H Q E h => len__law_case h) (fun cdv A outer s H vs Q E hr h => ?_)
  have hu := hr.units0
  have hux := hr.units64
  exact ⟨t__law_case K, (pss_cons (ps_set (i := 1) sc__law_case.nd rfl (Or.inl rfl) (pe_callF F__law_cell_at (hr.mono (by decide)) (pac_Name (pvQ v__law_case_0 rfl rfl) (pac_Constant pe_int pa_nil))))
    (pss_cons (ps_set (i := 2) sc__law_case.nd rfl (Or.inl rfl) (pe_ix ix_list (pm_lst (pac_Constant pe_int (pac_Constant pe_int (pac_Constant pe_int (pac_Constant pe_int (pac_Constant pe_int (pac_Constant pe_int (pac_Constant pe_int (pac_Constant pe_int pa_nil))))))))) (pe_op op_mod (pvQ v__law_case_1 rfl rfl) pe_int) (fun _ _ => rfl)))
    (pss_cons (ps_set (i := 3) sc__law_case.nd rfl (Or.inl rfl) (pe_op op_add pe_int (pe_op op_mod (pe_op op_fdiv (pvQ v__law_case_1 rfl rfl) pe_int) pe_int)))
    (pss_cons (ps_if (PW.pt (pw_and (pt_cmpR op_eq (pe_op op_mod (pe_op op_fdiv (pvQ v__law_case_1 rfl rfl) pe_int) pe_int) pe_int (nomark _)) (pw_and1 (pt_cmpR op_lt (pvQ v__law_case_2 rfl rfl) pe_int (nomark _))))) (pss_one (ps_set (i := 3) sc__law_case.nd rfl (Or.inl rfl) (pe_op op_add pe_int (pe_op op_mod (pe_op op_fdiv (pvQ v__law_case_1 rfl rfl) pe_int) pe_int)))) pss_nil)
    (pss_cons (ps_set (i := 4) sc__law_case.nd rfl (Or.inl rfl) (pm_lst pa_nil))
    (pss_cons (ps_for PassesOwn.never rfl (pi_range1 rfl B.range (pac_Name (pvQ v__law_case_2 rfl rfl) pa_nil)) (pg_name (i := 5) sc__law_case.nd rfl (Or.inl rfl)) (pss_one (ps_expr (pe_bm PySem.F.plainAttrs_list PySem.F.slot_list_append PySem.F.type_list_append mt_append (pvQ v__law_case_4 rfl rfl) (pac_Call (pe_callF F__law_ask (hr.mono (by decide)) (pac_Name (pvQ v__law_case_0 rfl rfl) (pac_Name (pvQ v__law_case_5 rfl rfl) (pac_Name (pvQ v__law_case_3 rfl rfl) (pac_Name (pvQ v__law_case_4 rfl rfl) pa_nil))))) pa_nil)))))
    (pss_cons (ps_set (i := 6) sc__law_case.nd rfl (Or.inl rfl) (pe_callF F__law_stream (hr.mono (by decide)) (pac_Call (pe_callF F__law_cell_at (hr.mono (by decide)) (pac_Name (pvQ v__law_case_0 rfl rfl) (pac_Constant pe_int pa_nil))) (pac_Constant pe_int (pac_BinOp (pe_op op_add (pvQ v__law_case_3 rfl rfl) pe_int) pa_nil)))))
    (pss_cons (ps_set (i := 7) sc__law_case.nd rfl (Or.inl rfl) (pm_lst pa_nil))
    (pss_cons (ps_for PassesOwn.never rfl (pi_range1 rfl B.range (pac_Name (pvQ v__law_case_3 rfl rfl) pa_nil)) (pg_name (i := 8) sc__law_case.nd rfl (Or.inl rfl)) (pss_cons (ps_set (i := 9) sc__law_case.nd rfl (Or.inl rfl) (pm_lst (pac_BinOp (pe_op op_mod (pe_ix ix_list (pvQ v__law_case_6 rfl rfl) (pe_op op_add pe_int (pvQ v__law_case_8 rfl rfl)) (fun _ _ => rfl)) pe_int) (pac_Name (pvQ v__law_case_8 rfl rfl) (pac_BinOp (pe_op op_sub (pe_op op_mod (pe_ix ix_list (pvQ v__law_case_6 rfl rfl) (pe_op op_add pe_int (pvQ v__law_case_8 rfl rfl)) (fun _ _ => rfl)) pe_int) pe_int) (pac_BinOp (pe_op op_mulB (pe_op op_fdiv (pvQ v__law_case_8 rfl rfl) pe_int) (pe_op op_sub (pe_op op_pow pe_int pe_int) pe_int)) (pac_Constant pe_int (pac_BinOp (pe_op op_mod (pvQ v__law_case_8 rfl rfl) pe_int) (pac_BinOp (pe_op op_mod (pe_ix ix_list (pvQ v__law_case_6 rfl rfl) (pe_op op_add pe_int (pvQ v__law_case_8 rfl rfl)) (fun _ _ => rfl)) pe_int) pa_nil)))))))))
    (pss_one (ps_expr (pe_bm PySem.F.plainAttrs_list PySem.F.slot_list_append PySem.F.type_list_append mt_append (pvQ v__law_case_7 rfl rfl) (pac_Subscript (pe_ix ix_list (pvQ v__law_case_9 rfl rfl) (pe_op op_mod (pe_ix ix_list (pvQ v__law_case_6 rfl rfl) pe_int (fun _ _ => rfl)) pe_int) (fun _ _ => rfl)) pa_nil))))))
    (pss_cons (ps_set (i := 10) sc__law_case.nd rfl (Or.inr rfl) (pe_callF F__law_stream (hr.mono (by decide)) (pac_Call (pe_callF F__law_cell_at (hr.mono (by decide)) (pac_Name (pvQ v__law_case_0 rfl rfl) (pac_Constant pe_int pa_nil))) (pac_Constant pe_int (pac_BinOp (pe_op op_add (pvQ v__law_case_3 rfl rfl) pe_int) pa_nil)))))
    (pss_cons (ps_setComp (i := 11) sc__law_case.nd rfl rfl (sc := (defScope S__law_case)) (NX := ["_law_script", "_law_first", "_law_count", "_law_many", "_law_asks", "_law_k", "_law_xs", "_law_goal", "_law_d", "_law_some", "_law_ys", "_law_chosen_ones"]) (N := ["_law_d", "_law_ys"]) (ix := [none, some 10]) rfl (by refine ⟨rfl, ?_, ?_, ?_, ?_, rfl, ?_⟩ <;> decide +kernel) (pi_range1 rfl B.range (pac_Name (pvQ v__law_case_3 rfl rfl) pa_nil)) (by intros; exact (pg_name (i := 0) (show (["_law_d", "_law_ys"] : List Str).Nodup by decide +kernel) rfl (Or.inl rfl))) (by intros; exact (ptl_one (PW.pt (pw_or (pt_cmpR op_lt (pe_op op_mod (pe_ix ix_list (pv 1) pe_int (fun _ _ => rfl)) pe_int) pe_int (nomark _)) (pw_or1 (pt_cmpR op_gt (pe_op op_mod (pe_ix ix_list (pv 1) (pe_op op_add pe_int (pv 0)) (fun _ _ => rfl)) pe_int) pe_int (nomark _))))))) (by intros; exact (pv 0)))
    (pss_cons (ps_if (pt_cmpR op_eq (pe_callB call_len_seq rfl B.len boot_len (pac_Name (pvQ v__law_case_11 rfl rfl) pa_nil)) pe_int (nomark _)) (pss_one (ps_set (i := 11) sc__law_case.nd rfl (Or.inl rfl) (pm_lst (pac_BinOp (pe_op op_mod (pe_ix ix_list (pvQ v__law_case_10 rfl rfl) pe_int (fun _ _ => rfl)) (pvQ v__law_case_3 rfl rfl)) pa_nil)))) pss_nil)
    (pss_one (ps_ret (pm_tup (pac_Name (pvQ v__law_case_4 rfl rfl) (pac_Name (pvQ v__law_case_7 rfl rfl) (pac_Name (pvQ v__law_case_11 rfl rfl) pa_nil)))))))))))))))))), rd__law_case h⟩
theorem ok__law_left {f : Addr} {fd : FuncData} (D : Def K mg "_law_left" S__law_left ["_law_asks", "_law_some", "_law_state"] f fd) (B : Blt mg) : FnB P w K mg base 1 "_law_left" ["_law_asks", "_law_some", "_law_state"] (sp__law_left K) := by
  refine D.ok sc__law_left (fun vs H Q E h => len__law_left h) (fun cdv A outer s H vs Q E hr h => ?_)
  have hu := hr.units0
  have hux := hr.units64
  exact ⟨t__law_left K, (pss_cons (ps_set (i := 3) sc__law_left.nd rfl (Or.inl rfl) (pm_lst pa_nil))
    (pss_cons (ps_for PassesOwn.never rfl (pi_list (pvQ v__law_left_1 rfl rfl)) (pg_name (i := 4) sc__law_left.nd rfl (Or.inl rfl)) (pss_cons (ps_set (i := 5) sc__law_left.nd rfl (Or.inl rfl) pe_bl)
    (pss_cons (ps_for PassesOwn.never rfl (pi_range1 rfl B.range (pac_Call (pe_callB call_len_seq rfl B.len boot_len (pac_Name (pvQ v__law_left_0 rfl rfl) pa_nil)) pa_nil)) (pg_name (i := 6) sc__law_left.nd rfl (Or.inl rfl)) (pss_one (ps_if (PW.pt (pw_and (pt_cmpR op_isnNone (pe_ix ix_tup (pvQ v__law_left_2 rfl rfl) (pvQ v__law_left_6 rfl rfl) (fun _ _ => rfl)) pe_non (nomark _)) (pw_and1 (pt_cmpR op_ne (pe_ix ix_list (pe_ix ix_list (pvQ v__law_left_0 rfl rfl) (pvQ v__law_left_6 rfl rfl) (fun _ _ => rfl)) (pvQ v__law_left_4 rfl rfl) (fun _ _ => rfl)) (pe_ix ix_tup (pvQ v__law_left_2 rfl rfl) (pvQ v__law_left_6 rfl rfl) (fun _ _ => rfl)) (nomark _))))) (pss_one (ps_set (i := 5) sc__law_left.nd rfl (Or.inl rfl) pe_bl)) pss_nil)))
    (pss_one (ps_if (pt_val (pvQ v__law_left_5 rfl rfl)) (pss_one (ps_expr (pe_bm PySem.F.plainAttrs_list PySem.F.slot_list_append PySem.F.type_list_append mt_append (pvQ v__law_left_3 rfl rfl) (pac_Name (pvQ v__law_left_4 rfl rfl) pa_nil)))) pss_nil)))))
    (pss_one (ps_ret (pvQ v__law_left_3 rfl rfl))))), rd__law_left h⟩
theorem ok__law_unlike {f : Addr} {fd : FuncData} (D : Def K mg "_law_unlike" S__law_unlike ["_law_goal", "_law_some"] f fd) (B : Blt mg) : FnB P w K mg base 1 "_law_unlike" ["_law_goal", "_law_some"] (sp__law_unlike K) := by
  refine D.ok sc__law_unlike (fun vs H Q E h => len__law_unlike h) (fun cdv A outer s H vs Q E hr h => ?_)
  have hu := hr.units0
  have hux := hr.units64
  exact ⟨t__law_unlike K, (pss_one (ps_ret (pe_cmpR op_gt (pe_callB call_len_seq rfl B.len boot_len (pac_ListComp (pe_comp (sc := (defScope S__law_unlike)) (NX := ["_law_goal", "_law_some"]) (N := ["_law_deal", "_law_goal", "_law_some"]) (ix := [none, some 0, some 1]) rfl (by refine ⟨rfl, ?_, ?_, ?_, ?_, rfl, ?_⟩ <;> decide +kernel) (pi_list (pvQ v__law_unlike_1 rfl rfl)) (by intros; exact (pg_name (i := 0) (show (["_law_deal", "_law_goal", "_law_some"] : List Str).Nodup by decide +kernel) rfl (Or.inl rfl))) (by intros; exact (ptl_one (pt_cmpR op_ne (pe_ix ix_list (pv 1) (pv 0) (fun _ _ => rfl)) (pe_ix ix_list (pv 1) (pe_ix ix_list (pv 2) pe_int (fun _ _ => rfl)) (fun _ _ => rfl)) (nomark _)))) (by intros; exact (pv 0))) pa_nil)) pe_int (nomark _)))), rd__law_unlike h⟩
theorem ok__law_walked {f : Addr} {fd : FuncData} (D : Def K mg "_law_walked" S__law_walked ["_law_tree", "_law_asks", "_law_deal"] f fd) (B : Blt mg) : FnB P w K mg base 1 "_law_walked" ["_law_tree", "_law_asks", "_law_deal"] (sp__law_walked K) := by
  refine D.ok sc__law_walked (fun vs H Q E h => len__law_walked h) (fun cdv A outer s H vs Q E hr h => ?_)
  have hu := hr.units0
  have hux := hr.units64
  exact ⟨t__law_walked K, (pss_cons (ps_set (i := 3) sc__law_walked.nd rfl (Or.inl rfl) pe_int)
    (pss_cons (ps_while PassesOwn.never (pt_cmpR op_eq (pe_ix ix_tup (pvQ v__law_walked_0 rfl rfl) pe_int (fun _ _ => rfl)) pe_str (nomark _)) (pss_cons (ps_set (i := 0) sc__law_walked.nd rfl (Or.inl rfl) (pe_ix ix_tup (pvQ v__law_walked_0 rfl rfl) (pe_op op_add pe_int (pe_callTy call_int1 rfl B.int boot_int (pac_UnaryOp (pe_not (pe_ix ix_list (pe_ix ix_list (pvQ v__law_walked_1 rfl rfl) (pe_ix ix_tup (pvQ v__law_walked_0 rfl rfl) pe_int (fun _ _ => rfl)) (fun _ _ => rfl)) (pvQ v__law_walked_2 rfl rfl) (fun _ _ => rfl))) pa_nil))) (fun _ _ => rfl)))
    (pss_one (ps_set (i := 3) sc__law_walked.nd rfl (Or.inl rfl) (pe_op op_add (pvQ v__law_walked_3 rfl rfl) pe_int)))))
    (pss_one (ps_ret (pm_tup (pac_Subscript (pe_ix ix_tup (pvQ v__law_walked_0 rfl rfl) pe_int (fun _ _ => rfl)) (pac_Name (pvQ v__law_walked_3 rfl rfl) pa_nil))))))), rd__law_walked h⟩
theorem ok__law_beaten {f : Addr} {fd : FuncData} (D : Def K mg "_law_beaten" S__law_beaten ["_law_paper", "_law_asks", "_law_goal", "_law_some", "_law_k", "_law_cell"] f fd) (B : Blt mg) (F__law_left : FnB P w K mg base 1 "_law_left" ["_law_asks", "_law_some", "_law_state"] (sp__law_left K)) (F__law_unlike : FnB P w K mg base 1 "_law_unlike" ["_law_goal", "_law_some"] (sp__law_unlike K)) : FnB P w K mg base 2 "_law_beaten" ["_law_paper", "_law_asks", "_law_goal", "_law_some", "_law_k", "_law_cell"] (sp__law_beaten K) := by
  refine D.ok sc__law_beaten (fun vs H Q E h => len__law_beaten h) (fun cdv A outer s H vs Q E hr h => ?_)
  have hu := hr.units0
  have hux := hr.units64
  exact ⟨t__law_beaten K, (pss_cons (ps_set (i := 6) sc__law_beaten.nd rfl (Or.inl rfl) pm_dnewX)
    (pss_cons (ps_for PassesOwn.never rfl (pi_list (pvQ v__law_beaten_0 rfl rfl)) (pg_tup rfl (pgs_cons (pg_name (i := 7) sc__law_beaten.nd rfl (Or.inr rfl)) (pgs_cons (pg_name (i := 8) sc__law_beaten.nd rfl (Or.inl rfl)) (pgs_cons (pg_name (i := 9) sc__law_beaten.nd rfl (Or.inl rfl)) pgs_nil)))) (pss_one (ps_asg (pvQ v__law_beaten_9 rfl rfl) (pg_sub (pvQ v__law_beaten_6 rfl rfl) (pm_tup (pac_Name (pvQ v__law_beaten_7 rfl rfl) (pac_Name (pvQ v__law_beaten_8 rfl rfl) pa_nil))) (set_X hux)))))
    (pss_cons (ps_set (i := 7) sc__law_beaten.nd rfl (Or.inr rfl) (pe_op om_repT (pm_tup (pac_Constant pe_non pa_nil)) (pe_callB call_len_seq rfl B.len boot_len (pac_Name (pvQ v__law_beaten_1 rfl rfl) pa_nil))))
    (pss_cons (ps_for PassesOwn.never rfl (pi_rangeZ rfl B.range (pac_Name (pvQ v__law_beaten_4 rfl rfl) (pac_Constant pe_int (pac_UnaryOp (pe_un un_neg pe_int) pa_nil)))) (pg_name (i := 8) sc__law_beaten.nd rfl (Or.inl rfl)) (pss_cons (ps_if (pt_cmpR (op_xnotin hux) (pm_tup (pac_Name (pvQ v__law_beaten_7 rfl rfl) (pac_Name (pvQ v__law_beaten_8 rfl rfl) pa_nil))) (pvQ v__law_beaten_6 rfl rfl) rfl) (pss_one (ps_ret pe_bl)) pss_nil)
    (pss_cons (ps_setComp (i := 10) sc__law_beaten.nd rfl rfl (sc := (defScope S__law_beaten)) (NX := ["_law_paper", "_law_asks", "_law_goal", "_law_some", "_law_k", "_law_cell", "_law_answers_of", "_law_state", "_law_left_here", "_law_answers", "_law_open_ones", "_law_mixed", "_law_answer", "_law_j"]) (N := ["_law_j", "_law_state"]) (ix := [none, some 7]) rfl (by refine ⟨rfl, ?_, ?_, ?_, ?_, rfl, ?_⟩ <;> decide +kernel) (pi_range1 rfl B.range (pac_Call (pe_callB call_len_seq rfl B.len boot_len (pac_Name (pvQ v__law_beaten_1 rfl rfl) pa_nil)) pa_nil)) (by intros; exact (pg_name (i := 0) (show (["_law_j", "_law_state"] : List Str).Nodup by decide +kernel) rfl (Or.inl rfl))) (by intros; exact (ptl_one (pt_cmpR op_isNone (pe_ix ix_tup (pv 1) (pv 0) (fun _ _ => rfl)) pe_non (nomark _)))) (by intros; exact (pv 0)))
    (pss_one (ps_if (pt_cmpR op_gt (pe_callB call_len_seq rfl B.len boot_len (pac_Name (pvQ v__law_beaten_10 rfl rfl) pa_nil)) pe_int (nomark _)) (pss_cons (ps_set (i := 11) sc__law_beaten.nd rfl (Or.inl rfl) (pvQ v__law_beaten_5 rfl rfl))
    (pss_cons (ps_for PassesOwn.never rfl (pi_tup (pvQ v__law_beaten_7 rfl rfl)) (pg_name (i := 12) sc__law_beaten.nd rfl (Or.inl rfl)) (pss_one (ps_set (i := 11) sc__law_beaten.nd rfl (Or.inl rfl) (pe_op op_mod (pe_op op_add (pe_op op_add (pe_op op_mulB (pvQ v__law_beaten_11 rfl rfl) pe_int) (pe_ix ix_list (pm_lst (pac_Constant pe_int (pac_Constant pe_int pa_nil))) (pe_callTy call_int1 rfl B.int boot_int (pac_Compare (pe_cmpR op_isTr (pvQ v__law_beaten_12 rfl rfl) pe_bl (nomark _)) pa_nil)) (fun _ _ => rfl))) (pe_callTy call_int1 rfl B.int boot_int (pac_Compare (pe_cmpR op_isNone (pvQ v__law_beaten_12 rfl rfl) pe_non (nomark _)) pa_nil))) pe_int))))
    (pss_cons (ps_set (i := 13) sc__law_beaten.nd rfl (Or.inl rfl) (pe_ix ix_list (pvQ v__law_beaten_10 rfl rfl) (pe_op op_mod (pvQ v__law_beaten_11 rfl rfl) (pe_callB call_len_seq rfl B.len boot_len (pac_Name (pvQ v__law_beaten_10 rfl rfl) pa_nil))) (fun _ _ => rfl)))
    (pss_cons (ps_set (i := 7) sc__law_beaten.nd rfl (Or.inr rfl) (pe_op om_catT (pe_op om_catT (pe_slice sm_tup (pvQ v__law_beaten_7 rfl rfl) po_none (po_some (pvQ v__law_beaten_13 rfl rfl))) (pm_tup (pac_Subscript (pe_ix ix_list (pe_xget hux (pvQ v__law_beaten_6 rfl rfl) (pm_tup (pac_Name (pvQ v__law_beaten_7 rfl rfl) (pac_Name (pvQ v__law_beaten_8 rfl rfl) pa_nil))) (fun _ _ => rfl)) (pvQ v__law_beaten_13 rfl rfl) (fun _ _ => rfl)) pa_nil))) (pe_slice sm_tup (pvQ v__law_beaten_7 rfl rfl) (po_some (pe_op op_add (pvQ v__law_beaten_13 rfl rfl) pe_int)) po_none)))
    (pss_one (ps_if (pt_cmpR op_isNone (pe_ix ix_tup (pvQ v__law_beaten_7 rfl rfl) (pvQ v__law_beaten_13 rfl rfl) (fun _ _ => rfl)) pe_non (nomark _)) (pss_one (ps_ret pe_bl)) pss_nil)))))) pss_nil)))))
    (pss_one (ps_ret (pe_callF F__law_unlike (hr.mono (by decide)) (pac_Name (pvQ v__law_beaten_2 rfl rfl) (pac_Call (pe_callF F__law_left (hr.mono (by decide)) (pac_Name (pvQ v__law_beaten_1 rfl rfl) (pac_Name (pvQ v__law_beaten_3 rfl rfl) (pac_Name (pvQ v__law_beaten_7 rfl rfl) pa_nil)))) pa_nil))))))))), rd__law_beaten h⟩
theorem ok_law {f : Addr} {fd : FuncData} (D : Def K mg "law" S_law ["_law_script"] f fd) (B : Blt mg) (F__law_beaten : FnB P w K mg base 2 "_law_beaten" ["_law_paper", "_law_asks", "_law_goal", "_law_some", "_law_k", "_law_cell"] (sp__law_beaten K)) (F__law_case : FnB P w K mg base 3 "_law_case" ["_law_script"] (sp__law_case K)) (F__law_cell_at : FnB P w K mg base 1 "_law_cell_at" ["_law_script", "_law_k"] (sp__law_cell_at K)) (F__law_stream : FnB P w K mg base 1 "_law_stream" ["_law_cell", "_law_salt", "_law_many"] (sp__law_stream K)) (F__law_walked : FnB P w K mg base 1 "_law_walked" ["_law_tree", "_law_asks", "_law_deal"] (sp__law_walked K)) (F_fewest : FnB P w K mg base 17 "fewest" ["asks", "goal", "some"] (sp_fewest K)) (F_too_few : FnB P w K mg base 17 "too_few" ["asks", "goal", "some", "k"] (sp_too_few K)) (F_tree_of : FnB P w K mg base 17 "tree_of" ["asks", "goal", "some"] (sp_tree_of K)) : FnOk P w K mg base CX0 18 f fd ["_law_script"] (spLaw K) := by
  refine D.fn.ok sc_law (fun vs H Q E h => len_law h) (fun cdv A outer s H vs Q E hr h => ?_)
  have hu := hr.units0
  have hux := hr.units64
  exact ⟨t_law K, (pss_cons (ps_asg (pe_callF F__law_case (hr.mono (by decide)) (pac_Name (pvQ v_law_0 rfl rfl) pa_nil)) (pg_tup rfl (pgs_cons (pg_name (i := 1) sc_law.nd rfl (Or.inl rfl)) (pgs_cons (pg_name (i := 2) sc_law.nd rfl (Or.inl rfl)) (pgs_cons (pg_name (i := 3) sc_law.nd rfl (Or.inl rfl)) pgs_nil)))))
    (pss_cons (ps_set (i := 4) sc_law.nd rfl (Or.inl rfl) (pe_callF F_fewest (hr.mono (by decide)) (pac_Name (pvQ v_law_1 rfl rfl) (pac_Name (pvQ v_law_2 rfl rfl) (pac_Name (pvQ v_law_3 rfl rfl) pa_nil)))))
    (pss_cons (ps_set (i := 5) sc_law.nd rfl (Or.inl rfl) (pe_op op_mod (pe_callF F__law_cell_at (hr.mono (by decide)) (pac_Name (pvQ v_law_0 rfl rfl) (pac_Constant pe_int pa_nil))) (pe_op op_add (pe_callB call_len_seq rfl B.len boot_len (pac_Name (pvQ v_law_1 rfl rfl) pa_nil)) pe_int)))
    (pss_cons (ps_if (pt_cmpR op_isnNone (pvQ v_law_4 rfl rfl) pe_non (nomark _)) (pss_cons (ps_set (i := 6) sc_law.nd rfl (Or.inl rfl) (pe_callF F_tree_of (hr.mono (by decide)) (pac_Name (pvQ v_law_1 rfl rfl) (pac_Name (pvQ v_law_2 rfl rfl) (pac_Name (pvQ v_law_3 rfl rfl) pa_nil)))))
    (pss_cons (ps_for PassesOwn.never rfl (pi_list (pvQ v_law_3 rfl rfl)) (pg_name (i := 7) sc_law.nd rfl (Or.inl rfl)) (pss_cons (ps_asg (pe_callF F__law_walked (hr.mono (by decide)) (pac_Name (pvQ v_law_6 rfl rfl) (pac_Name (pvQ v_law_1 rfl rfl) (pac_Name (pvQ v_law_7 rfl rfl) pa_nil)))) (pg_tup rfl (pgs_cons (pg_name (i := 8) sc_law.nd rfl (Or.inl rfl)) (pgs_cons (pg_name (i := 9) sc_law.nd rfl (Or.inl rfl)) pgs_nil))))
    (pss_one (ps_if (PW.pt (pw_or (pt_cmpR op_ne (pvQ v_law_8 rfl rfl) (pe_ix ix_list (pvQ v_law_2 rfl rfl) (pvQ v_law_7 rfl rfl) (fun _ _ => rfl)) (nomark _)) (pw_or1 (pt_cmpR op_gt (pvQ v_law_9 rfl rfl) (pvQ v_law_4 rfl rfl) (nomark _))))) (pss_one (ps_ret pe_bl)) pss_nil))))
    (pss_one (ps_set (i := 5) sc_law.nd rfl (Or.inl rfl) (pe_op op_sub (pvQ v_law_4 rfl rfl) pe_int))))) pss_nil)
    (pss_cons (ps_if (pt_cmpR op_lt (pvQ v_law_5 rfl rfl) pe_int (nomark _)) (pss_one (ps_ret (pe_cmpR op_isNone (pe_callF F_too_few (hr.mono (by decide)) (pac_Name (pvQ v_law_1 rfl rfl) (pac_Name (pvQ v_law_2 rfl rfl) (pac_Name (pvQ v_law_3 rfl rfl) (pac_Constant pe_int pa_nil))))) pe_non (nomark _)))) pss_nil)
    (pss_cons (ps_set (i := 10) sc_law.nd rfl (Or.inl rfl) (pe_callF F_too_few (hr.mono (by decide)) (pac_Name (pvQ v_law_1 rfl rfl) (pac_Name (pvQ v_law_2 rfl rfl) (pac_Name (pvQ v_law_3 rfl rfl) (pac_Name (pvQ v_law_5 rfl rfl) pa_nil))))))
    (pss_cons (ps_for PassesOwn.never rfl (pi_list (pe_callF F__law_stream (hr.mono (by decide)) (pac_Call (pe_callF F__law_cell_at (hr.mono (by decide)) (pac_Name (pvQ v_law_0 rfl rfl) (pac_Constant pe_int pa_nil))) (pac_Constant pe_int (pac_Constant pe_int pa_nil))))) (pg_name (i := 11) sc_law.nd rfl (Or.inl rfl)) (pss_one (ps_if (pt_not (pt_val (pe_callF F__law_beaten (hr.mono (by decide)) (pac_Name (pvQ v_law_10 rfl rfl) (pac_Name (pvQ v_law_1 rfl rfl) (pac_Name (pvQ v_law_2 rfl rfl) (pac_Name (pvQ v_law_3 rfl rfl) (pac_Name (pvQ v_law_5 rfl rfl) (pac_Name (pvQ v_law_11 rfl rfl) pa_nil))))))))) (pss_one (ps_ret pe_bl)) pss_nil)))
    (pss_one (ps_ret pe_bl))))))))), rd_law h⟩
theorem ok_fewest_from {f : Addr} {fd : FuncData} (D : Def K mg "fewest_from" S_fewest_from ["asks", "goal", "left", "state", "found"] f fd) {f2 : Addr} {fd2 : FuncData} (D2 : Def K mg "fewest_of_more" S_fewest_of_more ["asks", "goal", "left", "state", "found"] f2 fd2) (B : Blt mg) (F_are_same : FnB P w K mg base 1 "are_same" ["goal", "left"] (sp_are_same K)) (F_answering : FnB P w K mg base 1 "answering" ["ask", "left", "answer"] (sp_answering K)) (F_with_answer : FnB P w K mg base 1 "with_answer" ["state", "number", "answer"] (sp_with_answer K)) : ∀ n, FnB P w K mg base (2 + 2 * n) "fewest_from" ["asks", "goal", "left", "state", "found"] (sp_fewest_from K n)
  | 0 => D.ok (k := 1) sc_fewest_from (fun vs H Q E h => (no_fewest_from h).elim) (fun cdv A outer s H vs Q E hr h => (no_fewest_from h).elim)
  | n + 1 => by
    have F_fewest_from := ok_fewest_from D D2 B F_are_same F_answering F_with_answer n
    have F_fewest_of_more := ok_fewest_of_more D2 B F_fewest_from F_answering F_with_answer
    refine D.ok (k := 2 + 2 * n + 1) sc_fewest_from (fun vs H Q E h => len_fewest_from h) (fun cdv A outer s H vs Q E hr h => ?_)
    have hu := hr.units0
    have hux := hr.units64
    exact ⟨t_fewest_from K n, (pss_cons (ps_if (pt_cmpR (op_xnotin hux) (pvQ v_fewest_from_3 rfl rfl) (pvQ v_fewest_from_4 rfl rfl) rfl) (pss_one (ps_asg (pe_ifExp (pt_val (pe_callF F_are_same (hr.mono (by omega)) (pac_Name (pvQ v_fewest_from_1 rfl rfl) (pac_Name (pvQ v_fewest_from_2 rfl rfl) pa_nil)))) pe_int (pe_callF F_fewest_of_more (hr.mono (by omega)) (pac_Name (pvQ v_fewest_from_0 rfl rfl) (pac_Name (pvQ v_fewest_from_1 rfl rfl) (pac_Name (pvQ v_fewest_from_2 rfl rfl) (pac_Name (pvQ v_fewest_from_3 rfl rfl) (pac_Name (pvQ v_fewest_from_4 rfl rfl) pa_nil))))))) (pg_sub (pvQ v_fewest_from_4 rfl rfl) (pvQ v_fewest_from_3 rfl rfl) (set_X hux)))) pss_nil)
    (pss_one (ps_ret (pe_xget hux (pvQ v_fewest_from_4 rfl rfl) (pvQ v_fewest_from_3 rfl rfl) (fun _ _ => rfl))))), rd_fewest_from h⟩
theorem build (B : Blt mg) {f1 : Addr} {fd1 : FuncData} (D_fewest : Def K mg "fewest" S_fewest ["asks", "goal", "some"] f1 fd1) {f2 : Addr} {fd2 : FuncData} (D_fewest_from : Def K mg "fewest_from" S_fewest_from ["asks", "goal", "left", "state", "found"] f2 fd2) {f3 : Addr} {fd3 : FuncData} (D_are_same : Def K mg "are_same" S_are_same ["goal", "left"] f3 fd3) {f4 : Addr} {fd4 : FuncData} (D_fewest_of_more : Def K mg "fewest_of_more" S_fewest_of_more ["asks", "goal", "left", "state", "found"] f4 fd4) {f5 : Addr} {fd5 : FuncData} (D_answering : Def K mg "answering" S_answering ["ask", "left", "answer"] f5 fd5) {f6 : Addr} {fd6 : FuncData} (D_with_answer : Def K mg "with_answer" S_with_answer ["state", "number", "answer"] f6 fd6) {f7 : Addr} {fd7 : FuncData} (D_tree_of : Def K mg "tree_of" S_tree_of ["asks", "goal", "some"] f7 fd7) {f8 : Addr} {fd8 : FuncData} (D_tree_from : Def K mg "tree_from" S_tree_from ["asks", "goal", "left", "state", "found"] f8 fd8) {f9 : Addr} {fd9 : FuncData} (D_best_ask : Def K mg "best_ask" S_best_ask ["state", "found"] f9 fd9) {f10 : Addr} {fd10 : FuncData} (D_is_good : Def K mg "is_good" S_is_good ["state", "number", "found"] f10 fd10) {f11 : Addr} {fd11 : FuncData} (D_is_hard : Def K mg "is_hard" S_is_hard ["state", "number", "answer", "left", "found"] f11 fd11) {f12 : Addr} {fd12 : FuncData} (D_too_few : Def K mg "too_few" S_too_few ["asks", "goal", "some", "k"] f12 fd12) {f13 : Addr} {fd13 : FuncData} (D_is_too_few : Def K mg "is_too_few" S_is_too_few ["least", "k"] f13 fd13) {f14 : Addr} {fd14 : FuncData} (D_paper_from : Def K mg "paper_from" S_paper_from ["state", "k", "found"] f14 fd14) {f15 : Addr} {fd15 : FuncData} (D_hard_answers : Def K mg "hard_answers" S_hard_answers ["state", "left", "found"] f15 fd15) {f16 : Addr} {fd16 : FuncData} (D_hard_answer : Def K mg "hard_answer" S_hard_answer ["state", "number", "left", "found"] f16 fd16) {f17 : Addr} {fd17 : FuncData} (D_states_behind : Def K mg "states_behind" S_states_behind ["rows"] f17 fd17) {f18 : Addr} {fd18 : FuncData} (D__law_cell_at : Def K mg "_law_cell_at" S__law_cell_at ["_law_script", "_law_k"] f18 fd18) {f19 : Addr} {fd19 : FuncData} (D__law_stream : Def K mg "_law_stream" S__law_stream ["_law_cell", "_law_salt", "_law_many"] f19 fd19) {f20 : Addr} {fd20 : FuncData} (D__law_ask : Def K mg "_law_ask" S__law_ask ["_law_script", "_law_k", "_law_many", "_law_asks"] f20 fd20) {f21 : Addr} {fd21 : FuncData} (D__law_case : Def K mg "_law_case" S__law_case ["_law_script"] f21 fd21) {f22 : Addr} {fd22 : FuncData} (D__law_left : Def K mg "_law_left" S__law_left ["_law_asks", "_law_some", "_law_state"] f22 fd22) {f23 : Addr} {fd23 : FuncData} (D__law_unlike : Def K mg "_law_unlike" S__law_unlike ["_law_goal", "_law_some"] f23 fd23) {f24 : Addr} {fd24 : FuncData} (D__law_walked : Def K mg "_law_walked" S__law_walked ["_law_tree", "_law_asks", "_law_deal"] f24 fd24) {f25 : Addr} {fd25 : FuncData} (D__law_beaten : Def K mg "_law_beaten" S__law_beaten ["_law_paper", "_law_asks", "_law_goal", "_law_some", "_law_k", "_law_cell"] f25 fd25) {f26 : Addr} {fd26 : FuncData} (D_law : Def K mg "law" S_law ["_law_script"] f26 fd26) (m_set : mg "set" = none) {t_MOST_ASKS : Tok} (m_MOST_ASKS : mg "MOST_ASKS" = some (.int 6 t_MOST_ASKS)) : FnOk P w K mg base CX0 18 f26 fd26 ["_law_script"] (spLaw K) := by
  have F__law_left : FnB P w K mg base 1 "_law_left" ["_law_asks", "_law_some", "_law_state"] (sp__law_left K) := ok__law_left D__law_left B
  have F__law_unlike : FnB P w K mg base 1 "_law_unlike" ["_law_goal", "_law_some"] (sp__law_unlike K) := ok__law_unlike D__law_unlike B
  have F__law_beaten : FnB P w K mg base 2 "_law_beaten" ["_law_paper", "_law_asks", "_law_goal", "_law_some", "_law_k", "_law_cell"] (sp__law_beaten K) := ok__law_beaten D__law_beaten B F__law_left F__law_unlike
  have F__law_cell_at : FnB P w K mg base 1 "_law_cell_at" ["_law_script", "_law_k"] (sp__law_cell_at K) := ok__law_cell_at D__law_cell_at B
  have F__law_stream : FnB P w K mg base 1 "_law_stream" ["_law_cell", "_law_salt", "_law_many"] (sp__law_stream K) := ok__law_stream D__law_stream B
  have F__law_ask : FnB P w K mg base 2 "_law_ask" ["_law_script", "_law_k", "_law_many", "_law_asks"] (sp__law_ask K) := ok__law_ask D__law_ask B F__law_cell_at F__law_stream
  have F__law_case : FnB P w K mg base 3 "_law_case" ["_law_script"] (sp__law_case K) := ok__law_case D__law_case B F__law_ask F__law_cell_at F__law_stream
  have F__law_walked : FnB P w K mg base 1 "_law_walked" ["_law_tree", "_law_asks", "_law_deal"] (sp__law_walked K) := ok__law_walked D__law_walked B
  have F_are_same : FnB P w K mg base 1 "are_same" ["goal", "left"] (sp_are_same K) := ok_are_same D_are_same B m_set
  have F_answering : FnB P w K mg base 1 "answering" ["ask", "left", "answer"] (sp_answering K) := ok_answering D_answering B
  have F_with_answer : FnB P w K mg base 1 "with_answer" ["state", "number", "answer"] (sp_with_answer K) := ok_with_answer D_with_answer B
  have F_fewest_from : FnB P w K mg base 16 "fewest_from" ["asks", "goal", "left", "state", "found"] (sp_fewest_from K 7) := ok_fewest_from D_fewest_from D_fewest_of_more B F_are_same F_answering F_with_answer 7
  have F_fewest : FnB P w K mg base 17 "fewest" ["asks", "goal", "some"] (sp_fewest K) := ok_fewest D_fewest B F_fewest_from
  have F_is_too_few : FnB P w K mg base 1 "is_too_few" ["least", "k"] (sp_is_too_few K) := ok_is_too_few D_is_too_few B m_MOST_ASKS
  have F_is_hard : FnB P w K mg base 2 "is_hard" ["state", "number", "answer", "left", "found"] (sp_is_hard K) := ok_is_hard D_is_hard B F_with_answer
  have F_hard_answer : FnB P w K mg base 3 "hard_answer" ["state", "number", "left", "found"] (sp_hard_answer K) := ok_hard_answer D_hard_answer B F_is_hard
  have F_hard_answers : FnB P w K mg base 4 "hard_answers" ["state", "left", "found"] (sp_hard_answers K) := ok_hard_answers D_hard_answers B F_hard_answer
  have F_states_behind : FnB P w K mg base 2 "states_behind" ["rows"] (sp_states_behind K) := ok_states_behind D_states_behind B F_with_answer
  have F_paper_from : FnB P w K mg base 5 "paper_from" ["state", "k", "found"] (sp_paper_from K) := ok_paper_from D_paper_from B F_hard_answers F_states_behind
  have F_too_few : FnB P w K mg base 17 "too_few" ["asks", "goal", "some", "k"] (sp_too_few K) := ok_too_few D_too_few B F_fewest_from F_is_too_few F_paper_from
  have F_is_good : FnB P w K mg base 3 "is_good" ["state", "number", "found"] (sp_is_good K) := ok_is_good D_is_good B F_is_hard
  have F_best_ask : FnB P w K mg base 4 "best_ask" ["state", "found"] (sp_best_ask K) := ok_best_ask D_best_ask B F_is_good
  have F_tree_from : FnB P w K mg base 12 "tree_from" ["asks", "goal", "left", "state", "found"] (sp_tree_from K 7) := ok_tree_from D_tree_from B F_answering F_best_ask F_with_answer 7
  have F_tree_of : FnB P w K mg base 17 "tree_of" ["asks", "goal", "some"] (sp_tree_of K) := ok_tree_of D_tree_of B F_fewest_from F_tree_from
  exact ok_law D_law B F__law_beaten F__law_case F__law_cell_at F__law_stream F__law_walked F_fewest F_too_few F_tree_of
end
@[elab_as_elim] theorem ofLen1 {α : Type} {P : List α → Prop} (us : List α) (hl : us.length = 1) (h : ∀ a0 : α, P [a0]) : P us := match us, hl with | [a0], _ => h a0
@[elab_as_elim] theorem ofLen2 {α : Type} {P : List α → Prop} (us : List α) (hl : us.length = 2) (h : ∀ a0 a1 : α, P [a0, a1]) : P us := match us, hl with | [a0, a1], _ => h a0 a1
@[elab_as_elim] theorem ofLen3 {α : Type} {P : List α → Prop} (us : List α) (hl : us.length = 3) (h : ∀ a0 a1 a2 : α, P [a0, a1, a2]) : P us := match us, hl with | [a0, a1, a2], _ => h a0 a1 a2
@[elab_as_elim] theorem ofLen4 {α : Type} {P : List α → Prop} (us : List α) (hl : us.length = 4) (h : ∀ a0 a1 a2 a3 : α, P [a0, a1, a2, a3]) : P us := match us, hl with | [a0, a1, a2, a3], _ => h a0 a1 a2 a3
@[elab_as_elim] theorem ofLen5 {α : Type} {P : List α → Prop} (us : List α) (hl : us.length = 5) (h : ∀ a0 a1 a2 a3 a4 : α, P [a0, a1, a2, a3, a4]) : P us := match us, hl with | [a0, a1, a2, a3, a4], _ => h a0 a1 a2 a3 a4
@[elab_as_elim] theorem ofLen6 {α : Type} {P : List α → Prop} (us : List α) (hl : us.length = 6) (h : ∀ a0 a1 a2 a3 a4 a5 : α, P [a0, a1, a2, a3, a4, a5]) : P us := match us, hl with | [a0, a1, a2, a3, a4, a5], _ => h a0 a1 a2 a3 a4 a5
theorem all_mk {l : PySem.W.OpenLaw} {w : World} {K : PySem.W.Frag} {h : Heap} {mg : Str → Option Value} {fa f1 f2 f3 f4 f5 f6 f7 f8 f9 f10 f11 f12 f13 f14 f15 f16 f17 f18 f19 f20 f21 f22 f23 f24 f25 f26 : Addr} (X : K.In h) (G : h.Ns mainGlobals mg) (hfa : mg "law" = some (.ref fa))
    {od1 an1 od2 an2 od3 an3 od4 an4 od5 an5 od6 an6 od7 an7 od8 an8 od9 an9 od10 an10 od11 an11 od12 an12 od13 an13 od14 an14 od15 an15 od16 an16 od17 an17 od18 an18 od19 an19 od20 an20 od21 an21 od22 an22 od23 an23 od24 an24 od25 an25 od26 an26 : Option Addr} {sl1 sl2 sl3 sl4 sl5 sl6 sl7 sl8 sl9 sl10 sl11 sl12 sl13 sl14 sl15 sl16 sl17 sl18 sl19 sl20 sl21 sl22 sl23 sl24 sl25 sl26 : Array (Option Value)} {oc1 kV1 dc1 pm1 cd1 ct1 oc2 kV2 dc2 pm2 cd2 ct2 oc3 kV3 dc3 pm3 cd3 ct3 oc4 kV4 dc4 pm4 cd4 ct4 oc5 kV5 dc5 pm5 cd5 ct5 oc6 kV6 dc6 pm6 cd6 ct6 oc7 kV7 dc7 pm7 cd7 ct7 oc8 kV8 dc8 pm8 cd8 ct8 oc9 kV9 dc9 pm9 cd9 ct9 oc10 kV10 dc10 pm10 cd10 ct10 oc11 kV11 dc11 pm11 cd11 ct11 oc12 kV12 dc12 pm12 cd12 ct12 oc13 kV13 dc13 pm13 cd13 ct13 oc14 kV14 dc14 pm14 cd14 ct14 oc15 kV15 dc15 pm15 cd15 ct15 oc16 kV16 dc16 pm16 cd16 ct16 oc17 kV17 dc17 pm17 cd17 ct17 oc18 kV18 dc18 pm18 cd18 ct18 oc19 kV19 dc19 pm19 cd19 ct19 oc20 kV20 dc20 pm20 cd20 ct20 oc21 kV21 dc21 pm21 cd21 ct21 oc22 kV22 dc22 pm22 cd22 ct22 oc23 kV23 dc23 pm23 cd23 ct23 oc24 kV24 dc24 pm24 cd24 ct24 oc25 kV25 dc25 pm25 cd25 ct25 oc26 kV26 dc26 pm26 cd26 ct26 : Value}  {t_MOST_ASKS : Tok} 
    (a1 : PySem.W.nsIn K mainGlobals "fewest" = some (some (.ref f1))) (l1 : K.lookup f1 = some ⟨oc1, od1, .func (PySem.W.fnOf "fewest" "fewest" (defArgs S_fewest) (defBody S_fewest) (defScope S_fewest) .none kV1 dc1 pm1 an1 cd1 ct1), sl1⟩) (c1 : PySem.W.codeIn K cd1 "fewest" = true) (k1 : PySem.W.keepIn K (.ref f1) = true)
    (a2 : PySem.W.nsIn K mainGlobals "fewest_from" = some (some (.ref f2))) (l2 : K.lookup f2 = some ⟨oc2, od2, .func (PySem.W.fnOf "fewest_from" "fewest_from" (defArgs S_fewest_from) (defBody S_fewest_from) (defScope S_fewest_from) .none kV2 dc2 pm2 an2 cd2 ct2), sl2⟩) (c2 : PySem.W.codeIn K cd2 "fewest_from" = true) (k2 : PySem.W.keepIn K (.ref f2) = true)
    (a3 : PySem.W.nsIn K mainGlobals "are_same" = some (some (.ref f3))) (l3 : K.lookup f3 = some ⟨oc3, od3, .func (PySem.W.fnOf "are_same" "are_same" (defArgs S_are_same) (defBody S_are_same) (defScope S_are_same) .none kV3 dc3 pm3 an3 cd3 ct3), sl3⟩) (c3 : PySem.W.codeIn K cd3 "are_same" = true) (k3 : PySem.W.keepIn K (.ref f3) = true)
    (a4 : PySem.W.nsIn K mainGlobals "fewest_of_more" = some (some (.ref f4))) (l4 : K.lookup f4 = some ⟨oc4, od4, .func (PySem.W.fnOf "fewest_of_more" "fewest_of_more" (defArgs S_fewest_of_more) (defBody S_fewest_of_more) (defScope S_fewest_of_more) .none kV4 dc4 pm4 an4 cd4 ct4), sl4⟩) (c4 : PySem.W.codeIn K cd4 "fewest_of_more" = true) (k4 : PySem.W.keepIn K (.ref f4) = true)
    (a5 : PySem.W.nsIn K mainGlobals "answering" = some (some (.ref f5))) (l5 : K.lookup f5 = some ⟨oc5, od5, .func (PySem.W.fnOf "answering" "answering" (defArgs S_answering) (defBody S_answering) (defScope S_answering) .none kV5 dc5 pm5 an5 cd5 ct5), sl5⟩) (c5 : PySem.W.codeIn K cd5 "answering" = true) (k5 : PySem.W.keepIn K (.ref f5) = true)
    (a6 : PySem.W.nsIn K mainGlobals "with_answer" = some (some (.ref f6))) (l6 : K.lookup f6 = some ⟨oc6, od6, .func (PySem.W.fnOf "with_answer" "with_answer" (defArgs S_with_answer) (defBody S_with_answer) (defScope S_with_answer) .none kV6 dc6 pm6 an6 cd6 ct6), sl6⟩) (c6 : PySem.W.codeIn K cd6 "with_answer" = true) (k6 : PySem.W.keepIn K (.ref f6) = true)
    (a7 : PySem.W.nsIn K mainGlobals "tree_of" = some (some (.ref f7))) (l7 : K.lookup f7 = some ⟨oc7, od7, .func (PySem.W.fnOf "tree_of" "tree_of" (defArgs S_tree_of) (defBody S_tree_of) (defScope S_tree_of) .none kV7 dc7 pm7 an7 cd7 ct7), sl7⟩) (c7 : PySem.W.codeIn K cd7 "tree_of" = true) (k7 : PySem.W.keepIn K (.ref f7) = true)
    (a8 : PySem.W.nsIn K mainGlobals "tree_from" = some (some (.ref f8))) (l8 : K.lookup f8 = some ⟨oc8, od8, .func (PySem.W.fnOf "tree_from" "tree_from" (defArgs S_tree_from) (defBody S_tree_from) (defScope S_tree_from) .none kV8 dc8 pm8 an8 cd8 ct8), sl8⟩) (c8 : PySem.W.codeIn K cd8 "tree_from" = true) (k8 : PySem.W.keepIn K (.ref f8) = true)
    (a9 : PySem.W.nsIn K mainGlobals "best_ask" = some (some (.ref f9))) (l9 : K.lookup f9 = some ⟨oc9, od9, .func (PySem.W.fnOf "best_ask" "best_ask" (defArgs S_best_ask) (defBody S_best_ask) (defScope S_best_ask) .none kV9 dc9 pm9 an9 cd9 ct9), sl9⟩) (c9 : PySem.W.codeIn K cd9 "best_ask" = true) (k9 : PySem.W.keepIn K (.ref f9) = true)
    (a10 : PySem.W.nsIn K mainGlobals "is_good" = some (some (.ref f10))) (l10 : K.lookup f10 = some ⟨oc10, od10, .func (PySem.W.fnOf "is_good" "is_good" (defArgs S_is_good) (defBody S_is_good) (defScope S_is_good) .none kV10 dc10 pm10 an10 cd10 ct10), sl10⟩) (c10 : PySem.W.codeIn K cd10 "is_good" = true) (k10 : PySem.W.keepIn K (.ref f10) = true)
    (a11 : PySem.W.nsIn K mainGlobals "is_hard" = some (some (.ref f11))) (l11 : K.lookup f11 = some ⟨oc11, od11, .func (PySem.W.fnOf "is_hard" "is_hard" (defArgs S_is_hard) (defBody S_is_hard) (defScope S_is_hard) .none kV11 dc11 pm11 an11 cd11 ct11), sl11⟩) (c11 : PySem.W.codeIn K cd11 "is_hard" = true) (k11 : PySem.W.keepIn K (.ref f11) = true)
    (a12 : PySem.W.nsIn K mainGlobals "too_few" = some (some (.ref f12))) (l12 : K.lookup f12 = some ⟨oc12, od12, .func (PySem.W.fnOf "too_few" "too_few" (defArgs S_too_few) (defBody S_too_few) (defScope S_too_few) .none kV12 dc12 pm12 an12 cd12 ct12), sl12⟩) (c12 : PySem.W.codeIn K cd12 "too_few" = true) (k12 : PySem.W.keepIn K (.ref f12) = true)
    (a13 : PySem.W.nsIn K mainGlobals "is_too_few" = some (some (.ref f13))) (l13 : K.lookup f13 = some ⟨oc13, od13, .func (PySem.W.fnOf "is_too_few" "is_too_few" (defArgs S_is_too_few) (defBody S_is_too_few) (defScope S_is_too_few) .none kV13 dc13 pm13 an13 cd13 ct13), sl13⟩) (c13 : PySem.W.codeIn K cd13 "is_too_few" = true) (k13 : PySem.W.keepIn K (.ref f13) = true)
    (a14 : PySem.W.nsIn K mainGlobals "paper_from" = some (some (.ref f14))) (l14 : K.lookup f14 = some ⟨oc14, od14, .func (PySem.W.fnOf "paper_from" "paper_from" (defArgs S_paper_from) (defBody S_paper_from) (defScope S_paper_from) .none kV14 dc14 pm14 an14 cd14 ct14), sl14⟩) (c14 : PySem.W.codeIn K cd14 "paper_from" = true) (k14 : PySem.W.keepIn K (.ref f14) = true)
    (a15 : PySem.W.nsIn K mainGlobals "hard_answers" = some (some (.ref f15))) (l15 : K.lookup f15 = some ⟨oc15, od15, .func (PySem.W.fnOf "hard_answers" "hard_answers" (defArgs S_hard_answers) (defBody S_hard_answers) (defScope S_hard_answers) .none kV15 dc15 pm15 an15 cd15 ct15), sl15⟩) (c15 : PySem.W.codeIn K cd15 "hard_answers" = true) (k15 : PySem.W.keepIn K (.ref f15) = true)
    (a16 : PySem.W.nsIn K mainGlobals "hard_answer" = some (some (.ref f16))) (l16 : K.lookup f16 = some ⟨oc16, od16, .func (PySem.W.fnOf "hard_answer" "hard_answer" (defArgs S_hard_answer) (defBody S_hard_answer) (defScope S_hard_answer) .none kV16 dc16 pm16 an16 cd16 ct16), sl16⟩) (c16 : PySem.W.codeIn K cd16 "hard_answer" = true) (k16 : PySem.W.keepIn K (.ref f16) = true)
    (a17 : PySem.W.nsIn K mainGlobals "states_behind" = some (some (.ref f17))) (l17 : K.lookup f17 = some ⟨oc17, od17, .func (PySem.W.fnOf "states_behind" "states_behind" (defArgs S_states_behind) (defBody S_states_behind) (defScope S_states_behind) .none kV17 dc17 pm17 an17 cd17 ct17), sl17⟩) (c17 : PySem.W.codeIn K cd17 "states_behind" = true) (k17 : PySem.W.keepIn K (.ref f17) = true)
    (a18 : PySem.W.nsIn K mainGlobals "_law_cell_at" = some (some (.ref f18))) (l18 : K.lookup f18 = some ⟨oc18, od18, .func (PySem.W.fnOf "_law_cell_at" "_law_cell_at" (defArgs S__law_cell_at) (defBody S__law_cell_at) (defScope S__law_cell_at) .none kV18 dc18 pm18 an18 cd18 ct18), sl18⟩) (c18 : PySem.W.codeIn K cd18 "_law_cell_at" = true) (k18 : PySem.W.keepIn K (.ref f18) = true)
    (a19 : PySem.W.nsIn K mainGlobals "_law_stream" = some (some (.ref f19))) (l19 : K.lookup f19 = some ⟨oc19, od19, .func (PySem.W.fnOf "_law_stream" "_law_stream" (defArgs S__law_stream) (defBody S__law_stream) (defScope S__law_stream) .none kV19 dc19 pm19 an19 cd19 ct19), sl19⟩) (c19 : PySem.W.codeIn K cd19 "_law_stream" = true) (k19 : PySem.W.keepIn K (.ref f19) = true)
    (a20 : PySem.W.nsIn K mainGlobals "_law_ask" = some (some (.ref f20))) (l20 : K.lookup f20 = some ⟨oc20, od20, .func (PySem.W.fnOf "_law_ask" "_law_ask" (defArgs S__law_ask) (defBody S__law_ask) (defScope S__law_ask) .none kV20 dc20 pm20 an20 cd20 ct20), sl20⟩) (c20 : PySem.W.codeIn K cd20 "_law_ask" = true) (k20 : PySem.W.keepIn K (.ref f20) = true)
    (a21 : PySem.W.nsIn K mainGlobals "_law_case" = some (some (.ref f21))) (l21 : K.lookup f21 = some ⟨oc21, od21, .func (PySem.W.fnOf "_law_case" "_law_case" (defArgs S__law_case) (defBody S__law_case) (defScope S__law_case) .none kV21 dc21 pm21 an21 cd21 ct21), sl21⟩) (c21 : PySem.W.codeIn K cd21 "_law_case" = true) (k21 : PySem.W.keepIn K (.ref f21) = true)
    (a22 : PySem.W.nsIn K mainGlobals "_law_left" = some (some (.ref f22))) (l22 : K.lookup f22 = some ⟨oc22, od22, .func (PySem.W.fnOf "_law_left" "_law_left" (defArgs S__law_left) (defBody S__law_left) (defScope S__law_left) .none kV22 dc22 pm22 an22 cd22 ct22), sl22⟩) (c22 : PySem.W.codeIn K cd22 "_law_left" = true) (k22 : PySem.W.keepIn K (.ref f22) = true)
    (a23 : PySem.W.nsIn K mainGlobals "_law_unlike" = some (some (.ref f23))) (l23 : K.lookup f23 = some ⟨oc23, od23, .func (PySem.W.fnOf "_law_unlike" "_law_unlike" (defArgs S__law_unlike) (defBody S__law_unlike) (defScope S__law_unlike) .none kV23 dc23 pm23 an23 cd23 ct23), sl23⟩) (c23 : PySem.W.codeIn K cd23 "_law_unlike" = true) (k23 : PySem.W.keepIn K (.ref f23) = true)
    (a24 : PySem.W.nsIn K mainGlobals "_law_walked" = some (some (.ref f24))) (l24 : K.lookup f24 = some ⟨oc24, od24, .func (PySem.W.fnOf "_law_walked" "_law_walked" (defArgs S__law_walked) (defBody S__law_walked) (defScope S__law_walked) .none kV24 dc24 pm24 an24 cd24 ct24), sl24⟩) (c24 : PySem.W.codeIn K cd24 "_law_walked" = true) (k24 : PySem.W.keepIn K (.ref f24) = true)
    (a25 : PySem.W.nsIn K mainGlobals "_law_beaten" = some (some (.ref f25))) (l25 : K.lookup f25 = some ⟨oc25, od25, .func (PySem.W.fnOf "_law_beaten" "_law_beaten" (defArgs S__law_beaten) (defBody S__law_beaten) (defScope S__law_beaten) .none kV25 dc25 pm25 an25 cd25 ct25), sl25⟩) (c25 : PySem.W.codeIn K cd25 "_law_beaten" = true) (k25 : PySem.W.keepIn K (.ref f25) = true)
    (a26 : PySem.W.nsIn K mainGlobals "law" = some (some (.ref f26))) (l26 : K.lookup f26 = some ⟨oc26, od26, .func (PySem.W.fnOf "law" "law" (defArgs S_law) (defBody S_law) (defScope S_law) .none kV26 dc26 pm26 an26 cd26 ct26), sl26⟩) (c26 : PySem.W.codeIn K cd26 "law" = true) (k26 : PySem.W.keepIn K (.ref f26) = true)
    (y1 : PySem.W.nsIn K mainGlobals "set" = some none)
    (y2 : PySem.W.nsIn K mainGlobals "MOST_ASKS" = some (some (.int 6 t_MOST_ASKS)))
    (z1 : PySem.W.nsIn K mainGlobals "len" = some none) (z2 : PySem.W.nsIn K mainGlobals "range" = some none) (z3 : PySem.W.nsIn K mainGlobals "tuple" = some none) (z4 : PySem.W.nsIn K mainGlobals "list" = some none) (z5 : PySem.W.nsIn K mainGlobals "int" = some none) (z6 : PySem.W.nsIn K mainGlobals "bool" = some none) (z7 : PySem.W.nsIn K mainGlobals "str" = some none) (z8 : PySem.W.nsIn K mainGlobals "dict" = some none) (z9 : PySem.W.nsIn K mainGlobals "sum" = some none) (z10 : PySem.W.nsIn K mainGlobals "all" = some none) (z11 : PySem.W.nsIn K mainGlobals "min" = some none) (z12 : PySem.W.nsIn K mainGlobals "max" = some none) (z13 : PySem.W.nsIn K mainGlobals "sorted" = some none) (z14 : PySem.W.nsIn K mainGlobals "enumerate" = some none) (z15 : PySem.W.nsIn K mainGlobals "zip" = some none) (z16 : PySem.W.nsIn K mainGlobals "isinstance" = some none) :
    ∃ fd : FuncData, (∀ (s : Shared) (v : Value), BindsTo s fd ⟨[v], []⟩ [("_law_script", v)]) ∧ ∀ base : Heap, K.In base → base.Ns mainGlobals mg → FnOk l.prog w K mg base CX0 18 fa fd ["_law_script"] (spLaw K) := by
  have e := hfa.symm.trans (PySem.W.mg_of X G a26)
  cases e
  have B : Blt mg := ⟨PySem.W.mg_none_of X G z1, PySem.W.mg_none_of X G z2, PySem.W.mg_none_of X G z3, PySem.W.mg_none_of X G z4, PySem.W.mg_none_of X G z5, PySem.W.mg_none_of X G z6, PySem.W.mg_none_of X G z7, PySem.W.mg_none_of X G z8, PySem.W.mg_none_of X G z9, PySem.W.mg_none_of X G z10, PySem.W.mg_none_of X G z11, PySem.W.mg_none_of X G z12, PySem.W.mg_none_of X G z13, PySem.W.mg_none_of X G z14, PySem.W.mg_none_of X G z15, PySem.W.mg_none_of X G z16⟩
  have F1 := fun_mk (st := S_fewest) l1 c1 k1
  have D1 : Def K mg "fewest" S_fewest ["asks", "goal", "some"] _ _ := ⟨F1, PySem.W.mg_of X G a1, F1.binds (ps := ["asks", "goal", "some"]) fun _ _ _ _ _ _ us hl => ofLen3 us hl fun _ _ _ => rfl⟩
  have F2 := fun_mk (st := S_fewest_from) l2 c2 k2
  have D2 : Def K mg "fewest_from" S_fewest_from ["asks", "goal", "left", "state", "found"] _ _ := ⟨F2, PySem.W.mg_of X G a2, F2.binds (ps := ["asks", "goal", "left", "state", "found"]) fun _ _ _ _ _ _ us hl => ofLen5 us hl fun _ _ _ _ _ => rfl⟩
  have F3 := fun_mk (st := S_are_same) l3 c3 k3
  have D3 : Def K mg "are_same" S_are_same ["goal", "left"] _ _ := ⟨F3, PySem.W.mg_of X G a3, F3.binds (ps := ["goal", "left"]) fun _ _ _ _ _ _ us hl => ofLen2 us hl fun _ _ => rfl⟩
  have F4 := fun_mk (st := S_fewest_of_more) l4 c4 k4
  have D4 : Def K mg "fewest_of_more" S_fewest_of_more ["asks", "goal", "left", "state", "found"] _ _ := ⟨F4, PySem.W.mg_of X G a4, F4.binds (ps := ["asks", "goal", "left", "state", "found"]) fun _ _ _ _ _ _ us hl => ofLen5 us hl fun _ _ _ _ _ => rfl⟩
  have F5 := fun_mk (st := S_answering) l5 c5 k5
  have D5 : Def K mg "answering" S_answering ["ask", "left", "answer"] _ _ := ⟨F5, PySem.W.mg_of X G a5, F5.binds (ps := ["ask", "left", "answer"]) fun _ _ _ _ _ _ us hl => ofLen3 us hl fun _ _ _ => rfl⟩
  have F6 := fun_mk (st := S_with_answer) l6 c6 k6
  have D6 : Def K mg "with_answer" S_with_answer ["state", "number", "answer"] _ _ := ⟨F6, PySem.W.mg_of X G a6, F6.binds (ps := ["state", "number", "answer"]) fun _ _ _ _ _ _ us hl => ofLen3 us hl fun _ _ _ => rfl⟩
  have F7 := fun_mk (st := S_tree_of) l7 c7 k7
  have D7 : Def K mg "tree_of" S_tree_of ["asks", "goal", "some"] _ _ := ⟨F7, PySem.W.mg_of X G a7, F7.binds (ps := ["asks", "goal", "some"]) fun _ _ _ _ _ _ us hl => ofLen3 us hl fun _ _ _ => rfl⟩
  have F8 := fun_mk (st := S_tree_from) l8 c8 k8
  have D8 : Def K mg "tree_from" S_tree_from ["asks", "goal", "left", "state", "found"] _ _ := ⟨F8, PySem.W.mg_of X G a8, F8.binds (ps := ["asks", "goal", "left", "state", "found"]) fun _ _ _ _ _ _ us hl => ofLen5 us hl fun _ _ _ _ _ => rfl⟩
  have F9 := fun_mk (st := S_best_ask) l9 c9 k9
  have D9 : Def K mg "best_ask" S_best_ask ["state", "found"] _ _ := ⟨F9, PySem.W.mg_of X G a9, F9.binds (ps := ["state", "found"]) fun _ _ _ _ _ _ us hl => ofLen2 us hl fun _ _ => rfl⟩
  have F10 := fun_mk (st := S_is_good) l10 c10 k10
  have D10 : Def K mg "is_good" S_is_good ["state", "number", "found"] _ _ := ⟨F10, PySem.W.mg_of X G a10, F10.binds (ps := ["state", "number", "found"]) fun _ _ _ _ _ _ us hl => ofLen3 us hl fun _ _ _ => rfl⟩
  have F11 := fun_mk (st := S_is_hard) l11 c11 k11
  have D11 : Def K mg "is_hard" S_is_hard ["state", "number", "answer", "left", "found"] _ _ := ⟨F11, PySem.W.mg_of X G a11, F11.binds (ps := ["state", "number", "answer", "left", "found"]) fun _ _ _ _ _ _ us hl => ofLen5 us hl fun _ _ _ _ _ => rfl⟩
  have F12 := fun_mk (st := S_too_few) l12 c12 k12
  have D12 : Def K mg "too_few" S_too_few ["asks", "goal", "some", "k"] _ _ := ⟨F12, PySem.W.mg_of X G a12, F12.binds (ps := ["asks", "goal", "some", "k"]) fun _ _ _ _ _ _ us hl => ofLen4 us hl fun _ _ _ _ => rfl⟩
  have F13 := fun_mk (st := S_is_too_few) l13 c13 k13
  have D13 : Def K mg "is_too_few" S_is_too_few ["least", "k"] _ _ := ⟨F13, PySem.W.mg_of X G a13, F13.binds (ps := ["least", "k"]) fun _ _ _ _ _ _ us hl => ofLen2 us hl fun _ _ => rfl⟩
  have F14 := fun_mk (st := S_paper_from) l14 c14 k14
  have D14 : Def K mg "paper_from" S_paper_from ["state", "k", "found"] _ _ := ⟨F14, PySem.W.mg_of X G a14, F14.binds (ps := ["state", "k", "found"]) fun _ _ _ _ _ _ us hl => ofLen3 us hl fun _ _ _ => rfl⟩
  have F15 := fun_mk (st := S_hard_answers) l15 c15 k15
  have D15 : Def K mg "hard_answers" S_hard_answers ["state", "left", "found"] _ _ := ⟨F15, PySem.W.mg_of X G a15, F15.binds (ps := ["state", "left", "found"]) fun _ _ _ _ _ _ us hl => ofLen3 us hl fun _ _ _ => rfl⟩
  have F16 := fun_mk (st := S_hard_answer) l16 c16 k16
  have D16 : Def K mg "hard_answer" S_hard_answer ["state", "number", "left", "found"] _ _ := ⟨F16, PySem.W.mg_of X G a16, F16.binds (ps := ["state", "number", "left", "found"]) fun _ _ _ _ _ _ us hl => ofLen4 us hl fun _ _ _ _ => rfl⟩
  have F17 := fun_mk (st := S_states_behind) l17 c17 k17
  have D17 : Def K mg "states_behind" S_states_behind ["rows"] _ _ := ⟨F17, PySem.W.mg_of X G a17, F17.binds (ps := ["rows"]) fun _ _ _ _ _ _ us hl => ofLen1 us hl fun _ => rfl⟩
  have F18 := fun_mk (st := S__law_cell_at) l18 c18 k18
  have D18 : Def K mg "_law_cell_at" S__law_cell_at ["_law_script", "_law_k"] _ _ := ⟨F18, PySem.W.mg_of X G a18, F18.binds (ps := ["_law_script", "_law_k"]) fun _ _ _ _ _ _ us hl => ofLen2 us hl fun _ _ => rfl⟩
  have F19 := fun_mk (st := S__law_stream) l19 c19 k19
  have D19 : Def K mg "_law_stream" S__law_stream ["_law_cell", "_law_salt", "_law_many"] _ _ := ⟨F19, PySem.W.mg_of X G a19, F19.binds (ps := ["_law_cell", "_law_salt", "_law_many"]) fun _ _ _ _ _ _ us hl => ofLen3 us hl fun _ _ _ => rfl⟩
  have F20 := fun_mk (st := S__law_ask) l20 c20 k20
  have D20 : Def K mg "_law_ask" S__law_ask ["_law_script", "_law_k", "_law_many", "_law_asks"] _ _ := ⟨F20, PySem.W.mg_of X G a20, F20.binds (ps := ["_law_script", "_law_k", "_law_many", "_law_asks"]) fun _ _ _ _ _ _ us hl => ofLen4 us hl fun _ _ _ _ => rfl⟩
  have F21 := fun_mk (st := S__law_case) l21 c21 k21
  have D21 : Def K mg "_law_case" S__law_case ["_law_script"] _ _ := ⟨F21, PySem.W.mg_of X G a21, F21.binds (ps := ["_law_script"]) fun _ _ _ _ _ _ us hl => ofLen1 us hl fun _ => rfl⟩
  have F22 := fun_mk (st := S__law_left) l22 c22 k22
  have D22 : Def K mg "_law_left" S__law_left ["_law_asks", "_law_some", "_law_state"] _ _ := ⟨F22, PySem.W.mg_of X G a22, F22.binds (ps := ["_law_asks", "_law_some", "_law_state"]) fun _ _ _ _ _ _ us hl => ofLen3 us hl fun _ _ _ => rfl⟩
  have F23 := fun_mk (st := S__law_unlike) l23 c23 k23
  have D23 : Def K mg "_law_unlike" S__law_unlike ["_law_goal", "_law_some"] _ _ := ⟨F23, PySem.W.mg_of X G a23, F23.binds (ps := ["_law_goal", "_law_some"]) fun _ _ _ _ _ _ us hl => ofLen2 us hl fun _ _ => rfl⟩
  have F24 := fun_mk (st := S__law_walked) l24 c24 k24
  have D24 : Def K mg "_law_walked" S__law_walked ["_law_tree", "_law_asks", "_law_deal"] _ _ := ⟨F24, PySem.W.mg_of X G a24, F24.binds (ps := ["_law_tree", "_law_asks", "_law_deal"]) fun _ _ _ _ _ _ us hl => ofLen3 us hl fun _ _ _ => rfl⟩
  have F25 := fun_mk (st := S__law_beaten) l25 c25 k25
  have D25 : Def K mg "_law_beaten" S__law_beaten ["_law_paper", "_law_asks", "_law_goal", "_law_some", "_law_k", "_law_cell"] _ _ := ⟨F25, PySem.W.mg_of X G a25, F25.binds (ps := ["_law_paper", "_law_asks", "_law_goal", "_law_some", "_law_k", "_law_cell"]) fun _ _ _ _ _ _ us hl => ofLen6 us hl fun _ _ _ _ _ _ => rfl⟩
  have F26 := fun_mk (st := S_law) l26 c26 k26
  have D26 : Def K mg "law" S_law ["_law_script"] _ _ := ⟨F26, PySem.W.mg_of X G a26, F26.binds (ps := ["_law_script"]) fun _ _ _ _ _ _ us hl => ofLen1 us hl fun _ => rfl⟩
  refine ⟨PySem.W.fnOf "law" "law" (defArgs S_law) (defBody S_law) (defScope S_law) .none kV26 dc26 pm26 an26 cd26 ct26, fun s v => .of_eq rfl, fun base _ _ => ?_⟩
  exact build B D1 D2 D3 D4 D5 D6 D7 D8 D9 D10 D11 D12 D13 D14 D15 D16 D17 D18 D19 D20 D21 D22 D23 D24 D25 D26  (PySem.W.mg_none_of X G y1) (PySem.W.mg_of X G y2)
end Kc_k50
open PySem PySem.W PyProof.Rows
set_option maxRecDepth 100000 in
set_option maxHeartbeats 0 in
theorem PySem.Challenge.cw_knowcards_k50_whole_papers_beat_every_wa_holds : PySem.Challenge.rw_knowcards_k50_whole_papers_beat_every_wa.Holds := by
  w_on; o_law; k_head; (case hw => w_witness2)
  k_fill
  refine L2.walk_ofB (l := PySem.Challenge.rw_knowcards_k50_whole_papers_beat_every_wa) (k := 18) (x := "_law_script") rfl rfl ⟨rfl, by decide, by decide⟩ (fun w h Y => PySem.W.kIn_of Y) ?F
  case F =>
    intro w mg fa h KX G hmg
    refine' Kc_k50.all_mk KX G hmg ?a1 ?l1 ?c1 ?k1 ?a2 ?l2 ?c2 ?k2 ?a3 ?l3 ?c3 ?k3 ?a4 ?l4 ?c4 ?k4 ?a5 ?l5 ?c5 ?k5 ?a6 ?l6 ?c6 ?k6 ?a7 ?l7 ?c7 ?k7 ?a8 ?l8 ?c8 ?k8 ?a9 ?l9 ?c9 ?k9 ?a10 ?l10 ?c10 ?k10 ?a11 ?l11 ?c11 ?k11 ?a12 ?l12 ?c12 ?k12 ?a13 ?l13 ?c13 ?k13 ?a14 ?l14 ?c14 ?k14 ?a15 ?l15 ?c15 ?k15 ?a16 ?l16 ?c16 ?k16 ?a17 ?l17 ?c17 ?k17 ?a18 ?l18 ?c18 ?k18 ?a19 ?l19 ?c19 ?k19 ?a20 ?l20 ?c20 ?k20 ?a21 ?l21 ?c21 ?k21 ?a22 ?l22 ?c22 ?k22 ?a23 ?l23 ?c23 ?k23 ?a24 ?l24 ?c24 ?k24 ?a25 ?l25 ?c25 ?k25 ?a26 ?l26 ?c26 ?k26 ?y1 ?y2 ?z1 ?z2 ?z3 ?z4 ?z5 ?z6 ?z7 ?z8 ?z9 ?z10 ?z11 ?z12 ?z13 ?z14 ?z15 ?z16
    (case a1 => k_is); (case l1 => k_is); (case c1 => k_is); (case k1 => k_is)
    (case a2 => k_is); (case l2 => k_is); (case c2 => k_is); (case k2 => k_is)
    (case a3 => k_is); (case l3 => k_is); (case c3 => k_is); (case k3 => k_is)
    (case a4 => k_is); (case l4 => k_is); (case c4 => k_is); (case k4 => k_is)
    (case a5 => k_is); (case l5 => k_is); (case c5 => k_is); (case k5 => k_is)
    (case a6 => k_is); (case l6 => k_is); (case c6 => k_is); (case k6 => k_is)
    (case a7 => k_is); (case l7 => k_is); (case c7 => k_is); (case k7 => k_is)
    (case a8 => k_is); (case l8 => k_is); (case c8 => k_is); (case k8 => k_is)
    (case a9 => k_is); (case l9 => k_is); (case c9 => k_is); (case k9 => k_is)
    (case a10 => k_is); (case l10 => k_is); (case c10 => k_is); (case k10 => k_is)
    (case a11 => k_is); (case l11 => k_is); (case c11 => k_is); (case k11 => k_is)
    (case a12 => k_is); (case l12 => k_is); (case c12 => k_is); (case k12 => k_is)
    (case a13 => k_is); (case l13 => k_is); (case c13 => k_is); (case k13 => k_is)
    (case a14 => k_is); (case l14 => k_is); (case c14 => k_is); (case k14 => k_is)
    (case a15 => k_is); (case l15 => k_is); (case c15 => k_is); (case k15 => k_is)
    (case a16 => k_is); (case l16 => k_is); (case c16 => k_is); (case k16 => k_is)
    (case a17 => k_is); (case l17 => k_is); (case c17 => k_is); (case k17 => k_is)
    (case a18 => k_is); (case l18 => k_is); (case c18 => k_is); (case k18 => k_is)
    (case a19 => k_is); (case l19 => k_is); (case c19 => k_is); (case k19 => k_is)
    (case a20 => k_is); (case l20 => k_is); (case c20 => k_is); (case k20 => k_is)
    (case a21 => k_is); (case l21 => k_is); (case c21 => k_is); (case k21 => k_is)
    (case a22 => k_is); (case l22 => k_is); (case c22 => k_is); (case k22 => k_is)
    (case a23 => k_is); (case l23 => k_is); (case c23 => k_is); (case k23 => k_is)
    (case a24 => k_is); (case l24 => k_is); (case c24 => k_is); (case k24 => k_is)
    (case a25 => k_is); (case l25 => k_is); (case c25 => k_is); (case k25 => k_is)
    (case a26 => k_is); (case l26 => k_is); (case c26 => k_is); (case k26 => k_is)
    (case y1 => k_is)
    (case y2 => k_is)
    (case z1 => k_is); (case z2 => k_is); (case z3 => k_is); (case z4 => k_is); (case z5 => k_is); (case z6 => k_is); (case z7 => k_is); (case z8 => k_is); (case z9 => k_is); (case z10 => k_is); (case z11 => k_is); (case z12 => k_is); (case z13 => k_is); (case z14 => k_is); (case z15 => k_is); (case z16 => k_is)
